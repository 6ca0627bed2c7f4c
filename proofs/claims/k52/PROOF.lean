import PyProof.Rows.All
import Wide.All
import OpenK.AllK
import Wide.FinOn
import Lean
import PyProof.EqAt
import PyProof.EqKinds
import PyProof.TupleCall
import PyProof.LongRange
import PyProof.ListRange
import PyProof.RaisesMany
import PyProof.ExcBaseAll.ValueError
import PyProof.ExcArgs
import PyProof.InstStoreFacts
import PyProof.ExcAttrAll.ValueError
import PyProof.RulesAs
import PyProof.RulesDel
import PyProof.ReprRoads
import PyProof.CallFns
import PyProof.InstSpecial
import PyProof.Rows.RuleN_isinstance
import KE.KIsNot
import PyProof.ReprLen
import PyProof.EnumMake
import PyProof.EnumFor
import PyProof.EnumStmt
import PyProof.Rows.EnumRows
import PyProof.RulesDelMore
import PyProof.Rows.SetFrom
import PyProof.ZipIter
import PyProof.IsRules
import PyProof.Conv_int_bool
import PyProof.IsiTuple
import PyProof.NeKinds
import PySem.Challenge.RW_roomslaid_k52_lines_refused_and_looks
set_option Elab.async false
set_option linter.all false
set_option maxRecDepth 100000
/-! THE HAND LAYER, for ints, bools, texts, own classes, LISTS and tuples (index, slices, in, append, pop ..), calls, loops. Paste it whole ahead of your own text; what your proof does not reach may be deleted. -/
namespace L2
open PySem PySem.Spec PyProof.Rows

/-- a key: an int or a str -/
abbrev Key := Sum Int Str
def keyIs : Key → Value → Bool
  | .inl k, v => Value.isInt k v
  | .inr x, v => Value.isStrOf x v
def keyH (w : World) : Key → Int
  | .inl k => hashInt k
  | .inr x => hashStr w x
theorem keyIs_shape : ∀ {k : Key} {v : Value}, keyIs k v = true → (∃ i t, k = Sum.inl i ∧ v = Value.int i t) ∨ (∃ x t, k = Sum.inr x ∧ v = Value.str x t)
  | .inl i, v, h => by
    obtain ⟨t, e⟩ := Value.isInt_shape (k := i) (v := v) h
    exact .inl ⟨i, t, rfl, e⟩
  | .inr x, v, h => by
    obtain ⟨t, e⟩ := Value.isStrOf_shape (x := x) (v := v) h
    exact .inr ⟨x, t, rfl, e⟩
theorem keyIs_int (i : Int) (t : Tok) : keyIs (.inl i) (.int i t) = true := by simp [keyIs, Value.isInt]
theorem keyIs_str (x : Str) (t : Tok) : keyIs (.inr x) (.str x t) = true := by simp [keyIs, Value.isStrOf]
theorem key_ll (a b : Int) : decide ((Sum.inl a : Key) = Sum.inl b) = (a == b) := by
  by_cases e : a = b
  · subst e; simp
  · have h : ¬ (Sum.inl a : Key) = Sum.inl b := fun q => e (Sum.inl.inj q)
    rw [decide_eq_false h]
    exact (beq_eq_false_iff_ne.mpr e).symm
theorem key_rr (a b : Str) : decide ((Sum.inr a : Key) = Sum.inr b) = decide (a = b) := by
  by_cases e : a = b
  · subst e; simp
  · have h : ¬ (Sum.inr a : Key) = Sum.inr b := fun q => e (Sum.inr.inj q)
    rw [decide_eq_false h, decide_eq_false e]
theorem key_lr (a : Int) (b : Str) : decide ((Sum.inl a : Key) = Sum.inr b) = false := decide_eq_false (fun q => nomatch q)
theorem key_rl (a : Str) (b : Int) : decide ((Sum.inr a : Key) = Sum.inl b) = false := decide_eq_false (fun q => nomatch q)

def mixKind (prog : Program) (w : World) : PySem.KeyKind prog w Key where
  is := keyIs
  hash := keyH w
  inj := fun v a b ha hb => by
    rcases keyIs_shape ha with ⟨i, t, rfl, rfl⟩ | ⟨x, t, rfl, rfl⟩
    · rcases keyIs_shape hb with ⟨j, u, rfl, e⟩ | ⟨y, u, rfl, e⟩
      · injection e with e1 _; rw [e1]
      · exact nomatch e
    · rcases keyIs_shape hb with ⟨j, u, rfl, e⟩ | ⟨y, u, rfl, e⟩
      · exact nomatch e
      · injection e with e1 _; rw [e1]
  byValue := fun k v h => by
    rcases keyIs_shape h with ⟨i, t, rfl, rfl⟩ | ⟨x, t, rfl, rfl⟩ <;> rfl
  pyHash := fun hv h => by
    rcases keyIs_shape hv with ⟨i, t, rfl, rfl⟩ | ⟨x, t, rfl, rfl⟩
    · exact wpAny_pyHash_int h
    · exact wpAny_pyHash_str h
  eqBool := fun hu hv h => by
    rcases keyIs_shape hu with ⟨i, t, rfl, rfl⟩ | ⟨x, t, rfl, rfl⟩
    · rcases keyIs_shape hv with ⟨j, u, rfl, rfl⟩ | ⟨y, u, rfl, rfl⟩
      · rw [key_ll] at h; exact wpAny_eqBool_int h
      · rw [key_lr] at h; exact SeqAt.EqAt.int_str i t y u _ _ _ _ h
    · rcases keyIs_shape hv with ⟨j, u, rfl, rfl⟩ | ⟨y, u, rfl, rfl⟩
      · rw [key_rl] at h; exact SeqAt.EqAt.str_int x t j u _ _ _ _ h
      · rw [key_rr] at h; exact wpAny_eqBool_str h
  «strs» := fun k x t v h => by
    rcases keyIs_shape h with ⟨i, u, rfl, e⟩ | ⟨y, u, rfl, e⟩
    · exact nomatch e
    · injection e with e1 _
      subst e1
      cases v <;> rfl

theorem mixKind_int (prog : Program) (w : World) (i : Int) (t : Tok) : (mixKind prog w).is (.inl i) (.int i t) = true := keyIs_int i t
theorem mixKind_str (prog : Program) (w : World) (x : Str) (t : Tok) : (mixKind prog w).is (.inr x) (.str x t) = true := keyIs_str x t
end L2

namespace L2
open PySem PySem.Spec PyProof.Rows

/-- a value, without the heap -/
inductive V where
  | non | bl (b : Bool) | int (i : Int) | str (x : Str) | byt (b : Array UInt8) | flt (b : UInt64) | ref (a : Addr) | ty (n : String)
  deriving DecidableEq

def RelV : V → Value → Prop
  | .non, u => u = Value.none
  | .bl b, u => u = Value.bool b
  | .int i, u => ∃ t, u = Value.int i t
  | .str x, u => ∃ t, u = Value.str x t
  | .byt b, u => ∃ t, u = Value.bytes b t
  | .flt b, u => ∃ t, u = Value.float b t
  | .ref a, u => u = Value.ref a
  | .ty n, u => u = Value.type n

abbrev Vals : List V → List Value → Prop := Paired RelV
theorem Vals.length {xs : List V} {us : List Value} (r : Vals xs us) : xs.length = us.length := Paired.length r
theorem Vals.get : ∀ {xs : List V} {us : List Value} {i : Nat} {x : V}, Vals xs us → xs[i]? = some x → ∃ u, us[i]? = some u ∧ RelV x u
  | _, _, _, _, .nil, e => by simp at e
  | _, _, 0, _, .cons r _, e => by simp at e; subst e; exact ⟨_, rfl, r⟩
  | _, _, i + 1, x, .cons _ t, e => by
    obtain ⟨u, h1, h2⟩ := Vals.get (i := i) (x := x) t (by simpa using e)
    exact ⟨u, by simpa using h1, h2⟩
theorem Vals.append : ∀ {xs ys : List V} {us ws : List Value}, Vals xs us → Vals ys ws → Vals (xs ++ ys) (us ++ ws)
  | _, _, _, _, .nil, s => s
  | _, _, _, _, .cons r t, s => .cons r (Vals.append t s)
theorem Vals.take : ∀ {xs : List V} {us : List Value} (n : Nat), Vals xs us → Vals (xs.take n) (us.take n)
  | _, _, 0, _ => .nil
  | _, _, _ + 1, .nil => .nil
  | _, _, n + 1, .cons r t => .cons r (Vals.take n t)
theorem Vals.drop : ∀ {xs : List V} {us : List Value} (n : Nat), Vals xs us → Vals (xs.drop n) (us.drop n)
  | _, _, 0, r => r
  | _, _, _ + 1, .nil => .nil
  | _, _, n + 1, .cons _ t => Vals.drop n t
def RelO : Option V → Option Value → Prop
  | some v, some u => RelV v u
  | none, none => True
  | _, _ => False
def KV {κ : Type} : List (κ × V) → List (κ × Value) → Prop := Paired fun (p : κ × V) (q : κ × Value) => p.1 = q.1 ∧ RelV p.2 q.2

/-- a key of a dict (00_mix): an int or a text -/
def kV : Key → V
  | .inl i => .int i
  | .inr x => .str x

/-- what stands at a tracked address -/
inductive HO where
  /-- a list -/
  | lst (xs : List V)
  /-- a tuple (never changes) -/
  | tup (xs : List V)
  /-- a dict whose keys are ints and texts; one whose keys are tuples of ints and texts (the empty one is both) -/
  | dK (kvs : List (Key × V)) | dT (kvs : List (List Key × V))
  /-- a set of ints: its members, its size -/
  | set (S : Int → Bool) (n : Nat)
  /-- an instance of the class at C, its dict at dx, its attributes -/
  | ins (C dx : Addr) (fs : List (Str × V))
  /-- the dict of the instance at x -/
  | own (x : Addr)
  /-- the dict of an exception -/
  | xd (fs : List (Str × V))
  /-- a bound method, f of x -/
  | met (f x : Addr)
  /-- a range object lo, lo + 1, .. below hi -/
  | rng (lo hi : Int)
  /-- a thing that is known to the object (the script; a dict while a loop walks it): read, never written while it is so -/
  | frz (o : Obj) (u : HO)
  /-- a code object's table -/
  | tbl (ps : Array Value)
  /-- any other thing, by what is true of its one object (a def of one's own: SetO a S n := HO.ext fun h => ..) -/
  | ext (φ : Heap → Prop)

abbrev Hp := Addr → Option HO
def upd (H : Hp) (a : Addr) (o : HO) : Hp := fun b => if b = a then some o else H b
theorem upd_same {H : Hp} {a : Addr} {o : HO} : upd H a o a = some o := by unfold upd; rw [if_pos rfl]
theorem upd_ne {H : Hp} {a b : Addr} {o : HO} (h : b ≠ a) : upd H a o b = H b := by unfold upd; rw [if_neg h]
theorem upd_upd {H : Hp} {a : Addr} {o u : HO} : upd (upd H a o) a u = upd H a u := by
  funext b; unfold upd; split <;> rfl
/-- two objects of different content stand apart -/
theorem ne_of {H : Hp} {a b : Addr} {o u : HO} (h : H a = some o) (h' : H b = some u) (d : o ≠ u) : a ≠ b := by
  intro e; subst e; rw [h] at h'; exact d (Option.some.inj h')
theorem ne_of_none {H : Hp} {a b : Addr} {o : HO} (h : H a = some o) (h' : H b = none) : a ≠ b := by
  intro e; subst e; rw [h] at h'; cases h'

section
variable (P : Program) (w : World)
def ObjOk (H : Hp) (h : Heap) (a : Addr) : HO → Prop
  | .lst xs => xs.length ≤ sizeLine ∧ ∃ (its : List Value) (n : Nat), Vals xs its ∧ h.get? a = some { cls := .type "list", data := .seq its.toArray n }
  | .tup xs => xs.length ≤ sizeLine ∧ ∃ its : List Value, Vals xs its ∧ IsTup h a its.toArray
  | .dK kvs => kvs.length ≤ sizeLine ∧ (a == sysModules) = false ∧ ∃ vs, KV kvs vs ∧ h.DictOf (mixKind P w) a vs
  | .dT kvs => kvs.length ≤ sizeLine ∧ (a == sysModules) = false ∧ ∃ xs : List (List Key × Addr × Value),
      Paired (fun (p : List Key × V) (q : List Key × Addr × Value) => p.1 = q.1 ∧ H q.2.1 = some (.tup (p.1.map kV)) ∧ RelV p.2 q.2.2) kvs xs ∧
      ∃ o es ep, h.get? a = some o ∧ o.ExactDict ∧ o.data = .dict es ep ∧ es.toList = xs.map (entryOfKey (tupleKind (mixKind P w))) ∧ (xs.map (·.1)).Nodup
  | .set S n => h.SetOf (intKind P w) a S n
  | .ins C dx fs => H dx = some (.own a) ∧ fs.length ≤ 1000 ∧ dx ≠ a ∧ h.get? a = some (PySem.W.instObj C dx) ∧
      ∃ mA, h.Ns1 dx mA ∧ (∀ f, RelO (fs.lookup f) (mA f)) ∧ PySem.Within mA (fs.map (·.1))
  | .own _ => ∃ o, h.get? a = some o
  | .xd fs => ∃ mA, h.Ns1 a mA ∧ ∀ f, RelO (fs.lookup f) (mA f)
  | .rng lo hi => ∃ t u v, h.get? a = some { cls := .type "range", data := .fields #[.int lo t, .int hi u, .int 1 v] }
  | .frz o u => h.get? a = some o ∧ ObjOk H h a u
  | .tbl ps => h.get? a = some { cls := .none, data := .fields ps }
  | .met f x => h.get? a = some (PySem.W.methodObj (.ref f) (.ref x))
  | .ext φ => φ h ∧ (∃ o, h.get? a = some o) ∧ ∀ h1 h2 : Heap, φ h1 → (∀ o, h1.get? a = some o → h2.get? a = some o) → φ h2
/-- the abstract heap is held -/
def HOk (H : Hp) (h : Heap) : Prop := ∀ a o, H a = some o → ObjOk P w H h a o
end

section
variable {P : Program} {w : World} {H H' : Hp} {h h' : Heap} {a : Addr} {o : HO}
theorem ObjOk.lt (x : ObjOk P w H h a o) : a < h.objs.size := by
  cases o with
  | lst xs => obtain ⟨_, _, _, _, e⟩ := x; exact Heap.lt_size e
  | tup xs => obtain ⟨_, _, _, p⟩ := x; exact p.lt
  | dK kvs => obtain ⟨_, _, _, _, o, _, _, e, _⟩ := x; exact Heap.lt_size e
  | dT kvs => obtain ⟨_, _, _, _, o, _, _, e, _⟩ := x; exact Heap.lt_size e
  | set S n => obtain ⟨o, _, _, _, e, _⟩ := x; exact Heap.lt_size e
  | ins C dx fs => obtain ⟨_, _, _, e, _⟩ := x; exact Heap.lt_size e
  | own y => obtain ⟨_, e⟩ := x; exact Heap.lt_size e
  | xd fs => obtain ⟨_, ⟨_, _, _, e, _⟩, _⟩ := x; exact Heap.lt_size e
  | rng lo hi => obtain ⟨_, _, _, e⟩ := x; exact Heap.lt_size e
  | frz ob u => obtain ⟨e, _⟩ := x; exact Heap.lt_size e
  | tbl ps => exact Heap.lt_size (show h.get? a = some _ from x)
  | met f y => exact Heap.lt_size (show h.get? a = some _ from x)
  | ext φ => obtain ⟨_, ⟨_, e⟩, _⟩ := x; exact Heap.lt_size e
theorem Paired.mapP {α β : Type} {F G : α → β → Prop} : ∀ {l₁ : List α} {l₂ : List β}, Paired F l₁ l₂ → (∀ a b, F a b → G a b) → Paired G l₁ l₂
  | _, _, .nil, _ => .nil
  | _, _, .cons r t, f => .cons (f _ _ r) (Paired.mapP t f)
/-- what an object's description leans on: its own object, its own dict, the tuples -/
theorem ObjOk.stay (x : ObjOk P w H h a o) (k : ∀ b u, (b = a ∨ H b = some (.own a)) → h.get? b = some u → h'.get? b = some u)
    (ho : ∀ b, H b = some (.own a) → H' b = some (.own a)) (ht : ∀ b xs, H b = some (.tup xs) → H' b = some (.tup xs)) : ObjOk P w H' h' a o := by
  induction o with
  | lst xs => obtain ⟨z, its, n, r, e⟩ := x; exact ⟨z, its, n, r, k _ _ (.inl rfl) e⟩
  | tup xs => obtain ⟨z, its, r, ob, e, c⟩ := x; exact ⟨z, its, r, ob, k _ _ (.inl rfl) e, c⟩
  | dK kvs => obtain ⟨z, y, vs, r, ob, es, ep, e, c⟩ := x; exact ⟨z, y, vs, r, ob, es, ep, k _ _ (.inl rfl) e, c⟩
  | dT kvs =>
    obtain ⟨z, y, xs, r, ob, es, ep, e, c⟩ := x
    exact ⟨z, y, xs, Paired.mapP r fun p q z => ⟨z.1, ht _ _ z.2.1, z.2.2⟩, ob, es, ep, k _ _ (.inl rfl) e, c⟩
  | set S n => obtain ⟨ob, es, ep, t, e, c⟩ := x; exact ⟨ob, es, ep, t, k _ _ (.inl rfl) e, c⟩
  | ins C dx fs =>
    obtain ⟨d, z, ne, e, mA, ⟨od, es, ep, e2, c⟩, r⟩ := x
    exact ⟨ho _ d, z, ne, k _ _ (.inl rfl) e, mA, ⟨od, es, ep, k _ _ (.inr d) e2, c⟩, r⟩
  | own y => obtain ⟨ob, e⟩ := x; exact ⟨ob, k _ _ (.inl rfl) e⟩
  | xd fs => obtain ⟨mA, ⟨od, es, ep, e, c⟩, r⟩ := x; exact ⟨mA, ⟨od, es, ep, k _ _ (.inl rfl) e, c⟩, r⟩
  | rng lo hi => obtain ⟨t, u, v, e⟩ := x; exact ⟨t, u, v, k _ _ (.inl rfl) e⟩
  | frz ob u ih => obtain ⟨e, q⟩ := x; exact ⟨k _ _ (.inl rfl) e, ih q⟩
  | tbl ps =>
    have e : h.get? a = some { cls := .none, data := .fields ps } := x
    show h'.get? a = some { cls := .none, data := .fields ps }
    exact k a _ (.inl rfl) e
  | met f y =>
    have e : h.get? a = some (PySem.W.methodObj (.ref f) (.ref y)) := x
    show h'.get? a = some (PySem.W.methodObj (.ref f) (.ref y))
    exact k a _ (.inl rfl) e
  | ext φ => obtain ⟨p, ⟨o, e⟩, st⟩ := x; exact ⟨st _ _ p fun o q => k _ _ (.inl rfl) q, ⟨o, k _ _ (.inl rfl) e⟩, st⟩
theorem HOk.lt (x : HOk P w H h) (e : H a = some o) : a < h.objs.size := (x a o e).lt
theorem HOk.fresh (x : HOk P w H h) (e : h.objs.size ≤ a) : H a = none := by
  cases q : H a with
  | none => rfl
  | some u => exact absurd (Nat.lt_of_lt_of_le (x.lt q) e) (Nat.lt_irrefl _)
/-- every object of the heap is kept -/
theorem HOk.kept (x : HOk P w H h) (k : ∀ b u, h.get? b = some u → h'.get? b = some u) : HOk P w H h' := fun a o e =>
  (x a o e).stay (fun b u _ q => k b u q) (fun _ q => q) fun _ _ q => q
/-- a new object is laid and tracked -/
theorem HOk.laid (x : HOk P w H h) (k : ∀ b u, h.get? b = some u → h'.get? b = some u) (hp : h.objs.size ≤ a) (new : ObjOk P w (upd H a o) h' a o) : HOk P w (upd H a o) h' := fun b u e => by
  have hn := x.fresh hp
  by_cases hb : b = a
  · subst hb; rw [upd_same] at e; cases e; exact new
  · rw [upd_ne hb] at e
    exact (x b u e).stay (fun c v _ q => k c v q) (fun c q => by rw [upd_ne (ne_of_none q hn)]; exact q) fun c xs q => by rw [upd_ne (ne_of_none q hn)]; exact q
end

/-- what may be read as u: it is u, or a known u -/
def Rd (H : Hp) (a : Addr) (u : HO) : Prop := H a = some u ∨ ∃ o, H a = some (.frz o u)
theorem Rd.ok {P : Program} {w : World} {H : Hp} {h : Heap} {a : Addr} {u : HO} (r : Rd H a u) (x : HOk P w H h) : ObjOk P w H h a u := by
  rcases r with r | ⟨o, r⟩
  · exact x a u r
  · obtain ⟨_, q⟩ := x a _ r
    exact q
/-- what may be written -/
def Mut : Option HO → Prop
  | some (.lst _) => True
  | some (.dK _) => True
  | some (.dT _) => True
  | some (.set _ _) => True
  | some (.ins _ _ _) => True
  | some (.ext _) => True
  | _ => False
section
variable {P : Program} {w : World} {H : Hp} {h h' : Heap} {x e : Addr} {o' : HO}
/-- the object at e is changed: x itself, or the dict of the instance x -/
theorem HOk.write (ok : HOk P w H h) (mu : Mut (H x)) (he : e = x ∨ H e = some (.own x)) (k : ∀ b u, b ≠ e → h.get? b = some u → h'.get? b = some u) (heo : ∃ u, h'.get? e = some u)
    (new : ObjOk P w (upd H x o') h' x o') : HOk P w (upd H x o') h' := fun b u q => by
  have nown : ∀ c y, H c = some (.own y) → c ≠ x := fun c y r z => by subst z; rw [r] at mu; exact mu
  have ntup : ∀ c xs, H c = some (.tup xs) → c ≠ x := fun c xs r z => by subst z; rw [r] at mu; exact mu
  by_cases hb : b = x
  · subst hb; rw [upd_same] at q; cases q; exact new
  · rw [upd_ne hb] at q
    by_cases hbe : b = e
    · have q' : H b = some (.own x) := by
        rcases he with z | z
        · exact absurd (hbe.trans z) hb
        · rw [hbe]; exact z
      rw [q] at q'; cases q'
      obtain ⟨v, hv⟩ := heo
      exact ⟨v, by rw [hbe]; exact hv⟩
    · refine (ok b u q).stay (fun c v hc r => k c v ?_ r) (fun c r => by rw [upd_ne (nown c b r)]; exact r) fun c xs r => by rw [upd_ne (ntup c xs r)]; exact r
      rcases hc with rfl | hc
      · exact hbe
      · rintro rfl
        rcases he with z | z
        · exact nown c b hc z
        · rw [hc] at z; cases z; exact hb rfl
end

/-! ### kept unless tracked; of the frames at fs (the callers') the slots may change (an exception that passes writes there); of the records at ex (iterators) nothing is said -/
structure Un (fs ex : List Addr) (H H' : Hp) (h h' : Heap) : Prop where
  keep : ∀ b o, h.get? b = some o → H b = none → b ∉ fs → b ∉ ex → h'.get? b = some o
  slot : ∀ b o, h.get? b = some o → H b = none → b ∈ fs → b ∉ ex → ∃ sl, h'.get? b = some { o with slots := sl }
  free : ∀ b o, h.get? b = some o → H b = none → b ∉ ex → H' b = none
  there : ∀ b o, h.get? b = some o → b ∉ ex → ∃ o', h'.get? b = some o'
  tups : ∀ b xs, H b = some (.tup xs) → H' b = some (.tup xs)
  frzs : ∀ b o u, H b = some (.frz o u) → H' b = some (.frz o u)
  tbls : ∀ b ps, H b = some (.tbl ps) → ∃ more, H' b = some (.tbl (ps ++ more))
section
variable {fs fs' ex ex' : List Addr} {H H1 H2 : Hp} {h h1 h2 h' : Heap} {a x e : Addr} {o : HO}
theorem Un.any (u : Un fs ex H H1 h h1) {b : Addr} {ob : Obj} (q : h.get? b = some ob) (n : H b = none) (hx : b ∉ ex) : ∃ sl, h1.get? b = some { ob with slots := sl } := by
  by_cases hb : b ∈ fs
  · exact u.slot b ob q n hb hx
  · exact ⟨ob.slots, u.keep b ob q n hb hx⟩
theorem Un.kept (k : ∀ b u, h.get? b = some u → h'.get? b = some u) : Un fs ex H H h h' :=
  ⟨fun b ob q _ _ _ => k b ob q, fun b ob q _ _ _ => ⟨ob.slots, k b ob q⟩, fun _ _ _ n _ => n, fun b ob q _ => ⟨ob, k b ob q⟩, fun _ _ q => q, fun _ _ _ q => q, fun _ ps q => ⟨#[], by rw [q]; simp⟩⟩
theorem Un.refl : Un fs ex H H h h := Un.kept fun _ _ q => q
theorem Un.laid (k : ∀ b u, h.get? b = some u → h'.get? b = some u) (hp : h.objs.size ≤ a) (hn : H a = none) : Un fs ex H (upd H a o) h h' where
  keep := fun b u q _ _ _ => k b u q
  slot := fun b u q _ _ _ => ⟨u.slots, k b u q⟩
  free := fun b u q n _ => by rw [upd_ne (Nat.ne_of_lt (Nat.lt_of_lt_of_le (Heap.lt_size q) hp))]; exact n
  there := fun b u q _ => ⟨u, k b u q⟩
  tups := fun b xs q => by rw [upd_ne (ne_of_none q hn)]; exact q
  frzs := fun b u xs q => by rw [upd_ne (ne_of_none q hn)]; exact q
  tbls := fun b ps q => ⟨#[], by rw [upd_ne (ne_of_none q hn), q]; simp⟩
theorem Un.write (mu : Mut (H x)) (he : e = x ∨ H e = some (.own x)) (k : ∀ b u, b ≠ e → h.get? b = some u → h'.get? b = some u) (heo : ∃ u, h'.get? e = some u) : Un fs ex H (upd H x o) h h' := by
  have hx : ∀ b, H b = none → b ≠ x := fun b n z => by subst z; rw [n] at mu; exact mu
  have hb : ∀ b, H b = none → b ≠ e := fun b n z => by
    subst z
    rcases he with r | r
    · exact hx b n r
    · rw [n] at r; cases r
  have hm : ∀ b u, H b = some u → ¬ Mut (some u) → b ≠ x := fun b u q nm z => by subst z; rw [q] at mu; exact nm mu
  refine ⟨fun b u q n _ _ => k b u (hb b n) q, fun b u q n _ _ => ⟨u.slots, k b u (hb b n) q⟩, fun b u q n _ => by rw [upd_ne (hx b n)]; exact n, fun b u q _ => ?_,
    fun b xs q => by rw [upd_ne (hm b _ q fun z => z)]; exact q, fun b u xs q => by rw [upd_ne (hm b _ q fun z => z)]; exact q, fun b ps q => ⟨#[], by rw [upd_ne (hm b _ q fun z => z), q]; simp⟩⟩
  by_cases hbe : b = e
  · subst hbe; exact heo
  · exact ⟨u, k b u hbe q⟩
end

/-! ### the heap without what is tracked -/
def trk (h : Heap) (H : Hp) : List Addr := (List.range h.objs.size).filter fun a => (H a).isSome
def hidT (h : Heap) (H : Hp) : Heap := PySem.W.hideAll h (trk h H)
theorem hidT_size (h : Heap) (H : Hp) : (hidT h H).objs.size = h.objs.size := PySem.W.hideAll_size _ _
theorem hidT_get {h : Heap} {H : Hp} {b : Addr} {o : Obj} (e : h.get? b = some o) (n : H b = none) : (hidT h H).get? b = some o :=
  PySem.W.hideAll_get _ e fun hm => by
    have q : (H b).isSome = true := (List.mem_filter.mp hm).2
    rw [n] at q; simp at q
theorem of_hidT {h : Heap} {H : Hp} {b : Addr} {o : Obj} (e : (hidT h H).get? b = some o) : h.get? b = some o ∧ H b = none := by
  have e' : h.get? b = some o := PySem.W.of_hideAll (trk h H) e
  refine ⟨e', ?_⟩
  cases q : H b with
  | none => rfl
  | some x =>
    have hm : b ∈ trk h H := List.mem_filter.mpr ⟨List.mem_range.mpr (Heap.lt_size e'), by simp [q]⟩
    have z : (hidT h H).get? b = none := PySem.W.hideAll_none (trk h H) hm
    rw [z] at e; cases e

/-! ### OpenK's ledger, filled with every new object but one -/
def allNews (g h : Heap) (L : Addr) : List (Addr × Obj) := (List.range h.objs.size).filterMap fun a => if a = L ∨ (g.get? a).isSome = true then none else (h.get? a).map fun o => (a, o)
def rest (g h : Heap) (L d : Addr) : List (Addr × Obj) := (allNews g h L).filter fun p => decide (p.1 ≠ d)
end L2

namespace L2
open PySem PySem.Spec PyProof.Rows

/-- the module's facts, over the base: the heap at the law's entry without what is tracked there -/
structure Mod (K : PySem.W.Frag) (mg : Str → Option Value) (base : Heap) : Prop where
  kin : K.In base
  glob : base.Ns mainGlobals mg
  blt : ∃ mb, base.Ns builtinsNs mb ∧ ∀ x : Str, x ≠ "__name__" → mb x = bootBuiltins x
  nolimit : base.NoLimit

/-- the context: a def's body (or a comprehension's block) running. base: fixed through the whole law; s₀, H₀: the entry; outer: the frames whose slots others may change (a def's callers); stack: all frames that run;
   ex: iterators that were made ahead of the entry and are walked here (a comprehension's); fn: the names whose cells were made at the entry (a def: all; a comprehension's block: its own); calm: not within an except suite; pn: pins that every state bears; xe: what is wanted of an exception that leaves the code -/
structure Cx where
  prog : Program
  w : World
  K : PySem.W.Frag
  mg : Str → Option Value
  base : Heap
  A : Around
  N : List Str
  s₀ : Shared
  H₀ : Hp
  env : Env
  outer : List Env
  stack : List Env
  ex : List Addr
  fn : Str → Bool
  calm : Bool
  pn : List (Addr × Obj)
  xe : Value → Shared → Prop
/-- the callers' frames -/
def frs (l : List Env) : List Addr := l.filterMap (·.frame)
abbrev Cx.fs (X : Cx) : List Addr := frs X.outer

def Vis (sc : Scope) (x : Str) : Prop := sc.names.lookup x = some .local ∨ sc.names.lookup x = some .cell ∨ sc.names.lookup x = some .free
def Loc (sc : Scope) (x : Str) : Prop := sc.names.lookup x = some .local ∨ sc.names.lookup x = some .cell
def Look (env : Env) (h : Heap) (m : Str → Option Value) (x : Str) (u : Value) : Prop :=
  (env.kindOf x = some .local ∧ m x = some u) ∨ ((env.kindOf x = some .cell ∨ env.kindOf x = some .free) ∧ ∃ c, env.cells.lookup x = some c ∧ h.IsCell c (some u))

structure Cx.Ok (X : Cx) : Prop where
  mod : Mod X.K X.mg X.base
  kind : X.env.scope.kind = .function
  glob : X.env.globals = mainGlobals
  blt : X.env.builtins = builtinsNs
  above : X.s₀.heap.objs.size ≤ X.env.locals
  inj : ∀ x y c, X.env.cells.lookup x = some c → X.env.cells.lookup y = some c → x = y
  has : ∀ x, (X.env.kindOf x = some .cell ∨ X.env.kindOf x = some .free) → ∃ c, X.env.cells.lookup x = some c
  cab : ∀ x c, X.fn x = true → X.env.cells.lookup x = some c → X.s₀.heap.objs.size ≤ c
  hd : X.calm = true → X.A.handled = none
  frames : X.A.frames = some X.stack
  stk : X.stack = X.outer ∨ (X.stack = X.env :: X.outer ∧ X.env.frame = some X.env.locals)
  exf : ∀ b ∈ X.ex, b ≠ X.env.locals ∧ ∀ x c, X.env.cells.lookup x = some c → c ≠ b
  bs : ∀ b o, X.base.get? b = some o → X.s₀.heap.get? b = some o ∧ X.H₀ b = none
  bsz : X.base.objs.size ≤ X.s₀.heap.objs.size
  noex : ∀ b o, X.base.get? b = some o → b ∉ X.ex
  exfs : ∀ b ∈ X.ex, b ∉ X.fs
  funs : X.s₀.heap.FunFrames X.base X.outer
  frf : ∀ b ∈ X.fs, X.H₀ b = none

structure Inv (X : Cx) (pins : List (Addr × Obj)) (σ : List (Option V)) (H : Hp) (s : Shared) : Prop where
  ok : X.Ok
  os : s.os = X.s₀.os
  bare : AllBare s.gens
  base : Un X.fs X.ex X.H₀ H X.s₀.heap s.heap
  loc : ∃ m, s.heap.Ns X.env.locals m ∧ ∀ (i : Nat) (x : Str) (v : V), X.N[i]? = some x → σ[i]? = some (some v) → Vis X.env.scope x → ∃ u, RelV v u ∧ Look X.env s.heap m x u
  cell : ∀ x c, X.env.cells.lookup x = some c → ∃ v, s.heap.IsCell c v
  free : H X.env.locals = none
  freeC : ∀ x c, X.env.cells.lookup x = some c → H c = none
  pin : ∀ p ∈ X.pn ++ pins, s.heap.get? p.1 = some p.2 ∧ H p.1 = none ∧ p.1 ≠ X.env.locals ∧ p.1 ∉ X.fs ∧ ∀ v, p.2.data ≠ .cell v
  hok : HOk X.prog X.w H s.heap
  len : σ.length = X.N.length

section
variable {X : Cx} {pins : List (Addr × Obj)} {σ : List (Option V)} {H H' : Hp} {s : Shared} {h' : Heap}

theorem Cx.Ok.nofr (ok : X.Ok) {b : Addr} {o : Obj} (e : X.base.get? b = some o) : b ∉ X.fs := fun hb => by
  have := (ok.funs.mem hb).1
  rw [e] at this; cases this
theorem Inv.bs (I : Inv X pins σ H s) : ∀ b o, X.base.get? b = some o → s.heap.get? b = some o ∧ H b = none := fun b o e =>
  ⟨I.base.keep b o (I.ok.bs b o e).1 (I.ok.bs b o e).2 (I.ok.nofr e) (I.ok.noex b o e), I.base.free b o (I.ok.bs b o e).1 (I.ok.bs b o e).2 (I.ok.noex b o e)⟩
theorem Inv.bk (I : Inv X pins σ H s) : ∀ b o, X.base.get? b = some o → s.heap.get? b = some o := fun b o e => (I.bs b o e).1
theorem Inv.mod (I : Inv X pins σ H s) : Mod X.K X.mg X.base := I.ok.mod
theorem Inv.kIn (I : Inv X pins σ H s) : X.K.In s.heap := I.ok.mod.kin.keeps I.bk
theorem Inv.lt (I : Inv X pins σ H s) : X.env.locals < s.heap.objs.size := let ⟨_, hn, _⟩ := I.loc; hn.lt
theorem Inv.sz (I : Inv X pins σ H s) : X.s₀.heap.objs.size ≤ s.heap.objs.size := Nat.le_trans I.ok.above (Nat.le_of_lt I.lt)
theorem Inv.nofs (I : Inv X pins σ H s) {a : Addr} (h : s.heap.objs.size ≤ a) : a ∉ X.fs := fun hb => by
  obtain ⟨_, o, ho, _⟩ := I.ok.funs.mem hb
  exact absurd (Nat.lt_of_lt_of_le (Heap.lt_size ho) (Nat.le_trans I.sz h)) (Nat.lt_irrefl _)
theorem Inv.cne (I : Inv X pins σ H s) : ∀ x c, X.env.cells.lookup x = some c → c ≠ X.env.locals := fun x c e z => by
  obtain ⟨v, o, ho, hd⟩ := I.cell x c e
  obtain ⟨m, ⟨o', es, ep, ho', hd', _⟩, _⟩ := I.loc
  rw [z, ho'] at ho; cases ho; rw [hd'] at hd; cases hd
theorem Inv.funs (I : Inv X pins σ H s) : s.heap.FunFrames X.base X.outer := by
  have all : ∀ (l : List Env), (∀ b ∈ frs l, b ∈ X.fs) → X.s₀.heap.FunFrames X.base l → s.heap.FunFrames X.base l := by
    intro l
    induction l with
    | nil => intro _ _; trivial
    | cons env r ih =>
      intro hs hl
      obtain ⟨hk, ⟨L, o, hf, hn, ho, hd⟩, hr⟩ := hl
      have hL : L ∈ X.fs := hs L (by unfold frs; rw [List.filterMap_cons, hf]; exact List.mem_cons_self)
      obtain ⟨sl, e⟩ := I.base.slot L o ho (I.ok.frf L hL) hL fun z => I.ok.exfs L z hL
      exact ⟨hk, ⟨L, _, hf, hn, e, hd⟩, ih (fun b hb => hs b (by unfold frs; rw [List.filterMap_cons, hf]; exact List.mem_cons_of_mem _ hb)) hr⟩
  exact all X.outer (fun _ hb => hb) I.ok.funs

/-- the frames that run, for a call -/
theorem Inv.stack (I : Inv X pins σ H s) : s.heap.FunFrames X.base X.stack := by
  rcases I.ok.stk with e | ⟨e, hf⟩
  · rw [e]; exact I.funs
  · rw [e]
    obtain ⟨m, hn, _⟩ := I.loc
    refine .cons (by rw [I.ok.kind]; decide) hf hn ?_ I.funs
    exact Heap.get?_none_of_le (Nat.le_trans I.ok.bsz I.ok.above)
theorem Inv.stkSub (I : Inv X pins σ H s) : ∀ b ∈ frs X.stack, b ∈ X.env.locals :: X.fs := fun b hb => by
  rcases I.ok.stk with e | ⟨e, hf⟩
  · rw [e] at hb; exact List.mem_cons_of_mem _ hb
  · rw [e] at hb
    unfold frs at hb
    rw [List.filterMap_cons, hf] at hb
    exact hb
theorem Inv.stkFree (I : Inv X pins σ H s) : ∀ b ∈ frs X.stack, H b = none := fun b hb => by
  rcases List.mem_cons.mp (I.stkSub b hb) with e | hb
  · rw [e]; exact I.free
  · obtain ⟨_, o, ho, _⟩ := I.ok.funs.mem hb
    exact I.base.free b o ho (I.ok.frf b hb) fun z => I.ok.exfs b z hb

/-- THE STEP: the untracked objects but the frame and the records at ch are kept (the callers' frames up to slots), the frame's map is kept, the new abstract heap is held -/
theorem Inv.step {g' : Array GenState} {t' : Nat} {d' : Drawn} {ch : List Addr} (I : Inv X pins σ H s)
    (hch : ∀ b ∈ ch, (b ∈ X.ex ∨ X.s₀.heap.objs.size ≤ b) ∧ b ≠ X.env.locals ∧ (∀ x c, X.env.cells.lookup x = some c → c ≠ b) ∧ ∀ p ∈ X.pn ++ pins, p.1 ≠ b)
    (keep : ∀ b o, b ≠ X.env.locals → b ∉ X.fs → b ∉ ch → s.heap.get? b = some o → H b = none → h'.get? b = some o)
    (slot : ∀ b o, b ≠ X.env.locals → b ∈ X.fs → b ∉ ch → s.heap.get? b = some o → H b = none → ∃ sl, h'.get? b = some { o with slots := sl }) (free : ∀ b o, b ∉ ch → s.heap.get? b = some o → H b = none → H' b = none)
    (there : ∀ b o, b ∉ ch → s.heap.get? b = some o → ∃ o', h'.get? b = some o')
    (tups : ∀ b xs, H b = some (.tup xs) → H' b = some (.tup xs)) (frzs : ∀ b o u, H b = some (.frz o u) → H' b = some (.frz o u)) (tbls : ∀ b ps, H b = some (.tbl ps) → ∃ more, H' b = some (.tbl (ps ++ more)))
    (ns : ∀ m, s.heap.Ns X.env.locals m → h'.Ns X.env.locals m) (hok : HOk X.prog X.w H' h') (hg : AllBare g') :
    Inv X pins σ H' { s with heap := h', gens := g', drawn := d', toks := t' } := by
  have neL : ∀ b o, X.s₀.heap.get? b = some o → b ≠ X.env.locals := fun b o e => Nat.ne_of_lt (Nat.lt_of_lt_of_le (Heap.lt_size e) I.ok.above)
  have neC : ∀ b o, X.s₀.heap.get? b = some o → b ∉ X.ex → b ∉ ch := fun b o e hx hb => by
    rcases (hch b hb).1 with z | z
    · exact hx z
    · exact absurd (Nat.lt_of_lt_of_le (Heap.lt_size e) z) (Nat.lt_irrefl _)
  have cellK : ∀ x c, X.env.cells.lookup x = some c → ∀ v, s.heap.IsCell c v → h'.IsCell c v := fun x c e v ⟨o, ho, hd⟩ => by
    have nch : c ∉ ch := fun z => (hch c z).2.2.1 x c e rfl
    by_cases hc : c ∈ X.fs
    · obtain ⟨sl, q⟩ := slot c o (I.cne x c e) hc nch ho (I.freeC x c e)
      exact ⟨_, q, hd⟩
    · exact ⟨o, keep c o (I.cne x c e) hc nch ho (I.freeC x c e), hd⟩
  refine ⟨I.ok, I.os, hg, ⟨fun b o e n hb hx => ?_, fun b o e n hb hx => ?_, fun b o e n hx => ?_, fun b o e hx => ?_, fun b xs e => tups b xs (I.base.tups b xs e), fun b o xs e => frzs b o xs (I.base.frzs b o xs e), fun b ps e => ?_⟩, ?_, fun x c e => ?_, ?_, fun x c e => ?_, fun p hp => ?_, hok, I.len⟩
  · exact keep b o (neL b o e) hb (neC b o e hx) (I.base.keep b o e n hb hx) (I.base.free b o e n hx)
  · obtain ⟨sl, e1⟩ := I.base.slot b o e n hb hx
    obtain ⟨sl', e2⟩ := slot b _ (neL b o e) hb (neC b o e hx) e1 (I.base.free b o e n hx)
    exact ⟨sl', e2⟩
  · obtain ⟨o', e1⟩ := I.base.there b o e hx
    exact free b o' (neC b o e hx) e1 (I.base.free b o e n hx)
  · obtain ⟨o', e1⟩ := I.base.there b o e hx
    exact there b o' (neC b o e hx) e1
  · obtain ⟨m1, e1⟩ := I.base.tbls b ps e
    obtain ⟨m2, e2⟩ := tbls b _ e1
    exact ⟨m1 ++ m2, by rw [e2, Array.append_assoc]⟩
  · obtain ⟨m, hn, hl⟩ := I.loc
    refine ⟨m, ns m hn, fun i x v e1 e2 e3 => ?_⟩
    obtain ⟨u, r, l⟩ := hl i x v e1 e2 e3
    refine ⟨u, r, ?_⟩
    rcases l with l | ⟨k, c, e, z⟩
    · exact .inl l
    · exact .inr ⟨k, c, e, cellK x c e _ z⟩
  · obtain ⟨v, z⟩ := I.cell x c e
    exact ⟨v, cellK x c e v z⟩
  · obtain ⟨m, ⟨o, _, _, ho, _⟩, _⟩ := I.loc
    exact free _ o (fun z => (hch _ z).2.1 rfl) ho I.free
  · obtain ⟨v, o, ho, hd⟩ := I.cell x c e
    exact free c o (fun z => (hch c z).2.2.1 x c e rfl) ho (I.freeC x c e)
  · obtain ⟨e, n, ne, nf, d⟩ := I.pin p hp
    have nch : p.1 ∉ ch := fun z => (hch p.1 z).2.2.2 p hp rfl
    exact ⟨keep p.1 p.2 ne nf nch e n, free p.1 p.2 nch e n, ne, nf, d⟩
/-- .. where the frame's own object is kept too -/
theorem Inv.un {t' : Nat} (I : Inv X pins σ H s) (u : Un X.fs [] H H' s.heap h') (hok : HOk X.prog X.w H' h') : Inv X pins σ H' { s with heap := h', toks := t' } := by
  obtain ⟨m, ⟨o, es, ep, ho, r⟩, _⟩ := id I.loc
  obtain ⟨sl, hL⟩ := u.any ho I.free (by simp)
  exact I.step (g' := s.gens) (d' := s.drawn) (ch := []) (fun _ z => nomatch z) (fun b o _ hb _ e n => u.keep b o e n hb (by simp)) (fun b o _ hb _ e n => u.slot b o e n hb (by simp)) (fun b o _ e n => u.free b o e n (by simp)) (fun b o _ e => u.there b o e (by simp)) u.tups u.frzs u.tbls (fun m' hm => by
    obtain ⟨o', es', ep', ho', r'⟩ := hm
    rw [ho] at ho'; cases ho'
    exact ⟨_, es', ep', hL, r'⟩) hok I.bare
/-- behind a call (or a comprehension's block): the slots of this frame may have changed too, the records at ch may have turned -/
theorem Inv.call {g' : Array GenState} {t' : Nat} {d' : Drawn} {ch : List Addr} (I : Inv X pins σ H s) (u : Un (frs X.stack) ch H H' s.heap h') (hok : HOk X.prog X.w H' h') (hg : AllBare g')
    (hch : ∀ b ∈ ch, (b ∈ X.ex ∨ X.s₀.heap.objs.size ≤ b) ∧ b ≠ X.env.locals ∧ (∀ x c, X.env.cells.lookup x = some c → c ≠ b) ∧ ∀ p ∈ X.pn ++ pins, p.1 ≠ b) :
    Inv X pins σ H' { s with heap := h', gens := g', drawn := d', toks := t' } := by
  obtain ⟨m, ⟨o, es, ep, ho, r⟩, _⟩ := id I.loc
  obtain ⟨sl, hL⟩ := u.any ho I.free fun z => (hch _ z).2.1 rfl
  exact I.step (ch := ch) hch (fun b o hL hb hc e n => u.keep b o e n (fun z => (List.mem_cons.mp (I.stkSub b z)).elim hL hb) hc) (fun b o _ _ hc e n => u.any e n hc) (fun b o hc e n => u.free b o e n hc) (fun b o hc e => u.there b o e hc) u.tups u.frzs u.tbls (fun m' hm => by
    obtain ⟨o', es', ep', ho', r'⟩ := hm
    rw [ho] at ho'; cases ho'
    exact ⟨_, es', ep', hL, r'⟩) hok hg
/-- an untracked record of ours (an iterator) has turned -/
theorem Inv.turned {t' : Nat} {it : Addr} (I : Inv X pins σ H s) (k : ∀ b o, b ≠ it → s.heap.get? b = some o → h'.get? b = some o) (hn : H it = none) (hL : it ≠ X.env.locals)
    (h1 : it ∈ X.ex ∨ X.s₀.heap.objs.size ≤ it) (h2 : ∀ x c, X.env.cells.lookup x = some c → c ≠ it) (h3 : ∀ p ∈ X.pn ++ pins, p.1 ≠ it) : Inv X pins σ H { s with heap := h', toks := t' } := by
  have nit : ∀ b u, H b = some u → b ≠ it := fun b u e z => by rw [z, hn] at e; cases e
  refine I.step (g' := s.gens) (d' := s.drawn) (ch := [it]) (fun b hb => ?_) (fun b o _ _ hc e _ => k b o (fun z => hc (by simp [z])) e) (fun b o _ _ hc e _ => ⟨o.slots, k b o (fun z => hc (by simp [z])) e⟩) (fun _ _ _ _ n => n)
    (fun b o hc e => ⟨o, k b o (fun z => hc (by simp [z])) e⟩) (fun _ _ e => e) (fun _ _ _ e => e) (fun b ps e => ⟨#[], by rw [e]; simp⟩) (fun m hm => ?_) (fun b u e => ?_) I.bare
  · have e : b = it := by simpa using hb
    subst e
    exact ⟨h1, hL, h2, h3⟩
  · obtain ⟨o, es, ep, ho, r⟩ := hm
    exact ⟨o, es, ep, k _ o (Ne.symm hL) ho, r⟩
  · refine (I.hok b u e).stay (fun c v hc q => k c v ?_ q) (fun _ q => q) fun _ _ q => q
    rcases hc with z | z
    · rw [z]; exact nit b u e
    · exact nit c _ z
theorem Inv.tok (I : Inv X pins σ H s) (t : Nat) : Inv X pins σ H { s with toks := t } := I.un (h' := s.heap) (t' := t) Un.refl I.hok
/-- all objects kept -/
theorem Inv.kept {t' : Nat} (I : Inv X pins σ H s) (k : ∀ b u, s.heap.get? b = some u → h'.get? b = some u) : Inv X pins σ H { s with heap := h', toks := t' } := I.un (Un.kept k) (I.hok.kept k)
/-- a new object laid and tracked -/
theorem Inv.laid {a : Addr} {o : HO} {t' : Nat} (I : Inv X pins σ H s) (k : ∀ b u, s.heap.get? b = some u → h'.get? b = some u) (hp : s.heap.objs.size ≤ a) (new : ObjOk X.prog X.w (upd H a o) h' a o) :
    Inv X pins σ (upd H a o) { s with heap := h', toks := t' } := I.un (Un.laid k hp (I.hok.fresh hp)) (I.hok.laid k hp new)
/-- an object written -/
theorem Inv.write {x e : Addr} {o : HO} {t' : Nat} (I : Inv X pins σ H s) (mu : Mut (H x)) (he : e = x ∨ H e = some (.own x)) (k : ∀ b u, b ≠ e → s.heap.get? b = some u → h'.get? b = some u) (heo : ∃ u, h'.get? e = some u)
    (new : ObjOk X.prog X.w (upd H x o) h' x o) : Inv X pins σ (upd H x o) { s with heap := h', toks := t' } := I.un (Un.write mu he k heo) (I.hok.write mu he k heo new)
theorem Inv.pins_of {pins' : List (Addr × Obj)} (I : Inv X pins σ H s) (h : ∀ p ∈ pins', s.heap.get? p.1 = some p.2 ∧ H p.1 = none ∧ p.1 ≠ X.env.locals ∧ p.1 ∉ X.fs ∧ ∀ v, p.2.data ≠ .cell v) : Inv X pins' σ H s :=
  ⟨I.ok, I.os, I.bare, I.base, I.loc, I.cell, I.free, I.freeC, fun p hp => (List.mem_append.mp hp).elim (fun z => I.pin p (List.mem_append_left _ z)) (h p), I.hok, I.len⟩

theorem nodup_ix {N : List Str} (hN : N.Nodup) {i j : Nat} {x : Str} (a : N[i]? = some x) (b : N[j]? = some x) : i = j := by
  obtain ⟨h1, e1⟩ := List.getElem?_eq_some_iff.mp a
  obtain ⟨h2, e2⟩ := List.getElem?_eq_some_iff.mp b
  exact (List.getElem_inj hN).mp (e1.trans e2.symm)

/-- a name is stored; what changed -/
theorem store_ok2 {M : Model} {A : Around} {E : Value → Shared → Prop} {i : Nat} {x : Str} {v : V} {u : Value} {Q : Unit → Shared → Prop} (I : Inv X pins σ H s) (hN : X.N.Nodup) (hi : X.N[i]? = some x) (hx : Loc X.env.scope x) (r : RelV v u)
    (h : ∀ s', Inv X pins (σ.set i (some v)) H s' → (∃ a, Heap.SameBut a s.heap s'.heap ∧ (a = X.env.locals ∨ X.env.cells.lookup x = some a)) → Q () s') (hf : X.fn x = true ∨ X.env.scope.names.lookup x = some .local := by first | exact .inl rfl | exact .inr rfl | assumption) : wpAny M A (storeName X.env x u) Q E s := by
  obtain ⟨m, hn, hl⟩ := id I.loc
  have hcls : (X.env.scope.kind == .class || (X.env.scope.kind == .module && X.env.locals != X.env.globals)) = false := by rw [I.ok.kind]; rfl
  have hiσ : i < σ.length := by rw [I.len]; exact (List.getElem?_eq_some_iff.mp hi).1
  have cne := I.cne
  have tracked : ∀ {a : Addr} {h' : Heap}, (∃ o, s.heap.get? a = some o ∧ H a = none) → Heap.SameBut a s.heap h' → HOk X.prog X.w H h' := fun {a h'} ha hs b ob e => by
    obtain ⟨_, _, hfree⟩ := ha
    refine (I.hok b ob e).stay (fun c w' hc q => (hs.2 c ?_).trans q) (fun _ q => q) fun _ _ q => q
    rintro rfl
    rcases hc with rfl | hc
    · rw [hfree] at e; cases e
    · rw [hfree] at hc; cases hc
  rcases hx with hk | hk
  · refine wpAny_storeName_local hk hn (fun h' hn' hs => ?_) hcls
    obtain ⟨oL, _, _, hoL, _⟩ := id hn
    refine h _ ⟨I.ok, I.os, I.bare, ⟨fun b o e n hb hx => ?_, fun b o e n hb hx => ?_, I.base.free, fun b o e hx => ?_, I.base.tups, I.base.frzs, I.base.tbls⟩, ⟨_, hn', fun j y v' e1 e2 e3 => ?_⟩, fun y c e => ?_, I.free, I.freeC, fun p hp => ?_, tracked ⟨oL, hoL, I.free⟩ hs, by simpa using I.len⟩ ⟨_, hs, .inl rfl⟩
    · exact (hs.2 b (Nat.ne_of_lt (Nat.lt_of_lt_of_le (Heap.lt_size e) I.ok.above))).trans (I.base.keep b o e n hb hx)
    · obtain ⟨sl, e1⟩ := I.base.slot b o e n hb hx
      exact ⟨sl, (hs.2 b (Nat.ne_of_lt (Nat.lt_of_lt_of_le (Heap.lt_size e) I.ok.above))).trans e1⟩
    · obtain ⟨o', e1⟩ := I.base.there b o e hx
      exact ⟨o', (hs.2 b (Nat.ne_of_lt (Nat.lt_of_lt_of_le (Heap.lt_size e) I.ok.above))).trans e1⟩
    · by_cases hj : j = i
      · subst hj
        rw [hi] at e1; cases e1
        rw [List.getElem?_set_self hiσ] at e2
        cases e2
        exact ⟨u, r, .inl ⟨hk, by simp⟩⟩
      · rw [List.getElem?_set_ne (Ne.symm hj)] at e2
        obtain ⟨u', r', q⟩ := hl j y v' e1 e2 e3
        refine ⟨u', r', ?_⟩
        rcases q with ⟨k, e⟩ | ⟨k, c, e, z⟩
        · refine .inl ⟨k, ?_⟩
          have : y ≠ x := fun e => hj (nodup_ix hN e1 (e ▸ hi))
          simp [this, e]
        · exact .inr ⟨k, c, e, z.sameBut hs (cne y c e)⟩
    · obtain ⟨w', z⟩ := I.cell y c e
      exact ⟨w', z.sameBut hs (cne y c e)⟩
    · obtain ⟨e, n, ne, nf, d⟩ := I.pin p hp
      exact ⟨(hs.2 p.1 ne).trans e, n, ne, nf, d⟩
  · have hfn : X.fn x = true := by
      rcases hf with z | z
      · exact z
      · rw [z] at hk; cases hk
    obtain ⟨c, hc⟩ := I.ok.has x (.inl hk)
    obtain ⟨w', z⟩ := I.cell x c hc
    refine wpAny_storeName_cell I.ok.kind hk hc z (fun h' hc' hs => ?_)
    obtain ⟨oc, hoc, hocd⟩ := id z
    refine h { s with heap := h' } ⟨I.ok, I.os, I.bare, ⟨fun b o e n hb hx => ?_, fun b o e n hb hx => ?_, I.base.free, fun b o e hx => ?_, I.base.tups, I.base.frzs, I.base.tbls⟩, ⟨m, hn.sameBut hs (Ne.symm (cne x c hc)), fun j y v' e1 e2 e3 => ?_⟩, fun y c' e => ?_, I.free, I.freeC, fun p hp => ?_, tracked ⟨oc, hoc, I.freeC x c hc⟩ hs, by simpa using I.len⟩ ⟨c, hs, .inr hc⟩
    · exact (hs.2 b (Nat.ne_of_lt (Nat.lt_of_lt_of_le (Heap.lt_size e) (I.ok.cab x c hfn hc)))).trans (I.base.keep b o e n hb hx)
    · obtain ⟨sl, e1⟩ := I.base.slot b o e n hb hx
      exact ⟨sl, (hs.2 b (Nat.ne_of_lt (Nat.lt_of_lt_of_le (Heap.lt_size e) (I.ok.cab x c hfn hc)))).trans e1⟩
    · obtain ⟨o', e1⟩ := I.base.there b o e hx
      exact ⟨o', (hs.2 b (Nat.ne_of_lt (Nat.lt_of_lt_of_le (Heap.lt_size e) (I.ok.cab x c hfn hc)))).trans e1⟩
    · by_cases hj : j = i
      · subst hj
        rw [hi] at e1; cases e1
        rw [List.getElem?_set_self hiσ] at e2
        cases e2
        exact ⟨u, r, .inr ⟨.inl hk, c, hc, hc'⟩⟩
      · rw [List.getElem?_set_ne (Ne.symm hj)] at e2
        obtain ⟨u', r', q⟩ := hl j y v' e1 e2 e3
        refine ⟨u', r', ?_⟩
        rcases q with q | ⟨k, c', e, z'⟩
        · exact .inl q
        · refine .inr ⟨k, c', e, z'.sameBut hs ?_⟩
          rintro rfl
          exact hj (nodup_ix hN e1 (I.ok.inj _ _ _ e hc ▸ hi))
    · by_cases hcc : c' = c
      · subst hcc; exact ⟨_, hc'⟩
      · obtain ⟨w2, z2⟩ := I.cell y c' e
        exact ⟨w2, z2.sameBut hs hcc⟩
    · obtain ⟨e, n, ne, nf, d⟩ := I.pin p hp
      refine ⟨(hs.2 p.1 ?_).trans e, n, ne, nf, d⟩
      intro q
      rw [q, hoc] at e
      have q' : oc = p.2 := Option.some.inj e
      exact d w' (by rw [← q']; exact hocd)
theorem store_ok {M : Model} {A : Around} {E : Value → Shared → Prop} {i : Nat} {x : Str} {v : V} {u : Value} {Q : Unit → Shared → Prop} (I : Inv X pins σ H s) (hN : X.N.Nodup) (hi : X.N[i]? = some x) (hx : Loc X.env.scope x) (r : RelV v u)
    (h : ∀ s', Inv X pins (σ.set i (some v)) H s' → Q () s') (hf : X.fn x = true ∨ X.env.scope.names.lookup x = some .local := by first | exact .inl rfl | exact .inr rfl | assumption) : wpAny M A (storeName X.env x u) Q E s :=
  store_ok2 I hN hi hx r (fun s' I' _ => h s' I') hf
/-- behind a call or a block, the state as it is -/
theorem Inv.call' {s' : Shared} {ch : List Addr} (I : Inv X pins σ H s) (ho : s'.os = s.os) (u : Un (frs X.stack) ch H H' s.heap s'.heap) (hok : HOk X.prog X.w H' s'.heap) (hg : AllBare s'.gens)
    (hch : ∀ b ∈ ch, (b ∈ X.ex ∨ X.s₀.heap.objs.size ≤ b) ∧ b ≠ X.env.locals ∧ (∀ x c, X.env.cells.lookup x = some c → c ≠ b) ∧ ∀ p ∈ X.pn ++ pins, p.1 ≠ b) : Inv X pins σ H' s' := by
  obtain ⟨h', g', d', t', o'⟩ := s'
  have e : o' = s.os := ho
  subst e
  exact I.call (g' := g') (t' := t') (d' := d') u hok hg hch
end

/-! ### the judgements -/
/-- an exception: its class, its own dict's address (where it has one), the abstract heap behind it -/
abbrev XK := Value → Option Addr → Hp → Prop
abbrev St := List (Option V)
abbrev VK := V → Hp → Prop
/-- an expression's reading; a test's; an argument list's -/
abbrev TE := St → Hp → VK → Prop
abbrev TT := St → Hp → (Bool → Hp → Prop) → Prop
abbrev TA := St → Hp → (List V → Hp → Prop) → Prop
/-- what is wanted behind a statement -/
structure Ends where
  nx : St → Hp → Prop
  rt : VK
  bk : St → Hp → Prop := fun _ _ => False
  ct : St → Hp → Prop := fun _ _ => False
abbrev TS := Ends → St → Hp → Prop

def EP (X : Cx) (pins : List (Addr × Obj)) (σ : St) (Q : VK) (u : Value) (s' : Shared) : Prop := ∃ v H', Inv X pins σ H' s' ∧ RelV v u ∧ Q v H'
def TP (X : Cx) (pins : List (Addr × Obj)) (σ : St) (Q : Bool → Hp → Prop) (b : Bool) (s' : Shared) : Prop := ∃ H', Inv X pins σ H' s' ∧ Q b H'
def AP (X : Cx) (pins : List (Addr × Obj)) (σ : St) (Q : List V → Hp → Prop) (us : List Value) (s' : Shared) : Prop := ∃ vs H', Inv X pins σ H' s' ∧ Vals vs us ∧ Q vs H'
def SP (X : Cx) (pins : List (Addr × Obj)) (D : Ends) (f : Flow) (s' : Shared) : Prop :=
  match f with
  | .next => ∃ σ' H', Inv X pins σ' H' s' ∧ D.nx σ' H'
  | .brk => ∃ σ' H', Inv X pins σ' H' s' ∧ D.bk σ' H'
  | .cont => ∃ σ' H', Inv X pins σ' H' s' ∧ D.ct σ' H'
  | .ret u => ∃ v σ' H', Inv X pins σ' H' s' ∧ RelV v u ∧ D.rt v H'

def PE (X : Cx) (e : Expr) (t : TE) : Prop :=
  ∀ (pins : List (Addr × Obj)) (s : Shared) (σ : St) (H : Hp) (Q : VK), Inv X pins σ H s → t σ H Q → wpAny (model X.prog X.w) X.A (eval e X.env) (EP X pins σ Q) X.xe s
def PT (X : Cx) (e : Expr) (t : TT) : Prop :=
  ∀ (pins : List (Addr × Obj)) (s : Shared) (σ : St) (H : Hp) (Q : Bool → Hp → Prop), Inv X pins σ H s → t σ H Q → wpAny (model X.prog X.w) X.A (isTrue e X.env (eval e X.env)) (TP X pins σ Q) X.xe s
/-- a test whatever its 'whole' is (and, or) -/
def PW (X : Cx) (e : Expr) (t : TT) : Prop :=
  ∀ (whole : Sem Value) (pins : List (Addr × Obj)) (s : Shared) (σ : St) (H : Hp) (Q : Bool → Hp → Prop), Inv X pins σ H s → t σ H Q → wpAny (model X.prog X.w) X.A (isTrue e X.env whole) (TP X pins σ Q) X.xe s
theorem PW.pt {X : Cx} {e : Expr} {t : TT} (h : PW X e t) : PT X e t := h _
/-- an argument list (no star), from the left -/
def PA (X : Cx) (es : List Expr) (t : TA) : Prop :=
  ∀ (pos : Pos) (pins : List (Addr × Obj)) (s : Shared) (σ : St) (H : Hp) (Q : List V → Hp → Prop), Inv X pins σ H s → t σ H Q → wpAny (model X.prog X.w) X.A (spliced (backTo pos (starEach es X.env))) (AP X pins σ Q) X.xe s
def PS (X : Cx) (st : Stmt) (t : TS) : Prop :=
  ∀ (pins : List (Addr × Obj)) (s : Shared) (σ : St) (H : Hp) (D : Ends), Inv X pins σ H s → t D σ H → wpAny (model X.prog X.w) X.A (exec st X.env) (SP X pins D) X.xe s
def PSs (X : Cx) (st : List Stmt) (t : TS) : Prop :=
  ∀ (pins : List (Addr × Obj)) (s : Shared) (σ : St) (H : Hp) (D : Ends), Inv X pins σ H s → t D σ H → wpAny (model X.prog X.w) X.A (execs st X.env) (SP X pins D) X.xe s
/-- weaken the end -/
theorem thn {α : Type} {t : Sem α} {Q Q' : α → Shared → Prop} {M : Model} {A : Around} {E : Value → Shared → Prop} {s : Shared} (h : wpAny M A t Q E s) (hQ : ∀ a s, Q a s → Q' a s) : wpAny M A t Q' E s := wpAny_mono h hQ fun _ _ x => x
end L2

namespace L2
open PySem PySem.Spec PyProof.Rows
section
variable {X : Cx}

/-! ### names and constants -/
def tVar (i : Nat) : TE := fun σ H Q => ∃ v, σ[i]? = some (some v) ∧ Q v H
def tC (v : V) : TE := fun _ H Q => Q v H
theorem pe_var {i : Nat} {x : Str} {pos : Pos} (hN : X.N[i]? = some x) (hv : Vis X.env.scope x) (hd : (x == ("__debug__" : Str)) = false := by decide) (hcd : (x == ("__classdict__" : Str)) = false := by decide) : PE X (.Name x pos) (tVar i) := by
  intro pins s σ H Q I h
  obtain ⟨v, e, h⟩ := h
  obtain ⟨m, hn, hl⟩ := I.loc
  obtain ⟨u, r, l⟩ := hl i x v hN e hv
  have fin : EP X pins σ Q u s := ⟨v, H, I, r, h⟩
  rcases l with ⟨hk, hm⟩ | ⟨hk, c, hc, hcell⟩
  · exact wpAny_Name (wpAny_loadName_local I.ok.kind hk hn hm fin) hd
  · rcases hk with hk | hk
    · exact wpAny_Name (wpAny_loadName_cell I.ok.kind hk hc hcell fin) hd
    · exact wpAny_Name (wpAny_loadName_free I.ok.kind hk hc hcell fin hcd) hd
theorem pe_int {i j pos} : PE X (.Constant (.int i) j pos) (tC (.int i)) := fun _ _ _ H _ I h => wpAny_Constant_int ⟨.int i, H, I.tok _, ⟨_, rfl⟩, h⟩
theorem pe_bl {b j pos} : PE X (.Constant (.bool b) j pos) (tC (.bl b)) := fun _ _ _ H _ I h => Constant_bool ⟨.bl b, H, I, rfl, h⟩
theorem pe_non {j pos} : PE X (.Constant .none j pos) (tC .non) := fun _ _ _ H _ I h => Constant_none ⟨.non, H, I, rfl, h⟩
theorem pe_str {x j pos} : PE X (.Constant (.str x) j pos) (tC (.str x)) := fun _ _ _ H _ I h => Calls.Constant_str ⟨.str x, H, I.tok _, ⟨_, rfl⟩, h⟩

/-- a global name of the def -/
def Gl (X : Cx) (x : Str) : Prop := X.env.kindOf x = some .globalImplicit
theorem ld_glob {E : Value → Shared → Prop} {pins : List (Addr × Obj)} {s : Shared} {σ : St} {H : Hp} {x : Str} {u : Value} {pos : Pos} {Q : Value → Shared → Prop} (I : Inv X pins σ H s) (hg : Gl X x) (hm : X.mg x = some u) (h : Q u s)
    (hd : (x == ("__debug__" : Str)) = false := by decide) : wpAny (model X.prog X.w) X.A (eval (.Name x pos) X.env) Q E s :=
  Calls.Name_function_global I.ok.kind hg (Calls.loadGlobal_global (by rw [I.ok.glob]; exact I.mod.glob.keeps I.bk) hm h) hd
theorem ld_blt {E : Value → Shared → Prop} {pins : List (Addr × Obj)} {s : Shared} {σ : St} {H : Hp} {x : Str} {u : Value} {pos : Pos} {Q : Value → Shared → Prop} (I : Inv X pins σ H s) (hg : Gl X x) (hm : X.mg x = none) (hv : bootBuiltins x = some u) (h : Q u s)
    (hn : x ≠ "__name__" := by decide) (hd : (x == ("__debug__" : Str)) = false := by decide) : wpAny (model X.prog X.w) X.A (eval (.Name x pos) X.env) Q E s := by
  obtain ⟨mb, h1, h2⟩ := I.mod.blt
  exact Calls.Name_function_global I.ok.kind hg (Calls.loadGlobal_builtin (by rw [I.ok.glob]; exact I.mod.glob.keeps I.bk) hm (by rw [I.ok.blt]; exact h1.keeps I.bk) ((h2 x hn).trans hv) h) hd
/-- a module's constant, a class, a function, as a value -/
theorem pe_glob {x : Str} {v : V} {u : Value} {pos : Pos} (hg : Gl X x) (hm : X.mg x = some u) (r : RelV v u) (hd : (x == ("__debug__" : Str)) = false := by decide) : PE X (.Name x pos) (tC v) :=
  fun _ _ _ H _ I h => ld_glob I hg hm ⟨v, H, I, r, h⟩ hd
theorem pe_bltn {x : Str} {v : V} {u : Value} {pos : Pos} (hg : Gl X x) (hm : X.mg x = none) (hv : bootBuiltins x = some u) (r : RelV v u) (hn : x ≠ "__name__" := by decide) (hd : (x == ("__debug__" : Str)) = false := by decide) : PE X (.Name x pos) (tC v) :=
  fun _ _ _ H _ I h => ld_blt I hg hm hv ⟨v, H, I, r, h⟩ hn hd

/-! ### arithmetic -/
/-- two ints -/
def t2I (ta tb : TE) (k : Int → Int → Hp → Prop) : St → Hp → Prop := fun σ H => ta σ H fun x H1 => tb σ H1 fun y H2 => ∃ i j, x = .int i ∧ y = .int j ∧ k i j H2
def tAdd (ta tb : TE) : TE := fun σ H Q => t2I ta tb (fun i j H2 => Q (.int (i + j)) H2) σ H
def tSub (ta tb : TE) : TE := fun σ H Q => t2I ta tb (fun i j H2 => Q (.int (i - j)) H2) σ H
/-- the left factor below 2^64 -/
def tMul (ta tb : TE) : TE := fun σ H Q => t2I ta tb (fun i j H2 => (-(2 ^ 64) < i ∧ i < 2 ^ 64) ∧ Q (.int (i * j)) H2) σ H
variable {a b : Expr} {ta tb : TE} {pos : Pos}
/-! ### comparisons -/
def PC (X : Cx) (op : CmpOp) (a b : Expr) (t : TE) : Prop :=
  ∀ (pins : List (Addr × Obj)) (s : Shared) (σ : St) (H : Hp) (Q : VK), Inv X pins σ H s → t σ H Q →
    wpAny (model X.prog X.w) X.A (eval a X.env) (fun v s₁ => wpAny (model X.prog X.w) X.A (eval b X.env) (fun u s₂ => wpAny (model X.prog X.w) X.A (compareOp op v u) (EP X pins σ Q) X.xe s₂) X.xe s₁) X.xe s
def tCmp (p : Int → Int → Bool) (ta tb : TE) : TE := fun σ H Q => t2I ta tb (fun i j H2 => Q (.bl (p i j)) H2) σ H
abbrev tLt : TE → TE → TE := tCmp fun i j => decide (i < j)
abbrev tLe : TE → TE → TE := tCmp fun i j => decide (i ≤ j)
abbrev tGt : TE → TE → TE := tCmp fun i j => decide (j < i)
abbrev tGe : TE → TE → TE := tCmp fun i j => decide (j ≤ i)
abbrev tEqI : TE → TE → TE := tCmp fun i j => decide (i = j)
abbrev tNeI : TE → TE → TE := tCmp fun i j => !decide (i = j)
/-- is None -/
def tIsN (ta : TE) : TE := fun σ H Q => ta σ H fun x H1 => Q (.bl (decide (x = .non))) H1
def tNotN (ta : TE) : TE := fun σ H Q => ta σ H fun x H1 => Q (.bl (!decide (x = .non))) H1
/-- a comparison as a value, as a test -/
def tB (t : TE) : TT := fun σ H Q => t σ H fun x H1 => ∃ c, x = .bl c ∧ Q c H1
theorem pt_cmp {op : CmpOp} {t : TE} (h : PC X op a b t) (h1 : behindInMarks op b = false := by first | exact nobehind _ (by decide) (by decide) | rfl) : PT X (.Compare a [op] [b] pos) (tB t) := by
  intro pins s σ H Q I hw
  refine wpAny_isTrue_Compare1 (thn (h pins s σ H _ I hw) fun v s1 h1 => thn h1 fun u s2 h2 => thn h2 fun c s3 ⟨x, H1, I1, r1, q1⟩ => ?_) h1
  obtain ⟨d, rfl, q⟩ := q1
  cases r1
  exact wpAny_truthy_bool ⟨H1, I1, q⟩
/-- an expression whose value is a bool, as a test -/
theorem pt_val {e : Expr} {t : TE} (h : PE X e t) (he : ∀ whole, isTrue e X.env whole = (do let v ← whole; standAt e.pos; holding [v] (truthy v)) := by intro _; rfl) : PT X e (tB t) := by
  intro pins s σ H Q I hw
  refine isTrue_plain (thn (h pins s σ H _ I hw) fun v s1 ⟨x, H1, I1, r1, q1⟩ => ?_) (he _)
  obtain ⟨d, rfl, q⟩ := q1
  cases r1
  exact wpAny_truthy_bool ⟨H1, I1, q⟩

/-! ### and, or, not -/
variable {tA tB' : TT} {rest : List Expr}
def tAnd (t u : TT) : TT := fun σ H Q => t σ H fun c H1 => if c = true then u σ H1 Q else Q false H1
def tOr (t u : TT) : TT := fun σ H Q => t σ H fun c H1 => if c = true then Q true H1 else u σ H1 Q
def tNot (t : TT) : TT := fun σ H Q => t σ H fun c H1 => Q (!c) H1
theorem pw_and1 (ha : PT X a tA) : PW X (.BoolOp .And [a] pos) tA := by
  intro wh pins s σ H Q I h
  refine isTrue_and (thn (ha pins s σ H Q I h) fun c s1 e => ?_)
  cases c with
  | true => exact isTrue_and_nil e
  | false => exact e
theorem pw_or1 (ha : PT X a tA) : PW X (.BoolOp .Or [a] pos) tA := by
  intro wh pins s σ H Q I h
  refine isTrue_or (thn (ha pins s σ H Q I h) fun c s1 e => ?_)
  cases c with
  | false => exact isTrue_or_nil e
  | true => exact e
theorem pw_and (ha : PT X a tA) (hb : PW X (.BoolOp .And (b :: rest) pos) tB') : PW X (.BoolOp .And (a :: b :: rest) pos) (tAnd tA tB') := by
  intro wh pins s σ H Q I h
  refine isTrue_and (thn (ha pins s σ H _ I h) fun c s1 ⟨H1, I1, q1⟩ => ?_)
  cases c with
  | true => exact hb wh pins s1 σ H1 Q I1 q1
  | false => exact ⟨H1, I1, q1⟩
theorem pw_or (ha : PT X a tA) (hb : PW X (.BoolOp .Or (b :: rest) pos) tB') : PW X (.BoolOp .Or (a :: b :: rest) pos) (tOr tA tB') := by
  intro wh pins s σ H Q I h
  refine isTrue_or (thn (ha pins s σ H _ I h) fun c s1 ⟨H1, I1, q1⟩ => ?_)
  cases c with
  | true => exact ⟨H1, I1, q1⟩
  | false => exact hb wh pins s1 σ H1 Q I1 q1
theorem pt_not (ha : PT X a tA) : PT X (.UnaryOp .Not a pos) (tNot tA) := by
  intro pins s σ H Q I h
  exact isTrue_not (ha pins s σ H (fun c H1 => Q (!c) H1) I h)
/-- .. as values (bools) -/
def tAndV (ta tb : TE) : TE := fun σ H Q => ta σ H fun x H1 => ∃ c, x = .bl c ∧ if c = true then tb σ H1 Q else Q (.bl false) H1
def tOrV (ta tb : TE) : TE := fun σ H Q => ta σ H fun x H1 => ∃ c, x = .bl c ∧ if c = true then Q (.bl true) H1 else tb σ H1 Q
def tNotV (ta : TE) : TE := fun σ H Q => ta σ H fun x H1 => ∃ c, x = .bl c ∧ Q (.bl (!c)) H1
theorem pe_one {op} {t : TE} (h : PE X a t) : PE X (.BoolOp op [a] pos) t := fun pins s σ H Q I hw => BoolOp_one (h pins s σ H Q I hw)
theorem pe_and (ha : PE X a ta) (hb : PE X (.BoolOp .And (b :: rest) pos) tb) : PE X (.BoolOp .And (a :: b :: rest) pos) (tAndV ta tb) := by
  intro pins s σ H Q I h
  refine BoolOp_and (thn (ha pins s σ H _ I h) fun v s1 ⟨x, H1, I1, r1, q1⟩ => ?_)
  obtain ⟨c, rfl, q1⟩ := q1
  cases r1
  refine wpAny_truthy_bool ?_
  cases c with
  | true => exact hb pins s1 σ H1 Q I1 q1
  | false => exact ⟨.bl false, H1, I1, rfl, q1⟩
theorem pe_or (ha : PE X a ta) (hb : PE X (.BoolOp .Or (b :: rest) pos) tb) : PE X (.BoolOp .Or (a :: b :: rest) pos) (tOrV ta tb) := by
  intro pins s σ H Q I h
  refine BoolOp_or (thn (ha pins s σ H _ I h) fun v s1 ⟨x, H1, I1, r1, q1⟩ => ?_)
  obtain ⟨c, rfl, q1⟩ := q1
  cases r1
  refine wpAny_truthy_bool ?_
  cases c with
  | false => exact hb pins s1 σ H1 Q I1 q1
  | true => exact ⟨.bl true, H1, I1, rfl, q1⟩
theorem pe_not (ha : PE X a ta) : PE X (.UnaryOp .Not a pos) (tNotV ta) := by
  intro pins s σ H Q I h
  refine UnaryOp_ (thn (ha pins s σ H _ I h) fun v s1 ⟨x, H1, I1, r1, q1⟩ => ?_)
  obtain ⟨c, rfl, q1⟩ := q1
  cases r1
  exact not_of (wpAny_truthy_bool ⟨.bl (!c), H1, I1, rfl, q1⟩)
/-- a if t else b -/
def tIf (t : TT) (ta tb : TE) : TE := fun σ H Q => t σ H fun c H1 => if c = true then ta σ H1 Q else tb σ H1 Q
end
end L2

namespace L2
open PySem PySem.Spec PyProof.Rows

/-! ### a list, a tuple that is read: tracked, frozen, or an object of the module -/
def SqL (K : PySem.W.Frag) (H : Hp) (a : Addr) (xs : List V) : Prop :=
  Rd H a (.lst xs) ∨
    ∃ (o : Obj) (its : Array Value) (n : Nat), K.lookup a = some o ∧ o.cls = .type "list" ∧ o.dict = none ∧ o.data = .seq its n ∧ its.size ≤ sizeLine ∧ Vals xs its.toList
def SqT (K : PySem.W.Frag) (H : Hp) (a : Addr) (xs : List V) : Prop :=
  Rd H a (.tup xs) ∨
    ∃ (o : Obj) (its : Array Value) (n : Nat), K.lookup a = some o ∧ o.cls = .type "tuple" ∧ o.data = .seq its n ∧ its.size ≤ sizeLine ∧ Vals xs its.toList
def absV : Value → Option V
  | .none => some .non
  | .bool b => some (.bl b)
  | .int i _ => some (.int i)
  | .str x _ => some (.str x)
  | .bytes b _ => some (.byt b)
  | .float b _ => some (.flt b)
  | .ref a => some (.ref a)
  | .type n => some (.ty n)
  | _ => none
theorem RelV.abs {x : V} {u : Value} (r : RelV x u) : absV u = some x := by
  cases x with
  | non => cases r; rfl
  | bl _ => cases r; rfl
  | int _ => obtain ⟨t, rfl⟩ := r; rfl
  | str _ => obtain ⟨t, rfl⟩ := r; rfl
  | byt _ => obtain ⟨t, rfl⟩ := r; rfl
  | flt _ => obtain ⟨t, rfl⟩ := r; rfl
  | ref _ => cases r; rfl
  | ty _ => cases r; rfl
theorem RelV.inj {x y : V} {u : Value} (r : RelV x u) (q : RelV y u) : x = y := Option.some.inj (r.abs.symm.trans q.abs)
theorem Vals.inj : ∀ {xs ys : List V} {us : List Value}, Vals xs us → Vals ys us → xs = ys
  | _, _, _, .nil, .nil => rfl
  | _, _, _, .cons r t, .cons r' t' => by rw [r.inj r', Vals.inj t t']
section
variable {X : Cx} {pins : List (Addr × Obj)} {σ : St} {H : Hp} {s : Shared} {a : Addr} {xs ys : List V}
theorem SqL.of {K : PySem.W.Frag} (h : H a = some (.lst xs)) : SqL K H a xs := .inl (.inl h)
theorem SqT.of {K : PySem.W.Frag} (h : H a = some (.tup xs)) : SqT K H a xs := .inl (.inl h)
theorem Inv.list (I : Inv X pins σ H s) (h : SqL X.K H a xs) : ∃ its : List Value, Vals xs its ∧ PlainL s.heap a its.toArray ∧ xs.length ≤ sizeLine := by
  rcases h with h | ⟨o, its, n, hk, hc, hd, hs, hz, r⟩
  · obtain ⟨z, its, n, r, e⟩ := h.ok I.hok
    exact ⟨its, r, ⟨_, n, e, rfl, rfl, rfl⟩, z⟩
  · refine ⟨its.toList, r, ⟨o, n, I.kIn a o hk, hc, hd, by simpa using hs⟩, ?_⟩
    have e := r.length
    simp only [Array.length_toList] at e
    omega
theorem Inv.tuple (I : Inv X pins σ H s) (h : SqT X.K H a xs) : ∃ its : List Value, Vals xs its ∧ IsTup s.heap a its.toArray ∧ xs.length ≤ sizeLine := by
  rcases h with h | ⟨o, its, n, hk, hc, hs, hz, r⟩
  · obtain ⟨z, its, r, p⟩ := h.ok I.hok
    exact ⟨its, r, p, z⟩
  · refine ⟨its.toList, r, ⟨o, I.kIn a o hk, hc, n, by simpa using hs⟩, ?_⟩
    have e := r.length
    simp only [Array.length_toList] at e
    omega
theorem Inv.list_inj (I : Inv X pins σ H s) (h : SqL X.K H a xs) (h' : SqL X.K H a ys) : xs = ys := by
  obtain ⟨its, r, ⟨o, n, e, _, _, d⟩, _⟩ := I.list h
  obtain ⟨its', r', ⟨o', n', e', _, _, d'⟩, _⟩ := I.list h'
  rw [e] at e'; cases e'
  rw [d] at d'
  injection d' with d1 _
  have : its = its' := by simpa using congrArg Array.toList d1
  subst this
  exact r.inj r'
theorem Inv.tuple_inj (I : Inv X pins σ H s) (h : SqT X.K H a xs) (h' : SqT X.K H a ys) : xs = ys := by
  obtain ⟨its, r, ⟨o, e, _, n, d⟩, _⟩ := I.tuple h
  obtain ⟨its', r', ⟨o', e', _, n', d'⟩, _⟩ := I.tuple h'
  rw [e] at e'; cases e'
  rw [d] at d'
  injection d' with d1 _
  have : its = its' := by simpa using congrArg Array.toList d1
  subst this
  exact r.inj r'
end

/-! ### another wish about exceptions -/
abbrev Cx.wish (X : Cx) (E : Value → Shared → Prop) : Cx := { X with xe := E }
/-- no exception leaves -/
abbrev Cx.nox (X : Cx) : Cx := X.wish fun _ _ => False
theorem Cx.Ok.wish {X : Cx} (ok : X.Ok) (E : Value → Shared → Prop) : (X.wish E).Ok :=
  ⟨ok.mod, ok.kind, ok.glob, ok.blt, ok.above, ok.inj, ok.has, ok.cab, ok.hd, ok.frames, ok.stk, ok.exf, ok.bs, ok.bsz, ok.noex, ok.exfs, ok.funs, ok.frf⟩
theorem Cx.Ok.unwish {X : Cx} {E : Value → Shared → Prop} (ok : (X.wish E).Ok) : X.Ok :=
  ⟨ok.mod, ok.kind, ok.glob, ok.blt, ok.above, ok.inj, ok.has, ok.cab, ok.hd, ok.frames, ok.stk, ok.exf, ok.bs, ok.bsz, ok.noex, ok.exfs, ok.funs, ok.frf⟩
section
variable {X : Cx} {pins : List (Addr × Obj)} {σ : St} {H : Hp} {s : Shared} {E : Value → Shared → Prop}
theorem Inv.wish (I : Inv X pins σ H s) (E : Value → Shared → Prop) : Inv (X.wish E) pins σ H s := ⟨I.ok.wish E, I.os, I.bare, I.base, I.loc, I.cell, I.free, I.freeC, I.pin, I.hok, I.len⟩
theorem Inv.unwish (I : Inv (X.wish E) pins σ H s) : Inv X pins σ H s := ⟨I.ok.unwish, I.os, I.bare, I.base, I.loc, I.cell, I.free, I.freeC, I.pin, I.hok, I.len⟩
theorem SP.unwish {D : Ends} {f : Flow} {s' : Shared} (h : SP (X.wish E) pins D f s') : SP X pins D f s' := by
  cases f with
  | next => obtain ⟨σ', H', I, q⟩ := h; exact ⟨σ', H', I.unwish, q⟩
  | brk => obtain ⟨σ', H', I, q⟩ := h; exact ⟨σ', H', I.unwish, q⟩
  | cont => obtain ⟨σ', H', I, q⟩ := h; exact ⟨σ', H', I.unwish, q⟩
  | ret u => obtain ⟨v, σ', H', I, r, q⟩ := h; exact ⟨v, σ', H', I.unwish, r, q⟩
theorem PSs.nox {st : List Stmt} {t : TS} (h : PSs X.nox st t) : PSs X st t := fun pins s σ H D I hw =>
  wpAny_mono (h pins s σ H D (I.wish _) hw) (fun _ _ q => q.unwish) fun _ _ z => False.elim z
end

/-! ### blocks and small statements -/
section
variable {X : Cx} {st : Stmt} {rest : List Stmt} {t u : TS} {e : Expr} {te : TE} {pos : Pos}
def tNext : TS := fun D σ H => D.nx σ H
def tSeq (t u : TS) : TS := fun D σ H => t { D with nx := u D } σ H
theorem pss_nil : PSs X [] tNext := fun _ _ σ H _ I h => wpAny_execs_nil ⟨σ, H, I, h⟩
theorem pss_cons (h1 : PS X st t) (h2 : PSs X rest u) : PSs X (st :: rest) (tSeq t u) := by
  intro pins s σ H D I h
  refine wpAny_execs_cons (thn (h1 pins s σ H { D with nx := u D } I h) fun f s1 q => ?_)
  cases f with
  | next =>
    obtain ⟨σ', H', I', q⟩ := q
    exact h2 pins s1 σ' H' D I' q
  | ret v => exact q
  | brk => exact q
  | cont => exact q
theorem pss_one (h1 : PS X st t) : PSs X [st] t := by
  intro pins s σ H D I h
  refine wpAny_execs_cons (thn (h1 pins s σ H D I h) fun f s1 q => ?_)
  cases f with
  | next => exact wpAny_execs_nil q
  | ret v => exact q
  | brk => exact q
  | cont => exact q
def tBreak : TS := fun D σ H => D.bk σ H
def tCont : TS := fun D σ H => D.ct σ H
/-- in a def's body nothing is shown -/
theorem Inv.quiet {pins : List (Addr × Obj)} {σ : St} {H : Hp} {s : Shared} (I : Inv X pins σ H s) : interactive X.env = false := by simp [interactive, I.ok.kind]
/-- an expression whose value is dropped -/
def tDrop (te : TE) : TS := fun D σ H => te σ H fun _ H1 => D.nx σ H1
theorem ps_expr (he : PE X e te) (hs : swapsWith e none pos.line X.env = pure false := by rfl) : PS X (.Expr e pos) (tDrop te) := by
  intro pins s σ H D I h
  exact wpAny_Expr_any (thn (he pins s σ H _ I h) fun v s1 ⟨x, H1, I1, r1, q1⟩ => ⟨σ, H1, I1, q1⟩) I.quiet hs
def tRet (te : TE) : TS := fun D σ H => te σ H D.rt
theorem ps_ret (he : PE X e te) : PS X (.Return (some e) pos) (tRet te) := by
  intro pins s σ H D I h
  exact wpAny_Return_some (thn (he pins s σ H _ I h) fun v s1 ⟨x, H1, I1, r1, q1⟩ => ⟨x, σ, H1, I1, r1, q1⟩)
def tRetN : TS := fun D _ H => D.rt .non H
def tIfS (c : TT) (t u : TS) : TS := fun D σ H => c σ H fun b H1 => if b = true then t D σ H1 else u D σ H1
theorem ps_if {c : Expr} {a b : List Stmt} {tc : TT} (hc : PT X c tc) (ha : PSs X a t) (hb : PSs X b u) : PS X (.If c a b pos) (tIfS tc t u) := by
  intro pins s σ H D I h
  refine wpAny_If (thn (hc pins s σ H _ I h) fun d s1 ⟨H1, I1, q1⟩ => ?_)
  cases d with
  | true => exact ha pins s1 σ H1 D I1 q1
  | false => exact hb pins s1 σ H1 D I1 q1
/-- code that the proof never comes to -/
def tNever : TS := fun _ _ _ => False
end

/-! ### targets -/
abbrev TG := V → St → Hp → (St → Hp → Prop) → Prop
abbrev TGs := List V → St → Hp → (St → Hp → Prop) → Prop
def PG (X : Cx) (target : Expr) (t : TG) : Prop :=
  ∀ (pins : List (Addr × Obj)) (s : Shared) (σ : St) (H : Hp) (v : V) (u : Value) (Q : St → Hp → Prop), Inv X pins σ H s → RelV v u → t v σ H Q →
    wpAny (model X.prog X.w) X.A (assign target X.env u) (fun _ s' => ∃ σ' H', Inv X pins σ' H' s' ∧ Q σ' H') X.xe s
/-- several targets, one after another -/
def PGs (X : Cx) (ts : List Expr) (t : TGs) : Prop :=
  ∀ (pins : List (Addr × Obj)) (s : Shared) (σ : St) (H : Hp) (vs : List V) (us : List Value) (Q : St → Hp → Prop), Inv X pins σ H s → Vals vs us → t vs σ H Q →
    wpAny (model X.prog X.w) X.A (assignInOrder ((assignEach ts X.env).map (·.2)) us) (fun _ s' => ∃ σ' H', Inv X pins σ' H' s' ∧ Q σ' H') X.xe s
/-- o[i] = v, by values -/
abbrev TSet := V → V → V → Hp → (Hp → Prop) → Prop
def PSet (X : Cx) (t : TSet) : Prop :=
  ∀ (pins : List (Addr × Obj)) (s : Shared) (σ : St) (H : Hp) (o i v : V) (ov iv u : Value) (Q : Hp → Prop), Inv X pins σ H s → RelV o ov → RelV i iv → RelV v u → t o i v H Q →
    wpAny (model X.prog X.w) X.A (setItem ov iv u) (fun _ s' => ∃ H', Inv X pins σ H' s' ∧ Q H') X.xe s
/-- a op= b, by values -/
abbrev TIp := V → V → Hp → VK → Prop
def PIp (X : Cx) (op : Operator) (t : TIp) : Prop :=
  ∀ (pins : List (Addr × Obj)) (s : Shared) (σ : St) (H : Hp) (x y : V) (v u : Value) (Q : VK), Inv X pins σ H s → RelV x v → RelV y u → t x y H Q →
    wpAny (model X.prog X.w) X.A (inplaceOp op v u) (EP X pins σ Q) X.xe s
section
variable {X : Cx} {pos : Pos}
def gName (i : Nat) : TG := fun v σ H Q => Q (σ.set i (some v)) H
theorem pg_name {i : Nat} {x : Str} (hN : X.N.Nodup) (hi : X.N[i]? = some x) (hx : Loc X.env.scope x) (hf : X.fn x = true ∨ X.env.scope.names.lookup x = some .local := by first | exact .inl rfl | exact .inr rfl | assumption) : PG X (.Name x pos) (gName i) := by
  intro pins s σ H v u Q I r h
  exact wpAny_assign_Name (store_ok I hN hi hx r (fun s' I' => ⟨_, H, I', h⟩) hf)
def gNil : TGs := fun vs σ H Q => vs = [] ∧ Q σ H
def gCons (t : TG) (u : TGs) : TGs := fun vs σ H Q => ∃ v r, vs = v :: r ∧ t v σ H fun σ' H' => u r σ' H' Q
theorem pgs_nil : PGs X [] gNil := by
  intro pins s σ H vs us Q I r h
  obtain ⟨e, h⟩ := h
  subst e
  cases r
  exact assignInOrder_nil ⟨σ, H, I, h⟩
theorem pgs_cons {e : Expr} {es : List Expr} {t : TG} {u : TGs} (h1 : PG X e t) (h2 : PGs X es u)
    (hs : (assignEach (e :: es) X.env).map (·.2) = assign e X.env :: (assignEach es X.env).map (·.2) := by rfl) : PGs X (e :: es) (gCons t u) := by
  intro pins s σ H vs us Q I r h
  obtain ⟨v, vr, e1, h⟩ := h
  subst e1
  cases r with
  | cons r rr =>
    rw [hs]
    refine assignInOrder_cons (thn (h1 pins s σ H _ _ _ I r h) fun _ s1 ⟨σ1, H1, I1, q1⟩ => ?_)
    exact h2 pins s1 σ1 H1 _ _ Q I1 rr q1
/-- (a, b, ..) = a tuple of that length -/
def gTup (K : PySem.W.Frag) (n : Nat) (t : TGs) : TG := fun v σ H Q => ∃ a xs, v = .ref a ∧ SqT K H a xs ∧ xs.length = n ∧ t xs σ H Q
theorem pg_tup {es : List Expr} {k : Nat} {t : TGs} {n : Nat} (hc : X.calm = true) (h : PGs X es t)
    (hn : (assignEach es X.env).length = n := by rfl) (hst : (assignEach es X.env).findIdx? (·.1) = none := by rfl) : PG X (.Tuple es k pos) (gTup X.K n t) := by
  intro pins s σ H v u Q I r hw
  obtain ⟨a, xs, e1, hq, hl, hw⟩ := hw
  subst e1
  cases r
  obtain ⟨its, rv, ht, hz⟩ := I.tuple hq
  refine assign_Tuple_tuple (I.ok.hd hc) ht (by simp [hn, ← hl, rv.length]) hst fun h' hx => ?_
  have I1 : Inv X pins σ H { s with heap := h' } := I.kept (t' := s.toks) fun b o e => hx b o (Nat.ne_of_lt (Heap.lt_size e)) e
  exact h pins _ σ H xs _ Q I1 (by simpa using rv) hw
/-- o[i] = .. -/
def gSub (to ti : TE) (t : TSet) : TG := fun v σ H Q => to σ H fun o H1 => ti σ H1 fun i H2 => t o i v H2 fun H3 => Q σ H3
/-- target = value -/
def tAsg (te : TE) (g : TG) : TS := fun D σ H => te σ H fun x H1 => g x σ H1 D.nx
theorem ps_asg {tg e : Expr} {te : TE} {g : TG} (he : PE X e te) (hg : PG X tg g) (hs : swapsWithSole [tg] e pos.line X.env = pure false := by rfl) (hw : swappedStores [tg] e X.env = pure none := by rfl)
    (h1 : (assignEach [tg] X.env).map (·.2) = [assign tg X.env] := by rfl) : PS X (.Assign [tg] e pos) (tAsg te g) := by
  intro pins s σ H D I h
  refine wpAny_Assign_stores (thn (he pins s σ H _ I h) fun v s1 ⟨x, H1, I1, r1, q1⟩ => ?_) hs hw
  rw [h1]
  exact thn (hg pins s1 σ H1 x v _ I1 r1 q1) fun _ s2 q => q
/-- name = value -/
theorem ps_set {i : Nat} {x : Str} {e : Expr} {te : TE} {pos' : Pos} (hN : X.N.Nodup) (hi : X.N[i]? = some x) (hx : Loc X.env.scope x) (he : PE X e te) (hs : swapsWith e (some (.Name x pos')) pos.line X.env = pure false := by rfl) (hf : X.fn x = true ∨ X.env.scope.names.lookup x = some .local := by first | exact .inl rfl | exact .inr rfl | assumption) :
    PS X (.Assign [.Name x pos'] e pos) (tAsg te (gName i)) := by
  intro pins s σ H D I h
  refine wpAny_Assign_Name (thn (he pins s σ H _ I h) fun v s1 ⟨y, H1, I1, r1, q1⟩ => ?_) hs
  exact store_ok I1 hN hi hx r1 (fun s2 I2 => ⟨_, H1, I2, q1⟩) hf
/-- a, b = x, y with plain local names: stored from the right; the pair itself is not tracked (the opening rows as in PyProof/Rows/TupAssign.lean:23) -/
def tPar (i j : Nat) (ta : TA) : TS := fun D σ H => ta σ H fun vs H1 => ∃ v w, vs = [v, w] ∧ D.nx ((σ.set i (some v)).set j (some w)) H1
theorem ps_par {i j : Nat} {x y : Str} {a b : Expr} {ta : TA} {px py pt : Pos} {kt k2 pt2} (hc : X.calm = true) (hN : X.N.Nodup) (hi : X.N[i]? = some x) (hj : X.N[j]? = some y) (hij : i ≠ j)
    (hx : X.env.scope.names.lookup x = some .local) (hy : X.env.scope.names.lookup y = some .local) (ha : PA X [a, b] ta)
    (hw : swappedStores [.Tuple [.Name x px, .Name y py] kt pt] (.Tuple [a, b] k2 pt2) X.env = pure (some [x, y]))
    (hs : swapsWithSole [.Tuple [.Name x px, .Name y py] kt pt] (.Tuple [a, b] k2 pt2) pos.line X.env = pure false := by rfl) :
    PS X (.Assign [.Tuple [.Name x px, .Name y py] kt pt] (.Tuple [a, b] k2 pt2) pos) (tPar i j ta) := by
  intro pins s σ H D I h
  rw [exec_Assign_arm]
  refine wpAny_bind (wpAny_standAt ?_)
  rw [hs]
  refine wpAny_bind (wpAny_pure ?_)
  rw [if_neg (by decide)]
  refine wpAny_bind (Tuple_ (thn (ha _ pins s σ H _ I h) fun us s1 ⟨vs, H1, I1, r1, q1⟩ => ?_))
  obtain ⟨v, w, e1, q1⟩ := q1
  subst e1
  obtain ⟨u1, u2, rfl, rv, rw'⟩ : ∃ u1 u2, us = [u1, u2] ∧ RelV v u1 ∧ RelV w u2 := by
    cases r1 with
    | cons p q =>
      cases q with
      | cons p' q' =>
        cases q'
        exact ⟨_, _, rfl, p, p'⟩
  refine wpAny_newObj_type ?_ (by show 2 ≤ sizeLine; decide)
  have I2 : Inv X pins σ H1 { s1 with heap := s1.heap.push { cls := .type "tuple", data := .seq [u1, u2].toArray } } := I1.kept (t' := s1.toks) fun b o e => Heap.get?_push_of_some _ e
  rw [hw]
  refine wpAny_bind (wpAny_pure ?_)
  show wpAny (model X.prog X.w) X.A (do rule "assign.swapped-stores"; let items ← unpackItems (.ref s1.heap.objs.size) 2 none; assignInOrder [fun v => bindName X.env y v, fun v => bindName X.env x v] items.reverse; pure Flow.next) _ _ _
  refine wpAny_bind (wpAny_rule (wpAny_bind (unpackItems_tuple (items := #[u1, u2]) (I.ok.hd hc) (IsTup.new s1.heap _) fun h' hx' => ?_)))
  have I3 := I2.kept (h' := h') (t' := s1.toks) fun b o e => hx' b o (Nat.ne_of_lt (Heap.lt_size e)) e
  show wpAny _ _ (assignInOrder [fun v => bindName X.env y v, fun v => bindName X.env x v] [u2, u1] >>= fun _ => pure Flow.next) _ _ _
  refine wpAny_bind (assignInOrder_cons (wpAny_bindName (store_ok I3 hN hj (.inl hy) rw' (fun s2 I4 => ?_) (.inr hy))))
  refine assignInOrder_cons (wpAny_bindName (store_ok I4 hN hi (.inl hx) rv (fun s3 I5 => assignInOrder_nil (wpAny_pure ?_)) (.inr hx)))
  rw [List.set_comm _ _ (Ne.symm hij)] at I5
  exact ⟨_, H1, I5, q1⟩
/-- name op= e -/
def tAug (i : Nat) (te : TE) (ti : TIp) : TS := fun D σ H => ∃ x, σ[i]? = some (some x) ∧ te σ H fun y H1 => ti x y H1 fun z H2 => D.nx (σ.set i (some z)) H2
/-- o[i] op= e -/
def tAugS (to ti te : TE) (tget : V → V → Hp → VK → Prop) (tip : TIp) (tset : TSet) : TS := fun D σ H => to σ H fun o H1 => ti σ H1 fun i H2 => tget o i H2 fun x H3 => te σ H3 fun y H4 => tip x y H4 fun z H5 => tset o i z H5 fun H6 => D.nx σ H6
/-- o[i], by values -/
def PGet (X : Cx) (t : V → V → Hp → VK → Prop) : Prop :=
  ∀ (pins : List (Addr × Obj)) (s : Shared) (σ : St) (H : Hp) (o i : V) (ov iv : Value) (Q : VK), Inv X pins σ H s → RelV o ov → RelV i iv → t o i H Q →
    wpAny (model X.prog X.w) X.A (getItem ov iv) (EP X pins σ Q) X.xe s
/-- ints -/
def ipI (f : Int → Int → Int) : TIp := fun x y H Q => ∃ i j, x = .int i ∧ y = .int j ∧ Q (.int (f i j)) H
end

/-! ### while -/
section
variable {X : Cx} {pos : Pos}
/-- the invariant W with its measure -/
def tWhile (c : TT) (tb : TS) : TS := fun D σ H => ∃ W : Nat → St → Hp → Prop, (∃ m, W m σ H) ∧ ∀ m σ H, W m σ H →
  c σ H fun b H1 => if b = true then ∃ N : St → Hp → Prop, (∀ σ' H', N σ' H' → ∃ m', m' < m ∧ W m' σ' H') ∧ tb { D with nx := N, ct := N, bk := D.nx } σ H1 else D.nx σ H1
theorem ps_while {c : Expr} {body : List Stmt} {tc : TT} {tb : TS} (hp : PassesOwn (model X.prog X.w) X.A X.env X.xe) (hc : PT X c tc) (hb : PSs X body tb) : PS X (.While c body [] pos) (tWhile tc tb) := by
  intro pins s σ H D I h
  obtain ⟨W, ⟨m0, w0⟩, turn⟩ := h
  refine wpAny_While (codeAny_whileLoop (fun n s' => ∃ σ' H', Inv X pins σ' H' s' ∧ W n σ' H') ?_ m0 ⟨σ, H, I, w0⟩)
  rintro n s1 ⟨σ1, H1, I1, w1⟩
  refine wpAny_passesOwn hp (thn (hc pins s1 σ1 H1 _ I1 (turn n σ1 H1 w1)) fun b s2 ⟨H2, I2, q2⟩ => ?_)
  cases b with
  | true =>
    obtain ⟨N, hN, q2⟩ := q2
    rw [if_pos rfl]
    refine wpAny_passesOwn hp (thn (hb pins s2 σ1 H2 _ I2 q2) fun f s3 q3 => ?_)
    cases f with
    | next =>
      obtain ⟨σ3, H3, I3, n3⟩ := q3
      obtain ⟨m', hm, w3⟩ := hN σ3 H3 n3
      exact ⟨m', hm, σ3, H3, I3, w3⟩
    | cont =>
      obtain ⟨σ3, H3, I3, n3⟩ := q3
      obtain ⟨m', hm, w3⟩ := hN σ3 H3 n3
      exact ⟨m', hm, σ3, H3, I3, w3⟩
    | brk => exact q3
    | ret v => exact q3
  | false =>
    rw [if_neg Bool.false_ne_true]
    exact wpAny_execs_nil ⟨σ1, H2, I2, q2⟩
end

/-! ### what a loop or a comprehension walks -/
/-- at turn i: it yields x (the heap may grow), or it stops -/
structure It where
  go : Nat → Hp → Prop
  yld : Nat → Hp → V → Hp → Prop
  stop : Nat → Hp → Prop
/-- the iterator's own objects may turn: they are not the frame's, not pinned, younger than the entry (or a comprehension's own) -/
def FpOk (X : Cx) (pins : List (Addr × Obj)) (H : Hp) (b : Addr) : Prop :=
  H b = none ∧ b ≠ X.env.locals ∧ b ∉ X.fs ∧ (b ∈ X.ex ∨ X.s₀.heap.objs.size ≤ b) ∧ (∀ x c, X.env.cells.lookup x = some c → c ≠ b) ∧ ∀ p ∈ X.pn ++ pins, p.1 ≠ b
theorem Inv.fpOk {X : Cx} {pins : List (Addr × Obj)} {σ : St} {H H' : Hp} {s : Shared} {b : Addr} (I : Inv X pins σ H s) (hb : s.heap.objs.size ≤ b) (hn : H' b = none) : FpOk X pins H' b := by
  refine ⟨hn, Nat.ne_of_gt (Nat.lt_of_lt_of_le I.lt hb), I.nofs hb, .inr (Nat.le_trans I.sz hb), fun x c e z => ?_, fun p hp z => ?_⟩
  · obtain ⟨v, q⟩ := I.cell x c e
    exact absurd (Nat.lt_of_lt_of_le q.lt (by rw [z]; exact hb)) (Nat.lt_irrefl _)
  · exact absurd (Nat.lt_of_lt_of_le (Heap.lt_size (I.pin p hp).1) (by rw [z]; exact hb)) (Nat.lt_irrefl _)
structure Turn (P : Program) (w : World) (K : PySem.W.Frag) (tg : Expr) (J : It) (fp : List Addr) (it : Addr) (tn : Nat → Heap → Prop) : Prop where
  mem : it ∈ fp
  obj : ∀ i h, tn i h → ∀ b ∈ fp, ∃ o, h.get? b = some o ∧ ∀ v, o.data ≠ .cell v
  keep : ∀ i h h', tn i h → (∀ b ∈ fp, ∀ o, h.get? b = some o → h'.get? b = some o) → tn i h'
  item : ∀ (X : Cx), X.prog = P → X.w = w → X.K = K → X.calm = true → ∀ (i : Nat) (pins : List (Addr × Obj)) (s : Shared) (σ : St) (H : Hp) (E : Value → Shared → Prop), Inv X pins σ H s → (∀ b ∈ fp, FpOk X pins H b) → tn i s.heap → J.go i H →
    wpAny (model P w) X.A (pyNext (.ref it)) (fun r s1 => ∃ u, r = some u ∧
      wpAny (model P w) X.A (letOwnedTupleGo tg (.ref it) u) (fun _ s2 => ∃ x H', Inv X pins σ H' s2 ∧ RelV x u ∧ J.yld i H x H' ∧ tn (i + 1) s2.heap ∧ ∀ b ∈ fp, H' b = none) E s1) E s
  done : ∀ (X : Cx), X.prog = P → X.w = w → X.K = K → X.calm = true → ∀ (i : Nat) (pins : List (Addr × Obj)) (s : Shared) (σ : St) (H : Hp) (E : Value → Shared → Prop), Inv X pins σ H s → (∀ b ∈ fp, FpOk X pins H b) → tn i s.heap → J.stop i H →
    wpAny (model P w) X.A (pyNext (.ref it)) (fun r s1 => r = none ∧ Inv X pins σ H s1) E s
  self : ∀ (A : Around) (i : Nat) (s : Shared) (Q : Value → Shared → Prop) (E : Value → Shared → Prop), tn i s.heap → Q (.ref it) s → wpAny (model P w) A (pyIter (.ref it)) Q E s
abbrev TI := St → Hp → (It → Hp → Prop) → Prop
/-- an iterator has come -/
def PIE (X : Cx) (pins : List (Addr × Obj)) (σ : St) (tg : Expr) (R : It → Hp → Prop) (itv : Value) (s2 : Shared) : Prop :=
  ∃ (it : Addr) (fp : List Addr) (tn : Nat → Heap → Prop) (J : It) (H' : Hp), itv = .ref it ∧ Inv X pins σ H' s2 ∧ Turn X.prog X.w X.K tg J fp it tn ∧ tn 0 s2.heap ∧ (∀ b ∈ fp, FpOk X pins H' b) ∧ R J H'
def PI (X : Cx) (tg iter : Expr) (wi : TI) : Prop :=
  ∀ (pins : List (Addr × Obj)) (s : Shared) (σ : St) (H : Hp) (R : It → Hp → Prop), Inv X pins σ H s → wi σ H R →
    wpAny (model X.prog X.w) X.A (eval iter X.env) (fun v s1 => wpAny (model X.prog X.w) X.A (pyIter v) (PIE X pins σ tg R) X.xe s1) X.xe s

/-- the step ahead of the store is nothing for an iterator that keeps no tuple -/
theorem go_of {M : Model} {A : Around} {E : Value → Shared → Prop} {s : Shared} {tg : Expr} {it : Addr} {u : Value} {o : Obj} {n : String} {vs : Array Value} {Q : Unit → Shared → Prop} (ho : s.heap.get? it = some o) (hc : o.cls = .type n) (hd : o.data = .fields vs)
    (hn : ["enumerate", "zip", "dict_itemiterator", "dict_reverseitemiterator", "odict_iterator", "itertools.zip_longest", "itertools.pairwise"].contains n = false) (hQ : Q () s) : wpAny M A (letOwnedTupleGo tg (.ref it) u) Q E s := by
  unfold letOwnedTupleGo
  cases tg <;> first
    | exact wpAny_pure hQ
    | (cases u <;> first
        | exact wpAny_pure hQ
        | (refine wpAny_bind (wpAny_load ho ?_)
           rw [hc, hd]
           show wpAny M A (if (["enumerate", "zip", "dict_itemiterator", "dict_reverseitemiterator", "odict_iterator", "itertools.zip_longest", "itertools.pairwise"].contains n && vs[0]? == some (rawInt _)) = true then _ else _) Q E s
           rw [if_neg (by intro h; rw [hn, Bool.false_and] at h; cases h)]
           exact wpAny_pure hQ))

/-- the list at a, as it stands at each turn (a loop may append to it) -/
def Itl (K : PySem.W.Frag) (a : Addr) : It :=
  ⟨fun i H => ∃ xs x, SqL K H a xs ∧ xs[i]? = some x, fun i H x H' => H' = H ∧ ∀ xs, SqL K H a xs → xs[i]? = some x, fun i H => ∃ xs, SqL K H a xs ∧ xs.length ≤ i⟩
def Itt (K : PySem.W.Frag) (a : Addr) : It :=
  ⟨fun i H => ∃ xs x, SqT K H a xs ∧ xs[i]? = some x, fun i H x H' => H' = H ∧ ∀ xs, SqT K H a xs → xs[i]? = some x, fun i H => ∃ xs, SqT K H a xs ∧ xs.length ≤ i⟩
/-- lo, lo + 1, .. (n of them) -/
def Itr (lo : Int) (n : Nat) : It := ⟨fun i _ => i < n, fun i H x H' => H' = H ∧ x = .int (lo + i), fun i _ => n ≤ i⟩
theorem turn_list {P : Program} {w : World} {K : PySem.W.Frag} {tg : Expr} (a it : Addr) : Turn P w K tg (Itl K a) [it] it (fun i h => h.IsListIter it a i) where
  mem := by simp
  obj := fun i h st b hb => by
    have e : b = it := by simpa using hb
    subst e
    obtain ⟨o, e, c, d⟩ := st
    exact ⟨o, e, fun v z => by rw [d] at z; cases z⟩
  keep := fun i h h' st k => st.at fun o e => k it (by simp) o e
  item := by
    intro X hP hw hK hc i pins s σ H E I hf st hg
    subst hP hw hK
    obtain ⟨xs, x, hq, hx⟩ := hg
    obtain ⟨its, rv, p, hz⟩ := I.list hq
    obtain ⟨u, hu, ru⟩ := rv.get hx
    obtain ⟨f0, f1, f2, f3, f4, f5⟩ := hf it (by simp)
    refine wpAny_pyNext_list_item st p.isList (x := u) (by simpa using hu) fun h' st' sb => ?_
    have I1 : Inv X pins σ H { s with heap := h' } := I.turned (t' := s.toks) (fun b o hb e => (sb.2 b hb).trans e) f0 f1 f3 f4 f5
    obtain ⟨o, e, c, d⟩ := id st'
    exact ⟨u, rfl, go_of (s := { s with heap := h' }) e c d (by decide) ⟨x, H, I1, ru, ⟨rfl, fun ys hy => by rw [I.list_inj hy hq]; exact hx⟩, st', fun b hb => (hf b hb).1⟩⟩
  done := by
    intro X hP hw hK hc i pins s σ H E I hf st hg
    subst hP hw hK
    obtain ⟨xs, hq, hx⟩ := hg
    obtain ⟨its, rv, p, hz⟩ := I.list hq
    obtain ⟨f0, f1, f2, f3, f4, f5⟩ := hf it (by simp)
    have hl := rv.length
    exact wpAny_pyNext_list_end (I.ok.hd hc) st p.isList (by simp; omega) fun h' eb => ⟨rfl, I.turned (t' := s.toks) (fun b o hb e => eb b o hb e) f0 f1 f3 f4 f5⟩
  self := fun _ _ _ _ _ st h => wpAny_pyIter_listiter st h
theorem turn_tuple {P : Program} {w : World} {K : PySem.W.Frag} {tg : Expr} (a it : Addr) : Turn P w K tg (Itt K a) [it] it (fun i h => h.IsTupleIter it a i) where
  mem := by simp
  obj := fun i h st b hb => by
    have e : b = it := by simpa using hb
    subst e
    obtain ⟨o, e, c, d⟩ := st
    exact ⟨o, e, fun v z => by rw [d] at z; cases z⟩
  keep := fun i h h' st k => st.at fun o e => k it (by simp) o e
  item := by
    intro X hP hw hK hc i pins s σ H E I hf st hg
    subst hP hw hK
    obtain ⟨xs, x, hq, hx⟩ := hg
    obtain ⟨its, rv, p, hz⟩ := I.tuple hq
    obtain ⟨u, hu, ru⟩ := rv.get hx
    obtain ⟨f0, f1, f2, f3, f4, f5⟩ := hf it (by simp)
    refine wpAny_pyNext_tuple_item st (show s.heap.IsTuple a its.toArray from p) (x := u) (by simpa using hu) fun h' st' sb => ?_
    have I1 : Inv X pins σ H { s with heap := h' } := I.turned (t' := s.toks) (fun b o hb e => (sb.2 b hb).trans e) f0 f1 f3 f4 f5
    obtain ⟨o, e, c, d⟩ := id st'
    exact ⟨u, rfl, go_of (s := { s with heap := h' }) e c d (by decide) ⟨x, H, I1, ru, ⟨rfl, fun ys hy => by rw [I.tuple_inj hy hq]; exact hx⟩, st', fun b hb => (hf b hb).1⟩⟩
  done := by
    intro X hP hw hK hc i pins s σ H E I hf st hg
    subst hP hw hK
    obtain ⟨xs, hq, hx⟩ := hg
    obtain ⟨its, rv, p, hz⟩ := I.tuple hq
    obtain ⟨f0, f1, f2, f3, f4, f5⟩ := hf it (by simp)
    have hl := rv.length
    exact wpAny_pyNext_tuple_end (I.ok.hd hc) st (show s.heap.IsTuple a its.toArray from p) (by simp; omega) fun h' eb => ⟨rfl, I.turned (t' := s.toks) (fun b o hb e => eb b o hb e) f0 f1 f3 f4 f5⟩
  self := fun _ _ _ _ _ st h => wpAny_pyIter_tupleiter st h
theorem turn_range {P : Program} {w : World} {K : PySem.W.Frag} {tg : Expr} (it : Addr) (lo : Int) (n : Nat) : Turn P w K tg (Itr lo n) [it] it (fun i h => IsRangeIter h it (lo + (i : Nat) * 1) ((n : Int) - (i : Nat)) 1) where
  mem := by simp
  obj := fun i h st b hb => by
    have e : b = it := by simpa using hb
    subst e
    exact ⟨_, st, fun v z => by
      have z' : Data.fields _ = Data.cell v := z
      cases z'⟩
  keep := fun i h h' st k => k it (by simp) _ st
  item := by
    intro X hP hw hK hc i pins s σ H E I hf st hg
    subst hP hw hK
    obtain ⟨f0, f1, f2, f3, f4, f5⟩ := hf it (by simp)
    have W := Walks.range (prog := X.prog) (w := X.w) (I.ok.hd hc) it lo 1 n
    refine W.item i s _ _ hg st fun v h' tk hv st' kk => ?_
    obtain ⟨t, rfl⟩ := hv
    have I1 : Inv X pins σ H { s with heap := h', toks := tk } := I.turned (fun b o hb e => kk b o (by simpa using hb) e) f0 f1 f3 f4 f5
    refine ⟨_, rfl, go_of (s := { s with heap := h', toks := tk }) (n := "range_iterator") st' rfl rfl (by decide) ⟨.int (lo + i), H, I1, ⟨t, ?_⟩, ⟨rfl, rfl⟩, st', fun b hb => (hf b hb).1⟩⟩
    rw [Int.mul_one]
  done := by
    intro X hP hw hK hc i pins s σ H E I hf st hg
    subst hP hw hK
    obtain ⟨f0, f1, f2, f3, f4, f5⟩ := hf it (by simp)
    exact wpAny_pyNext_range_end (I.ok.hd hc) st (by have : n ≤ i := hg; omega) fun h' eb => ⟨rfl, I.turned (t' := s.toks) (fun b o hb e => eb b o hb e) f0 f1 f3 f4 f5⟩
  self := fun _ _ _ _ _ st h => wpAny_pyIter_rangeiter st h
end L2

namespace L2
open PySem PySem.Spec PyProof.Rows
section
variable {X : Cx} {tg : Expr}
def iList (K : PySem.W.Frag) (tl : TE) : TI := fun σ H R => tl σ H fun x H1 => ∃ a, x = .ref a ∧ (∃ xs, SqL K H1 a xs) ∧ R (Itl K a) H1
def iTup (K : PySem.W.Frag) (tl : TE) : TI := fun σ H R => tl σ H fun x H1 => ∃ a, x = .ref a ∧ (∃ xs, SqT K H1 a xs) ∧ R (Itt K a) H1
theorem pi_list {l : Expr} {tl : TE} (hl : PE X l tl) : PI X tg l (iList X.K tl) := by
  intro pins s σ H R I h
  refine thn (hl pins s σ H _ I h) fun v s1 ⟨x, H1, I1, r1, q1⟩ => ?_
  obtain ⟨a, e, ⟨xs, hq⟩, q⟩ := q1
  subst e
  cases r1
  obtain ⟨its, rv, p, hz⟩ := I1.list hq
  refine wpAny_pyIter_list p.isList ?_
  refine ⟨s1.heap.objs.size, [s1.heap.objs.size], _, _, H1, rfl, I1.kept (t' := s1.toks) fun b o e => Heap.get?_push_of_some _ e, turn_list a _, ⟨_, Heap.get?_push_size _ rfl, rfl, rfl⟩, fun b hb => ?_, q⟩
  have e : b = s1.heap.objs.size := by simpa using hb
  subst e
  exact I1.fpOk (Nat.le_refl _) (I1.hok.fresh (Nat.le_refl _))
theorem pi_tup {l : Expr} {tl : TE} (hl : PE X l tl) : PI X tg l (iTup X.K tl) := by
  intro pins s σ H R I h
  refine thn (hl pins s σ H _ I h) fun v s1 ⟨x, H1, I1, r1, q1⟩ => ?_
  obtain ⟨a, e, ⟨xs, hq⟩, q⟩ := q1
  subst e
  cases r1
  obtain ⟨its, rv, p, hz⟩ := I1.tuple hq
  refine wpAny_pyIter_tuple (show s1.heap.IsTuple a its.toArray from p) ?_
  refine ⟨s1.heap.objs.size, [s1.heap.objs.size], _, _, H1, rfl, I1.kept (t' := s1.toks) fun b o e => Heap.get?_push_of_some _ e, turn_tuple a _, ⟨_, Heap.get?_push_size _ rfl, rfl, rfl⟩, fun b hb => ?_, q⟩
  have e : b = s1.heap.objs.size := by simpa using hb
  subst e
  exact I1.fpOk (Nat.le_refl _) (I1.hok.fresh (Nat.le_refl _))
/-- a range object just made, walked -/
theorem range_it {pins : List (Addr × Obj)} {σ : St} {H : Hp} {s : Shared} {R : It → Hp → Prop} {E : Value → Shared → Prop} {lo hi : Int} {t u v : Tok} {tk : Nat} (I : Inv X pins σ H s) (h1 : -(2 ^ 62) ≤ lo) (h2 : lo < 2 ^ 62) (h3 : -(2 ^ 62) ≤ hi) (h4 : hi < 2 ^ 62)
    (q : R (Itr lo (hi - lo).toNat) H) : wpAny (model X.prog X.w) X.A (pyIter (.ref s.heap.objs.size)) (PIE X pins σ tg R) E { s with heap := s.heap.push { cls := .type "range", data := .fields #[.int lo t, .int hi u, .int 1 v] }, toks := tk } := by
  refine wpAny_pyIter_range (IsRange.new ..) (small_one h1 h2 h3 h4) ?_
  have I1 : Inv X pins σ H { s with heap := s.heap.push { cls := .type "range", data := .fields #[.int lo t, .int hi u, .int 1 v] }, toks := tk } := I.kept fun b o e => Heap.get?_push_of_some _ e
  refine ⟨(s.heap.push { cls := .type "range", data := .fields #[.int lo t, .int hi u, .int 1 v] }).objs.size, [(s.heap.push { cls := .type "range", data := .fields #[.int lo t, .int hi u, .int 1 v] }).objs.size], _, _, H, rfl,
    I1.kept (t' := tk) fun b o e => Heap.get?_push_of_some _ e, turn_range _ lo (hi - lo).toNat, ?_, fun b hb => ?_, q⟩
  · have e1 : lo + ((0 : Nat) : Int) * 1 = lo := by simp
    have e2 : (((hi - lo).toNat : Nat) : Int) - ((0 : Nat) : Int) = Builtin.Range.rangeSize lo hi 1 := by rw [rangeSize_one]; split <;> omega
    show IsRangeIter _ _ (lo + ((0 : Nat) : Int) * 1) ((((hi - lo).toNat : Nat) : Int) - ((0 : Nat) : Int)) 1
    rw [e1, e2]
    exact Heap.get?_push_size _ rfl
  · have e : b = (s.heap.push { cls := .type "range", data := .fields #[.int lo t, .int hi u, .int 1 v] }).objs.size := by simpa using hb
    subst e
    exact I1.fpOk (Nat.le_refl _) (I1.hok.fresh (Nat.le_refl _))
def iRng1 (ta : TA) : TI := fun σ H R => ta σ H fun vs H1 => ∃ j : Int, vs = [.int j] ∧ -(2 ^ 62) ≤ j ∧ j < 2 ^ 62 ∧ R (Itr 0 j.toNat) H1
def iRng2 (ta : TA) : TI := fun σ H R => ta σ H fun vs H1 => ∃ i j : Int, vs = [.int i, .int j] ∧ (-(2 ^ 62) ≤ i ∧ i < 2 ^ 62 ∧ -(2 ^ 62) ≤ j ∧ j < 2 ^ 62) ∧ R (Itr i (j - i).toNat) H1
theorem pi_range1 {a : Expr} {ta : TA} {p pos : Pos} (hg : Gl X "range") (hm : X.mg "range" = none) (ha : PA X [a] ta) (hs : starEach [a] X.env = [(false, eval a X.env)] := by rfl) : PI X tg (.Call (.Name "range" p) [a] [] pos) (iRng1 ta) := by
  intro pins s σ H R I h
  refine Call_ (ld_blt I hg hm boot_range (PyProof.Rows.callWith_type1 (thn (ha pos pins s σ H _ I h) fun us s1 ⟨vs, H1, I1, r1, q1⟩ => ?_) hs rfl))
  obtain ⟨j, e, q1, q2, q⟩ := q1
  subst e
  cases r1 with
  | cons r rr =>
    cases rr
    obtain ⟨t, rfl⟩ := r
    exact call_range_1 (range_it I1 (by omega) (by omega) q1 q2 (by simpa using q))
theorem pi_range2 {a b : Expr} {ta : TA} {p pos : Pos} (hg : Gl X "range") (hm : X.mg "range" = none) (ha : PA X [a, b] ta) (hs : starEach [a, b] X.env = [(false, eval a X.env), (false, eval b X.env)] := by rfl) (hs2 : starEach [b] X.env = [(false, eval b X.env)] := by rfl) :
    PI X tg (.Call (.Name "range" p) [a, b] [] pos) (iRng2 ta) := by
  intro pins s σ H R I h
  refine Call_ (ld_blt I hg hm boot_range (PyProof.Rows.callWith_type1 (thn (ha pos pins s σ H _ I h) fun us s1 ⟨vs, H1, I1, r1, q1⟩ => ?_) (by rw [hs, hs2]) (by rw [hs2]; rfl)))
  obtain ⟨i, j, e, ⟨q1, q2, q3, q4⟩, q⟩ := q1
  subst e
  cases r1 with
  | cons r rr =>
    cases rr with
    | cons r' rr =>
      cases rr
      obtain ⟨t, rfl⟩ := r
      obtain ⟨t', rfl⟩ := r'
      exact call_range_2 (range_it I1 q1 q2 q3 q4 q)

/-! ### for -/
/-- W: the invariant by the turn and a measure; N: what the body is to reach -/
def tFor (wi : TI) (g : TG) (tb : TS) : TS := fun D σ H => wi σ H fun J H1 => ∃ W : Nat → Nat → St → Hp → Prop, (∃ m, W 0 m σ H1) ∧ ∀ i m σ H, W i m σ H →
  (J.stop i H ∧ D.nx σ H) ∨ (J.go i H ∧ ∃ N : St → Hp → Prop, (∀ σ' H', N σ' H' → ∃ m', m' < m ∧ W (i + 1) m' σ' H') ∧ ∀ x H', J.yld i H x H' → g x σ H' fun σ2 H2 => tb { D with nx := N, ct := N, bk := D.nx } σ2 H2)
/-- the records at fp as they stand -/
def pinsAt (fp : List Addr) (h : Heap) : List (Addr × Obj) := fp.filterMap fun b => (h.get? b).map fun o => (b, o)
theorem mem_pinsAt {fp : List Addr} {h : Heap} {b : Addr} {o : Obj} (hb : b ∈ fp) (e : h.get? b = some o) : (b, o) ∈ pinsAt fp h := List.mem_filterMap.mpr ⟨b, hb, by rw [e]; rfl⟩
theorem of_pinsAt {fp : List Addr} {h : Heap} {p : Addr × Obj} (hp : p ∈ pinsAt fp h) : p.1 ∈ fp ∧ h.get? p.1 = some p.2 := by
  obtain ⟨b, hb, e⟩ := List.mem_filterMap.mp hp
  cases q : h.get? b with
  | none => rw [q] at e; cases e
  | some o =>
    rw [q] at e
    have e' : (b, o) = p := Option.some.inj e
    subst e'
    exact ⟨hb, q⟩
theorem Inv.pinned {pins : List (Addr × Obj)} {σ : St} {H : Hp} {s : Shared} {fp : List Addr} (I : Inv X pins σ H s) (hf : ∀ b ∈ fp, FpOk X pins H b) (ho : ∀ b ∈ fp, ∃ o, s.heap.get? b = some o ∧ ∀ v, o.data ≠ .cell v) : Inv X (pins ++ pinsAt fp s.heap) σ H s :=
  I.pins_of fun p hp => (List.mem_append.mp hp).elim (fun z => I.pin p (List.mem_append_right _ z)) fun z => by
    obtain ⟨hb, e⟩ := of_pinsAt z
    obtain ⟨f0, f1, f2, _⟩ := hf p.1 hb
    obtain ⟨o, e', d⟩ := ho p.1 hb
    rw [e] at e'; cases e'
    exact ⟨e, f0, f1, f2, d⟩
theorem Inv.unpinned {pins pl : List (Addr × Obj)} {σ : St} {H : Hp} {s : Shared} (I : Inv X (pins ++ pl) σ H s) : Inv X pins σ H s := I.pins_of fun p hp => I.pin p (List.mem_append_right _ (List.mem_append_left _ hp))
theorem ps_for {iter : Expr} {body : List Stmt} {wi : TI} {g : TG} {tb : TS} {pos : Pos} (hp : PassesOwn (model X.prog X.w) X.A X.env X.xe) (hc : X.calm = true) (hi : PI X tg iter wi) (hg : PG X tg g) (hb : PSs X body tb)
    (hs : ∀ x, foldedSetIterable iter X.env x = pure x := by intro _; rfl) : PS X (.For tg iter body [] pos) (tFor wi g tb) := by
  intro pins s σ H D I h
  refine wpAny_For (thn (hi pins s σ H _ I h) fun v s1 h1 => thn h1 fun itv s2 h2 => ?_) hs
  obtain ⟨it, fp, tn, J, H2, e, I2, T, st2, f2, W, ⟨m0, w0⟩, turn⟩ := h2
  subst e
  -- what stays true of the iterator's objects through the loop
  have stat : ∀ {H' : Hp}, (∀ b ∈ fp, H' b = none) → ∀ b ∈ fp, FpOk X pins H' b := fun hn b hb => ⟨hn b hb, (f2 b hb).2⟩
  refine codeAny_forLoop_any (fun n s' => ∃ i σ' H', Inv X pins σ' H' s' ∧ tn i s'.heap ∧ (∀ b ∈ fp, H' b = none) ∧ W i n σ' H') ?_ m0 ⟨0, σ, H2, I2, st2, fun b hb => (f2 b hb).1, w0⟩
  rintro n s3 ⟨i, σ3, H3, I3, st3, fr3, w3⟩
  rcases turn i n σ3 H3 w3 with ⟨stop, qn⟩ | ⟨go, N, hN, step⟩
  · refine wpAny_passesOwn hp (thn (T.done X rfl rfl rfl hc i pins s3 σ3 H3 X.xe I3 (stat fr3) st3 stop) fun r s4 ⟨hr, I4⟩ => ?_)
    subst hr
    exact wpAny_execs_nil ⟨σ3, H3, I4, qn⟩
  · refine wpAny_passesOwn hp (thn (T.item X rfl rfl rfl hc i pins s3 σ3 H3 X.xe I3 (stat fr3) st3 go) fun r s4 ⟨u, hr, h4⟩ => ?_)
    subst hr
    refine wpAny_passesOwn hp (thn h4 fun _ s5 ⟨x, H5, I5, r5, y5, st5, fr5⟩ => ?_)
    have I5' := I5.pinned (stat fr5) (T.obj _ _ st5)
    refine wpAny_passesOwn hp (thn (hg _ s5 σ3 H5 x u _ I5' r5 (step x H5 y5)) fun _ s6 ⟨σ6, H6, I6, q6⟩ => ?_)
    refine wpAny_passesOwn hp (thn (hb _ s6 σ6 H6 _ I6 q6) fun f s7 q7 => ?_)
    have again : ∀ {σ7 : St} {H7 : Hp}, Inv X (pins ++ pinsAt fp s5.heap) σ7 H7 s7 → N σ7 H7 → ∃ m, m < n ∧ ∃ i σ' H', Inv X pins σ' H' s7 ∧ tn i s7.heap ∧ (∀ b ∈ fp, H' b = none) ∧ W i m σ' H' := fun {σ7 H7} I7 n7 => by
      obtain ⟨m', hm, w7⟩ := hN σ7 H7 n7
      refine ⟨m', hm, i + 1, σ7, H7, I7.unpinned, T.keep _ _ _ st5 fun b hb o e => (I7.pin (b, o) (List.mem_append_right _ (List.mem_append_right _ (mem_pinsAt hb e)))).1, fun b hb => ?_, w7⟩
      obtain ⟨o, e, d⟩ := T.obj _ _ st5 b hb
      exact (I7.pin (b, o) (List.mem_append_right _ (List.mem_append_right _ (mem_pinsAt hb e)))).2.1
    cases f with
    | next => obtain ⟨σ7, H7, I7, n7⟩ := q7; exact again I7 n7
    | cont => obtain ⟨σ7, H7, I7, n7⟩ := q7; exact again I7 n7
    | brk => obtain ⟨σ7, H7, I7, q7⟩ := q7; exact ⟨σ7, H7, I7.unpinned, q7⟩
    | ret v => obtain ⟨x7, σ7, H7, I7, r7, q7⟩ := q7; exact ⟨x7, σ7, H7, I7.unpinned, r7, q7⟩
end

/-! ### the forms one uses -/
/-- over a list that the body leaves as it is -/
theorem for_list {K : PySem.W.Frag} {a : Addr} {xs : List V} {g : TG} {tb : TS} {D : Ends} {σ : St} {H : Hp} (Pv : Nat → St → Hp → Prop) (h0 : Pv 0 σ H) (hl : ∀ i σ H, i ≤ xs.length → Pv i σ H → SqL K H a xs)
    (hs : ∀ i x σ H, xs[i]? = some x → Pv i σ H → g x σ H fun σ2 H2 => tb { D with nx := Pv (i + 1), ct := Pv (i + 1), bk := D.nx } σ2 H2) (hd : ∀ σ H, Pv xs.length σ H → D.nx σ H) :
    ∃ W : Nat → Nat → St → Hp → Prop, (∃ m, W 0 m σ H) ∧ ∀ i m σ H, W i m σ H →
      ((Itl K a).stop i H ∧ D.nx σ H) ∨ ((Itl K a).go i H ∧ ∃ N : St → Hp → Prop, (∀ σ' H', N σ' H' → ∃ m', m' < m ∧ W (i + 1) m' σ' H') ∧ ∀ x H', (Itl K a).yld i H x H' → g x σ H' fun σ2 H2 => tb { D with nx := N, ct := N, bk := D.nx } σ2 H2) := by
  refine ⟨fun i m σ H => m = xs.length - i ∧ i ≤ xs.length ∧ Pv i σ H, ⟨xs.length, by simp, Nat.zero_le _, h0⟩, ?_⟩
  rintro i m σ H ⟨rfl, hi, p⟩
  have q := hl i σ H hi p
  by_cases hlt : i < xs.length
  · refine .inr ⟨⟨xs, xs[i], q, by simp [hlt]⟩, Pv (i + 1), fun σ' H' p' => ⟨xs.length - (i + 1), by omega, rfl, hlt, p'⟩, fun x H' y => ?_⟩
    obtain ⟨e, y⟩ := y
    subst e
    exact hs i x σ _ (y xs q) p
  · have e : i = xs.length := by omega
    subst e
    exact .inl ⟨⟨xs, q, Nat.le_refl _⟩, hd σ H p⟩
theorem for_range {lo : Int} {n : Nat} {g : TG} {tb : TS} {D : Ends} {σ : St} {H : Hp} (Pv : Nat → St → Hp → Prop) (h0 : Pv 0 σ H)
    (hs : ∀ i σ H, i < n → Pv i σ H → g (.int (lo + i)) σ H fun σ2 H2 => tb { D with nx := Pv (i + 1), ct := Pv (i + 1), bk := D.nx } σ2 H2) (hd : ∀ σ H, Pv n σ H → D.nx σ H) :
    ∃ W : Nat → Nat → St → Hp → Prop, (∃ m, W 0 m σ H) ∧ ∀ i m σ H, W i m σ H →
      ((Itr lo n).stop i H ∧ D.nx σ H) ∨ ((Itr lo n).go i H ∧ ∃ N : St → Hp → Prop, (∀ σ' H', N σ' H' → ∃ m', m' < m ∧ W (i + 1) m' σ' H') ∧ ∀ x H', (Itr lo n).yld i H x H' → g x σ H' fun σ2 H2 => tb { D with nx := N, ct := N, bk := D.nx } σ2 H2) := by
  refine ⟨fun i m σ H => m = n - i ∧ i ≤ n ∧ Pv i σ H, ⟨n, by simp, Nat.zero_le _, h0⟩, ?_⟩
  rintro i m σ H ⟨rfl, hi, p⟩
  by_cases hlt : i < n
  · refine .inr ⟨hlt, Pv (i + 1), fun σ' H' p' => ⟨n - (i + 1), by omega, rfl, hlt, p'⟩, fun x H' y => ?_⟩
    obtain ⟨e, y⟩ := y
    subst e y
    exact hs i σ _ hlt p
  · have e : i = n := by omega
    subst e
    exact .inl ⟨Nat.le_refl _, hd σ H p⟩
end L2

namespace L2
open PySem PySem.Spec PyProof.Rows

abbrev R2 := V → V → Hp → VK → Prop
/-- a two-place operation on values: f is binaryOp op, inplaceOp op or compareOp op -/
def OpR (X : Cx) (f : Value → Value → Sem Value) (r : R2) : Prop :=
  ∀ (pins : List (Addr × Obj)) (s : Shared) (σ : St) (H : Hp) (x y : V) (v u : Value) (Q : VK), Inv X pins σ H s → RelV x v → RelV y u → r x y H Q →
    wpAny (model X.prog X.w) X.A (f v u) (EP X pins σ Q) X.xe s
/-- a one-place operation -/
def UnR (X : Cx) (f : Value → Sem Value) (r : V → Hp → VK → Prop) : Prop :=
  ∀ (pins : List (Addr × Obj)) (s : Shared) (σ : St) (H : Hp) (x : V) (v : Value) (Q : VK), Inv X pins σ H s → RelV x v → r x H Q →
    wpAny (model X.prog X.w) X.A (f v) (EP X pins σ Q) X.xe s
/-- a call of a value that is known (a builtin, a type) with values -/
def CallR (X : Cx) (f : Value) (r : List V → Hp → VK → Prop) : Prop :=
  ∀ (pins : List (Addr × Obj)) (s : Shared) (σ : St) (H : Hp) (xs : List V) (us : List Value) (Q : VK), Inv X pins σ H s → Vals xs us → r xs H Q →
    wpAny (model X.prog X.w) X.A (call f us) (EP X pins σ Q) X.xe s
/-- a value's truth -/
def TruR (X : Cx) (r : V → Hp → (Bool → Hp → Prop) → Prop) : Prop :=
  ∀ (pins : List (Addr × Obj)) (s : Shared) (σ : St) (H : Hp) (x : V) (v : Value) (Q : Bool → Hp → Prop), Inv X pins σ H s → RelV x v → r x H Q →
    wpAny (model X.prog X.w) X.A (truthy v) (TP X pins σ Q) X.xe s

def tOp (r : R2) (ta tb : TE) : TE := fun σ H Q => ta σ H fun x H1 => tb σ H1 fun y H2 => r x y H2 Q
def tUn (r : V → Hp → VK → Prop) (ta : TE) : TE := fun σ H Q => ta σ H fun x H1 => r x H1 Q
/-- ints in, under C, and a value out -/
def rI (C : Int → Int → Prop) (g : Int → Int → V) : R2 := fun x y H Q => ∃ i j, x = .int i ∧ y = .int j ∧ C i j ∧ Q (g i j) H
def rI0 (g : Int → Int → V) : R2 := fun x y H Q => ∃ i j, x = .int i ∧ y = .int j ∧ Q (g i j) H
def rU (g : Int → V) : V → Hp → VK → Prop := fun x H Q => ∃ i, x = .int i ∧ Q (g i) H

section
variable {X : Cx} {a b c : Expr} {ta tb tc : TE} {pos : Pos}

theorem binT (ha : PE X a ta) (hb : PE X b tb) {pins : List (Addr × Obj)} {s : Shared} {σ : St} {H : Hp} {R : V → V → Hp → Prop} (I : Inv X pins σ H s)
    (h : ta σ H fun x H1 => tb σ H1 fun y H2 => R x y H2) {Q : Value → Shared → Prop} {f : Value → Value → Sem Value}
    (hf : ∀ v u s2 x y H2, Inv X pins σ H2 s2 → RelV x v → RelV y u → R x y H2 → wpAny (model X.prog X.w) X.A (f v u) Q X.xe s2) :
    wpAny (model X.prog X.w) X.A (eval a X.env) (fun v s₁ => wpAny (model X.prog X.w) X.A (eval b X.env) (fun u s₂ => wpAny (model X.prog X.w) X.A (f v u) Q X.xe s₂) X.xe s₁) X.xe s := by
  refine thn (ha pins s σ H _ I h) fun v s1 ⟨x, H1, I1, r1, q1⟩ => ?_
  refine thn (hb pins s1 σ H1 _ I1 q1) fun u s2 ⟨y, H2, I2, r2, q2⟩ => ?_
  exact hf v u s2 x y H2 I2 r1 r2 q2

theorem pe_op {op : Operator} {r : R2} (ho : OpR X (binaryOp op) r) (ha : PE X a ta) (hb : PE X b tb) : PE X (.BinOp a op b pos) (tOp r ta tb) := by
  intro pins s σ H Q I h
  exact wpAny_BinOp (binT ha hb I h fun v u s2 x y H2 I2 rx ry q => ho pins s2 σ H2 x y v u Q I2 rx ry q)
theorem pe_un {op : UnaryOp} {r : V → Hp → VK → Prop} (ho : UnR X (unaryOp op) r) (ha : PE X a ta) : PE X (.UnaryOp op a pos) (tUn r ta) := by
  intro pins s σ H Q I h
  exact UnaryOp_ (thn (ha pins s σ H _ I h) fun v s1 ⟨x, H1, I1, r1, q1⟩ => ho pins s1 σ H1 x v Q I1 r1 q1)
/-! ### ints -/
theorem opI {f : Value → Value → Sem Value} {C : Int → Int → Prop} {g : Int → Int → Int}
    (rule : ∀ (i j : Int) (t u : Tok) (s : Shared) (Q : Value → Shared → Prop) (E : Value → Shared → Prop), C i j → Q (.int (g i j) s.toks) { s with toks := s.toks + 1 } → wpAny (model X.prog X.w) X.A (f (.int i t) (.int j u)) Q E s) :
    OpR X f (rI C fun i j => .int (g i j)) := by
  intro pins s σ H x y v u Q I rx ry h
  obtain ⟨i, j, rfl, rfl, hc, q⟩ := h
  obtain ⟨t, rfl⟩ := rx
  obtain ⟨t', rfl⟩ := ry
  exact rule i j t t' s _ _ hc ⟨.int (g i j), H, I.tok _, ⟨_, rfl⟩, q⟩
theorem opI0 {f : Value → Value → Sem Value} {g : Int → Int → Int}
    (rule : ∀ (i j : Int) (t u : Tok) (s : Shared) (Q : Value → Shared → Prop) (E : Value → Shared → Prop), Q (.int (g i j) s.toks) { s with toks := s.toks + 1 } → wpAny (model X.prog X.w) X.A (f (.int i t) (.int j u)) Q E s) :
    OpR X f (rI0 fun i j => .int (g i j)) := by
  intro pins s σ H x y v u Q I rx ry h
  obtain ⟨i, j, rfl, rfl, q⟩ := h
  obtain ⟨t, rfl⟩ := rx
  obtain ⟨t', rfl⟩ := ry
  exact rule i j t t' s _ _ ⟨.int (g i j), H, I.tok _, ⟨_, rfl⟩, q⟩
theorem opB0 {f : Value → Value → Sem Value} {g : Int → Int → Bool}
    (rule : ∀ (i j : Int) (t u : Tok) (s : Shared) (Q : Value → Shared → Prop) (E : Value → Shared → Prop), Q (.bool (g i j)) s → wpAny (model X.prog X.w) X.A (f (.int i t) (.int j u)) Q E s) :
    OpR X f (rI0 fun i j => .bl (g i j)) := by
  intro pins s σ H x y v u Q I rx ry h
  obtain ⟨i, j, rfl, rfl, q⟩ := h
  obtain ⟨t, rfl⟩ := rx
  obtain ⟨t', rfl⟩ := ry
  exact rule i j t t' s _ _ ⟨.bl (g i j), H, I, rfl, q⟩

def CDiv (i j : Int) : Prop := 0 < j ∧ j < 1073741824
def CDivN (i j : Int) : Prop := j ≠ 0 ∧ j.natAbs < 1073741824
def CPow (i j : Int) : Prop := 0 ≤ j ∧ j ≤ 1000000 ∧ i.natAbs < 2 ^ 64
def CMul (i j : Int) : Prop := (-(2 ^ 64) < i ∧ i < 2 ^ 64) ∨ (-(2 ^ 64) < j ∧ j < 2 ^ 64)
theorem CMul.ok {i j : Int} (h : CMul i j) : IntMulOk i j := by
  rcases h with ⟨h1, h2⟩ | ⟨h1, h2⟩
  · exact .of_left (intBits_le_64 h1 h2)
  · exact .of_right (intBits_le_64 h1 h2)
theorem op_add : OpR X (binaryOp .Add) (rI0 fun i j => .int (i + j)) := opI0 fun _ _ _ _ _ _ _ q => add_int q
theorem op_sub : OpR X (binaryOp .Sub) (rI0 fun i j => .int (i - j)) := opI0 fun _ _ _ _ _ _ _ q => sub_int q
theorem op_mul : OpR X (binaryOp .Mult) (rI CMul fun i j => .int (i * j)) := opI fun _ _ _ _ _ _ _ hc q => mul_int q hc.ok
/-- // by a positive divisor -/
theorem op_fdiv : OpR X (binaryOp .FloorDiv) (rI CDiv fun i j => .int (i / j)) := opI fun i j _ _ _ _ _ hc q => by
  have h1 : (0 : Int) < j := hc.1
  have h2 : j < 1073741824 := hc.2
  exact floordiv_int (by omega) (by rw [Int.fdiv_eq_ediv_of_nonneg i (by omega)]; exact q) (.inl (PyProof.noPylong_small (by omega)))
/-- % by a positive divisor of any size -/
theorem op_mod : OpR X (binaryOp .Mod) (rI (fun _ j => 0 < j) fun i j => .int (i % j)) := opI fun i j _ _ _ _ _ hc q => by
  have h1 : (0 : Int) < j := hc
  exact mod_int' (by omega) (by rw [Int.fmod_eq_emod_of_nonneg i (by omega)]; exact q)
theorem op_pow : OpR X (binaryOp .Pow) (rI CPow fun i j => .int (i ^ j.toNat)) := opI fun _ _ _ _ _ _ _ hc q => pow_int_small hc.1 hc.2.1 hc.2.2 q
theorem unI {f : Value → Sem Value} {g : Int → Int}
    (rule : ∀ (i : Int) (t : Tok) (s : Shared) (Q : Value → Shared → Prop) (E : Value → Shared → Prop), Q (.int (g i) s.toks) { s with toks := s.toks + 1 } → wpAny (model X.prog X.w) X.A (f (.int i t)) Q E s) :
    UnR X f (rU fun i => .int (g i)) := by
  intro pins s σ H x v Q I rx h
  obtain ⟨i, rfl, q⟩ := h
  obtain ⟨t, rfl⟩ := rx
  exact rule i t s _ _ ⟨.int (g i), H, I.tok _, ⟨_, rfl⟩, q⟩
theorem un_neg : UnR X (unaryOp .USub) (rU fun i => .int (-i)) := unI fun _ _ _ _ _ q => neg_int q
/-! ### bools among ints: n += (a < b) -/
end

/-! ### comparisons -/
/-- the scalars that == tells apart as data does -/
def scal : V → V → Bool
  | .non, .non => true | .non, .int _ => true | .int _, .non => true | .non, .bl _ => true | .bl _, .non => true | .non, .str _ => true | .str _, .non => true
  | .int _, .int _ => true | .bl _, .bl _ => true | .str _, .str _ => true | .byt _, .byt _ => true
  | .int _, .str _ => true | .str _, .int _ => true | .bl _, .str _ => true | .str _, .bl _ => true
  | _, _ => false
def rEq : R2 := fun x y H Q => scal x y = true ∧ Q (.bl (decide (x = y))) H
def rNe : R2 := fun x y H Q => scal x y = true ∧ Q (.bl (!decide (x = y))) H

theorem dec_int {i j : Int} : decide (V.int i = V.int j) = (i == j) := by
  rw [Bool.eq_iff_iff]
  simp
theorem dec_bl {i j : Bool} : decide (V.bl i = V.bl j) = (i == j) := by
  rw [Bool.eq_iff_iff]
  simp
theorem dec_str {i j : Str} : decide (V.str i = V.str j) = (i == j) := by
  rw [Bool.eq_iff_iff]
  simp
theorem dec_byt {i j : Array UInt8} : decide (V.byt i = V.byt j) = (i.toList == j.toList) := by
  rw [Bool.eq_iff_iff]
  cases i
  cases j
  simp

section
variable {X : Cx} {a b c : Expr} {ta tb tc : TE} {pos : Pos}
theorem fin_bl {pins : List (Addr × Obj)} {σ : St} {H : Hp} {s : Shared} {Q : VK} {k k' : Bool} (I : Inv X pins σ H s) (q : Q (.bl k) H) (e : k = k') : EP X pins σ Q (.bool k') s := by
  subst e
  exact ⟨.bl k, H, I, rfl, q⟩
theorem op_eq : OpR X (compareOp .Eq) rEq := by
  intro pins s σ H x y v u Q I rx ry h
  obtain ⟨hs, q⟩ := h
  cases x with
  | non =>
    cases rx
    cases y with
    | non => cases ry; exact PySem.EqNone.eq_none_none (fin_bl I q (by simp))
    | bl j => cases ry; exact PySem.EqNone.eq_none_bool (fin_bl I q (by simp))
    | int j => obtain ⟨t', rfl⟩ := ry; exact PySem.EqNone.eq_none_int (fin_bl I q (by simp))
    | str j => obtain ⟨t', rfl⟩ := ry; exact PySem.EqNone.eq_none_str (fin_bl I q (by simp))
    | _ => exact absurd (show false = true from hs) Bool.false_ne_true
  | bl i =>
    cases rx
    cases y with
    | non => cases ry; exact PySem.EqNone.eq_bool_none (fin_bl I q (by simp))
    | bl j => cases ry; exact eq_bool (fin_bl I q dec_bl)
    | str j => obtain ⟨t', rfl⟩ := ry; exact PySem.EqMixed.eq_bool_str (fin_bl I q (by simp))
    | _ => exact absurd (show false = true from hs) Bool.false_ne_true
  | int i =>
    obtain ⟨t, rfl⟩ := rx
    cases y with
    | non => cases ry; exact PySem.EqNone.eq_int_none (fin_bl I q (by simp))
    | int j => obtain ⟨t', rfl⟩ := ry; exact eq_int (fin_bl I q dec_int)
    | str j => obtain ⟨t', rfl⟩ := ry; exact PySem.EqMixed.eq_int_str (fin_bl I q (by simp))
    | _ => exact absurd (show false = true from hs) Bool.false_ne_true
  | str i =>
    obtain ⟨t, rfl⟩ := rx
    cases y with
    | non => cases ry; exact PySem.EqNone.eq_str_none (fin_bl I q (by simp))
    | bl j => cases ry; exact PySem.EqMixed.eq_str_bool (fin_bl I q (by simp))
    | int j => obtain ⟨t', rfl⟩ := ry; exact PySem.EqMixed.eq_str_int (fin_bl I q (by simp))
    | str j => obtain ⟨t', rfl⟩ := ry; exact eq_str (fin_bl I q dec_str)
    | _ => exact absurd (show false = true from hs) Bool.false_ne_true
  | byt i =>
    obtain ⟨t, rfl⟩ := rx
    cases y with
    | byt j => obtain ⟨t', rfl⟩ := ry; exact PySem.W.eq_bytes (fin_bl I q dec_byt)
    | _ => exact absurd (show false = true from hs) Bool.false_ne_true
  | _ => cases y <;> exact absurd (show false = true from hs) Bool.false_ne_true
theorem op_ne : OpR X (compareOp .NotEq) rNe := by
  intro pins s σ H x y v u Q I rx ry h
  obtain ⟨hs, q⟩ := h
  cases x with
  | non =>
    cases rx
    cases y with
    | non => cases ry; exact PySem.EqNone.ne_none_none (fin_bl I q (by simp))
    | bl j => cases ry; exact PySem.EqNone.ne_none_bool (fin_bl I q (by simp))
    | int j => obtain ⟨t', rfl⟩ := ry; exact PySem.EqNone.ne_none_int (fin_bl I q (by simp))
    | str j => obtain ⟨t', rfl⟩ := ry; exact PySem.EqNone.ne_none_str (fin_bl I q (by simp))
    | _ => exact absurd (show false = true from hs) Bool.false_ne_true
  | bl i =>
    cases rx
    cases y with
    | non => cases ry; exact PySem.EqNone.ne_bool_none (fin_bl I q (by simp))
    | bl j => cases ry; exact ne_bool (fin_bl I q (congrArg not dec_bl))
    | str j => obtain ⟨t', rfl⟩ := ry; exact PySem.EqMixed.ne_bool_str (fin_bl I q (by simp))
    | _ => exact absurd (show false = true from hs) Bool.false_ne_true
  | int i =>
    obtain ⟨t, rfl⟩ := rx
    cases y with
    | non => cases ry; exact PySem.EqNone.ne_int_none (fin_bl I q (by simp))
    | int j => obtain ⟨t', rfl⟩ := ry; exact ne_int (fin_bl I q (congrArg not dec_int))
    | str j => obtain ⟨t', rfl⟩ := ry; exact PySem.EqMixed.ne_int_str (fin_bl I q (by simp))
    | _ => exact absurd (show false = true from hs) Bool.false_ne_true
  | str i =>
    obtain ⟨t, rfl⟩ := rx
    cases y with
    | non => cases ry; exact PySem.EqNone.ne_str_none (fin_bl I q (by simp))
    | bl j => cases ry; exact PySem.EqMixed.ne_str_bool (fin_bl I q (by simp))
    | int j => obtain ⟨t', rfl⟩ := ry; exact PySem.EqMixed.ne_str_int (fin_bl I q (by simp))
    | str j => obtain ⟨t', rfl⟩ := ry; exact ne_str (fin_bl I q (congrArg not dec_str))
    | _ => exact absurd (show false = true from hs) Bool.false_ne_true
  | byt i =>
    obtain ⟨t, rfl⟩ := rx
    cases y with
    | byt j => obtain ⟨t', rfl⟩ := ry; exact PySem.W.ne_bytes (fin_bl I q (congrArg not dec_byt))
    | _ => exact absurd (show false = true from hs) Bool.false_ne_true
  | _ => cases y <;> exact absurd (show false = true from hs) Bool.false_ne_true

theorem op_lt : OpR X (compareOp .Lt) (rI0 fun i j => .bl (decide (i < j))) := opB0 fun _ _ _ _ _ _ _ q => lt_int q
theorem op_le : OpR X (compareOp .LtE) (rI0 fun i j => .bl (decide (i ≤ j))) := opB0 fun _ _ _ _ _ _ _ q => le_int q
theorem op_gt : OpR X (compareOp .Gt) (rI0 fun i j => .bl (decide (j < i))) := opB0 fun _ _ _ _ _ _ _ q => gt_int q
theorem op_ge : OpR X (compareOp .GtE) (rI0 fun i j => .bl (decide (j ≤ i))) := opB0 fun _ _ _ _ _ _ _ q => ge_int q
/-- is None, is not None: the right side a value none -/
theorem op_isN : OpR X (compareOp .Is) (fun x y H Q => y = .non ∧ Q (.bl (decide (x = .non))) H) := by
  intro pins s σ H x y v u Q I rx ry h
  obtain ⟨rfl, q⟩ := h
  cases ry
  refine is_none_gen (fin_bl I q ?_)
  cases x <;> first
    | (cases rx; rfl)
    | (obtain ⟨t, rfl⟩ := rx; rfl)
/-- is, is not of two objects that are tracked lists or instances -/
def isObj : HO → Bool
  | .lst _ => true
  | .ins _ _ _ => true
  | _ => false
theorem nomark (b : Expr) {op : CmpOp} (h : op ≠ .In := by decide) (h2 : op ≠ .NotIn := by decide) : behindInMarks op b = false := by
  have e1 : (op == CmpOp.In) = false := by cases op <;> first | rfl | exact absurd rfl h
  have e2 : (op == CmpOp.NotIn) = false := by cases op <;> first | rfl | exact absurd rfl h2
  cases b <;> simp [behindInMarks, e1, e2]
/-- a comparison as a value; hm: nomark b, or (for in, not in) by with_unfolding_all rfl -/
theorem pe_cmpR {op : CmpOp} {r : R2} (ho : OpR X (compareOp op) r) (ha : PE X a ta) (hb : PE X b tb) (hm : behindInMarks op b = false) : PE X (.Compare a [op] [b] pos) (tOp r ta tb) := by
  intro pins s σ H Q I h
  exact wpAny_Compare1 (binT ha hb I h fun v u s2 x y H2 I2 rx ry q => ho pins s2 σ H2 x y v u Q I2 rx ry q) hm
/-- a reading of a value as a test -/
def tTest (t : TE) : TT := fun σ H Q => t σ H fun x H' => ∃ k, x = .bl k ∧ Q k H'
theorem pt_cmpR {op : CmpOp} {r : R2} (ho : OpR X (compareOp op) r) (ha : PE X a ta) (hb : PE X b tb) (hm : behindInMarks op b = false) : PT X (.Compare a [op] [b] pos) (tTest (tOp r ta tb)) := by
  intro pins s σ H Q I h
  refine wpAny_isTrue_Compare1 (thn (ha pins s σ H _ I h) fun v s1 ⟨x, H1, I1, r1, q1⟩ => thn (hb pins s1 σ H1 _ I1 q1) fun u s2 ⟨y, H2, I2, r2, q2⟩ =>
    thn (ho pins s2 σ H2 x y v u _ I2 r1 r2 q2) fun c s3 ⟨z, H3, I3, r3, k, e, q3⟩ => ?_) hm
  subst e
  cases r3
  exact wpAny_truthy_bool ⟨H3, I3, q3⟩
/-- a op1 b op2 c -/
def tChain (r r' : R2) (ta tb tc : TE) : TE := fun σ H Q => ta σ H fun x H1 => tb σ H1 fun y H2 => r x y H2 fun z H3 => ∃ k, z = .bl k ∧
  (if k = true then tc σ H3 fun w' H4 => r' y w' H4 Q else Q (.bl false) H3)
theorem pe_chain {op op' : CmpOp} {r r' : R2} (ho : OpR X (compareOp op) r) (ho' : OpR X (compareOp op') r') (ha : PE X a ta) (hb : PE X b tb) (hc : PE X c tc)
    (hm : lastMarks [op, op'] [b, c] = false := by with_unfolding_all rfl) : PE X (.Compare a [op, op'] [b, c] pos) (tChain r r' ta tb tc) := by
  intro pins s σ H Q I h
  refine Compare_chain (thn (ha pins s σ H _ I h) fun v s1 ⟨x, H1, I1, r1, q1⟩ => chain_link (thn (hb pins s1 σ H1 _ I1 q1) fun u s2 ⟨y, H2, I2, r2, q2⟩ =>
    thn (ho pins s2 σ H2 x y v u _ I2 r1 r2 q2) fun d s3 ⟨z, H3, I3, r3, k, e, q3⟩ => ?_)) hm
  subst e
  cases r3
  refine wpAny_truthy_bool ?_
  cases k with
  | false => exact ite_ff ⟨.bl false, H3, I3, rfl, q3⟩
  | true => exact ite_tt (chain_last (thn (hc pins s3 σ H3 _ I3 q3) fun w' s4 ⟨z', H4, I4, r4, q4⟩ => ho' pins s4 σ H4 y z' u w' Q I4 r2 r4 q4))
theorem pt_chain {op op' : CmpOp} {r r' : R2} (ho : OpR X (compareOp op) r) (ho' : OpR X (compareOp op') r') (ha : PE X a ta) (hb : PE X b tb) (hc : PE X c tc)
    (hm : lastMarks [op, op'] [b, c] = false := by with_unfolding_all rfl) : PT X (.Compare a [op, op'] [b, c] pos) (tTest (tChain r r' ta tb tc)) := by
  intro pins s σ H Q I h
  refine isTrue_chain (thn (ha pins s σ H _ I h) fun v s1 ⟨x, H1, I1, r1, q1⟩ => test_link (thn (hb pins s1 σ H1 _ I1 q1) fun u s2 ⟨y, H2, I2, r2, q2⟩ =>
    thn (ho pins s2 σ H2 x y v u _ I2 r1 r2 q2) fun d s3 ⟨z, H3, I3, r3, k, e, q3⟩ => ?_)) hm
  subst e
  cases r3
  refine wpAny_truthy_bool ?_
  cases k with
  | false =>
    obtain ⟨k', e', q'⟩ := q3
    cases e'
    exact ite_ff ⟨H3, I3, q'⟩
  | true =>
    refine ite_tt (test_last (thn (hc pins s3 σ H3 _ I3 q3) fun w' s4 ⟨z', H4, I4, r4, q4⟩ => thn (ho' pins s4 σ H4 y z' u w' _ I4 r2 r4 q4) fun d' s5 ⟨z2, H5, I5, r5, k2, e2, q5⟩ => ?_))
    subst e2
    cases r5
    exact wpAny_truthy_bool ⟨H5, I5, q5⟩

/-! ### truth -/
/-- a value's truth by the abstract heap -/
def TruV (K : PySem.W.Frag) (x : V) (H : Hp) (k : Bool) : Prop :=
  match x with
  | .non => k = false
  | .bl b => k = b
  | .int i => k = (i != 0)
  | .str y => y.length ≤ sizeLine ∧ k = ((y.length : Int) != 0)
  | .byt y => y.size ≤ sizeLine ∧ k = ((y.size : Int) != 0)
  | .ref p => (∃ xs, SqL K H p xs ∧ k = !xs.isEmpty) ∨ (∃ xs, SqT K H p xs ∧ k = !xs.isEmpty) ∨ ∃ kvs, H p = some (.dK kvs) ∧ k = !kvs.isEmpty
  | _ => False
theorem line63 : (sizeLine : Nat) < 2 ^ 63 := by rw [sizeLine_eq]; decide
/-! ### strs and bytes -/
theorem op_add_str : OpR X (binaryOp .Add) (fun x y H Q => ∃ i j, x = .str i ∧ y = .str j ∧ i.length + j.length ≤ sizeLine ∧ Q (.str (i ++ j)) H) := by
  intro pins s σ H x y v u Q I rx ry h
  obtain ⟨i, j, rfl, rfl, hz, q⟩ := h
  obtain ⟨t, rfl⟩ := rx
  obtain ⟨t', rfl⟩ := ry
  exact add_str (fun t' tk => ⟨.str (i ++ j), H, I.tok _, ⟨_, rfl⟩, q⟩) hz
def PlainIxT (b : Expr) : Prop := ∀ o i, subscripted b false o i = operate [o, i] (getItem o i)
/-! ### scalar builtins, by CallR -/
theorem vals1 {x : V} {us : List Value} (r : Vals [x] us) : ∃ u, us = [u] ∧ RelV x u := by
  cases r with
  | cons r1 r2 => cases r2; exact ⟨_, rfl, r1⟩
theorem vals2 {x y : V} {us : List Value} (r : Vals [x, y] us) : ∃ u w', us = [u, w'] ∧ RelV x u ∧ RelV y w' := by
  cases r with
  | cons r1 r2 =>
    cases r2 with
    | cons r3 r4 => cases r4; exact ⟨_, _, rfl, r1, r3⟩
theorem call_max2 (hc : X.calm = true) : CallR X (.builtin "max") (fun xs H Q => ∃ i j, xs = [.int i, .int j] ∧ Q (.int (if j > i then j else i)) H) := by
  intro pins s σ H xs us Q I r h
  obtain ⟨i, j, rfl, q⟩ := h
  obtain ⟨u, w', rfl, ⟨t, rfl⟩, ⟨t', rfl⟩⟩ := vals2 r
  refine max_two_ints (I.ok.hd hc) fun h' tk k => ⟨_, H, I.kept k, ?_, q⟩
  by_cases hj : j > i
  · rw [if_pos hj, if_pos hj]; exact ⟨_, rfl⟩
  · rw [if_neg hj, if_neg hj]; exact ⟨_, rfl⟩
/-- len of a str, a bytes, a list, a tuple -/
def LenV (K : PySem.W.Frag) (x : V) (H : Hp) (n : Nat) : Prop :=
  match x with
  | .str y => y.length ≤ sizeLine ∧ n = y.length
  | .byt y => y.size ≤ sizeLine ∧ n = y.size
  | .ref p => (∃ xs, SqL K H p xs ∧ n = xs.length) ∨ ∃ xs, SqT K H p xs ∧ n = xs.length
  | _ => False
/-- divmod: a new tuple -/
theorem call_divmod : CallR X (.builtin "divmod") (fun xs H Q => ∃ i j, xs = [.int i, .int j] ∧ CDiv i j ∧ ∀ p, H p = none → Q (.ref p) (upd H p (.tup [.int (i / j), .int (i % j)]))) := by
  intro pins s σ H xs us Q I r h
  obtain ⟨i, j, rfl, ⟨h1, h2⟩, q⟩ := h
  obtain ⟨u, w', rfl, ⟨t, rfl⟩, ⟨t', rfl⟩⟩ := vals2 r
  refine divmod_int (by omega) ?_ (.inl (PyProof.noPylong_small (by omega)))
  rw [Int.fdiv_eq_ediv_of_nonneg i (by omega), Int.fmod_eq_emod_of_nonneg i (by omega)]
  have hn : H s.heap.objs.size = none := I.hok.fresh (Nat.le_refl _)
  refine ⟨.ref s.heap.objs.size, _, ?_, rfl, q _ hn⟩
  refine I.laid (fun b o e => Heap.get?_push_of_some _ e) (Nat.le_refl _) ⟨by simp only [List.length_cons, List.length_nil]; rw [sizeLine_eq]; decide, [.int (i / j) s.toks, .int (i % j) (s.toks + 1)], .cons ⟨_, rfl⟩ (.cons ⟨_, rfl⟩ .nil), ?_⟩
  exact ⟨_, Heap.get?_push_size s.heap rfl, rfl, 0, rfl⟩
end
end L2

namespace L2
open PySem PySem.Spec PyProof.Rows

/-! ### an instance, its attributes a map -/
structure ObjM (h : Heap) (x dx C : Addr) (mA : Str → Option Value) : Prop where
  obj : h.get? x = some (PySem.W.instObj C dx)
  ns : h.Ns1 dx mA
  ne : dx ≠ x

theorem lookIn_ns {h : Heap} {dx : Addr} {mA : Str → Option Value} (n : h.Ns1 dx mA) : ∃ od, h.get? dx = some od ∧ ∀ name, PySem.W.lookIn name od = some (mA name) := by
  obtain ⟨o, es, ep, ho, hd, hk, _, hm⟩ := n
  refine ⟨o, ho, fun name => ?_⟩
  have e := hm name
  unfold nsFind findBy at e
  rw [← Array.find?_toList] at e
  unfold PySem.W.lookIn
  rw [hd]
  dsimp only
  split
  · rename_i y q
    rw [q] at e
    exact congrArg some e
  · rename_i q
    rw [q] at e
    have a : es.toList.any (·.refKey) = false := by
      rw [List.any_eq_false]
      intro y hy
      obtain ⟨z, t, hkey⟩ := hk y (Array.mem_toList_iff.mp hy)
      simp [DictEntry.refKey, hkey]
    have a' : ¬ es.toList.any (·.refKey) = true := by rw [a]; exact Bool.false_ne_true
    rw [if_neg a']
    exact congrArg some e

theorem ObjM.look {h : Heap} {x dx C : Addr} {mA : Str → Option Value} (I : ObjM h x dx C mA) : ∃ od, PySem.W.InstAt h x (PySem.W.instObj C dx) C (some od) ∧ ∀ name, PySem.W.lookIn name od = some (mA name) :=
  let ⟨od, ho, hl⟩ := lookIn_ns I.ns
  ⟨od, ⟨I.obj, rfl, rfl, ho⟩, hl⟩

section
variable {prog : Program} {w : World} {A : Around} {E : Value → Shared → Prop} {s : Shared} {K : PySem.W.Frag} {x dx C f : Addr} {mA : Str → Option Value} {name : Str} {v : Value}

theorem get_meth {pl : Sem Bool} {Q : Value × List Value → Shared → Prop} (X : K.In s.heap) (I : ObjM s.heap x dx C mA) (hg : PySem.W.plainGet K C name = true)
    (hf : PySem.W.findIn K (.ref C) name = some (some (.ref f))) (ht : PySem.W.isFn K (.ref f) = true) (hv : mA name = none) (h : Q (.ref f, [.ref x]) s) :
    wpAny (model prog w) A (getMethod (.ref x) name pl) Q E s := by
  obtain ⟨od, J, hl⟩ := I.look
  exact PySem.W.method_fn X J (PySem.W.plainGet_of hg).1 (PySem.W.plainGet_of hg).2 hf (beq_iff_eq.mp ht) (by show (PySem.W.lookIn name od).map (·.isSome) = some false; rw [hl, hv]; rfl) h

theorem set_map {ns : List Str} {Q : Unit → Shared → Prop} (X : K.In s.heap) (I : ObjM s.heap x dx C mA)
    (hs : PySem.W.findIn K (.ref C) "__setattr__" = some (some (.builtin "object.__setattr__"))) (hp : PySem.W.plainOver K C = true) (ht : PySem.W.takerIn K C name = some none) (hh : PySem.W.hasDictIn K C = true)
    (hw : PySem.Within mA ns) (hsz : ns.length ≤ sizeLine)
    (h : ∀ h', ObjM h' x dx C (fun y => if y = name then some v else mA y) → Heap.SameBut dx s.heap h' → Q () { s with heap := h', toks := s.toks + 2 }) :
    wpAny (model prog w) A (setAttr (.ref x) name v) Q E s := by
  obtain ⟨od, J, hl⟩ := I.look
  refine PySem.W.set_plain X J hs (PySem.W.osa_open (s := { s with toks := s.toks + 1 }) (r := none) X J hp ht fun b => ?_)
  obtain ⟨cd, hc, hd'⟩ := PySem.W.any_some hh
  have hx : s.heap.get? x = some ⟨.ref C, some dx, .plain, #[]⟩ := I.obj
  refine wpAny_bind (wpAny_pure (wpAny_bind (wpAny_bind (wpAny_loadPart hx (wpAny_bind (PySem.W.Looks.here (s := { s with toks := s.toks + 1 }) (PySem.W.looks_clsIn X hc) ?_))))))
  rw [hd']
  refine wpAny_pure (a := some dx) (wpAny_bind (wpAny_pure (wpAny_bind ?_)))
  refine wpAny_nsSet1 (s := { s with toks := s.toks + 1 }) I.ns fun h' hn2 hs2 => ?_
  obtain ⟨oD, esD, epD, hoD, hdD, hcD⟩ := hn2.count (PySem.Within.cons name v hw)
  refine wpAny_bind (wpAny_lookBehind hoD (by rw [hdD]; exact pastItsLine_dict (Nat.le_trans hcD (by rw [List.length_cons]; omega))) ?_)
  exact wpAny_pure (h _ ⟨(hs2.2 _ (Ne.symm I.ne)).trans I.obj, hn2, I.ne⟩ hs2)

/-- C(..): the dict at the heap's end, the instance behind it; then its __init__ -/
theorem make_map {R : Result → Shared → Prop} {vs : List Value} {kw : List (Str × Value)} (X : K.In s.heap) (hm : PySem.W.makesIn K C = true)
    (hi : PySem.W.findIn K (.ref C) "__init__" = some (some (.ref f))) (hf : PySem.W.typeIn K (.ref f) = some (.type "function"))
    (h : codeAny (model prog w) (A.under (.builtin "type.__call__" ⟨.ref C :: vs, kw⟩)) (.call (.ref f) ⟨.ref (s.heap.objs.size + 1) :: vs, kw⟩) (PySem.W.InitBack (s.heap.objs.size + 1) R)
      { s with heap := (s.heap.push PySem.W.emptyDict).push (PySem.W.instObj C s.heap.objs.size) }) :
    codeAny (model prog w) A (.call (.ref C) ⟨vs, kw⟩) R s := by
  obtain ⟨hh, g, d, t, os⟩ := s
  exact PySem.W.make_core (PySem.W.makes_of X hm) (PySem.W.looks_findIn X hi) (fun self => PySem.W.bind_fn X self hf) (.inl rfl) h
end

/-! ### the attributes as a list of pairs -/
def putF (f : Str) (v : V) : List (Str × V) → List (Str × V)
  | [] => [(f, v)]
  | (g, x) :: r => if g = f then (g, v) :: r else (g, x) :: putF f v r
theorem lookup_putF (f g : Str) (v : V) : ∀ fs : List (Str × V), (putF f v fs).lookup g = if g = f then some v else fs.lookup g
  | [] => by
    show List.lookup g [(f, v)] = _
    by_cases h : g = f
    · have hb : (g == f) = true := beq_iff_eq.mpr h
      simp only [List.lookup, hb, if_pos h]
    · have hb : (g == f) = false := beq_eq_false_iff_ne.mpr h
      simp only [List.lookup, hb, if_neg h]
  | (k, x) :: r => by
    have ih := lookup_putF f g v r
    rw [show putF f v ((k, x) :: r) = (if k = f then (k, v) :: r else (k, x) :: putF f v r) from rfl]
    by_cases hk : k = f
    · rw [if_pos hk]
      by_cases h : g = k
      · have hb : (g == k) = true := beq_iff_eq.mpr h
        simp only [List.lookup, hb, if_pos (h.trans hk)]
      · have hb : (g == k) = false := beq_eq_false_iff_ne.mpr h
        simp only [List.lookup, hb, if_neg (fun e : g = f => h (e.trans hk.symm))]
    · rw [if_neg hk]
      by_cases h : g = k
      · have hb : (g == k) = true := beq_iff_eq.mpr h
        simp only [List.lookup, hb, if_neg (fun e : g = f => hk (h.symm.trans e))]
      · have hb : (g == k) = false := beq_eq_false_iff_ne.mpr h
        simp only [List.lookup, hb]
        exact ih
theorem keys_putF (f : Str) (v : V) : ∀ fs : List (Str × V), f ∈ (putF f v fs).map (·.1) ∧ ∀ g, g ∈ fs.map (·.1) → g ∈ (putF f v fs).map (·.1)
  | [] => ⟨by simp [putF], fun g h => by simp at h⟩
  | (k, x) :: r => by
    obtain ⟨i1, i2⟩ := keys_putF f v r
    rw [show putF f v ((k, x) :: r) = (if k = f then (k, v) :: r else (k, x) :: putF f v r) from rfl]
    by_cases hk : k = f
    · rw [if_pos hk]
      subst hk
      exact ⟨by simp, fun g h => by simpa using h⟩
    · rw [if_neg hk]
      refine ⟨?_, fun g h => ?_⟩
      · rw [List.map_cons]
        exact List.mem_cons_of_mem _ i1
      · rw [List.map_cons] at h ⊢
        rcases List.mem_cons.mp h with e | e
        · exact List.mem_cons.mpr (.inl e)
        · exact List.mem_cons_of_mem _ (i2 g e)
theorem length_putF (f : Str) (v : V) : ∀ fs : List (Str × V), (putF f v fs).length ≤ fs.length + 1
  | [] => by simp [putF]
  | (k, x) :: r => by
    have ih := length_putF f v r
    rw [show putF f v ((k, x) :: r) = (if k = f then (k, v) :: r else (k, x) :: putF f v r) from rfl]
    by_cases hk : k = f
    · rw [if_pos hk, List.length_cons, List.length_cons]; omega
    · rw [if_neg hk, List.length_cons, List.length_cons]; omega

theorem RelO.some_of {v : V} {o : Option Value} (r : RelO (some v) o) : ∃ u, o = some u ∧ RelV v u := by
  cases o with
  | none => exact (show False from r).elim
  | some u => exact ⟨u, rfl, r⟩
theorem RelO.none_of {o : Option Value} (r : RelO none o) : o = none := by
  cases o with
  | none => rfl
  | some u => exact (show False from r).elim
theorem handed_of {v : V} {u : Value} (r : RelV v u) : PySem.W.handedIn u = true := by
  cases v with
  | non => cases (show u = Value.none from r); rfl
  | bl b => cases (show u = Value.bool b from r); rfl
  | int i => obtain ⟨t, e⟩ := (show ∃ t, u = Value.int i t from r); cases e; rfl
  | str x => obtain ⟨t, e⟩ := (show ∃ t, u = Value.str x t from r); cases e; rfl
  | byt b => obtain ⟨t, e⟩ := (show ∃ t, u = Value.bytes b t from r); cases e; rfl
  | flt b => obtain ⟨t, e⟩ := (show ∃ t, u = Value.float b t from r); cases e; rfl
  | ref a => cases (show u = Value.ref a from r); rfl
  | ty n => cases (show u = Value.type n from r); rfl

section
variable {P : Program} {w : World} {H H' : Hp} {h h' : Heap} {a C dx : Addr} {fs fs' : List (Str × V)}
theorem ins_get (hok : HOk P w H h) (e : H a = some (.ins C dx fs)) : ∃ mA, ObjM h a dx C mA ∧ (∀ f, RelO (fs.lookup f) (mA f)) ∧ PySem.Within mA (fs.map (·.1)) ∧ fs.length ≤ 1000 ∧ H dx = some (.own a) := by
  obtain ⟨d, z, ne, ob, mA, n, r, q⟩ := (show ObjOk P w H h a (.ins C dx fs) from hok a _ e)
  exact ⟨mA, ⟨ob, n, ne⟩, r, q, z, d⟩
end

/-! ### what of the text a class must have -/
structure Cls (K : PySem.W.Frag) (C : Addr) : Prop where
  pg : PySem.W.plainGet K C Str.empty = true
  hd : PySem.W.hasDictIn K C = true
  po : PySem.W.plainOver K C = true
  sa : PySem.W.findIn K (.ref C) "__setattr__" = some (some (.builtin "object.__setattr__"))
theorem Cls.get {K : PySem.W.Frag} {C : Addr} (c : Cls K C) (f : Str) : PySem.W.plainGet K C f = true := c.pg
/-- no class of it has the name -/
def NoAttr (K : PySem.W.Frag) (C : Addr) (f : Str) : Prop := PySem.W.findIn K (.ref C) f = some none
theorem NoAttr.taker {K : PySem.W.Frag} {C : Addr} {f : Str} (n : NoAttr K C f) : PySem.W.takerIn K C f = some none := by
  unfold PySem.W.takerIn
  rw [show PySem.W.findIn K (.ref C) f = some none from n]
  rfl
/-- a constant of the class -/
structure Con (K : PySem.W.Frag) (C : Addr) (f : Str) (v : V) (u : Value) : Prop where
  at_ : PySem.W.findIn K (.ref C) f = some (some u)
  rel : RelV v u
  get : PySem.W.specialIn K u "__get__" = some none
  cp : PySem.W.copiedNames.contains f = false
/-- a method: a plain def of the class or of one above it -/
structure Meth (K : PySem.W.Frag) (C : Addr) (m : Str) (f : Addr) : Prop where
  at_ : PySem.W.findIn K (.ref C) m = some (some (.ref f))
  fn : PySem.W.isFn K (.ref f) = true
  kp : PySem.W.keepIn K (.ref f) = true

section
variable {X : Cx} {pins : List (Addr × Obj)} {σ : St} {H : Hp} {s : Shared} {a C dx : Addr} {fs : List (Str × V)} {f : Str} {v : V} {A : Around} {E : Value → Shared → Prop}

theorem getmeth_ok {m : Str} {g : Addr} {pl : Sem Bool} {Q : Value × List Value → Shared → Prop} (I : Inv X pins σ H s) (e : H a = some (.ins C dx fs)) (c : Cls X.K C) (k : Meth X.K C m g) (l : fs.lookup m = none)
    (h : Q (.ref g, [.ref a]) s) : wpAny (model X.prog X.w) A (getMethod (.ref a) m pl) Q E s := by
  obtain ⟨mA, O, r, _, _, _⟩ := ins_get I.hok e
  have hn : mA m = none := RelO.none_of (by rw [← l]; exact r m)
  exact get_meth I.kIn O (c.get m) k.at_ k.fn hn h

theorem setattr_ok {y : V} {u : Value} {Q : Unit → Shared → Prop} (I : Inv X pins σ H s) (e : H a = some (.ins C dx fs)) (c : Cls X.K C) (n : NoAttr X.K C f) (hl : fs.length < 1000) (ry : RelV y u)
    (h : ∀ s', Inv X pins σ (upd H a (.ins C dx (putF f y fs))) s' → Q () s') : wpAny (model X.prog X.w) A (setAttr (.ref a) f u) Q E s := by
  obtain ⟨mA, O, r, wi, _, ho⟩ := ins_get I.hok e
  have hz : (fs.map (·.1)).length ≤ sizeLine := by rw [List.length_map, sizeLine_eq]; omega
  refine set_map I.kIn O c.sa c.po n.taker c.hd wi hz fun h' O' sb => h _ ?_
  have hd : ∃ o, h'.get? dx = some o := let ⟨o, _, _, e', _⟩ := O'.ns; ⟨o, e'⟩
  refine I.write (x := a) (e := dx) (by rw [e]; exact True.intro) (.inr ho) (fun b q hb z => (sb.2 b hb).trans z) hd ?_
  refine ⟨by rw [upd_ne O.ne]; exact ho, ?_, O.ne, O'.obj, _, O'.ns, fun g => ?_, fun g hg => ?_⟩
  · have := length_putF f y fs; omega
  · show RelO ((putF f y fs).lookup g) (if g = f then some u else mA g)
    rw [lookup_putF]
    by_cases q : g = f
    · rw [if_pos q, if_pos q]; exact ry
    · rw [if_neg q, if_neg q]; exact r g
  · by_cases q : g = f
    · rw [q]; exact (keys_putF f y fs).1
    · refine (keys_putF f y fs).2 g (wi g fun z => hg ?_)
      show (if g = f then some u else mA g) = none
      rw [if_neg q]; exact z

/-- a new instance, tracked, without attributes -/
theorem Inv.made (I : Inv X pins σ H s) : Inv X pins σ (upd (upd H s.heap.objs.size (.own (s.heap.objs.size + 1))) (s.heap.objs.size + 1) (.ins C s.heap.objs.size []))
    { s with heap := (s.heap.push PySem.W.emptyDict).push (PySem.W.instObj C s.heap.objs.size) } := by
  have e1 : (s.heap.push PySem.W.emptyDict).get? s.heap.objs.size = some PySem.W.emptyDict := Heap.get?_push_size s.heap rfl
  have e2 : ((s.heap.push PySem.W.emptyDict).push (PySem.W.instObj C s.heap.objs.size)).get? (s.heap.objs.size + 1) = some (PySem.W.instObj C s.heap.objs.size) := by
    have := Heap.get?_push_size (s.heap.push PySem.W.emptyDict) (o := PySem.W.instObj C s.heap.objs.size) rfl
    rwa [Heap.size_push] at this
  have e3 : (s.heap.push PySem.W.emptyDict).Ns s.heap.objs.size (fun _ => none) := ⟨PySem.W.emptyDict, #[], _, e1, rfl, (fun e he => absurd he (by simp)), fun _ => rfl⟩
  have I1 := I.laid (a := s.heap.objs.size) (o := .own (s.heap.objs.size + 1)) (h' := s.heap.push PySem.W.emptyDict) (t' := s.toks) (fun b u q => Heap.get?_push_of_some _ q) (Nat.le_refl _) ⟨_, e1⟩
  refine I1.laid (a := s.heap.objs.size + 1) (o := .ins C s.heap.objs.size []) (t' := s.toks) (fun b u q => Heap.get?_push_of_some _ q) (Nat.le_of_eq (Heap.size_push _ _)) ?_
  have ne : s.heap.objs.size ≠ s.heap.objs.size + 1 := Nat.ne_of_lt (Nat.lt_succ_self _)
  refine ⟨by rw [upd_ne ne, upd_same], Nat.zero_le _, ne, e2, fun _ => none, (Heap.Ns1.of_empty e3).at fun o q => Heap.get?_push_of_some _ q, fun _ => True.intro, fun y hy => absurd rfl hy⟩

/-- e.f where nothing but the object is asked: through attributeBase (super) and the last hold -/
theorem attr_of {prog : Program} {w : World} {env : Env} {e : Expr} {f : Str} {pos : Pos} {s : Shared} {Q : Value → Shared → Prop} (hb : attributeBase e f env (eval e env) = eval e env)
    (h : wpAny (model prog w) A (eval e env) (fun o s₁ => wpAny (model prog w) A (getAttr o f true) Q E s₁) E s) : wpAny (model prog w) A (eval (.Attribute e f pos) env) Q E s :=
  Attribute_any_ h (by rw [arm_eval_Attribute, hb])
end

/-! ### readings and rules -/
/-- e.f, an attribute of the instance -/
def tFld (K : PySem.W.Frag) (ta : TE) (f : Str) : TE := fun σ H Q => ta σ H fun x H1 => ∃ a C dx fs v, x = .ref a ∧ H1 a = some (.ins C dx fs) ∧ Cls K C ∧ NoAttr K C f ∧ fs.lookup f = some v ∧ Q v H1
/-- e.f, a constant of the class -/
def tCon (K : PySem.W.Frag) (ta : TE) (f : Str) : TE := fun σ H Q => ta σ H fun x H1 => ∃ a C dx fs v u, x = .ref a ∧ H1 a = some (.ins C dx fs) ∧ Cls K C ∧ Con K C f v u ∧ fs.lookup f = none ∧ Q v H1
/-- e.f = value -/
def sFld (K : PySem.W.Frag) (ta tv : TE) (f : Str) : TS := fun D σ H => tv σ H fun y H1 => ta σ H1 fun x H2 => ∃ a C dx fs, x = .ref a ∧ H2 a = some (.ins C dx fs) ∧ Cls K C ∧ NoAttr K C f ∧ fs.length < 1000 ∧
  D.nx σ (upd H2 a (.ins C dx (putF f y fs)))
/-- an augmented operator on two values -/
def InOp (X : Cx) (op : Operator) (rd : V → V → Hp → VK → Prop) : Prop :=
  ∀ (pins : List (Addr × Obj)) (s : Shared) (σ : St) (H : Hp) (x y : V) (u v : Value) (Q : VK), Inv X pins σ H s → RelV x u → RelV y v → rd x y H Q → wpAny (model X.prog X.w) X.A (inplaceOp op u v) (EP X pins σ Q) X.xe s
/-- e.f op= value -/
def sFldAug (K : PySem.W.Frag) (ta tv : TE) (rd : V → V → Hp → VK → Prop) (f : Str) : TS := fun D σ H => ta σ H fun x H1 => ∃ a C dx fs v, x = .ref a ∧ H1 a = some (.ins C dx fs) ∧ Cls K C ∧ NoAttr K C f ∧ fs.lookup f = some v ∧
  tv σ H1 fun y H2 => rd v y H2 fun z H3 => ∃ dx' fs', H3 a = some (.ins C dx' fs') ∧ fs'.length < 1000 ∧ D.nx σ (upd H3 a (.ins C dx' (putF f z fs')))

section
variable {X : Cx} {o e value : Expr} {f : Str} {pos pos' tpos : Pos} {ta tv : TE}
theorem ps_fld (ha : PE X o ta) (hv : PE X value tv) (hs : swapsWith value (some (.Attribute o f pos')) pos.line X.env = pure false) : PS X (.Assign [.Attribute o f pos'] value pos) (sFld X.K ta tv f) := by
  intro pins s σ H D I h
  refine plainObj_wpAny_Assign_Attribute (thn (hv pins s σ H _ I h) fun u s1 ⟨y, H1, I1, ry, q⟩ => thn (ha pins s1 σ H1 _ I1 q) fun ov s2 ⟨x, H2, I2, rx, a, C, dx, fs, ex, ea, c, n, l, q2⟩ => ?_) hs
  subst ex
  obtain rfl : ov = Value.ref a := rx
  exact setattr_ok I2 ea c n l ry fun s3 I3 => ⟨σ, _, I3, q2⟩
def rAdd : V → V → Hp → VK → Prop := fun x y H Q => ∃ i j, x = .int i ∧ y = .int j ∧ Q (.int (i + j)) H
def rSub : V → V → Hp → VK → Prop := fun x y H Q => ∃ i j, x = .int i ∧ y = .int j ∧ Q (.int (i - j)) H
end

/-! ### isinstance -/
section
variable {X : Cx} {pins : List (Addr × Obj)} {σ : St} {H : Hp} {s : Shared} {A : Around} {E : Value → Shared → Prop} {Q : Value → Shared → Prop} {c : Value} {b : Bool}
/-- the type of a value, as the fragment's deciders take it; for an instance its class -/
inductive TyOf (K : PySem.W.Frag) (H : Hp) : V → Value → Prop where
  | non : TyOf K H .non (.type "NoneType")
  | bl (x : Bool) : TyOf K H (.bl x) (.type "bool")
  | int (i : Int) : TyOf K H (.int i) (.type "int")
  | str (x : Str) : TyOf K H (.str x) (.type "str")
  | flt (x : UInt64) : TyOf K H (.flt x) (.type "float")
  | lst {a : Addr} {xs : List V} (e : H a = some (.lst xs)) : TyOf K H (.ref a) (.type "list")
  | frz {a : Addr} {o : Obj} {xs : List V} (e : H a = some (.frz o (.lst xs))) : TyOf K H (.ref a) (.type "list")
  | tup {a : Addr} {xs : List V} (e : H a = some (.tup xs)) : TyOf K H (.ref a) (.type "tuple")
  | dK {a : Addr} {kvs : List (Key × V)} (e : H a = some (.dK kvs)) : TyOf K H (.ref a) (.type "dict")
  | dT {a : Addr} {kvs : List (List Key × V)} (e : H a = some (.dT kvs)) : TyOf K H (.ref a) (.type "dict")
  | ins {a C dx : Addr} {fs : List (Str × V)} (e : H a = some (.ins C dx fs)) (cl : Cls K C) (ha : PySem.W.findIn K (.ref C) "__class__" = some (some (.builtin "object.__class__")))
      (hn : PySem.W.specialIn K (.builtin "object.__class__") "__get__" = some (some (.builtin "getset_descriptor.__get__"))) (htk : PySem.W.takesIn K (.builtin "object.__class__") = some true)
      (hm : PySem.W.mroIn K C (.type "object") = some true) : TyOf K H (.ref a) (.ref C)
end
end L2

namespace L2
open PySem PySem.Spec PyProof.Rows

/-! ### room -/
structure Room (k : Nat) (A : Around) : Prop where
  hd : A.handled = none
  dp : A.depth + 3 * k + 5 < recursionLimit
  un : A.units + 16 * k + 200 < cLine
  gd : A.guards = some []
theorem Room.mono {j k : Nat} {A : Around} (r : Room k A) (h : j ≤ k) : Room j A := ⟨r.hd, by have := r.dp; omega, by have := r.un; omega, r.gd⟩
theorem Room.deeper {k : Nat} {A : Around} (r : Room (k + 1) A) (env : Env) : Room k (A.deeper env) :=
  ⟨r.hd, by have := r.dp; show A.depth + 1 + 3 * k + 5 < _; omega, by have := r.un; show A.units + 3 + 16 * k + 200 < _; omega, r.gd⟩
theorem make_depth {A : Around} {C : Addr} {us : List Value} {kw : List (Str × Value)} : (A.under (.builtin "type.__call__" ⟨.ref C :: us, kw⟩)).depth = A.depth + 1 := by
  first | rfl | simp [Around.under, Code.weight, Code.isCreation, Code.isGuard, Code.isCaller, Code.frames, Code.isFrame, guardIds]
theorem make_units {A : Around} {C : Addr} {us : List Value} {kw : List (Str × Value)} : (A.under (.builtin "type.__call__" ⟨.ref C :: us, kw⟩)).units = A.units + 1 := by
  first | rfl | simp [Around.under, Code.cUnits, Code.frames, Code.isFrame]
theorem make_guards {A : Around} {C : Addr} {us : List Value} {kw : List (Str × Value)} : (A.under (.builtin "type.__call__" ⟨.ref C :: us, kw⟩)).guards = A.guards := by
  have hg : guardIds.contains "type.__call__" = false := by decide +kernel
  have e : Code.guards (.builtin "type.__call__" ⟨.ref C :: us, kw⟩) = [] := by
    unfold Code.guards
    rw [if_neg (fun z => by rw [show Code.isGuard (.builtin "type.__call__" ⟨.ref C :: us, kw⟩) = guardIds.contains "type.__call__" from rfl, hg] at z; cases z)]
  unfold Around.under
  rw [e]
  rfl
theorem Room.make {k : Nat} {A : Around} (r : Room (k + 1) A) (C : Addr) (us : List Value) (kw : List (Str × Value)) : Room k (A.under (.builtin "type.__call__" ⟨.ref C :: us, kw⟩)) :=
  ⟨r.hd, by have := r.dp; rw [make_depth]; omega, by have := r.un; rw [make_units]; omega, make_guards.trans r.gd⟩
theorem Room.depth {k : Nat} {A : Around} (r : Room k A) : A.depth < recursionLimit := by have := r.dp; omega
theorem Room.units {k : Nat} {A : Around} (r : Room k A) : A.units + 64 < cLine := by have := r.un; omega
/-! ### argument lists and displays -/
def tNil : TA := fun _ H Q => Q [] H
def tCons (ta : TE) (tr : TA) : TA := fun σ H Q => ta σ H fun x H1 => tr σ H1 fun xs H2 => Q (x :: xs) H2
section
variable {X : Cx} {e : Expr} {es : List Expr} {te : TE} {t : TA} {pos : Pos}
theorem pa_nil : PA X [] tNil := fun _ _ _ _ H Q I h => Calls.spliced_nil ⟨[], H, I, .nil, h⟩
theorem pa_cons (ha : PE X e te) (hr : PA X es t) (hs : starEach (e :: es) X.env = (false, eval e X.env) :: starEach es X.env := by rfl) : PA X (e :: es) (tCons te t) := by
  intro pos pins s σ H Q I h
  rw [hs]
  show wpAny _ _ (spliced ((false, eval e X.env) :: backTo pos (starEach es X.env))) _ _ s
  refine Calls.spliced_cons (thn (ha pins s σ H _ I h) fun u s1 ⟨x, H1, I1, r1, q1⟩ => ?_)
  exact thn (hr pos pins s1 σ H1 _ I1 q1) fun us s2 ⟨xs, H2, I2, r2, q2⟩ => ⟨x :: xs, H2, I2, .cons r1 r2, q2⟩

/-- a tuple, a list of written items -/
def tTup (t : TA) : TE := fun σ H Q => t σ H fun xs H1 => xs.length ≤ sizeLine ∧ ∀ p, H1 p = none → Q (.ref p) (upd H1 p (.tup xs))
def tLst (t : TA) : TE := fun σ H Q => t σ H fun xs H1 => xs.length ≤ sizeLine ∧ ∀ p, H1 p = none → Q (.ref p) (upd H1 p (.lst xs))
theorem pe_tup {x1} (h : PA X es t) : PE X (.Tuple es x1 pos) (tTup t) := by
  intro pins s σ H Q I hq
  refine wpAny_Tuple_spliced (thn (h pos pins s σ H _ I hq) fun us s1 ⟨xs, H1, I1, r, z, q⟩ => ⟨by rw [← r.length]; exact z, ?_⟩)
  have hf : H1 s1.heap.objs.size = none := I1.hok.fresh (Nat.le_refl _)
  refine ⟨.ref s1.heap.objs.size, upd H1 s1.heap.objs.size (.tup xs), I1.laid (t' := s1.toks) (fun b u e => Heap.get?_push_of_some _ e) (Nat.le_refl _) ?_, rfl, q _ hf⟩
  exact ⟨z, us, r, ⟨_, Heap.get?_push_size _ rfl, rfl, _, rfl⟩⟩
theorem pe_lst (h : PA X es t) : PE X (.List es pos) (tLst t) := by
  intro pins s σ H Q I hq
  refine wpAny_List_spliced (thn (h pos pins s σ H _ I hq) fun us s1 ⟨xs, H1, I1, r, z, q⟩ => ⟨by rw [← r.length]; exact z, ?_⟩)
  have hf : H1 s1.heap.objs.size = none := I1.hok.fresh (Nat.le_refl _)
  refine ⟨.ref s1.heap.objs.size, upd H1 s1.heap.objs.size (.lst xs), I1.laid (t' := s1.toks) (fun b u e => Heap.get?_push_of_some _ e) (Nat.le_refl _) ?_, rfl, q _ hf⟩
  exact ⟨z, us, 0, r, Heap.get?_push_size _ rfl⟩
end

/-! ### what a def promises -/
/-- a def's promise: the bound arguments in the parameters' order, the heap, the wanted end, the wanted exception -/
abbrev Sp := List V → Hp → VK → XK → Prop
/-- how an exception lies behind a call (file 08 gives it): the callers' frames, abstract heap and state ahead of the call, the wish, the exception, the state -/
abbrev CXT := List Env → Hp → Shared → XK → Value → Shared → Prop

/-- the state at a call -/
structure Env0 (P : Program) (w : World) (K : PySem.W.Frag) (mg : Str → Option Value) (base : Heap) (A : Around) (outer : List Env) (s : Shared) (H : Hp) : Prop where
  frames : A.frames = some outer
  mod : Mod K mg base
  bs : ∀ b o, base.get? b = some o → s.heap.get? b = some o ∧ H b = none
  bsz : base.objs.size ≤ s.heap.objs.size
  funs : s.heap.FunFrames base outer
  frf : ∀ b ∈ frs outer, H b = none
  hok : HOk P w H s.heap
  bare : AllBare s.gens
/-- a call's end -/
def CE (outer : List Env) (P : Program) (w : World) (H : Hp) (s : Shared) (Q : VK) (u : Value) (s' : Shared) : Prop :=
  ∃ v H', s'.os = s.os ∧ AllBare s'.gens ∧ Un (frs outer) [] H H' s.heap s'.heap ∧ HOk P w H' s'.heap ∧ RelV v u ∧ Q v H'
def CR (CX : CXT) (outer : List Env) (P : Program) (w : World) (H : Hp) (s : Shared) (Q : VK) (E : XK) (r : Result) (s' : Shared) : Prop :=
  match r with
  | .ok (.ret u) => CE outer P w H s Q u s'
  | .ok _ => False
  | .error e => CX outer H s E e s'
structure FnOk (P : Program) (w : World) (K : PySem.W.Frag) (mg : Str → Option Value) (base : Heap) (CX : CXT) (k : Nat) (f : Addr) (fd : FuncData) (ps : List Str) (sp : Sp) : Prop where
  len : ∀ vs H Q E, sp vs H Q E → vs.length = ps.length
  run : ∀ (A : Around) (outer : List Env) (s : Shared) (H : Hp) (args : Args) (us : List Value) (vs : List V) (Q : VK) (E : XK), Room k A → Env0 P w K mg base A outer s H → BindsTo s fd args (ps.zip us) → Vals vs us → sp vs H Q E →
    codeAny (model P w) A (.call (.ref f) args) (CR CX outer P w H s Q E) s
theorem FnOk.mono {P : Program} {w : World} {K : PySem.W.Frag} {mg : Str → Option Value} {base : Heap} {CX : CXT} {j k : Nat} {f : Addr} {fd : FuncData} {ps : List Str} {sp : Sp} (F : FnOk P w K mg base CX j f fd ps sp) (h : j ≤ k) :
    FnOk P w K mg base CX k f fd ps sp := ⟨F.len, fun A outer s H args us vs Q E hr => F.run A outer s H args us vs Q E (hr.mono h)⟩
theorem Env0.make {P : Program} {w : World} {K : PySem.W.Frag} {mg : Str → Option Value} {base : Heap} {A : Around} {outer : List Env} {s : Shared} {H : Hp} (e : Env0 P w K mg base A outer s H) (C : Addr) (us : List Value) (kw : List (Str × Value)) :
    Env0 P w K mg base (A.under (.builtin "type.__call__" ⟨.ref C :: us, kw⟩)) outer s H := ⟨by first | exact e.frames | (simpa [Around.under, Code.envs, Code.isFrame, pushEnvs] using e.frames), e.mod, e.bs, e.bsz, e.funs, e.frf, e.hok, e.bare⟩
section
variable {X : Cx} {pins : List (Addr × Obj)} {σ : St} {H : Hp} {s s' : Shared}
/-- from a body: what a callee wants -/
theorem Inv.env0 (I : Inv X pins σ H s) : Env0 X.prog X.w X.K X.mg X.base X.A X.stack s H :=
  ⟨I.ok.frames, I.ok.mod, I.bs, Nat.le_trans I.ok.bsz I.sz, I.stack, I.stkFree, I.hok, I.bare⟩
/-- behind a call -/
theorem Inv.after {Q : VK} {u : Value} (I : Inv X pins σ H s) (h : CE X.stack X.prog X.w H s Q u s') : EP X pins σ Q u s' := by
  obtain ⟨v, H', os, bare, un, hok, r, q⟩ := h
  obtain ⟨hh, g, d, t, os'⟩ := s'
  obtain rfl : os' = s.os := os
  exact ⟨v, H', I.call (h' := hh) (g' := g) (d' := d) (t' := t) (ch := []) un hok bare (fun b z => absurd z (by simp)), r, q⟩
end

/-! ### calls -/
/-- f(..): the written arguments, then the defaults dvs; E: what is wanted of an exception -/
def tCall (sp : Sp) (dvs : List V) (E : XK) (t : TA) : TE := fun σ H Q => t σ H fun vs H1 => sp (vs ++ dvs) H1 Q E
/-- o.m(..) of an instance of the class at C -/
def tMeth (C : Addr) (m : Str) (sp : Sp) (dvs : List V) (E : XK) (ta : TE) (t : TA) : TE := fun σ H Q => ta σ H fun x H1 => ∃ a dx fs, x = .ref a ∧ H1 a = some (.ins C dx fs) ∧ fs.lookup m = none ∧
  t σ H1 fun vs H2 => sp (x :: (vs ++ dvs)) H2 Q E
/-- C(..): a new instance and its dict, then __init__ -/
def tMake (C : Addr) (sp : Sp) (dvs : List V) (E : XK) (t : TA) : TE := fun σ H Q => t σ H fun vs H1 => ∀ x dx, H1 x = none → H1 dx = none → dx ≠ x →
  sp (.ref x :: (vs ++ dvs)) (upd (upd H1 dx (.own x)) x (.ins C dx [])) (fun v H2 => v = .non ∧ Q (.ref x) H2) E

/-- how the parameters are bound: us the positional arguments, kw the keywords' values by name, ds the defaults that fill up -/
def Binds (K : PySem.W.Frag) (fd : FuncData) (ps : List Str) (ds : List Value) : Prop :=
  ∀ (s : Shared) (us : List Value), K.In s.heap → (us ++ ds).length = ps.length → BindsTo s fd ⟨us, []⟩ (ps.zip (us ++ ds))
/-- every parameter is given -/
theorem Binds.all {K : PySem.W.Frag} {fd : FuncData} {ps : List Str} (h : ∀ us : List Value, us.length = ps.length → bindArgs fd ⟨us, []⟩ = pure (ps.zip us)) : Binds K fd ps [] := fun s us _ hl => by
  rw [List.append_nil] at hl ⊢
  exact .of_eq (h us hl)

/-- an exception of a callee reaches what this body wants of exceptions -/
def Passes (CX : CXT) (X : Cx) (E : XK) : Prop := ∀ (pins : List (Addr × Obj)) (σ : St) (H : Hp) (s : Shared) (e : Value) (s' : Shared), Inv X pins σ H s → CX X.stack H s E e s' → X.xe e s'

section
variable {X : Cx} {CX : CXT} {k : Nat} {f C : Addr} {fd : FuncData} {ps : List Str} {sp : Sp} {dvs : List V} {ds : List Value} {E : XK} {x m : Str} {p pos apos : Pos} {e o : Expr} {es : List Expr} {ta : TE} {t : TA}

/-- the callee runs -/
theorem run_fn {pins : List (Addr × Obj)} {σ : St} {H : Hp} {s : Shared} {Q : VK} {us : List Value} {vs : List V} (F : FnOk X.prog X.w X.K X.mg X.base CX k f fd ps sp) (hr : Room k X.A) (hb : Binds X.K fd ps ds) (hd : Vals dvs ds) (hx : Passes CX X E)
    (I : Inv X pins σ H s) (r : Vals vs us) (h : sp (vs ++ dvs) H Q E) : wpAny (model X.prog X.w) X.A (call (.ref f) us) (EP X pins σ Q) X.xe s := by
  have r2 : Vals (vs ++ dvs) (us ++ ds) := r.append hd
  have hl : (us ++ ds).length = ps.length := by rw [← r2.length]; exact F.len _ _ _ _ h
  refine wpAny_call (codeAny_mono (F.run X.A X.stack s H ⟨us, []⟩ (us ++ ds) (vs ++ dvs) Q E hr I.env0 (hb s us I.kIn hl) r2 h) fun r s' hq => ?_)
  cases r with
  | error e => exact hx pins σ H s e s' I hq
  | ok fl =>
    cases fl with
    | ret u => exact I.after hq
    | next => exact False.elim hq
    | brk => exact False.elim hq
    | cont => exact False.elim hq

theorem pe_call (F : FnOk X.prog X.w X.K X.mg X.base CX k f fd ps sp) (hr : Room k X.A) (hg : Gl X x) (hm : X.mg x = some (.ref f)) (hk : PySem.W.keepIn X.K (.ref f) = true) (hb : Binds X.K fd ps ds) (hd : Vals dvs ds) (hx : Passes CX X E)
    (ha : PA X (e :: es) t) (hdb : (x == ("__debug__" : Str)) = false := by decide) (he : starEach (e :: es) X.env = (false, eval e X.env) :: starEach es X.env := by rfl) (hpl : (backTo pos (starEach es X.env)).any (·.1) = false := by rfl) :
    PE X (.Call (.Name x p) (e :: es) [] pos) (tCall sp dvs E t) := by
  intro pins s σ H Q I h
  refine wpAny_Call_Name_kw (ld_glob I hg hm ?_ hdb)
  refine PySem.W.callWith_K (h₀ := X.base) I.ok.mod.kin hk (thn (ha pos pins s σ H _ I h) fun us s1 ⟨vs, H1, I1, r, q⟩ => ⟨I1.kIn, ?_⟩) he hpl
  exact run_fn F hr hb hd hx I1 r q
/-- o.m(e, ..) -/
theorem pe_meth {pl : Sem Bool} (he : PE X o ta) (c : Cls X.K C) (hm : Meth X.K C m f) (F : FnOk X.prog X.w X.K X.mg X.base CX k f fd ps sp) (hr : Room k X.A) (hb : Binds X.K fd ps ds) (hd : Vals dvs ds) (hx : Passes CX X E) (ha : PA X (e :: es) t)
    (hst : starEach (e :: es) X.env = (false, eval e X.env) :: starEach es X.env := by rfl) (hpl : (backTo pos (starEach es X.env)).any (·.1) = false := by rfl)
    (ht : eval (.Call (.Attribute o m apos) (e :: es) [] pos) X.env = (do
      let ov ← eval o X.env
      standAt apos.atName
      let (f, first) ← holding [ov] (getMethod ov m pl)
      callWith pos f first (backTo pos (starEach (e :: es) X.env)) (backToKw pos (keywordEach [] X.env))) := by rfl) :
    PE X (.Call (.Attribute o m apos) (e :: es) [] pos) (tMeth C m sp dvs E ta t) := by
  intro pins s σ H Q I h
  refine PySem.W.methodCall_KW (pl := pl) (thn (he pins s σ H _ I h) fun u s1 ⟨x, H1, I1, rx, a, dx, fs, ex, ea, l, q⟩ => ?_) ht
  subst ex
  obtain rfl : u = Value.ref a := rx
  refine getmeth_ok I1 ea c hm l ?_
  refine PySem.W.callWith_K (first := [.ref a]) (h₀ := X.base) I.ok.mod.kin hm.kp (thn (ha pos pins s1 σ H1 _ I1 q) fun us s2 ⟨vs, H2, I2, r, q2⟩ => ⟨I2.kIn, ?_⟩) hst hpl
  exact run_fn (us := .ref a :: us) (vs := .ref a :: vs) F hr hb hd hx I2 (.cons rfl r) q2
/-- what a class must have to be made -/
structure Mk (K : PySem.W.Frag) (C f : Addr) : Prop where
  makes : PySem.W.makesIn K C = true
  init : PySem.W.findIn K (.ref C) "__init__" = some (some (.ref f))
  fn : PySem.W.isFn K (.ref f) = true
  kp : PySem.W.keepIn K (.ref C) = true

theorem run_make {pins : List (Addr × Obj)} {σ : St} {H : Hp} {s : Shared} {Q : VK} {us : List Value} {vs : List V} (M : Mk X.K C f) (F : FnOk X.prog X.w X.K X.mg X.base CX k f fd ps sp) (hr : Room (k + 1) X.A) (hb : Binds X.K fd ps ds) (hd : Vals dvs ds)
    (hx : Passes CX X E) (I : Inv X pins σ H s) (r : Vals vs us)
    (h : ∀ x dx, H x = none → H dx = none → dx ≠ x → sp (.ref x :: (vs ++ dvs)) (upd (upd H dx (.own x)) x (.ins C dx [])) (fun v H2 => v = .non ∧ Q (.ref x) H2) E) :
    wpAny (model X.prog X.w) X.A (call (.ref C) us) (EP X pins σ Q) X.xe s := by
  have hq := h (s.heap.objs.size + 1) s.heap.objs.size (I.hok.fresh (Nat.le_succ _)) (I.hok.fresh (Nat.le_refl _)) (Nat.ne_of_lt (Nat.lt_succ_self _))
  have I2 := Inv.made (C := C) I
  have r2 : Vals (V.ref (s.heap.objs.size + 1) :: (vs ++ dvs)) (Value.ref (s.heap.objs.size + 1) :: (us ++ ds)) := .cons rfl (r.append hd)
  have hl : (Value.ref (s.heap.objs.size + 1) :: us ++ ds).length = ps.length := by
    have e := r2.length
    rw [F.len _ _ _ _ hq] at e
    exact e.symm
  refine wpAny_call (make_map (f := f) I.kIn M.makes M.init (beq_iff_eq.mp M.fn) (codeAny_mono (F.run _ X.stack _ _ ⟨Value.ref (s.heap.objs.size + 1) :: us, []⟩ (Value.ref (s.heap.objs.size + 1) :: (us ++ ds)) _ _ E (hr.make C us [])
    (I2.env0.make C us []) (hb _ (Value.ref (s.heap.objs.size + 1) :: us) I2.kIn hl) r2 hq) fun r s' hq' => ?_))
  cases r with
  | error e => exact hx pins σ _ _ e s' I2 hq'
  | ok fl =>
    cases fl with
    | ret u =>
      obtain ⟨v, H', I3, rv, ev, q3⟩ := I2.after hq'
      subst ev
      exact ⟨rv, ⟨V.ref (s.heap.objs.size + 1), H', I3, rfl, q3⟩⟩
    | next => exact False.elim hq'
    | brk => exact False.elim hq'
    | cont => exact False.elim hq'
theorem pe_make (M : Mk X.K C f) (F : FnOk X.prog X.w X.K X.mg X.base CX k f fd ps sp) (hr : Room (k + 1) X.A) (hg : Gl X x) (hm : X.mg x = some (.ref C)) (hb : Binds X.K fd ps ds) (hd : Vals dvs ds) (hx : Passes CX X E)
    (ha : PA X (e :: es) t) (hdb : (x == ("__debug__" : Str)) = false := by decide) (he : starEach (e :: es) X.env = (false, eval e X.env) :: starEach es X.env := by rfl) (hpl : (backTo pos (starEach es X.env)).any (·.1) = false := by rfl) :
    PE X (.Call (.Name x p) (e :: es) [] pos) (tMake C sp dvs E t) := by
  intro pins s σ H Q I h
  refine wpAny_Call_Name_kw (ld_glob I hg hm ?_ hdb)
  refine PySem.W.callWith_K (h₀ := X.base) I.ok.mod.kin M.kp (thn (ha pos pins s σ H _ I h) fun us s1 ⟨vs, H1, I1, r, q⟩ => ⟨I1.kIn, ?_⟩) he hpl
  exact run_make M F hr hb hd hx I1 r q
end

/-! ### keywords -/
/-- the values of the keywords, from the left -/
def PK (X : Cx) (kws : List Keyword) (t : TA) : Prop :=
  ∀ (pos : Pos) (pins : List (Addr × Obj)) (s : Shared) (σ : St) (H : Hp) (Q : List V → Hp → Prop), Inv X pins σ H s → t σ H Q → wpAny (model X.prog X.w) X.A (evalAll ((backToKw pos (keywordEach kws X.env)).map (·.2))) (AP X pins σ Q) X.xe s
section
variable {X : Cx} {CX : CXT} {k : Nat} {f C : Addr} {fd : FuncData} {ps ks : List Str} {sp : Sp} {E : XK} {x m : Str} {p pos apos kpos : Pos} {e o : Expr} {es : List Expr} {kws : List Keyword} {te ta : TE} {t tk : TA} {nm : Option Str}
/-- how a call with keywords binds: g puts the positional values us and the keywords' values ws (names ks) in the parameters' order, defaults among them -/
structure KBinds (K : PySem.W.Frag) (fd : FuncData) (ps ks : List Str) (g : List Value → List Value → List Value) (gV : List V → List V → List V) : Prop where
  to : ∀ (s : Shared) (us ws : List Value), K.In s.heap → (g us ws).length = ps.length → BindsTo s fd ⟨us, ks.zip ws⟩ (ps.zip (g us ws))
  rel : ∀ {vs : List V} {us : List Value} {zs : List V} {ws : List Value}, Vals vs us → Vals zs ws → Vals (gV vs zs) (g us ws)
def tCallK (sp : Sp) (gV : List V → List V → List V) (E : XK) (t tk : TA) : TE := fun σ H Q => t σ H fun vs H1 => tk σ H1 fun zs H2 => sp (gV vs zs) H2 Q E
variable {g : List Value → List Value → List Value} {gV : List V → List V → List V}
end

/-! ### a def's body keeps its promise -/
/-- names: the parameters first -/
structure FnScope (N P : List Str) (sc : Scope) : Prop where
  kind : sc.kind = .function
  co : sc.isCoroutine = false
  gen : sc.isGenerator = false
  nd : N.Nodup
  pre : N.take P.length = P
  par : ∀ x ∈ P, sc.names.lookup x = some .local ∨ sc.names.lookup x = some .cell
  nofree : ∀ y ∈ sc.names, y.2 ≠ .free

theorem bindL_out {kindOf : Str → Option NameKind} {x : Str} : ∀ {binds : List (Str × Value)} {m : Str → Option Value}, (∀ v, (x, v) ∉ binds) → bindL kindOf binds m x = m x
  | [], _, _ => rfl
  | (n, v) :: r, m, h => by
    unfold bindL
    rw [bindL_out fun w hw => h w (List.mem_cons_of_mem _ hw)]
    split
    · have : x ≠ n := by rintro rfl; exact h v List.mem_cons_self
      simp [this]
    · rfl
theorem bindC_out {kindOf : Str → Option NameKind} {x : Str} : ∀ {binds : List (Str × Value)} {m : Str → Option Value}, (∀ v, (x, v) ∉ binds) → bindC kindOf binds m x = m x
  | [], _, _ => rfl
  | (n, v) :: r, m, h => by
    unfold bindC
    rw [bindC_out fun w hw => h w (List.mem_cons_of_mem _ hw)]
    split
    · rfl
    · have : x ≠ n := by rintro rfl; exact h v List.mem_cons_self
      simp [this]
theorem bindL_get {kindOf : Str → Option NameKind} {x : Str} {v : Value} : ∀ {P : List Str} {vs : List Value} {i : Nat} {m : Str → Option Value}, P.Nodup → P[i]? = some x → vs[i]? = some v → kindOf x = some .local →
    bindL kindOf (P.zip vs) m x = some v
  | [], _, _, _, _, h, _, _ => by simp at h
  | _ :: _, [], _, _, _, _, h, _ => by simp at h
  | p :: P, w :: vs, 0, m, nd, h1, h2, hk => by
    simp at h1 h2; subst h1; subst h2
    show bindL kindOf ((p, w) :: P.zip vs) m p = _
    unfold bindL
    rw [bindL_out fun v hv => (List.nodup_cons.mp nd).1 (List.of_mem_zip hv).1, if_pos hk]
    simp
  | p :: P, w :: vs, i + 1, m, nd, h1, h2, hk => by
    show bindL kindOf ((p, w) :: P.zip vs) m x = _
    unfold bindL
    exact bindL_get (i := i) (List.nodup_cons.mp nd).2 (by simpa using h1) (by simpa using h2) hk
theorem bindC_get {kindOf : Str → Option NameKind} {x : Str} {v : Value} : ∀ {P : List Str} {vs : List Value} {i : Nat} {m : Str → Option Value}, P.Nodup → P[i]? = some x → vs[i]? = some v → kindOf x ≠ some .local →
    bindC kindOf (P.zip vs) m x = some v
  | [], _, _, _, _, h, _, _ => by simp at h
  | _ :: _, [], _, _, _, _, h, _ => by simp at h
  | p :: P, w :: vs, 0, m, nd, h1, h2, hk => by
    simp at h1 h2; subst h1; subst h2
    show bindC kindOf ((p, w) :: P.zip vs) m p = _
    unfold bindC
    rw [bindC_out fun v hv => (List.nodup_cons.mp nd).1 (List.of_mem_zip hv).1, if_neg hk]
    simp
  | p :: P, w :: vs, i + 1, m, nd, h1, h2, hk => by
    show bindC kindOf ((p, w) :: P.zip vs) m x = _
    unfold bindC
    exact bindC_get (i := i) (List.nodup_cons.mp nd).2 (by simpa using h1) (by simpa using h2) hk

/-- the names' values at the entry -/
def start (N : List Str) (vs : List V) : St := vs.map some ++ List.replicate (N.length - vs.length) none

/-- the context of a def's body, at its entry; an exception leaves the frame, then lies as CX says -/
def cxOf (CX : CXT) (P : Program) (w : World) (K : PySem.W.Frag) (mg : Str → Option Value) (base : Heap) (N : List Str) (qual : Str) (scope : Scope) (f : Addr) (cd : Value) (A : Around) (outer : List Env) (s : Shared) (H : Hp) (E : XK) : Cx where
  prog := P
  w := w
  K := K
  mg := mg
  base := base
  A := A.deeper (envOfC qual scope s.heap.objs.size f cd)
  N := N
  s₀ := s
  H₀ := H
  env := envOfC qual scope s.heap.objs.size f cd
  outer := outer
  stack := envOfC qual scope s.heap.objs.size f cd :: outer
  ex := []
  calm := true
  fn := fun _ => true
  pn := []
  xe := fun e s' => wpAny (model P w) (A.deeper (envOfC qual scope s.heap.objs.size f cd)) (leaving (envOfC qual scope s.heap.objs.size f cd) e) (fun _ s'' => CX outer H s E e s'') (fun e' s'' => CX outer H s E e' s'') s'

theorem cell_has {sc : Scope} {n : Nat} {x : Str} (h : sc.names.lookup x = some .cell) : ∃ c, (cellsFrom n sc.names []).lookup x = some c := by
  have q := PySem.W.cellsFrom_some sc.names n [] (.inl h)
  exact Option.isSome_iff_exists.mp q

theorem inv_start {CX : CXT} {P : Program} {w : World} {K : PySem.W.Frag} {mg : Str → Option Value} {base : Heap} {N ps : List Str} {qual : Str} {scope : Scope} {f : Addr} {cd : Value} {A : Around} {outer : List Env} {s s1 : Shared} {H : Hp} {E : XK} {us : List Value} {vs : List V}
    (S : FnScope N ps scope) (hd : A.handled = none) (e0 : Env0 P w K mg base A outer s H) (hl : vs.length = ps.length) (r : Vals vs us)
    (x : InCallC s s.heap.objs.size (bindL (envOfC qual scope s.heap.objs.size f cd).kindOf (ps.zip us) fun _ => none) (cellsFrom (s.heap.objs.size + 1) scope.names []) (bindC (envOfC qual scope s.heap.objs.size f cd).kindOf (ps.zip us) fun _ => none) s1) :
    Inv (cxOf CX P w K mg base N qual scope f cd A outer s H E) [] (start N vs) H s1 := by
  have hpl : ps.length ≤ N.length := by have := congrArg List.length S.pre; rw [List.length_take] at this; omega
  obtain ⟨h1, tk, rfl, hk⟩ := x.done
  have noA : ∀ b : Addr, b ∉ (cxOf CX P w K mg base N qual scope f cd A outer s H E).ex := fun b z => absurd (show b ∈ ([] : List Addr) from z) (by simp)
  refine ⟨⟨e0.mod, S.kind, rfl, rfl, Nat.le_refl _, fun y z c h1 h2 => ?_, fun y hy => ?_, fun y c _ h => ?_, fun _ => hd, Around.frames_deeper e0.frames, .inr ⟨rfl, rfl⟩, fun b z => absurd z (noA b), e0.bs, e0.bsz, fun b _ _ => noA b, fun b z => absurd z (noA b), e0.funs, e0.frf⟩,
    rfl, e0.bare, Un.kept hk, ⟨_, x.toInCall.ns, fun i y v h1 h2 h3 => ?_⟩, fun y c h => ⟨_, x.cell y c h⟩, e0.hok.fresh (Nat.le_refl _), fun y c h => ?_, fun p hp => absurd (show p ∈ ([] : List (Addr × Obj)) from hp) (by simp), e0.hok.kept hk, ?_⟩
  · exact name_of_addr x.apart (PySem.mem_of_lookup h1) (PySem.mem_of_lookup h2)
  · have hy : scope.names.lookup y = some .cell ∨ scope.names.lookup y = some .free := hy
    rcases hy with hy | hy
    · exact cell_has hy
    · exact absurd rfl (S.nofree _ (PySem.mem_of_lookup hy))
  · exact Nat.le_of_lt (x.above y c (PySem.mem_of_lookup h))
  · have hi : i < vs.length := by
      unfold start at h2
      by_cases hi : i < vs.length
      · exact hi
      · rw [List.getElem?_append_right (by simpa using hi)] at h2
        rw [List.getElem?_replicate] at h2
        split at h2 <;> cases h2
    have ha : vs[i]? = some v := by
      unfold start at h2
      rw [List.getElem?_append_left (by simpa using hi), List.getElem?_map] at h2
      cases e : vs[i]? with
      | none => rw [e] at h2; cases h2
      | some a => rw [e] at h2; cases h2; rfl
    obtain ⟨u, hu, rv⟩ := r.get ha
    have hp : ps[i]? = some y := by
      rw [← S.pre, List.getElem?_take_of_lt (by omega)]; exact h1
    have ndP : ps.Nodup := by rw [← S.pre]; exact S.nd.sublist (List.take_sublist _ _)
    refine ⟨u, rv, ?_⟩
    rcases S.par y (List.mem_of_getElem? hp) with k | k
    · exact .inl ⟨k, bindL_get ndP hp hu k⟩
    · obtain ⟨c, e⟩ := cell_has (n := s.heap.objs.size + 1) k
      refine .inr ⟨.inl k, c, e, ?_⟩
      have q := x.cell y c e
      rw [bindC_get ndP hp hu (by show scope.names.lookup y ≠ _; rw [k]; decide)] at q
      exact q
  · exact e0.hok.fresh (Nat.le_of_lt (x.above y c (PySem.mem_of_lookup h)))
  · unfold start
    show _ = N.length
    rw [List.length_append, List.length_map, List.length_replicate]
    omega

/-- THE RULE: a def (or a method) of the text, by its body. The body's reading t is chosen for each entry; it is run at the parameters' values -/
theorem fn_of {CX : CXT} {P : Program} {w : World} {K : PySem.W.Frag} {mg : Str → Option Value} {base : Heap} {k : Nat} {f : Addr} {name qual : Str} {params : Arguments} {body : List Stmt} {scope : Scope} {dV kV doc pm cdv ct oc : Value} {an od : Option Addr}
    {osl : Array (Option Value)} {N ps : List Str} {sp : Sp} (lk : K.lookup f = some ⟨oc, od, .func (PySem.W.fnOf name qual params body scope dV kV doc pm an cdv ct), osl⟩) (hcd : PySem.W.codeIn K cdv qual = true) (S : FnScope N ps scope)
    (len : ∀ vs H Q E, sp vs H Q E → vs.length = ps.length)
    (hbody : ∀ (A : Around) (outer : List Env) (s : Shared) (H : Hp) (vs : List V) (Q : VK) (E : XK), Room k (A.deeper (envOfC qual scope s.heap.objs.size f cdv)) → sp vs H Q E →
      ∃ t, PSs (cxOf CX P w K mg base N qual scope f cdv A outer s H E) body t ∧ t { nx := fun _ H' => Q .non H', rt := Q } (start N vs) H) :
    FnOk P w K mg base CX (k + 1) f (PySem.W.fnOf name qual params body scope dV kV doc pm an cdv ct) ps sp := by
  refine ⟨len, fun A outer s H args us vs Q E hr e0 hb r hsp => ?_⟩
  have hl := len _ _ _ _ hsp
  have KX : K.In s.heap := e0.mod.kin.keeps fun b o e => (e0.bs b o e).1
  have lim : s.heap.NoLimit := e0.mod.nolimit.keeps fun b o e => (e0.bs b o e).1
  have hkind : ∀ y ∈ ps.zip us, scope.names.lookup y.1 = some .local ∨ (scope.names.lookup y.1 = some .cell ∧ ((cellsFrom (s.heap.objs.size + 1) scope.names []).lookup y.1).isSome = true) := fun ⟨n, v⟩ hy => by
    rcases S.par n (List.of_mem_zip hy).1 with q | q
    · exact .inl q
    · exact .inr ⟨q, PySem.W.cellsFrom_some _ _ _ (.inl q)⟩
  refine codeAny_call_function hr.depth (KX _ _ lk) rfl S.co S.gen rfl (PySem.W.codeRec_of KX hcd) (hb _ _ _ _ ?_)
  refine wpAny_newFunctionEnv_cells S.kind hkind fun env he s1 x => ?_
  subst he
  refine ⟨lim.keeps x.toInCall.keep, codeAny_func ?_⟩
  obtain ⟨t, ht, hq⟩ := hbody A outer s H vs Q E (hr.deeper _) hsp
  have I : Inv (cxOf CX P w K mg base N qual scope f cdv A outer s H E) [] (start N vs) H s1 := inv_start S hr.hd e0 hl r x
  refine wpAny_mono (ht [] s1 (start N vs) H _ I hq) (fun fl s' hs => ?_) fun e s' hs => hs
  have fin : ∀ {σ' : St} {H' : Hp} {v : V} {u : Value}, Inv (cxOf CX P w K mg base N qual scope f cdv A outer s H E) [] σ' H' s' → RelV v u → Q v H' → CE outer P w H s Q u s' :=
    fun {σ' H' v u} J rv q => ⟨v, H', J.os, J.bare, J.base, J.hok, rv, q⟩
  cases fl with
  | ret u =>
    obtain ⟨v, σ', H', J, rv, q⟩ := hs
    exact fin J rv q
  | next =>
    obtain ⟨σ', H', J, q⟩ := hs
    exact fin (v := V.non) (u := Value.none) J rfl q
  | brk =>
    obtain ⟨_, _, _, q⟩ := hs
    exact False.elim q
  | cont =>
    obtain ⟨_, _, _, q⟩ := hs
    exact False.elim q
end L2

namespace L2
open PySem PySem.Spec PyProof.Rows
section
variable {X : Cx} {x : Str} {p pos : Pos} {e : Expr} {es : List Expr} {t : TA} {id T : String} {r : List V → Hp → VK → Prop}

def tCB (r : List V → Hp → VK → Prop) (t : TA) : TE := fun σ H Q => t σ H fun vs H1 => r vs H1 Q
/-- f(e, ..), f a built-in function -/
theorem pe_callB (hc : CallR X (.builtin id) r) (hg : Gl X x) (hm : X.mg x = none) (hv : bootBuiltins x = some (.builtin id)) (ha : PA X (e :: es) t) (hn : x ≠ "__name__" := by decide) (hdb : (x == ("__debug__" : Str)) = false := by decide)
    (he : starEach (e :: es) X.env = (false, eval e X.env) :: starEach es X.env := by rfl) (hpl : (backTo pos (starEach es X.env)).any (·.1) = false := by rfl) : PE X (.Call (.Name x p) (e :: es) [] pos) (tCB r t) := by
  intro pins s σ H Q I h
  refine wpAny_Call_Name_kw (ld_blt I hg hm hv ?_ hn hdb)
  exact PyProof.Rows.callWith_builtin1 (thn (ha pos pins s σ H _ I h) fun us s1 ⟨vs, H1, I1, r1, q1⟩ => hc pins s1 σ H1 vs us Q I1 r1 q1) he hpl
/-- T(e, ..), T a built-in type -/
theorem pe_callTy (hc : CallR X (.type T) r) (hg : Gl X x) (hm : X.mg x = none) (hv : bootBuiltins x = some (.type T)) (ha : PA X (e :: es) t) (hn : x ≠ "__name__" := by decide) (hdb : (x == ("__debug__" : Str)) = false := by decide)
    (he : starEach (e :: es) X.env = (false, eval e X.env) :: starEach es X.env := by rfl) (hpl : (backTo pos (starEach es X.env)).any (·.1) = false := by rfl) : PE X (.Call (.Name x p) (e :: es) [] pos) (tCB r t) := by
  intro pins s σ H Q I h
  refine wpAny_Call_Name_kw (ld_blt I hg hm hv ?_ hn hdb)
  exact PyProof.Rows.callWith_type1 (thn (ha pos pins s σ H _ I h) fun us s1 ⟨vs, H1, I1, r1, q1⟩ => hc pins s1 σ H1 vs us Q I1 r1 q1) he hpl
end
end L2

namespace HT
open PySem PyProof.Rows

/-- t < u of tuples of ints -/
def lexLt : List Int → List Int → Bool
  | [], [] => false
  | [], _ :: _ => true
  | _ :: _, [] => false
  | x :: xs, y :: ys => if x = y then lexLt xs ys else decide (x < y)
section
open PySem.SeqAt
open PySem.AutoSeq1 (wpAny_loadPart')
open PySem.MeetsSeq PySem.MeetsSeq2 PySem.MeetsSeq3

end

section
variable {prog : Program} {w : World} {A : Around} {E : Value → Shared → Prop} {s : Shared}

/-- t + u, t not empty -/
theorem cat_tup {t b : Addr} {vs ws : List Value} {Q : Value → Shared → Prop} (ht : IsTup s.heap t vs.toArray) (hb : IsTup s.heap b ws.toArray) (hv : vs ≠ [])
    (h1 : ws = [] → Q (.ref t) s) (h2 : ws ≠ [] → Q (.ref s.heap.objs.size) { s with heap := s.heap.push { cls := .type "tuple", data := .seq (vs ++ ws).toArray } })
    (hsz : vs.length + ws.length ≤ sizeLine) : wpAny (model prog w) A (binaryOp .Add (.ref t) (.ref b)) Q E s := by
  obtain ⟨⟨cls, dd, data, sl⟩, ho, hc, n, hd⟩ := id ht
  obtain ⟨⟨cls2, dd2, data2, sl2⟩, ho2, hc2, n2, hd2⟩ := id hb
  simp only at hc hd hc2 hd2
  subst hc hd hc2 hd2
  have e : vs.toArray ++ ws.toArray = (vs ++ ws).toArray := by simp
  by_cases hw : ws = []
  · exact concat_meets ⟨_, ho, rfl⟩ ⟨_, ho2, rfl⟩ noFill_tuple_add seq_tuple_add PySem.F.slot_tuple_add PySem.F.entry_tuple_add (PySem.F.args_tuple_add_2 _ _)
      (tuple_addW1 t b vs.toArray ws.toArray n n2 dd dd2 sl sl2 (by simpa using hv) (by simp [hw])) ⟨ho, ho2, h1 hw⟩
  · refine concat_meets ⟨_, ho, rfl⟩ ⟨_, ho2, rfl⟩ noFill_tuple_add seq_tuple_add PySem.F.slot_tuple_add PySem.F.entry_tuple_add (PySem.F.args_tuple_add_2 _ _)
      (tuple_addW2 t b vs.toArray ws.toArray n n2 dd dd2 sl sl2 (by simpa using hv) (by simpa using hw) (by rw [List.size_toArray, List.size_toArray]; exact hsz)) ⟨ho, ho2, ?_⟩
    rw [e]
    exact h2 hw

/-! ### t[a:b], not the whole -/
/-- a slice's bound as a place among n (d where it is left out) -/
def sIx (n d : Nat) : Option Int → Nat
  | none => d
  | some v => if v < 0 then (v + (n : Int)).toNat else min v.toNat n
theorem sIx_none (n d : Nat) : sIx n d none = d := rfl
theorem sIx_nat (n d k : Nat) : sIx n d (some (k : Int)) = min k n := by
  show (if (k : Int) < 0 then ((k : Int) + (n : Int)).toNat else min (k : Int).toNat n) = min k n
  rw [if_neg (by omega), Int.toNat_natCast]
end
end HT

namespace L2
open PySem PySem.Spec PyProof.Rows

/-! ### the parts of a slice -/
abbrev TO := St → Hp → (Option Int → Hp → Prop) → Prop
/-- a slice's part (left out, or an int) -/
def PO (X : Cx) (e : Option Expr) (t : TO) : Prop :=
  ∀ (pins : List (Addr × Obj)) (s : Shared) (σ : St) (H : Hp) (Q : Option Int → Hp → Prop), Inv X pins σ H s → t σ H Q →
    wpAny (model X.prog X.w) X.A (evalPart e X.env) (fun u s' => ∃ o H', Inv X pins σ H' s' ∧ IsPart u o ∧ Q o H') X.xe s
def tNoPart : TO := fun _ H Q => Q none H
def tPart (t : TE) : TO := fun σ H Q => t σ H fun x H1 => ∃ i, x = .int i ∧ Q (some i) H1

section
variable {X : Cx} {e : Expr} {te : TE} {lo hi : Option Expr} {tl th : TO} {pos p2 : Pos}

theorem po_none : PO X none tNoPart := by
  intro pins s σ H Q I h
  rw [evalPart_none]
  exact wpAny_pure ⟨none, H, I, .none, h⟩
theorem po_some (h : PE X e te) : PO X (some e) (tPart te) := by
  intro pins s σ H Q I hw
  rw [evalPart_some]
  refine thn (h pins s σ H _ I hw) fun u s1 ⟨x, H1, I1, r1, q1⟩ => ?_
  obtain ⟨i, rfl, q⟩ := q1
  obtain ⟨t, rfl⟩ := r1
  exact ⟨some i, H1, I1, .int i t, q⟩

/-- what a slice of a value is, by values: the slice object stands at sl -/
def SlR (X : Cx) (r : V → Option Int → Option Int → Hp → VK → Prop) : Prop :=
  ∀ (pins : List (Addr × Obj)) (s : Shared) (σ : St) (H : Hp) (x : V) (v vl vu : Value) (lo hi : Option Int) (sl : Addr) (Q : VK), Inv X pins σ H s → RelV x v → s.heap.IsSliceOf sl vl vu .none → IsPart vl lo → IsPart vu hi → r x lo hi H Q →
    ∃ T id, typeLookup (.type T) "__getitem__" = pure (some (.builtin id)) ∧ s.TypeIs v T ∧ wpAny (model X.prog X.w) X.A (getItem v (.ref sl)) (EP X pins σ Q) X.xe s
def tSl (r : V → Option Int → Option Int → Hp → VK → Prop) (te : TE) (tl th : TO) : TE := fun σ H Q => te σ H fun x H1 => tl σ H1 fun l H2 => th σ H2 fun u H3 => r x l u H3 Q
/-- a[lo:hi], any a -/
theorem pe_slice {r : V → Option Int → Option Int → Hp → VK → Prop} (hr : SlR X r) (he : PE X e te) (hl : PO X lo tl) (hu : PO X hi th) : PE X (.Subscript e (.Slice lo hi none p2) pos) (tSl r te tl th) := by
  intro pins s σ H Q I h
  refine Subscript_ (thn (he pins s σ H _ I h) fun v s1 ⟨x, H1, I1, r1, q1⟩ => ?_)
  refine wpAny_Slice (thn (hl pins s1 σ H1 _ I1 q1) fun vl s2 ⟨l, H2, I2, pl, q2⟩ => thn (hu pins s2 σ H2 _ I2 q2) fun vu s3 ⟨u, H3, I3, pu, q3⟩ => ?_)
  rw [evalPart_none]
  refine wpAny_pure ?_
  have I4 : Inv X pins σ H3 { s3 with heap := s3.heap.push { cls := .type "slice", data := .fields #[vl, vu, .none] } } := I3.kept (t' := s3.toks) fun b ob q => Heap.get?_push_of_some _ q
  obtain ⟨T, id, hT, ht, hg⟩ := hr pins { s3 with heap := s3.heap.push { cls := .type "slice", data := .fields #[vl, vu, .none] } } σ H3 x v vl vu l u s3.heap.objs.size Q I4 r1 (Heap.IsSliceOf.new ..) pl pu q3
  show wpAny (model X.prog X.w) X.A (subscriptTail e (.Slice lo hi none p2) v (.ref s3.heap.objs.size)) (EP X pins σ Q) X.xe { s3 with heap := s3.heap.push { cls := .type "slice", data := .fields #[vl, vu, .none] } }
  exact tail_any (ops := [.ref s3.heap.objs.size, v]) ht hT hg (by with_unfolding_all rfl)

/-- the items of xs[lo:hi] -/
def cutV (xs : List V) (lo hi : Option Int) : List V := (xs.drop (HT.sIx xs.length 0 lo)).take (HT.sIx xs.length xs.length hi - HT.sIx xs.length 0 lo)
theorem cutV_length (xs : List V) (lo hi : Option Int) : (cutV xs lo hi).length ≤ xs.length := by
  unfold cutV
  rw [List.length_take, List.length_drop]
  omega
/-- t[lo:hi], not the whole of it (the whole would be t itself) -/
def rSlT (K : PySem.W.Frag) : V → Option Int → Option Int → Hp → VK → Prop := fun x lo hi H Q => ∃ a xs, x = .ref a ∧ SqT K H a xs ∧
  ¬ (HT.sIx xs.length 0 lo = 0 ∧ HT.sIx xs.length xs.length hi = xs.length) ∧ ∀ p, H p = none → Q (.ref p) (upd H p (.tup (cutV xs lo hi)))
/-! ### t < u, t + u -/
def rLtT (K : PySem.W.Frag) : R2 := fun x y H Q => ∃ a b ns ms, x = .ref a ∧ y = .ref b ∧ SqT K H a (ns.map V.int) ∧ SqT K H b (ms.map V.int) ∧ Q (.bl (HT.lexLt ns ms)) H
/-- t + u, t not empty: u empty gives t itself -/
def rCatT (K : PySem.W.Frag) : R2 := fun x y H Q => ∃ a b xs ys, x = .ref a ∧ y = .ref b ∧ SqT K H a xs ∧ SqT K H b ys ∧ xs ≠ [] ∧ xs.length + ys.length ≤ sizeLine ∧
  (ys = [] → Q (.ref a) H) ∧ (ys ≠ [] → ∀ p, H p = none → Q (.ref p) (upd H p (.tup (xs ++ ys))))
theorem Vals.nil_iff {xs : List V} {us : List Value} (r : Vals xs us) : us = [] ↔ xs = [] := by
  cases r with
  | nil => simp
  | cons _ _ => simp
theorem op_catT : OpR X (binaryOp .Add) (rCatT X.K) := by
  intro pins s σ H x y v u Q I rx ry h
  obtain ⟨a, b, xs, ys, rfl, rfl, ha, hb, hx, hz, q1, q2⟩ := h
  cases rx
  cases ry
  obtain ⟨its, r1, p1, _⟩ := I.tuple ha
  obtain ⟨its2, r2, p2, _⟩ := I.tuple hb
  refine HT.cat_tup p1 p2 (fun z => hx (r1.nil_iff.mp z)) (fun z => ⟨.ref a, H, I, rfl, q1 (r2.nil_iff.mp z)⟩) (fun z => ?_) (by rw [← r1.length, ← r2.length]; exact hz)
  refine ⟨.ref s.heap.objs.size, _, I.laid (t' := s.toks) (o := .tup (xs ++ ys)) (fun b ob q => Heap.get?_push_of_some _ q) (Nat.le_refl _) ?_, rfl, q2 (fun w => z (r2.nil_iff.mpr w)) _ (I.hok.fresh (Nat.le_refl _))⟩
  exact ⟨by rw [List.length_append]; exact hz, _, r1.append r2, IsTup.new _ _⟩
end
end L2

namespace L2
open PySem PySem.Spec PyProof.Rows

/-! ### places -/
/-- the place that an index of any sign means -/
def ixN (n : Nat) (i : Int) : Option Nat := if 0 ≤ i then (if i < n then some i.toNat else none) else if -(n : Int) ≤ i then some (i + n).toNat else none
def atI {α : Type} (xs : List α) (i : Int) : Option α := (ixN xs.length i).bind fun j => xs[j]?
theorem ixN_seq {n : Nat} {i : Int} {j : Nat} (h : ixN n i = some j) : seqIndex? i n = some j ∧ j < n ∧ -(n : Int) ≤ i ∧ i < n := by
  unfold ixN at h
  by_cases h0 : 0 ≤ i
  · rw [if_pos h0] at h
    by_cases h1 : i < n
    · rw [if_pos h1] at h
      have e : i.toNat = j := Option.some.inj h
      exact ⟨by rw [seqIndex_of h0 h1, e], by omega, by omega, h1⟩
    · rw [if_neg h1] at h; cases h
  · rw [if_neg h0] at h
    by_cases h1 : -(n : Int) ≤ i
    · rw [if_pos h1] at h
      have e : (i + n).toNat = j := Option.some.inj h
      exact ⟨by rw [seqIndex_neg (by omega) h1, e], by omega, h1, by omega⟩
    · rw [if_neg h1] at h; cases h
theorem atI_get {α : Type} {xs : List α} {i : Int} {v : α} (h : atI xs i = some v) : ∃ j, seqIndex? i xs.length = some j ∧ xs[j]? = some v ∧ j < xs.length ∧ -(xs.length : Int) ≤ i ∧ i < xs.length := by
  unfold atI at h
  cases e : ixN xs.length i with
  | none => rw [e] at h; cases h
  | some j =>
    rw [e] at h
    obtain ⟨h1, h2, h3, h4⟩ := ixN_seq e
    exact ⟨j, h1, h, h2, h3, h4⟩
theorem atI_nat {α : Type} {xs : List α} {j : Nat} {v : α} (h : xs[j]? = some v) : atI xs (j : Int) = some v := by
  have hj : j < xs.length := (List.getElem?_eq_some_iff.mp h).1
  have e : ixN xs.length (j : Int) = some j := by
    unfold ixN
    rw [if_pos (by omega), if_pos (by omega)]; simp
  unfold atI; rw [e]; exact h
theorem atI_last {α : Type} (xs : List α) (v : α) : atI (xs ++ [v]) (-1) = some v := by
  have hl : (xs ++ [v]).length = xs.length + 1 := by simp
  have e : ixN (xs ++ [v]).length (-1) = some xs.length := by
    unfold ixN
    rw [hl, if_neg (by decide), if_pos (by omega)]
    congr 1
    omega
  unfold atI
  rw [e]
  show (xs ++ [v])[xs.length]? = some v
  simp

/-! ### what may be subscripted -/
/-- what stands as an index of a plain subscript -/
def PlainIx (b : Expr) : Prop := ∀ o i, subscripted b false o i = operate [o, i] (getItem o i)
/-- a subscript by values -/
def IxR (X : Cx) (r : R2) : Prop :=
  ∀ (value slice : Expr) (pins : List (Addr × Obj)) (s : Shared) (σ : St) (H : Hp) (x y : V) (v u : Value) (Q : VK), Inv X pins σ H s → RelV x v → RelV y u → r x y H Q →
    subscripted slice false v u = operate [v, u] (getItem v u) → wpAny (model X.prog X.w) X.A (subscriptTail value slice v u) (EP X pins σ Q) X.xe s
/-- a call of a builtin's method by values: the receiver, the arguments -/
def MtR (X : Cx) (id : String) (r : V → List V → Hp → VK → Prop) : Prop :=
  ∀ (pins : List (Addr × Obj)) (s : Shared) (σ : St) (H : Hp) (x : V) (xs : List V) (v : Value) (us : List Value) (Q : VK), Inv X pins σ H s → RelV x v → Vals xs us → r x xs H Q →
    wpAny (model X.prog X.w) X.A (call (.builtin id) (v :: us)) (EP X pins σ Q) X.xe s
section
variable {X : Cx} {a b : Expr} {ta tb : TE} {pos : Pos}
/-- a[b] -/
theorem pe_ix {r : R2} (hr : IxR X r) (ha : PE X a ta) (hb : PE X b tb) (hs : PlainIx b) : PE X (.Subscript a b pos) (tOp r ta tb) := by
  intro pins s σ H Q I h
  exact Subscript_ (binT ha hb I h fun v u s2 x y H2 I2 rx ry q => hr a b pins s2 σ H2 x y v u Q I2 rx ry q (hs _ _))

def rIxL (K : PySem.W.Frag) : R2 := fun x y H Q => ∃ p xs i v, x = .ref p ∧ y = .int i ∧ SqL K H p xs ∧ atI xs i = some v ∧ Q v H
def rIxT (K : PySem.W.Frag) : R2 := fun x y H Q => ∃ p xs i v, x = .ref p ∧ y = .int i ∧ SqT K H p xs ∧ atI xs i = some v ∧ Q v H
def rIxS : R2 := fun x y H Q => ∃ z i c, x = .str z ∧ y = .int i ∧ z.length ≤ sizeLine ∧ atI z.cps.toList i = some c ∧ Q (.str ⟨#[c]⟩) H
theorem ix_list : IxR X (rIxL X.K) := by
  intro value slice pins s σ H x y v u Q I rx ry h hs
  obtain ⟨p, xs, i, z, rfl, rfl, hq, he, q⟩ := h
  cases rx
  obtain ⟨t, rfl⟩ := ry
  obtain ⟨its, r, pl, hz⟩ := I.list hq
  obtain ⟨j, h1, h2, h3, h4, h5⟩ := atI_get he
  obtain ⟨w, ew, rw'⟩ := r.get h2
  have hl := r.length
  have hn := line63
  have fin : EP X pins σ Q w s := ⟨z, H, I, rw', q⟩
  by_cases h0 : 0 ≤ i
  · have hj : i.toNat = j := by
      rw [seqIndex_of h0 h5] at h1
      exact Option.some.inj h1
    exact item_listR pl.isList h0 (by omega) (by rw [hj]; simpa using ew) fin hs
  · have hj : (i + (its.toArray.size : Int)).toNat = j := by
      rw [seqIndex_neg (by omega) h4] at h1
      rw [List.size_toArray, ← hl]
      exact Option.some.inj h1
    exact subscriptTail_builtinR (x := w) pl.isList.typeIs slot_list_getitem.lookup
      (wpAny_getItem_list_neg (Q := fun r s' => r = w ∧ EP X pins σ Q r s') pl.isList (by omega) (by rw [List.size_toArray] <;> omega) (by omega) (by rw [hj]; simpa using ew) ⟨rfl, fin⟩) hs
/-- list, tuple or str -/
def rIx (K : PySem.W.Frag) : R2 := fun x y H Q => rIxL K x y H Q ∨ rIxT K x y H Q ∨ rIxS x y H Q
/-! ### xs[i] = v, any sign -/
def rSetL : V → V → V → Hp → (Hp → Prop) → Prop := fun o i v H Q => ∃ p xs k j, o = .ref p ∧ i = .int k ∧ H p = some (.lst xs) ∧ ixN xs.length k = some j ∧ Q (upd H p (.lst (xs.set j v)))
/-! ### slices -/
theorem slice_bounds (lo hi : Option Int) (n : Nat) : (sliceBounds lo hi none n).1 = ((HT.sIx n 0 lo : Nat) : Int) ∧ (sliceBounds lo hi none n).2.1 = ((HT.sIx n n hi : Nat) : Int) ∧ (sliceBounds lo hi none n).2.2 = 1 := by
  refine ⟨?_, ?_, rfl⟩
  · cases lo with
    | none => simp [sliceBounds, HT.sIx]
    | some i =>
      simp only [sliceBounds, HT.sIx, Option.getD_none, show (1 : Int) > 0 by decide, if_true]
      by_cases h : i < 0
      · simp only [h, if_true] <;> omega
      · simp only [h, if_false] <;> omega
  · cases hi with
    | none => simp [sliceBounds, HT.sIx]
    | some i =>
      simp only [sliceBounds, HT.sIx, Option.getD_none, show (1 : Int) > 0 by decide, if_true]
      by_cases h : i < 0
      · simp only [h, if_true] <;> omega
      · simp only [h, if_false] <;> omega
theorem slicePick_cut (its : List Value) (lo hi : Option Int) : slicePick its.toArray lo hi none = ((its.drop (HT.sIx its.length 0 lo)).take (HT.sIx its.length its.length hi - HT.sIx its.length 0 lo)).toArray := by
  obtain ⟨h1, h2, h3⟩ := slice_bounds lo hi its.toArray.size
  unfold slicePick
  rw [h1, h2, h3]
  simp only [sliceRange_one, pick_run, List.size_toArray] <;> rfl
/-- xs[lo:hi] of a list: a new list -/
def rSlL (K : PySem.W.Frag) : V → Option Int → Option Int → Hp → VK → Prop := fun x lo hi H Q => ∃ a xs, x = .ref a ∧ SqL K H a xs ∧ ∀ p, H p = none → Q (.ref p) (upd H p (.lst (cutV xs lo hi)))
theorem sl_list : SlR X (rSlL X.K) := by
  intro pins s σ H x v vl vu lo hi sl Q I rx hs pl pu h
  obtain ⟨a, xs, rfl, hx, q⟩ := h
  cases rx
  obtain ⟨its, r, ht, hz⟩ := I.list hx
  have hlen := r.length
  refine ⟨"list", _, slot_list_getitem.lookup, ht.isList.typeIs, ?_⟩
  refine wpAny_getItem_list_slice ht.isList hs pl pu .none (by simp) ?_ (by rw [List.size_toArray] <;> omega)
  rw [slicePick_cut, ← hlen]
  refine ⟨.ref s.heap.objs.size, _, I.laid (t' := s.toks) (o := .lst (cutV xs lo hi)) (fun b ob q => Heap.get?_push_of_some _ q) (Nat.le_refl _) ?_, rfl, q _ (I.hok.fresh (Nat.le_refl _))⟩
  exact ⟨Nat.le_trans (cutV_length xs lo hi) hz, _, 0, (r.drop (HT.sIx xs.length 0 lo)).take (HT.sIx xs.length xs.length hi - HT.sIx xs.length 0 lo), Heap.get?_push_size _ rfl⟩

/-! ### in, not in: flat items -/
def flatV : V → Bool
  | .non => true
  | .bl _ => true
  | .int _ => true
  | .str _ => true
  | _ => false
/-- == of flat values -/
def eqV : V → V → Bool
  | .non, .non => true
  | .bl a, .bl b => a == b
  | .bl a, .int b => (if a then 1 else 0) == b
  | .int a, .bl b => a == (if b then 1 else 0)
  | .int a, .int b => a == b
  | .str a, .str b => a == b
  | _, _ => false
theorem eqAt_V {A : Around} {s : Shared} {y x : V} {u v : Value} (ry : RelV y u) (rx : RelV x v) (fy : flatV y = true) (fx : flatV x = true) : SeqAt.EqAt A s u v (eqV y x) := by
  cases y with
  | non =>
    cases ry
    cases x with
    | non => cases rx; exact SeqAt.EqAt.same _
    | bl b => cases rx; exact SeqAt.EqAt.none_bool b
    | int b => obtain ⟨t, rfl⟩ := rx; exact SeqAt.EqAt.none_int b t
    | str b => obtain ⟨t, rfl⟩ := rx; exact SeqAt.EqAt.none_str b t
    | _ => exact absurd (show false = true from fx) Bool.false_ne_true
  | bl a =>
    cases ry
    cases x with
    | non => cases rx; exact SeqAt.EqAt.bool_none a
    | bl b => cases rx; exact SeqAt.EqAt.bool_bool a b
    | int b => obtain ⟨t, rfl⟩ := rx; exact SeqAt.EqAt.bool_int a b t
    | str b => obtain ⟨t, rfl⟩ := rx; exact SeqAt.EqAt.bool_str a b t
    | _ => exact absurd (show false = true from fx) Bool.false_ne_true
  | int a =>
    obtain ⟨t', rfl⟩ := ry
    cases x with
    | non => cases rx; exact SeqAt.EqAt.int_none a t'
    | bl b => cases rx; exact SeqAt.EqAt.int_bool a t' b
    | int b => obtain ⟨t, rfl⟩ := rx; exact SeqAt.EqAt.int_int a t' b t
    | str b => obtain ⟨t, rfl⟩ := rx; exact SeqAt.EqAt.int_str a t' b t
    | _ => exact absurd (show false = true from fx) Bool.false_ne_true
  | str a =>
    obtain ⟨t', rfl⟩ := ry
    cases x with
    | non => cases rx; exact SeqAt.EqAt.str_none a t'
    | bl b => cases rx; exact SeqAt.EqAt.str_bool a t' b
    | int b => obtain ⟨t, rfl⟩ := rx; exact SeqAt.EqAt.str_int a t' b t
    | str b => obtain ⟨t, rfl⟩ := rx; exact SeqAt.EqAt.str_str a t' b t
    | _ => exact absurd (show false = true from fx) Bool.false_ne_true
  | _ => exact absurd (show false = true from fy) Bool.false_ne_true
/-- the items' answers, read off the values (a value's own answer does not lean on its token) -/
def eqU (x : V) (u : Value) : Bool := match u with
  | .none => eqV .non x
  | .bool b => eqV (.bl b) x
  | .int i _ => eqV (.int i) x
  | .str z _ => eqV (.str z) x
  | _ => false
theorem eqU_of {x y : V} {u : Value} (r : RelV y u) (f : flatV y = true) : eqU x u = eqV y x := by
  cases y with
  | non => cases r; rfl
  | bl b => cases r; rfl
  | int i => obtain ⟨t, rfl⟩ := r; rfl
  | str z => obtain ⟨t, rfl⟩ := r; rfl
  | _ => exact absurd (show false = true from f) Bool.false_ne_true
theorem any_eqU {x : V} : ∀ {xs : List V} {us : List Value}, Vals xs us → xs.all flatV = true → us.any (eqU x) = xs.any fun y => eqV y x
  | _, _, .nil, _ => rfl
  | y :: xs, u :: us, .cons r t, f => by
    rw [List.all_cons, Bool.and_eq_true] at f
    rw [List.any_cons, List.any_cons, eqU_of r f.1, any_eqU t f.2]
theorem mem_eqAt {A : Around} {s : Shared} {x : V} {v : Value} (rx : RelV x v) (fx : flatV x = true) : ∀ {xs : List V} {us : List Value}, Vals xs us → xs.all flatV = true → ∀ u ∈ us, SeqAt.EqAt A s u v (eqU x u)
  | _, _, .nil, _ => fun u hu => by cases hu
  | y :: xs, u :: us, .cons r t, f => fun u' hu => by
    rw [List.all_cons, Bool.and_eq_true] at f
    rcases List.mem_cons.mp hu with rfl | hu
    · rw [eqU_of r f.1]; exact eqAt_V r rx f.1 fx
    · exact mem_eqAt rx fx t f.2 u' hu
def inV (x : V) (xs : List V) : Bool := xs.any fun y => eqV y x
/-- x in a list or tuple of flat items -/
def rIn (K : PySem.W.Frag) (neg : Bool) : R2 := fun x y H Q => ∃ p xs, y = .ref p ∧ (SqL K H p xs ∨ SqT K H p xs) ∧ flatV x = true ∧ xs.all flatV = true ∧ Q (.bl (if neg then !inV x xs else inV x xs)) H
theorem op_in_seq : OpR X (compareOp .In) (rIn X.K false) := by
  intro pins s σ H x y v u Q I rx ry h
  obtain ⟨p, xs, rfl, hq, fx, fs, q⟩ := h
  cases ry
  rcases hq with hq | hq
  · obtain ⟨its, r, pl, hz⟩ := I.list hq
    refine SeqAt.in_listAt (eqU x) pl.isList (fun w hw => mem_eqAt rx fx r fs w (by simpa using hw)) ⟨.bl _, H, I, rfl, ?_⟩
    rw [show its.toArray.any (eqU x) = its.any (eqU x) by simp, any_eqU r fs]
    exact q
  · obtain ⟨its, r, pl, hz⟩ := I.tuple hq
    refine SeqAt.in_tupleAt (eqU x) pl (fun w hw => mem_eqAt rx fx r fs w (by simpa using hw)) ⟨.bl _, H, I, rfl, ?_⟩
    rw [show its.toArray.any (eqU x) = its.any (eqU x) by simp, any_eqU r fs]
    exact q
/-! ### len, list(x), tuple(x) of any list or tuple that is read -/
theorem call_len_seq : CallR X (.builtin "len") (fun xs H Q => ∃ p ys, xs = [.ref p] ∧ (SqL X.K H p ys ∨ SqT X.K H p ys) ∧ Q (.int ys.length) H) := by
  intro pins s σ H xs us Q I r h
  obtain ⟨p, ys, rfl, hq, q⟩ := h
  obtain ⟨u, rfl, rx⟩ := vals1 r
  cases rx
  have hn := line63
  rcases hq with hq | hq
  · obtain ⟨its, r', pl, hz⟩ := I.list hq
    have hlen := r'.length
    exact Calls.call_len_list pl.isList (by simp only [List.size_toArray] <;> omega) ⟨.int ys.length, H, I.tok _, ⟨s.toks + 1, by rw [List.size_toArray, hlen]⟩, q⟩
  · obtain ⟨its, r', pl, hz⟩ := I.tuple hq
    have hlen := r'.length
    exact len_tuple pl (by simp only [List.size_toArray] <;> omega) ⟨.int ys.length, H, I.tok _, ⟨s.toks + 1, by rw [List.size_toArray, hlen]⟩, q⟩
theorem call_list_of : CallR X (.type "list") (fun xs H Q => ∃ p ys, xs = [.ref p] ∧ (SqL X.K H p ys ∨ SqT X.K H p ys) ∧ ∀ l, H l = none → Q (.ref l) (upd H l (.lst ys))) := by
  intro pins s σ H xs us Q I r h
  obtain ⟨p, ys, rfl, hq, q⟩ := h
  obtain ⟨u, rfl, rx⟩ := vals1 r
  cases rx
  have fin : ∀ (its : List Value), Vals ys its → ys.length ≤ sizeLine → ∀ (h' : Heap) (c' : Nat), (∀ b o', s.heap.get? b = some o' → h'.get? b = some o') →
      h'.get? s.heap.objs.size = some { cls := .type "list", dict := none, data := .seq its.toArray c', slots := #[] } → EP X pins σ Q (.ref s.heap.objs.size) { s with heap := h' } := fun its r' hz h' c' kp e =>
    ⟨.ref s.heap.objs.size, _, I.laid (t' := s.toks) kp (Nat.le_refl _) (show ObjOk X.prog X.w _ h' _ (.lst ys) from ⟨hz, its, c', r', e⟩), rfl, q _ (I.hok.fresh (Nat.le_refl _))⟩
  rcases hq with hq | hq
  · obtain ⟨its, r', pl, hz⟩ := I.list hq
    have hlen := r'.length
    obtain ⟨o, ho, hc, n, hd⟩ := pl.isList
    exact call_list_seq p (.inl rfl) ho hc hd (fun h' c' kp e => fin its r' hz h' c' kp e) (by simp only [List.size_toArray] <;> omega)
  · obtain ⟨its, r', pl, hz⟩ := I.tuple hq
    have hlen := r'.length
    obtain ⟨o, ho, hc, n, hd⟩ := pl
    exact call_list_seq p (.inr rfl) ho hc hd (fun h' c' kp e => fin its r' hz h' c' kp e) (by simp only [List.size_toArray] <;> omega)
/-! ### the call of a builtin's method: o.m(..) -/
/-- the value is of that builtin type -/
def tyV (K : PySem.W.Frag) (T : String) (x : V) (H : Hp) : Prop := match x with
  | .str _ => T = "str"
  | .int _ => T = "int"
  | .ref p => (T = "list" ∧ ∃ xs, SqL K H p xs) ∨ (T = "tuple" ∧ ∃ o, K.lookup p = some o ∧ o.cls = .type "tuple" ∧ o.dict = none) ∨
      (T = "dict" ∧ ((∃ kvs, H p = some (.dK kvs)) ∨ ∃ kvs, H p = some (.dT kvs))) ∨ (T = "set" ∧ ∃ S n, H p = some (.set S n))
  | _ => False
theorem tyV_is {pins : List (Addr × Obj)} {σ : St} {H : Hp} {s : Shared} {T : String} {x : V} {v : Value} (I : Inv X pins σ H s) (r : RelV x v) (ty : tyV X.K T x H) :
    s.TypeIs v T ∧ ∀ a, v = .ref a → ∃ ob, s.heap.get? a = some ob ∧ ob.dict = none := by
  cases x with
  | str z =>
    obtain ⟨t, rfl⟩ := r
    cases (show T = "str" from ty)
    exact ⟨typeIs_str s z t, fun _ e => nomatch e⟩
  | int i =>
    obtain ⟨t, rfl⟩ := r
    cases (show T = "int" from ty)
    exact ⟨typeIs_int s i t, fun _ e => nomatch e⟩
  | ref p =>
    cases r
    rcases ty with ⟨rfl, xs, hq⟩ | ⟨rfl, o, hk, hc, hd⟩ | ⟨rfl, hk⟩ | ⟨rfl, S, n, hk⟩
    · obtain ⟨its, _, pl, _⟩ := I.list hq
      refine ⟨pl.isList.typeIs, fun a e => ?_⟩
      cases e
      obtain ⟨o, n, e, c, hd, _⟩ := pl
      exact ⟨o, e, hd⟩
    · refine ⟨⟨o, I.kIn p o hk, hc⟩, fun a e => ?_⟩
      cases e
      exact ⟨o, I.kIn _ o hk, hd⟩
    · have z : ∃ o, s.heap.get? p = some o ∧ o.ExactDict := by
        rcases hk with ⟨kvs, hk⟩ | ⟨kvs, hk⟩
        · obtain ⟨_, _, _, _, o, _, _, e, ex, _⟩ := I.hok p _ hk
          exact ⟨o, e, ex⟩
        · obtain ⟨_, _, _, _, o, _, _, e, ex, _⟩ := I.hok p _ hk
          exact ⟨o, e, ex⟩
      obtain ⟨o, e, ex⟩ := z
      refine ⟨⟨o, e, ex.1⟩, fun a e2 => ?_⟩
      cases e2
      exact ⟨o, e, ex.2.1⟩
    · obtain ⟨o, _, _, _, e, ex, _⟩ := I.hok p _ hk
      refine ⟨⟨o, e, ex.1⟩, fun a e2 => ?_⟩
      cases e2
      exact ⟨o, e, ex.2.1⟩
  | _ => exact False.elim ty
def tBM0 (K : PySem.W.Frag) (T : String) (r : V → List V → Hp → VK → Prop) (to : TE) : TE := fun σ H Q => to σ H fun x H1 => tyV K T x H1 ∧ r x [] H1 Q
def tBM (K : PySem.W.Frag) (T : String) (r : V → List V → Hp → VK → Prop) (to : TE) (t : TA) : TE := fun σ H Q => to σ H fun x H1 => tyV K T x H1 ∧ t σ H1 fun xs H2 => r x xs H2 Q
variable {o e : Expr} {es : List Expr} {to : TE} {t : TA} {name : Str} {apos cpos : Pos} {T id : String} {r : V → List V → Hp → VK → Prop}
theorem pe_bm (pa : PlainAttrs T) (slot : Slot T name id) (hty : typeOf (.builtin id) = pure (.type "method_descriptor")) (hm : MtR X id r) (ho : PE X o to) (ha : PA X (e :: es) t)
    (hbase : attributeBase o name X.env (eval o X.env) = eval o X.env := by rfl)
    (hfew : ((backTo cpos (starEach (e :: es) X.env)).all (fun x => !x.1) && (backToKw cpos (keywordEach [] X.env)).all (fun x => x.1.isSome)
      && decide ((e :: es).length + ([] : List Keyword).length + (if ([] : List Keyword).isEmpty then 0 else 1) < 30)) = true := by rfl)
    (hline : (apos.endLine == cpos.line) = true := by rfl) (hs : starEach (e :: es) X.env = (false, eval e X.env) :: starEach es X.env := by rfl) (hplain : (backTo cpos (starEach es X.env)).any (·.1) = false := by rfl) :
    PE X (.Call (.Attribute o name apos) (e :: es) [] cpos) (tBM X.K T r to t) := by
  intro pins s σ H Q I h
  refine wpAny_Call_method_late hbase hfew hline rfl (thn (ho pins s σ H _ I h) fun v s1 ⟨x, H1, I1, r1, ty, q1⟩ => ?_)
  obtain ⟨h1, h2⟩ := tyV_is I1 r1 ty
  refine ⟨T, id, pa, slot, hty, h1, h2, ?_⟩
  have hA := ha cpos pins s1 σ H1 _ I1 q1
  rw [hs] at hA ⊢
  refine Calls.callWith_builtin (by show (false || (backTo cpos (starEach es X.env)).any (·.1)) = false; rw [hplain] <;> rfl) (Calls.evalArgs_plain ?_)
  exact thn hA fun us s2 ⟨vs, H2, I2, r2, q2⟩ => hm pins s2 σ H2 x vs v us Q I2 r1 r2 q2
/- xs.append(e), list.index on a module's tuple .. are MtR facts of 06m -/
end
end L2

namespace L2
open PySem PySem.Spec PyProof.Rows

def MtM (X : Cx) (id : String) (r : V → List V → Hp → VK → Prop) : Prop :=
  ∀ (pins : List (Addr × Obj)) (s : Shared) (σ : St) (H : Hp) (x : V) (xs : List V) (v : Value) (us : List Value) (Q : VK), Inv X pins σ H s → RelV x v → Vals xs us → r x xs H Q →
    wpAny (model X.prog X.w) X.A (call (.builtin id) (v :: us)) (EP X pins σ Q) X.xe s

/-! ### lists of values -/
theorem Vals.one : ∀ {x : V} {us : List Value}, Vals [x] us → ∃ u, us = [u] ∧ RelV x u
  | _, _, .cons r .nil => ⟨_, rfl, r⟩
theorem Vals.eraseIdx : ∀ {xs : List V} {us : List Value} (i : Nat), Vals xs us → Vals (xs.eraseIdx i) (us.eraseIdx i)
  | _, _, _, .nil => .nil
  | _, _, 0, .cons _ t => t
  | _, _, i + 1, .cons r t => .cons r (Vals.eraseIdx i t)
theorem Vals.rep {xs : List V} {us : List Value} (h : Vals xs us) : ∀ k : Nat, Vals (List.replicate k xs).flatten (List.replicate k us).flatten
  | 0 => .nil
  | k + 1 => by
    rw [List.replicate_succ, List.replicate_succ, List.flatten_cons, List.flatten_cons]
    exact Vals.append h (Vals.rep h k)
theorem len_erase {α : Type} : ∀ (l : List α) (i : Nat), (l.eraseIdx i).length ≤ l.length
  | [], _ => Nat.le_refl _
  | _ :: _, 0 => Nat.le_succ _
  | _ :: r, i + 1 => Nat.succ_le_succ (len_erase r i)
theorem foldl_rep (its : List Value) : ∀ (k : Nat) (acc : List Value),
    List.foldl (fun x1 x2 => x1 ++ x2) acc.toArray (List.replicate k its.toArray) = (acc ++ (List.replicate k its).flatten).toArray
  | 0, acc => by simp
  | k + 1, acc => by
    have e : acc.toArray ++ its.toArray = (acc ++ its).toArray := by simp
    have e2 : (acc ++ its) ++ (List.replicate k its).flatten = acc ++ (List.replicate (k + 1) its).flatten := by
      rw [List.replicate_succ, List.flatten_cons, List.append_assoc]
    rw [← e2, ← foldl_rep its k (acc ++ its), ← e, List.replicate_succ, List.foldl_cons]

section
variable {X : Cx} {pins : List (Addr × Obj)} {σ : St} {H : Hp} {s : Shared} {l b : Addr} {xs ys zs : List V}

/-! ### the two steps: a tracked list is rewritten, a new list is laid -/
theorem Inv.lset {its its' : List Value} {n : Nat} {f : Array Value → Array Value} {t' : Nat} (I : Inv X pins σ H s) (hH : H l = some (.lst xs))
    (e : s.heap.get? l = some { cls := .type "list", data := .seq its.toArray n }) (hf : f its.toArray = its'.toArray) (hv : Vals ys its') (hz : ys.length ≤ sizeLine) :
    Inv X pins σ (upd H l (.lst ys)) { s with heap := s.heap.update l (Obj.mapSeq f), toks := t' } := by
  have q := PySem.IsL.update e f
  rw [hf] at q
  refine I.write (x := l) (e := l) (by rw [hH]; exact trivial) (.inl rfl) (fun b' u hb hu => (Heap.get?_update_other s.heap (Obj.mapSeq f) (Ne.symm hb)).trans hu) ⟨_, q⟩ ?_
  exact ⟨hz, its', _, hv, q⟩
theorem Inv.lnew {its : List Value} {t' : Nat} (I : Inv X pins σ H s) (hv : Vals ys its) (hz : ys.length ≤ sizeLine) :
    Inv X pins σ (upd H s.heap.objs.size (.lst ys)) { s with heap := s.heap.push { cls := .type "list", data := .seq its.toArray }, toks := t' } :=
  I.laid (fun _ _ q => Heap.get?_push_of_some _ q) (Nat.le_refl _) ⟨hz, its, 0, hv, Heap.get?_push_size _ rfl⟩
theorem Inv.fresh (I : Inv X pins σ H s) : H s.heap.objs.size = none := I.hok.fresh (Nat.le_refl _)
theorem Inv.lstM (I : Inv X pins σ H s) (hH : H l = some (.lst xs)) : xs.length ≤ sizeLine ∧ ∃ (its : List Value) (n : Nat), Vals xs its ∧ xs.length = its.length ∧ s.heap.get? l = some { cls := .type "list", data := .seq its.toArray n } := by
  obtain ⟨z, its, n, r, e⟩ := I.hok l _ hH
  exact ⟨z, its, n, r, r.length, e⟩

theorem notLongL {n : Nat} (h : n ≤ sizeLine) : Builtin.List.listTooLong n = false := by
  unfold Builtin.List.listTooLong
  exact decide_eq_false (by omega)
end

section
variable {X : Cx}

/-! ### methods -/
def rAppend : V → List V → Hp → VK → Prop := fun x vs H Q => ∃ l xs y, x = .ref l ∧ vs = [y] ∧ H l = some (.lst xs) ∧ xs.length < sizeLine ∧ Q .non (upd H l (.lst (xs ++ [y])))
theorem mt_append : MtM X "list.append" rAppend := by
  intro pins s σ H x vs v us Q I rx rv h
  obtain ⟨l, xs, y, rfl, rfl, hH, hz, q⟩ := h
  cases rx
  obtain ⟨u, rfl, ru⟩ := rv.one
  obtain ⟨z, its, n, r, hl, e⟩ := I.lstM hH
  refine call_meets F.slot_list_append ⟨_, e, rfl⟩ F.entry_list_append (F.args_list_append_2 _ _) (PySem.list_append l its.toArray n u (by rw [List.size_toArray]; omega)) ⟨e, ?_⟩
  refine ⟨.non, _, I.lset (its' := its ++ [u]) hH e (by simp) (r.append (.cons ru .nil)) ?_, rfl, q⟩
  rw [List.length_append, List.length_singleton]
  omega

def rExtend : V → List V → Hp → VK → Prop := fun x vs H Q => ∃ l b xs zs, x = .ref l ∧ vs = [.ref b] ∧ H l = some (.lst xs) ∧ H b = some (.lst zs) ∧ xs.length + zs.length ≤ sizeLine ∧ Q .non (upd H l (.lst (xs ++ zs)))
theorem mt_extend : MtM X "list.extend" rExtend := by
  intro pins s σ H x vs v us Q I rx rv h
  obtain ⟨l, b, xs, zs, rfl, rfl, hH, hB, hz, q⟩ := h
  cases rx
  obtain ⟨u, rfl, ru⟩ := rv.one
  cases ru
  obtain ⟨z, its, n, r, hl, e⟩ := I.lstM hH
  obtain ⟨z2, its2, n2, r2, hl2, e2⟩ := I.lstM hB
  have hsz : its.toArray.size + its2.toArray.size ≤ sizeLine := by rw [List.size_toArray, List.size_toArray]; omega
  have hlong : ¬ (!its.toArray.isEmpty && Builtin.List.listTooLong (its.toArray.size + its2.toArray.size)) = true := by
    rw [notLongL hsz, Bool.and_false]
    exact Bool.false_ne_true
  refine call_meets F.slot_list_extend ⟨_, e, rfl⟩ F.entry_list_extend (F.args_list_extend_2 _ _)
    (AutoSeq1.list_extend_list_list_0 l its.toArray n b its2.toArray n2 hlong (by rw [List.size_toArray]; omega) (by omega)) ⟨e, e2, ?_⟩
  refine ⟨.non, _, I.lset (its' := its ++ its2) hH e (by simp) (r.append r2) ?_, rfl, q⟩
  rw [List.length_append]
  omega

def rPop : V → List V → Hp → VK → Prop := fun x vs H Q => ∃ l xs y, x = .ref l ∧ vs = [] ∧ H l = some (.lst xs) ∧ xs[xs.length - 1]? = some y ∧ Q y (upd H l (.lst xs.dropLast))
def rPopAt : V → List V → Hp → VK → Prop := fun x vs H Q => ∃ l xs i k y, x = .ref l ∧ vs = [.int i] ∧ H l = some (.lst xs) ∧ -(2 ^ 63) ≤ i ∧ i < 2 ^ 63 ∧ seqIndex? i xs.length = some k ∧ xs[k]? = some y ∧ Q y (upd H l (.lst (xs.eraseIdx k)))
def rReverse : V → List V → Hp → VK → Prop := fun x vs H Q => ∃ l xs, x = .ref l ∧ vs = [] ∧ H l = some (.lst xs) ∧ Q .non (upd H l (.lst xs.reverse))
def rClear : V → List V → Hp → VK → Prop := fun x vs H Q => ∃ l xs, x = .ref l ∧ vs = [] ∧ H l = some (.lst xs) ∧ Q .non (upd H l (.lst []))
/-! ### list + list, list += list, list * int -/
def rCat : R2 := fun x y H Q => ∃ l b xs zs, x = .ref l ∧ y = .ref b ∧ H l = some (.lst xs) ∧ H b = some (.lst zs) ∧ xs.length + zs.length ≤ sizeLine ∧ ∀ p, H p = none → Q (.ref p) (upd H p (.lst (xs ++ zs)))
theorem op_cat : OpR X (binaryOp .Add) rCat := by
  intro pins s σ H x y v u Q I rx ry h
  obtain ⟨l, b, xs, zs, rfl, rfl, hH, hB, hz, q⟩ := h
  cases rx
  cases ry
  obtain ⟨z, its, n, r, hl, e⟩ := I.lstM hH
  obtain ⟨z2, its2, n2, r2, hl2, e2⟩ := I.lstM hB
  refine PySem.P.add_list e e2 ?_ (by rw [List.size_toArray, List.size_toArray]; omega)
  have ea : its.toArray ++ its2.toArray = (its ++ its2).toArray := by simp
  rw [ea]
  exact ⟨.ref _, _, I.lnew (t' := s.toks) (r.append r2) (by rw [List.length_append]; omega), rfl, q _ I.fresh⟩
/-- a list times an int (a negative one is nothing) -/
def rRep : R2 := fun x y H Q => ∃ l k xs, x = .ref l ∧ y = .int k ∧ H l = some (.lst xs) ∧ -(2 ^ 63) ≤ k ∧ k < 2 ^ 63 ∧ xs.length * k.toNat ≤ sizeLine ∧
  ∀ p, H p = none → Q (.ref p) (upd H p (.lst (List.replicate k.toNat xs).flatten))
theorem len_rep {α : Type} (xs : List α) (k : Nat) : (List.replicate k xs).flatten.length = k * xs.length := by
  induction k with
  | zero => simp
  | succ k ih => rw [List.replicate_succ, List.flatten_cons, List.length_append, ih, Nat.succ_mul, Nat.add_comm]
theorem op_rep : OpR X (binaryOp .Mult) rRep := by
  intro pins s σ H x y v u Q I rx ry h
  obtain ⟨l, k, xs, rfl, rfl, hH, h1, h2, hz, q⟩ := h
  cases rx
  obtain ⟨t, rfl⟩ := ry
  obtain ⟨z, its, n, r, hl, e⟩ := I.lstM hH
  have hlen : its.toArray.size * k.toNat ≤ sizeLine := by rw [List.size_toArray, ← hl]; exact hz
  have hcap : ¬ its.toArray.size * k.toNat > (2 ^ 63 - 1) / 8 := by
    have : (sizeLine : Nat) ≤ (2 ^ 63 - 1) / 8 := by decide
    omega
  have hfit : ¬ (!Builtin.List.listFitsIndex k) = true := by
    rw [fitsIndex_both h1 h2]
    exact Bool.false_ne_true
  have hlong : ¬ Builtin.List.listTooLong (its.toArray.size * k.toNat) = true := by
    rw [notLongL hlen]
    exact Bool.false_ne_true
  have hnew : List.foldl (fun x1 x2 => x1 ++ x2) #[] (List.replicate (if its.toArray.isEmpty = true then 0 else k.toNat) its.toArray) = (List.replicate k.toNat its).flatten.toArray := by
    have f0 : ∀ m : Nat, List.foldl (fun x1 x2 => x1 ++ x2) #[] (List.replicate m its.toArray) = (List.replicate m its).flatten.toArray := fun m => by
      have := foldl_rep its m []
      rw [List.nil_append] at this
      exact this
    rw [f0]
    cases its with
    | nil => simp
    | cons a r' => rw [if_neg (by simp)]
  refine wpAny_binaryOp_repeat_ref (T := "list") (U := "int") (by decide) ⟨_, e, rfl⟩ (fun s' => typeIs_int s' k t) noFill_list_mul F.fills_int_mul F.slot_int_rmul repeat_list F.slot_int_index.lookup
    (call_meets F.slot_int_rmul (typeIs_int s k t) F.entry_int_rmul (F.args_int_rmul_2 _ _) (int___rmul___int_list k t l its.toArray n)
      ⟨e, rfl, ⟨_, e, rfl⟩, call_meets F.slot_list_mul ⟨_, e, rfl⟩ F.entry_list_mul (F.args_list_mul_2 _ _) (AutoListH.list___mul___list_int_3 l its.toArray n k t hfit hcap hlong) ⟨e, ?_⟩⟩)
  rw [hnew]
  exact ⟨.ref _, _, I.lnew (t' := s.toks) (r.rep k.toNat) (by rw [len_rep, Nat.mul_comm]; exact hz), rfl, q _ I.fresh⟩

/-! ### del xs[i] -/
theorem del_list {pins : List (Addr × Obj)} {s : Shared} {σ : St} {H : Hp} {l : Addr} {xs : List V} {i : Int} {t : Tok} {k : Nat} {Q : Unit → Shared → Prop} (I : Inv X pins σ H s) (hH : H l = some (.lst xs))
    (h1 : -(2 ^ 63) ≤ i) (h2 : i < 2 ^ 63) (hk : seqIndex? i xs.length = some k) (h : ∀ s', Inv X pins σ (upd H l (.lst (xs.eraseIdx k))) s' → Q () s') :
    wpAny (model X.prog X.w) X.A (delItem (.ref l) (.int i t)) Q X.xe s := by
  obtain ⟨z, its, n, r, hl, e⟩ := I.lstM hH
  refine PySem.P.delItem_list (k := k) e (fitsIndex_both h1 h2) (by rw [List.size_toArray, ← hl]; exact hk) (h _ ?_) (by rw [List.size_toArray]; omega)
  refine I.lset (its' := its.eraseIdx k) (t' := s.toks) hH e ?_ (r.eraseIdx k) ?_
  · show its.toArray.eraseIdxIfInBounds k = (its.eraseIdx k).toArray
    rw [List.eraseIdxIfInBounds_toArray]
  · have := len_erase xs k
    omega
end

/-! ### xs[a:b] = ys -/
section
variable {prog : Program} {w : World} {A : Around} {E : Value → Shared → Prop} {s : Shared}
end

section
variable {X : Cx}
end
end L2

namespace Att
open PySem PySem.W PySem.Calls PyProof.Rows

/-! ### the script -/
theorem ints_of_wellAll {P : Params} {h : Heap} : ∀ (ns : List Int) (vs : List Value), WellAll P h vs (ns.map WData.int) → IntsAre vs ns := by
  intro ns
  induction ns with
  | nil =>
    intro vs w
    rw [List.map_nil] at w
    cases w
    exact .nil
  | cons n ns ih =>
    intro vs w
    rw [List.map_cons] at w
    cases w with
    | cons a b =>
      cases a
      exact .cons _ _ (ih _ b)

theorem script_of {l : OpenLaw} {n : Nat} (hn : l.most = some n) {P : Params} {h : Heap} {args : List WData} {vals : List Value}
    (hpre : l.row.toRowW.claim.pre args = true) (hwl : WellAll P h vals args) :
    ∃ a vs ns, vals = [Value.ref a] ∧ args = [WData.list (ns.map WData.int)] ∧ h.get? a = some { cls := .type "list", data := .seq vs.toArray } ∧ IntsAre vs ns ∧ ns.length ≤ n := by
  have hsh : WShape.hasAll [] args [.list .int] = true := (pre_splitW hpre).1
  have hc : l.pre.holds [] { args := args } = true := (pre_splitW hpre).2
  obtain ⟨d, r, rfl, h1, h2⟩ := hasAllW_cons hsh
  obtain rfl := hasAllW_nil h2
  obtain ⟨xs, rfl, h3⟩ := hasW_list h1
  obtain ⟨ns, rfl⟩ := items_int h3
  have hlen : ns.length ≤ n := by
    unfold OpenLaw.pre at hc
    have h4 : (WTm.not (.lt (.lit (.int (n : Int))) (.len (.arg 0)))).holds [] { args := [.list (ns.map .int)] } = true := by
      have h4 := (holds_andW hc).1
      rw [hn] at h4
      exact h4
    have h5 := condW_of h4 (w_not (w_lt w_lit (w_len_list (w_arg rfl))))
    rw [List.length_map] at h5
    refine Nat.le_of_not_lt fun q => ?_
    have q' : (n : Int) < ((ns.length : Nat) : Int) := by omega
    first
      | (rw [decide_eq_true q'] at h5; exact absurd h5 (by decide))
      | (simp at h5; omega)
  cases hwl with
  | cons w1 w2 =>
    cases w2
    cases w1 with
    | list ho hall => exact ⟨_, _, ns, rfl, rfl, ho, ints_of_wellAll ns _ hall, hlen⟩

theorem post_true (l : OpenLaw) (args : List WData) : l.row.toRowW.claim.post args (.bool true) args = true :=
  postW_of (r := l.row.toRowW) (X := (true == true))
    (show WShape.has [] (.bool true) .bool = true by first | rfl | decide | simp [WShape.has, WShape.arms, WShape.armsAll])
    (show (WTm.eq .res (.lit (.bool true))).value [] { args := args, res := some (.bool true), after := args } = some (.bool (true == true)) from w_eq_bool (w_res rfl) w_lit) rfl

/-! ### the attachment: holds_open's last premise (the goal 'hc' behind k_head) from a wpAny of the law's body -/
/-- the same from a codeAny of the CALL (for a layer whose function contracts speak of calls) -/
theorem attach_call {l : OpenLaw} {n : Nat} {q : Program} {loose : List Str} {XP : (Str → Option Value) → Heap → Prop} {YP : World → Heap → Prop} {d : DefRec}
    (hn : l.most = some n) (hdf : d.params.defaults = [])
    (call : ∀ (w : World) (s₀ s₁ : Shared) (mg mb : Str → Option Value) (fa : Addr) (o : Obj) (pm cd doc : Value) (a : Addr) (vs : List Value) (ns : List Int),
      Ground q loose [] XP w s₀ mg mb s₁.heap → YP w s₁.heap →
      s₁.heap.get? fa = some o → o.data = .func (docDef d.name d.params d.body d.scope pm cd doc) → s₁.heap.CodeRec cd d.name → mg d.name = some (.ref fa) →
      s₁.heap.get? a = some { cls := .type "list", data := .seq vs.toArray } → IntsAre vs ns → ns.length ≤ n → s₁.gens = #[] →
      codeAny (model l.prog w) callerA (.call (.ref fa) ⟨[.ref a], []⟩) (fun r s' => r = .ok (.ret (.bool true)) ∧ OldK s₁.heap s'.heap ∧ s'.os = s₁.os ∧ AllBare s'.gens) s₁) :
    WalkO q loose XP YP l.row.toRowW d [] (fun f vs => PySem.call f vs) := by
  intro w s₀ s₁ mg mb G Y fa o pm cd doc dV kV ho hd hcd hD hmg hg args vals as hpre hlay hrd hwl hlo
  obtain rfl : dV = .none := Dflts.none hD hdf
  obtain rfl : kV = .none := Dflts.noKw hD
  obtain ⟨a, vs, ns, rfl, rfl, hobj, hints, hlen⟩ := script_of hn hpre hwl
  refine enter_call (codeAny_mono (call w s₀ s₁ mg mb fa o pm cd doc a vs ns G Y ho (fd_plain hd) hcd hmg hobj hints hlen hg) fun r s' hq => ?_)
  obtain ⟨rfl, h2, h3, h4⟩ := hq
  exact ⟨.inl ⟨.bool true, .bool true, [], rfl, fun _ => rfl, .bool true, post_true l _, fun _ => ⟨List.Pairwise.nil, fun _ hm => (nomatch hm)⟩⟩, h2, h3, h4⟩

/-! ### rules over ANY heap (no ledger) from facts about the written part K: the library's own take a ledger (News) for what they write -/
section
variable {prog : Program} {w : World} {A : Around} {E : Value → Shared → Prop} {s : Shared} {K : Frag}

/-! the whole heap as the ledger: makes every rule that writes through a ledger a rule over any heap -/
def noObjs (h : Heap) : Heap := { h with objs := #[] }
def ledger (h : Heap) (L d : Addr) : List (Addr × Obj) := (List.range h.objs.size).filterMap fun a => if a = L ∨ a = d then none else (h.get? a).map fun o => (a, o)
end
end Att

namespace L2
open PySem PySem.Spec PyProof.Rows

theorem vals_ints : ∀ {vs : List Value} {ns : List Int}, IntsAre vs ns → Vals (ns.map V.int) vs
  | _, _, .nil => .nil
  | _, _, .cons n t h => .cons ⟨t, rfl⟩ (vals_ints h)

/-- nothing is tracked but the script, known to the object (or it is an object of the module) -/
def Only (H : Hp) : Prop := ∀ b, H b = none ∨ ∃ o xs, H b = some (.frz o (.lst xs))

/-- THE HEAD: the law's promise, at the heap behind the top. F, the promise of the law's def, may use that base is part of the heap (so K.In base, base.Ns mainGlobals mg stand in Mod) -/
theorem law_call {P : Program} {w : World} {K : PySem.W.Frag} {mg mb : Str → Option Value} {CX : CXT} {k : Nat} {fa a : Addr} {fd : FuncData} {x : Str} {sp : Sp} {s₁ : Shared} {vs : List Value} {ns : List Int}
    (KX : K.In s₁.heap) (hns : s₁.heap.Ns mainGlobals mg) (hb : s₁.heap.Ns builtinsNs mb) (hbb : ∀ x : Str, x ≠ "__name__" → mb x = bootBuiltins x) (hlim : s₁.heap.NoLimit) (hg : s₁.gens = #[])
    (ha : s₁.heap.get? a = some { cls := .type "list", data := .seq vs.toArray }) (hi : IntsAre vs ns) (hl : ns.length ≤ sizeLine) (hr : Room k callerA)
    (F : ∀ base : Heap, K.In base → base.Ns mainGlobals mg → FnOk P w K mg base CX k fa fd [x] sp) (hbind : ∀ (s : Shared) (u : Value), BindsTo s fd ⟨[u], []⟩ [(x, u)])
    (hsp : ∀ H : Hp, Only H → SqL K H a (ns.map V.int) → sp [.ref a] H (fun v _ => v = .bl true) fun _ _ _ => False)
    (hCX : ∀ H e s', CX [] H s₁ (fun _ _ _ => False) e s' → False) :
    codeAny (model P w) callerA (.call (.ref fa) ⟨[.ref a], []⟩) (fun r s' => r = .ok (.ret (.bool true)) ∧ OldK s₁.heap s'.heap ∧ s'.os = s₁.os ∧ AllBare s'.gens) s₁ := by
  have rv := vals_ints hi
  have lenV := hi.length
  -- from an abstract heap in which nothing but the script may be tracked
  have core : ∀ H : Hp, Only H → SqL K H a (ns.map V.int) → HOk P w H s₁.heap → (∀ b, H b ≠ none → b = a) → (H a ≠ none → K.lookup a = none) →
      codeAny (model P w) callerA (.call (.ref fa) ⟨[.ref a], []⟩) (fun r s' => r = .ok (.ret (.bool true)) ∧ OldK s₁.heap s'.heap ∧ s'.os = s₁.os ∧ AllBare s'.gens) s₁ := by
    intro H hO hS hok hA hK
    have base_of : ∀ {b : Addr} {o : Obj}, s₁.heap.get? b = some o → H b = none → (hidT s₁.heap H).get? b = some o := fun e n => hidT_get e n
    have noA : ∀ {b : Addr} {o : Obj} {es : Array DictEntry} {ep : Nat}, s₁.heap.get? b = some o → o.data = .dict es ep → H b = none := fun {b o es ep} e d => by
      cases q : H b with
      | none => rfl
      | some u =>
        have e' : b = a := hA b (by rw [q]; simp)
        subst e'
        rw [ha] at e; cases e
        have d' : Data.seq vs.toArray _ = Data.dict es ep := d
        cases d'
    have nsK : ∀ {b : Addr} {m : Str → Option Value}, s₁.heap.Ns b m → (hidT s₁.heap H).Ns b m := fun {b m} ⟨o, es, ep, e, d, r⟩ => ⟨o, es, ep, base_of e (noA e d), d, r⟩
    have hKb : K.In (hidT s₁.heap H) := fun b o e => base_of (KX b o e) (by
      cases q : H b with
      | none => rfl
      | some u =>
        have e' : b = a := hA b (by rw [q]; simp)
        subst e'
        rw [hK (by rw [q]; simp)] at e; cases e)
    have hM : Mod K mg (hidT s₁.heap H) := ⟨hKb, nsK hns, ⟨mb, nsK hb, hbb⟩, let ⟨mc, h1, h2⟩ := hlim; ⟨mc, nsK h1, h2⟩⟩
    have e0 : Env0 P w K mg (hidT s₁.heap H) callerA [] s₁ H := ⟨rfl, hM, fun b o e => of_hidT e, Nat.le_of_eq (hidT_size _ _), trivial, fun b hb => absurd (show b ∈ ([] : List Addr) from hb) (by simp), hok, .of_eq hg⟩
    refine codeAny_mono ((F _ hKb (nsK hns)).run callerA [] s₁ H ⟨[.ref a], []⟩ [.ref a] [.ref a] _ _ hr e0 (hbind s₁ (.ref a)) (.cons rfl .nil) (hsp H hO hS)) fun r s' h => ?_
    cases r with
    | error e => exact (hCX H e s' h).elim
    | ok fl =>
      cases fl with
      | next => exact False.elim h
      | brk => exact False.elim h
      | cont => exact False.elim h
      | ret u =>
        obtain ⟨v, H', os, bare, un, hok', r', q⟩ := h
        have q' : v = .bl true := q
        subst q'
        obtain rfl : u = Value.bool true := r'
        refine ⟨rfl, OldK.of_keep fun b o e => ?_, os, bare⟩
        cases q : H b with
        | none => exact un.keep b o e q (by intro z; exact absurd (show b ∈ ([] : List Addr) from z) (by simp)) (by simp)
        | some u =>
          rcases hO b with z | ⟨ob, xs, z⟩
          · rw [q] at z; cases z
          · have z2 := un.frzs b ob _ z
            obtain ⟨e1, _⟩ := hok b _ z
            obtain ⟨e2, _⟩ := hok' b _ z2
            rw [e] at e1; cases e1
            exact e2
  cases hk : K.lookup a with
  | some o =>
    -- the script is one of the module's own objects
    have e := KX a o hk
    rw [ha] at e
    cases e
    refine core (fun _ => none) (fun _ => .inl rfl) (.inr ⟨_, vs.toArray, _, hk, rfl, rfl, rfl, by rw [List.size_toArray, lenV]; exact hl, by simpa using rv⟩) (fun b u z => by have z' : (none : Option HO) = some u := z; cases z') (fun b z => absurd rfl z) fun z => absurd rfl z
  | none =>
    refine core (fun b => if b = a then some (.frz { cls := .type "list", data := .seq vs.toArray } (.lst (ns.map V.int))) else none) (fun b => ?_) (.inl (.inr ⟨{ cls := .type "list", data := .seq vs.toArray }, if_pos rfl⟩)) (fun b u z => ?_) (fun b z => ?_) fun _ => hk
    · by_cases hb : b = a
      · exact .inr ⟨_, _, if_pos hb⟩
      · exact .inl (if_neg hb)
    · by_cases hb : b = a
      · have z' := (if_pos hb).symm.trans z
        cases z'
        subst hb
        exact ⟨ha, by rw [List.length_map]; exact hl, vs, _, rv, ha⟩
      · have z' := (if_neg hb).symm.trans z
        cases z'
    · by_cases hb : b = a
      · exact hb
      · exact absurd (if_neg hb) z
end L2

namespace L2
open PySem PySem.Spec PyProof.Rows

abbrev KOf {K : PySem.W.Frag} {h : Heap} (_ : K.In h) : PySem.W.Frag := K

/-- the goal that k_head leaves (case hc), from the law's promise. F gives the function object fd (K's own) once, then the promise over every base -/
theorem walk_of {l : PySem.W.OpenLaw} {n k : Nat} {q : Program} {loose : List Str} {XP : (Str → Option Value) → Heap → Prop} {YP : World → Heap → Prop} {d : DefRec} {K : Params → PySem.W.Frag} {CX : World → CXT} {sp : World → Sp} {x : Str}
    (hn : l.most = some n) (hn2 : n ≤ sizeLine) (hdf : d.params.defaults = []) (hr : Room k callerA)
    (hY : ∀ (w : World) (h : Heap), YP w h → (K w.params).In h)
    (F : ∀ (w : World) (mg : Str → Option Value) (fa : Addr) (h : Heap), (K w.params).In h → h.Ns mainGlobals mg → mg d.name = some (.ref fa) →
      ∃ fd : FuncData, (∀ (s : Shared) (u : Value), BindsTo s fd ⟨[u], []⟩ [(x, u)]) ∧
        ∀ base : Heap, (K w.params).In base → base.Ns mainGlobals mg → FnOk l.prog w (K w.params) mg base (CX w) k fa fd [x] (sp w))
    (hsp : ∀ (w : World) (H : Hp) (a : Addr) (ns : List Int), ns.length ≤ n → Only H → SqL (K w.params) H a (ns.map V.int) → sp w [.ref a] H (fun v _ => v = .bl true) fun _ _ _ => False)
    (hCX : ∀ (w : World) (H : Hp) (s : Shared) (e : Value) (s' : Shared), CX w [] H s (fun _ _ _ => False) e s' → False) :
    PySem.W.WalkO q loose XP YP l.row.toRowW d [] (fun f vs => PySem.call f vs) := by
  refine Att.attach_call hn hdf fun w s₀ s₁ mg mb fa o pm cd doc a vs ns G Y ho hd hcd hmg hobj hints hlen hg => ?_
  have KX := hY w _ Y
  obtain ⟨fd, hb, hF⟩ := F w mg fa _ KX G.T.g hmg
  exact law_call KX G.T.g G.T.b G.T.builtins G.T.nolimit hg hobj hints (Nat.le_trans hlen hn2) hr hF hb (fun H hO hS => hsp w H a ns hlen hO hS) fun H e s' => hCX w H s₁ e s'
end L2

/- THE LAST THEOREM (shape; LID, My.* are yours):
   My.Adr: a structure of the addresses that your layer names (classes, functions); My.Txt K t: a structure (Prop) of the equations over K;
   My.txt_mk : {K} {implicit addresses ..} (e1 : nsIn K mainGlobals "law" = some (some (.ref f))) (e2 : K.lookup f = some ⟨oc, od, .func (fnOf "law" "law" params body scope dV kV doc pm an cdv ct), sl⟩) (e3 : codeIn K cdv "law" = true) .. : ∃ t, My.Txt K t

set_option maxRecDepth 100000 in
set_option maxHeartbeats 0 in
theorem PySem.Challenge.cw_LID_holds : PySem.Challenge.rw_LID.Holds := by
  w_on; o_law; k_head; (case hw => w_witness2)
  k_fill
  refine L2.walk_of (l := PySem.Challenge.rw_LID) (n := 63) (k := 40) (x := "script") (CX := fun w => ..) (sp := fun _ => My.sp_law) rfl (by decide) rfl ⟨rfl, by decide, by decide⟩ (fun w h Y => PySem.W.kIn_of Y) ?F ?S ?C
  case F =>
    intro w mg fa h KX G hmg
    have T : ∃ t, My.Txt (L2.KOf KX) t := by
      dsimp only [L2.KOf]                          -- K must stand as «<heap const> w.params» for k_is
      refine' My.txt_mk ?e1 ?e2 ?e3 ..
      (case e1 => PySem.W.k_is)                    -- in the order: a name -> its address -> its object -> its parts
      (case e2 => PySem.W.k_is)
      ..
    obtain ⟨t, T⟩ := T
    have e0 := hmg.symm.trans (PySem.W.mg_of KX G T.law)
    cases e0                                       -- fa is the law's own address
    exact ⟨_, fun s u => .of_eq rfl, fun base kb nb => My.law_fn T kb nb⟩     -- if «.of_eq rfl» comes too early: refine' ⟨_, ?b, fun base kb nb => My.law_fn T kb nb⟩; exact fun s u => .of_eq rfl
  case S => exact fun w H a ns hl hO hS => ..
  case C => exact ..
(the tactic k_is has no namespace: write k_is) -/

/-! SHORT WORDS over the layer: a def of the text, its body, what a loop and a test want. -/
namespace L2
open PySem PySem.Spec PyProof.Rows

/-! ### the text by places -/
/-- the j-th statement of a class's body -/
def inClass (s : Stmt) (j : Nat) : Stmt := match s with
  | .ClassDef _ _ _ body _ _ _ _ _ _ _ => body.getD j (.Pass ⟨0, 0, 0, 0⟩)
  | _ => .Pass ⟨0, 0, 0, 0⟩
def defArgs (s : Stmt) : Arguments := match s with
  | .FunctionDef _ a _ _ _ _ _ _ _ _ => a
  | _ => { posonlyargs := [], args := [], vararg := none, kwonlyargs := [], kw_defaults := [], kwarg := none, defaults := [] }
def defBody (s : Stmt) : List Stmt := match s with
  | .FunctionDef _ _ b _ _ _ _ _ _ _ => b
  | _ => []
def defScope (s : Stmt) : Scope := match s with
  | .FunctionDef _ _ _ _ _ _ sc _ _ _ => sc
  | _ => { kind := .function, names := [], isGenerator := false, isCoroutine := false }

/-! ### no exception leaves a def -/
abbrev CX0 : CXT := fun _ _ _ _ _ _ => False
abbrev E0 : XK := fun _ _ _ => False
theorem pass0 {X : Cx} : Passes CX0 X E0 := fun _ _ _ _ _ _ _ h => h.elim

/-! ### a def (or method) of the text as it stands behind the top -/
structure Fun (K : PySem.W.Frag) (x qual : Str) (st : Stmt) (f : Addr) (fd : FuncData) : Prop where
  ex : ∃ (oc : Value) (od : Option Addr) (kV doc pm : Value) (an : Option Addr) (cdv ct : Value) (osl : Array (Option Value)),
    fd = PySem.W.fnOf x qual (defArgs st) (defBody st) (defScope st) .none kV doc pm an cdv ct ∧ K.lookup f = some ⟨oc, od, .func fd, osl⟩ ∧ PySem.W.codeIn K cdv qual = true
  kp : PySem.W.keepIn K (.ref f) = true
section
variable {P : Program} {w : World} {K : PySem.W.Frag} {mg : Str → Option Value} {base : Heap}
/-- THE RULE for a def: its body as a term of rules, and the reading of that term -/
theorem Fun.ok {x qual : Str} {st : Stmt} {f : Addr} {fd : FuncData} {N ps : List Str} {k : Nat} {sp : Sp} (F : Fun K x qual st f fd) (S : FnScope N ps (defScope st)) (len : ∀ vs H Q E, sp vs H Q E → vs.length = ps.length)
    (hbody : ∀ (cdv : Value) (A : Around) (outer : List Env) (s : Shared) (H : Hp) (vs : List V) (Q : VK) (E : XK), Room k (A.deeper (envOfC qual (defScope st) s.heap.objs.size f cdv)) → sp vs H Q E →
      ∃ t, PSs (cxOf CX0 P w K mg base N qual (defScope st) f cdv A outer s H E).nox (defBody st) t ∧ t { nx := fun _ H' => Q .non H', rt := Q } (start N vs) H) : FnOk P w K mg base CX0 (k + 1) f fd ps sp := by
  obtain ⟨oc, od, kV, doc, pm, an, cdv, ct, osl, rfl, lk, hcd⟩ := F.ex
  refine fn_of lk hcd S len fun A outer s H vs Q E hr hsp => ?_
  obtain ⟨t, h, q⟩ := hbody cdv A outer s H vs Q E hr hsp
  exact ⟨t, h.nox, q⟩
/-- how its arguments bind (no defaults): h is «fun _ _ _ _ _ _ us hl => match us, hl with | [_, _], _ => rfl», one _ a parameter -/
theorem Fun.binds {x qual : Str} {st : Stmt} {f : Addr} {fd : FuncData} {ps : List Str} (F : Fun K x qual st f fd)
    (h : ∀ (kV doc pm : Value) (an : Option Addr) (cdv ct : Value) (us : List Value), us.length = ps.length → bindArgs (PySem.W.fnOf x qual (defArgs st) (defBody st) (defScope st) .none kV doc pm an cdv ct) ⟨us, []⟩ = pure (ps.zip us)) : Binds K fd ps [] := by
  obtain ⟨oc, od, kV, doc, pm, an, cdv, ct, osl, rfl, lk, hcd⟩ := F.ex
  exact .all (h kV doc pm an cdv ct)
theorem fun_mk {x qual : Str} {st : Stmt} {f : Addr} {oc : Value} {od an : Option Addr} {osl : Array (Option Value)} {kV doc pm cdv ct : Value} (l : K.lookup f = some ⟨oc, od, .func (PySem.W.fnOf x qual (defArgs st) (defBody st) (defScope st) .none kV doc pm an cdv ct), osl⟩)
    (c : PySem.W.codeIn K cdv qual = true) (k : PySem.W.keepIn K (.ref f) = true) : Fun K x qual st f (PySem.W.fnOf x qual (defArgs st) (defBody st) (defScope st) .none kV doc pm an cdv ct) := ⟨⟨oc, od, kV, doc, pm, an, cdv, ct, osl, rfl, l, c⟩, k⟩
end
theorem small1000 {n : Nat} (h : n ≤ 1000) : n < sizeLine := Nat.lt_of_le_of_lt h (by decide)

/-! ### expressions in short: the name that stands in the i-th slot -/
section
variable {X : Cx}
theorem pv (i : Nat) {x : Str} {pos : Pos} (hN : X.N[i]? = some x := by rfl) (hv : Vis X.env.scope x := by first | exact Or.inl rfl | exact Or.inr (Or.inl rfl) | exact Or.inr (Or.inr rfl)) (hd : (x == ("__debug__" : Str)) = false := by decide)
    (hcd : (x == ("__classdict__" : Str)) = false := by decide) : PE X (.Name x pos) (tVar i) := pe_var hN hv hd hcd
end

/-! ### tests -/
theorem iteF {A B : Prop} (h : B) : if false = true then A else B := by
  rw [if_neg Bool.false_ne_true]
  exact h
theorem ite2 {c A B : Prop} [Decidable c] (h1 : c → A) (h2 : ¬ c → B) : if c then A else B := by
  by_cases h : c
  · rw [if_pos h]
    exact h1 h
  · rw [if_neg h]
    exact h2 h
/-! ### heaps -/
/-- all that was tracked is as it was -/
def Same (H H' : Hp) : Prop := ∀ b o, H b = some o → H' b = some o
theorem Same.refl (H : Hp) : Same H H := fun _ _ h => h
theorem Same.trans {H H1 H2 : Hp} (a : Same H H1) (b : Same H1 H2) : Same H H2 := fun c o h => b c o (a c o h)
theorem Same.free {H H' : Hp} (e : Same H H') {l : Addr} (h : H' l = Option.none) : H l = Option.none := by
  cases q : H l with
  | none => rfl
  | some o =>
    rw [e l o q] at h
    cases h
theorem Same.seq {K : PySem.W.Frag} {H H' : Hp} {a : Addr} {xs : List V} (e : Same H H') (h : SqL K H a xs) : SqL K H' a xs := by
  rcases h with (h | ⟨o, h⟩) | h
  · exact .inl (.inl (e _ _ h))
  · exact .inl (.inr ⟨o, e _ _ h⟩)
  · exact .inr h

end L2
set_option maxHeartbeats 4000000
/-! More rules over the hand layer: isinstance, list equality, unpacking of a list, all, reversed. -/
namespace L2
open PySem PySem.Spec PyProof.Rows

theorem Vals.getR : ∀ {xs : List V} {us : List Value} {i : Nat} {u : Value}, Vals xs us → us[i]? = some u → ∃ x, xs[i]? = some x ∧ RelV x u
  | _, _, _, _, .nil, e => by simp at e
  | _, _, 0, _, .cons r _, e => by simp at e; subst e; exact ⟨_, rfl, r⟩
  | _, _, i + 1, u, .cons _ t, e => by
    obtain ⟨x, h1, h2⟩ := Vals.getR (i := i) (u := u) t (by simpa using e)
    exact ⟨x, by simpa using h1, h2⟩

/-! ### isinstance with a built-in type -/
/-- is a value of the type t of the type T -/
def isa (t T : String) : Bool := t == T || (t == "bool" && T == "int")
/-- the type's name of a value -/
def tyN (K : PySem.W.Frag) (x : V) (H : Hp) (t : String) : Prop :=
  match x with
  | .non => t = "NoneType"
  | .bl _ => t = "bool"
  | .int _ => t = "int"
  | .str _ => t = "str"
  | .ref p => (t = "list" ∧ ∃ xs, SqL K H p xs) ∨ (t = "tuple" ∧ ∃ xs, SqT K H p xs)
  | _ => False
def isiTs : List String := ["int", "bool", "str", "list", "tuple", "dict"]
section
variable {X : Cx}
theorem call_isi : CallR X (.builtin "isinstance") (fun xs H Q => ∃ x T t, xs = [x, .ty T] ∧ T ∈ isiTs ∧ tyN X.K x H t ∧ Q (.bl (isa t T)) H) := by
  intro pins s σ H xs us Q I r h
  obtain ⟨x, T, t, rfl, hT, ht, q⟩ := h
  obtain ⟨u, w', rfl, rx, rT⟩ := vals2 r
  cases rT
  have hT' : T = "int" ∨ T = "bool" ∨ T = "str" ∨ T = "list" ∨ T = "tuple" ∨ T = "dict" := by simpa [isiTs] using hT
  have fin : ∀ {k : Bool} {s' : Shared}, isa t T = k → Inv X pins σ H s' → EP X pins σ Q (.bool k) s' := fun {k s'} e I' => by subst e; exact ⟨.bl _, H, I', rfl, q⟩
  cases x with
  | non =>
    cases rx
    have ht' : t = "NoneType" := ht
    subst ht'
    rcases hT' with rfl | rfl | rfl | rfl | rfl | rfl
    · exact IsiPair.NoneType_int (fin (by decide) (I.tok _))
    · exact IsiPair.NoneType_bool (fin (by decide) (I.tok _))
    · exact IsiPair.NoneType_str (fin (by decide) (I.tok _))
    · exact IsiPair.NoneType_list (fin (by decide) (I.tok _))
    · exact IsiPair.NoneType_tuple (fin (by decide) (I.tok _))
    · exact IsiPair.NoneType_dict (fin (by decide) (I.tok _))
  | bl b =>
    cases rx
    have ht' : t = "bool" := ht
    subst ht'
    rcases hT' with rfl | rfl | rfl | rfl | rfl | rfl
    · exact IsiPair.bool_int (fin (by decide) I)
    · exact IsiPair.bool_bool (fin (by decide) I)
    · exact IsiPair.bool_str (fin (by decide) (I.tok _))
    · exact IsiPair.bool_list (fin (by decide) (I.tok _))
    · exact IsiPair.bool_tuple (fin (by decide) (I.tok _))
    · exact IsiPair.bool_dict (fin (by decide) (I.tok _))
  | int i =>
    obtain ⟨tk, rfl⟩ := rx
    have ht' : t = "int" := ht
    subst ht'
    rcases hT' with rfl | rfl | rfl | rfl | rfl | rfl
    · exact IsiPair.int_int (fin (by decide) I)
    · exact IsiPair.int_bool (fin (by decide) (I.tok _))
    · exact IsiPair.int_str (fin (by decide) (I.tok _))
    · exact IsiPair.int_list (fin (by decide) (I.tok _))
    · exact IsiPair.int_tuple (fin (by decide) (I.tok _))
    · exact IsiPair.int_dict (fin (by decide) (I.tok _))
  | str y =>
    obtain ⟨tk, rfl⟩ := rx
    have ht' : t = "str" := ht
    subst ht'
    rcases hT' with rfl | rfl | rfl | rfl | rfl | rfl
    · exact IsiPair.str_int (fin (by decide) (I.tok _))
    · exact IsiPair.str_bool (fin (by decide) (I.tok _))
    · exact IsiPair.str_str (fin (by decide) I)
    · exact IsiPair.str_list (fin (by decide) (I.tok _))
    · exact IsiPair.str_tuple (fin (by decide) (I.tok _))
    · exact IsiPair.str_dict (fin (by decide) (I.tok _))
  | ref p =>
    cases rx
    have ht' : (t = "list" ∧ ∃ xs, SqL X.K H p xs) ∨ (t = "tuple" ∧ ∃ xs, SqT X.K H p xs) := ht
    rcases ht' with ⟨rfl, ys, hy⟩ | ⟨rfl, ys, hy⟩
    · obtain ⟨its, rv, ⟨o, n, e, hc, _, _⟩, hz⟩ := I.list hy
      rcases hT' with rfl | rfl | rfl | rfl | rfl | rfl
      · exact IsiPair.list_int e hc (fin (by decide) (I.tok _))
      · exact IsiPair.list_bool e hc (fin (by decide) (I.tok _))
      · exact IsiPair.list_str e hc (fin (by decide) (I.tok _))
      · exact IsiPair.list_list e hc (fin (by decide) I)
      · exact IsiPair.list_tuple e hc (fin (by decide) (I.tok _))
      · exact IsiPair.list_dict e hc (fin (by decide) (I.tok _))
    · obtain ⟨its, rv, ⟨o, e, hc, n, _⟩, hz⟩ := I.tuple hy
      rcases hT' with rfl | rfl | rfl | rfl | rfl | rfl
      · exact IsiPair.tuple_int e hc (fin (by decide) (I.tok _))
      · exact IsiPair.tuple_bool e hc (fin (by decide) (I.tok _))
      · exact IsiPair.tuple_str e hc (fin (by decide) (I.tok _))
      · exact IsiPair.tuple_list e hc (fin (by decide) (I.tok _))
      · exact IsiPair.tuple_tuple e hc (fin (by decide) I)
      · exact IsiPair.tuple_dict e hc (fin (by decide) (I.tok _))
  | _ => exact (show False from ht).elim

/-! ### two lists of ints compared -/
def rEqI (K : PySem.W.Frag) : R2 := fun x y H Q => ∃ (a b : Addr) (ns ms : List Int), x = .ref a ∧ y = .ref b ∧ SqL K H a (ns.map V.int) ∧ SqL K H b (ms.map V.int) ∧ Q (.bl (decide (ns = ms))) H
def rNeI (K : PySem.W.Frag) : R2 := fun x y H Q => ∃ (a b : Addr) (ns ms : List Int), x = .ref a ∧ y = .ref b ∧ SqL K H a (ns.map V.int) ∧ SqL K H b (ms.map V.int) ∧ Q (.bl (!decide (ns = ms))) H
end

/-! ### a, b = a list -/
section
variable {prog : Program} {w : World} {A : Around} {E : Value → Shared → Prop}
end
section
variable {X : Cx} {pos : Pos}
def gLst (K : PySem.W.Frag) (n : Nat) (t : TGs) : TG := fun v σ H Q => ∃ a xs, v = .ref a ∧ SqL K H a xs ∧ xs.length = n ∧ t xs σ H Q
/-! ### all(a list of truths) -/
theorem range_all_bools (bs : List Bool) : (List.range bs.length).all (fun i => bs.getD i false) = bs.all id := by
  rw [Bool.eq_iff_iff]
  simp only [List.all_eq_true, List.mem_range, id]
  constructor
  · intro h x hx
    obtain ⟨i, hi, rfl⟩ := List.mem_iff_getElem.mp hx
    have := h i hi
    simpa [List.getD_eq_getElem?_getD, List.getElem?_eq_getElem hi] using this
  · intro h i hi
    have := h bs[i] (List.getElem_mem hi)
    simpa [List.getD_eq_getElem?_getD, List.getElem?_eq_getElem hi] using this
theorem call_all (hc : X.calm = true) : CallR X (.builtin "all") (fun xs H Q => ∃ (a : Addr) (bs : List Bool), xs = [.ref a] ∧ SqL X.K H a (bs.map V.bl) ∧ Q (.bl (bs.all id)) H) := by
  intro pins s σ H xs us Q I r h
  obtain ⟨a, bs, rfl, ha, q⟩ := h
  obtain ⟨u, rfl, rx⟩ := vals1 r
  cases rx
  obtain ⟨its, rv, pl, hz⟩ := I.list ha
  have hlen : bs.length = its.length := by have := rv.length; simpa using this
  have hlt : a ≠ s.heap.objs.size := by obtain ⟨o, n, ho, _⟩ := pl; exact Nat.ne_of_lt (Heap.lt_size ho)
  refine call_all_walk (wpAny_pyIter_list pl.isList ?_)
  refine ⟨s.heap.objs.size, _, _, _, _, _, fun i => bs.getD i false, rfl, Walks.list (show X.A.in1.handled = none from I.ok.hd hc) _ a hlt its.toArray, ⟨⟨_, Heap.get?_push_size _ rfl, rfl, rfl⟩, pl.isList.push _⟩, ?_, fun h' tk hk => ?_⟩
  · intro i v s' Q' E' hP hQ
    have hv : its[i]? = some v := by simpa using hP
    obtain ⟨x, hx, rxv⟩ := rv.getR hv
    rw [List.getElem?_map] at hx
    cases hb : bs[i]? with
    | none => rw [hb] at hx; cases hx
    | some b =>
      rw [hb] at hx
      cases hx
      cases rxv
      have e : bs.getD i false = b := by simp [List.getD_eq_getElem?_getD, hb]
      have hQ' : Q' (bs.getD i false) s' := hQ
      rw [e] at hQ'
      exact wpAny_truthy_bool hQ'
  · refine ⟨.bl (bs.all id), H, I.kept fun b o e => hk b o (by simp; exact Nat.ne_of_lt (Heap.lt_size e)) (Heap.get?_push_of_some _ e), ?_, q⟩
    show Value.bool _ = Value.bool _
    rw [← range_all_bools bs, hlen]
    simp

/-! ### for x in reversed(a list) -/
def Itv (K : PySem.W.Frag) (a : Addr) (n : Nat) : It :=
  ⟨fun i H => i < n ∧ ∃ xs, SqL K H a xs ∧ xs.length = n, fun i H x H' => H' = H ∧ ∀ xs, SqL K H a xs → xs[n - 1 - i]? = some x, fun i _ => n ≤ i⟩
def iRev (K : PySem.W.Frag) (ta : TA) : TI := fun σ H R => ta σ H fun vs H1 => ∃ a xs, vs = [.ref a] ∧ SqL K H1 a xs ∧ R (Itv K a xs.length) H1
end
end L2

/-! A list comprehension of one clause, over the hand layer. -/
namespace L2
open PySem PySem.Spec PyProof.Rows

/-- the context of a comprehension's block; no exception leaves it -/
abbrev Cx.comp (X : Cx) (scope : Scope) (cl : List (Str × Addr)) (N : List Str) (s : Shared) (H : Hp) (fp : List Addr) (C : Addr) : Cx where
  prog := X.prog
  w := X.w
  K := X.K
  mg := X.mg
  base := X.base
  A := X.A
  N := N
  s₀ := s
  H₀ := H
  env := compEnvC scope cl C X.env
  outer := X.stack
  stack := X.stack
  ex := fp
  fn := fun _ => false
  calm := X.calm
  pn := []
  xe := fun _ _ => False

/-- the cells handed in are those of the frame around -/
def subCl (env : Env) : List (Str × Addr) → Prop
  | [] => True
  | p :: r => env.cells.lookup p.1 = some p.2 ∧ subCl env r
theorem subCl.all {env : Env} : ∀ {cl : List (Str × Addr)}, subCl env cl → ∀ p ∈ cl, env.cells.lookup p.1 = some p.2
  | [], _, p, hp => by simp at hp
  | _ :: _, h, p, hp => (List.mem_cons.mp hp).elim (fun e => e ▸ h.1) (subCl.all h.2 p)
theorem subCl.at {env : Env} {cl : List (Str × Addr)} {x : Str} {c : Addr} (h : subCl env cl) (e : cl.lookup x = some c) : env.cells.lookup x = some c :=
  h.all (x, c) (PySem.mem_of_lookup e)
/-- the names ys that the block has from around, by their slots js there -/
def capt (X : Cx) (scope : Scope) (cl : List (Str × Addr)) : List Str → List Nat → Prop
  | [], [] => True
  | y :: ys, j :: js => (X.N[j]? = some y ∧ X.env.kindOf y = some .cell ∧ (relabel scope X.env).names.lookup y = some .cell ∧ ∃ c, cl.lookup y = some c) ∧ capt X scope cl ys js
  | _, _ => False
theorem capt.get {X : Cx} {scope : Scope} {cl : List (Str × Addr)} : ∀ {ys : List Str} {js : List Nat} {k : Nat} {y : Str}, capt X scope cl ys js → ys[k]? = some y →
    ∃ j, js[k]? = some j ∧ X.N[j]? = some y ∧ X.env.kindOf y = some .cell ∧ (relabel scope X.env).names.lookup y = some .cell ∧ ∃ c, cl.lookup y = some c
  | [], [], k, y, _, e => by simp at e
  | y' :: ys, j :: js, 0, y, h, e => by
    simp at e
    subst e
    exact ⟨j, rfl, h.1⟩
  | y' :: ys, j :: js, k + 1, y, h, e => by
    obtain ⟨j', e1, r⟩ := capt.get (k := k) h.2 (by simpa using e)
    exact ⟨j', by simpa using e1, r⟩
  | [], _ :: _, _, _, h, _ => h.elim
  | _ :: _, [], _, _, h, _ => h.elim
theorem capt.len {X : Cx} {scope : Scope} {cl : List (Str × Addr)} : ∀ {ys : List Str} {js : List Nat}, capt X scope cl ys js → ys.length = js.length
  | [], [], _ => rfl
  | _ :: _, _ :: _, h => by rw [List.length_cons, List.length_cons, capt.len h.2]
  | [], _ :: _, h => h.elim
  | _ :: _, [], h => h.elim
/-- the block's names at its entry: k targets, then what comes from around -/
def capSt (k : Nat) (js : List Nat) (σ : St) : St := List.replicate k none ++ js.map fun j => σ.getD j none

/-- the tests of the clause -/
def PIf (X : Cx) (ifs : List Expr) (t : TT) : Prop :=
  ∀ (pins : List (Addr × Obj)) (s : Shared) (σ : St) (H : Hp) (Q : Bool → Hp → Prop), Inv X pins σ H s → t σ H Q →
    wpAny (model X.prog X.w) X.A (forIn ifs true fun c r => if r = true then do let ok ← isTrue c X.env (eval c X.env); pure (ForInStep.yield ok) else pure (ForInStep.yield r)) (TP X pins σ Q) X.xe s
def tYes : TT := fun _ H Q => Q true H
theorem pif_nil {X : Cx} : PIf X [] tYes := fun _ _ _ H _ I h => wpAny_tests_nil ⟨H, I, h⟩
theorem pif_one {X : Cx} {c : Expr} {t : TT} (h : PT X c t) : PIf X [c] t := fun pins s σ H Q I hq => wpAny_tests_one (h pins s σ H Q I hq)

/-- the turns of a comprehension by an invariant W and a measure -/
def CompR (J : It) (k : Nat) (js : List Nat) (g : TG) (tc : TT) (te : TE) (σ : St) (Q : VK) (H1 : Hp) : Prop :=
  ∃ W : Nat → Nat → St → List V → Hp → Prop, (∃ m, W 0 m (capSt k js σ) [] H1) ∧ ∀ i m σ' xs H', W i m σ' xs H' →
    (J.stop i H' ∧ ∀ p, H' p = none → Q (.ref p) (upd H' p (.lst xs))) ∨
    (J.go i H' ∧ xs.length < sizeLine ∧ ∃ N : St → List V → Hp → Prop, (∀ σ' ys H', N σ' ys H' → ∃ m', m' < m ∧ W (i + 1) m' σ' ys H') ∧
      ∀ x H2, J.yld i H' x H2 → g x σ' H2 fun σ3 H3 => tc σ3 H3 fun b H4 => if b = true then te σ3 H4 fun v H5 => N σ3 (xs ++ [v]) H5 else N σ3 xs H4)
def tComp (wi : TI) (k : Nat) (js : List Nat) (g : TG) (tc : TT) (te : TE) : TE := fun σ H Q => wi σ H fun J H1 => CompR J k js g tc te σ Q H1

section
variable {prog : Program} {w : World} {A : Around} {R : Result → Shared → Prop} {s : Shared}
theorem compLoop_gen {elt target iter : Expr} {ifs : List Expr} {scope : Scope} {pos : Pos} {it acc : Value} {env : Env} (I : Nat → Shared → Prop)
    (turn : ∀ n s, I n s → wpAny (model prog w) A (pyNext it) (fun r s₁ => match r with
      | none => R (.ok .next) s₁
      | some v => wpAny (model prog w) A (letOwnedTupleGo target it v) (fun _ s₀ => wpAny (model prog w) A (assign target env v) (fun _ s₂ =>
          wpAny (model prog w) A (forIn ifs true fun c r => if r = true then do let ok ← isTrue c env (eval c env); pure (ForInStep.yield ok) else pure (ForInStep.yield r)) (fun ok s₃ =>
            if ok = true then wpAny (model prog w) A (eval elt env) (fun x s₄ =>
              wpAny (model prog w) A (call (.builtin "list.append") [acc, x]) (fun _ s₅ => ∃ m, m < n ∧ I m s₅) (fun _ _ => False) s₄) (fun _ _ => False) s₃
            else ∃ m, m < n ∧ I m s₃) (fun _ _ => False) s₂) (fun _ _ => False) s₀) (fun _ _ => False) s₁) (fun _ _ => False) s)
    (n : Nat) (h : I n s) : codeAny (model prog w) A (.compLoop (.ListComp elt [⟨target, iter, ifs, 0⟩] scope pos) 0 it acc env) R s := by
  refine codeAny_loop rfl I (fun n s hI => ?_) n h
  show wpAny _ A ((compTurn (.ListComp elt [⟨target, iter, ifs, 0⟩] scope pos) 0 it acc env).onRaise (fun x => do noteFrame x env; theTreesLotGoes x)) _ _ s
  refine wpAny_noted ?_
  rw [compTurn_list]
  refine wpAny_bind (wpAny_standAt (wpAny_bind (wpAny_mono (turn n s hI) (fun r s₁ h₁ => ?_) fun _ _ z => False.elim z)))
  cases r with
  | none => exact wpAny_pure h₁
  | some v =>
    refine wpAny_bind (wpAny_mono h₁ (fun _ s₀ h₀ => ?_) fun _ _ z => False.elim z)
    refine wpAny_bind (wpAny_mono h₀ (fun _ s₂ h₂ => wpAny_bind (wpAny_mono h₂ (fun ok s₃ h₃ => ?_) fun _ _ z => False.elim z)) fun _ _ z => False.elim z)
    cases ok with
    | false => exact wpAny_pure ⟨rfl, h₃⟩
    | true =>
      exact wpAny_bind (wpAny_bind (wpAny_mono h₃ (fun x s₄ h₄ => wpAny_bind (wpAny_mono h₄ (fun _ s₅ h₅ => wpAny_pure (wpAny_pure ⟨rfl, h₅⟩)) fun _ _ z => False.elim z)) fun _ _ z => False.elim z))
end

/-- an untracked record has turned, another one is tracked now -/
theorem HOk.but {P : Program} {w : World} {H : Hp} {h h' : Heap} {C : Addr} (x : HOk P w H h) (hn : H C = none) (k : ∀ b o, b ≠ C → h.get? b = some o → h'.get? b = some o) : HOk P w H h' := fun b u e =>
  (x b u e).stay (fun c v hc q => k c v (by
    rcases hc with z | z
    · intro y; rw [← z, y, hn] at e; cases e
    · intro y; rw [y, hn] at z; cases z) q) (fun _ q => q) fun _ _ q => q
theorem HOk.track {P : Program} {w : World} {H : Hp} {h : Heap} {a : Addr} {o : HO} (x : HOk P w H h) (hn : H a = none) (new : ObjOk P w (upd H a o) h a o) : HOk P w (upd H a o) h := fun b u e => by
  by_cases hb : b = a
  · subst hb; rw [upd_same] at e; cases e; exact new
  · rw [upd_ne hb] at e
    exact (x b u e).stay (fun _ _ _ q => q) (fun c q => by rw [upd_ne (ne_of_none q hn)]; exact q) fun c xs q => by rw [upd_ne (ne_of_none q hn)]; exact q

section
variable {X : Cx} {elt tg iter : Expr} {ifs : List Expr} {scope : Scope} {cl : List (Str × Addr)} {ts ys : List Str} {js : List Nat} {pos : Pos} {wi : TI} {g : TG} {tc : TT} {te : TE}

theorem capSt_get {k : Nat} {σ : St} {i : Nat} {v : V} (h : (capSt k js σ)[i]? = some (some v)) : ∃ n j, i = k + n ∧ js[n]? = some j ∧ σ[j]? = some (some v) := by
  unfold capSt at h
  by_cases hi : i < k
  · rw [List.getElem?_append_left (by simpa using hi), List.getElem?_replicate] at h
    split at h <;> cases h
  · rw [List.getElem?_append_right (by simpa using hi), List.getElem?_map, List.length_replicate] at h
    cases e : js[i - k]? with
    | none => rw [e] at h; cases h
    | some j =>
      rw [e] at h
      have h' : σ.getD j none = some v := Option.some.inj h
      refine ⟨i - k, j, by omega, e, ?_⟩
      rw [List.getD_eq_getElem?_getD] at h'
      cases q : σ[j]? with
      | none => rw [q] at h'; cases h'
      | some o => rw [q] at h'; exact congrArg some h'

/-- the block's entry -/
theorem inv_comp {pins : List (Addr × Obj)} {σ : St} {H : Hp} {s : Shared} {fp : List Addr} {C : Addr} {h1 : Heap} {m : Str → Option Value} {t' : Nat} (I : Inv X pins σ H s) (hsub : subCl X.env cl) (hcap : capt X scope cl ys js)
    (hkind : scope.kind = .function) (hhas : ∀ x, ((relabel scope X.env).names.lookup x = some .cell ∨ (relabel scope X.env).names.lookup x = some .free) → ∃ c, cl.lookup x = some c)
    (f2 : ∀ b ∈ fp, FpOk X pins H b) (fl : ∀ b ∈ fp, b < s.heap.objs.size) (hC : s.heap.objs.size ≤ C) (hn : h1.Ns C m) (old : ∀ b o, s.heap.get? b = some o → h1.get? b = some o) :
    Inv (X.comp scope cl (ts ++ ys) s H fp C) [] (capSt ts.length js σ) H { s with heap := h1, toks := t' } := by
  obtain ⟨mo, hno, hlo⟩ := id I.loc
  refine ⟨⟨I.ok.mod, hkind, I.ok.glob, I.ok.blt, hC, fun x y c e1 e2 => I.ok.inj x y c (hsub.at e1) (hsub.at e2), fun x hx => hhas x hx, fun x c z _ => (by cases z), I.ok.hd, I.ok.frames, .inl rfl,
      fun b hb => ⟨Nat.ne_of_lt (Nat.lt_of_lt_of_le (fl b hb) hC), fun x c e => (f2 b hb).2.2.2.2.1 x c (hsub.at e)⟩, I.bs, Nat.le_trans I.ok.bsz I.sz, fun b o e hb => ?_, fun b hb z => ?_, I.stack, I.stkFree⟩,
    rfl, I.bare, Un.kept old, ⟨m, hn, fun i x v e1 e2 e3 => ?_⟩, fun x c e => ?_, I.hok.fresh hC, fun x c e => I.freeC x c (hsub.at e), fun p hp => absurd (show p ∈ ([] : List (Addr × Obj)) from hp) (by simp), I.hok.kept old, ?_⟩
  · -- an object of the base is none of the iterator's
    obtain ⟨_, _, _, h3, _⟩ := f2 b hb
    rcases h3 with z | z
    · exact I.ok.noex b o e z
    · exact absurd (Nat.lt_of_lt_of_le (Heap.lt_size e) (Nat.le_trans I.ok.bsz z)) (Nat.lt_irrefl _)
  · obtain ⟨_, h1', h2', _⟩ := f2 b hb
    rcases List.mem_cons.mp (I.stkSub b z) with e | e
    · exact h1' e
    · exact h2' e
  · obtain ⟨n, j, rfl, ej, es⟩ := capSt_get e2
    have ey : ys[n]? = some x := by
      have e1' : (ts ++ ys)[ts.length + n]? = some x := e1
      rw [List.getElem?_append_right (by omega)] at e1'
      simpa using e1'
    obtain ⟨j', ej', hN, hk, hr, c, hc⟩ := hcap.get ey
    rw [ej] at ej'
    cases ej'
    obtain ⟨u, ru, l⟩ := hlo j x v hN es (.inr (.inl hk))
    refine ⟨u, ru, .inr ⟨.inl hr, c, hc, ?_⟩⟩
    rcases l with ⟨k1, _⟩ | ⟨_, c', hc', ⟨o, ho, hd⟩⟩
    · rw [hk] at k1; cases k1
    · have := hsub.at hc
      rw [hc'] at this
      cases this
      exact ⟨o, old _ o ho, hd⟩
  · obtain ⟨v, o, ho, hd⟩ := I.cell x c (hsub.at e)
    exact ⟨v, o, old _ o ho, hd⟩
  · show (capSt ts.length js σ).length = (ts ++ ys).length
    unfold capSt
    rw [List.length_append, List.length_append, List.length_replicate, List.length_map, hcap.len]

/-- behind the block -/
theorem comp_end {pins pins' : List (Addr × Obj)} {σ σ' : St} {H2 H3 : Hp} {s2 s4 : Shared} {fp : List Addr} {C D : Addr} {N : List Str} {h' : Heap} {its : List Value} {xs : List V} {n : Nat} (I2 : Inv X pins σ H2 s2) (f2 : ∀ b ∈ fp, FpOk X pins H2 b)
    (I4 : Inv (X.comp scope cl N s2 H2 fp C) pins' σ' H3 s4) (hC : s2.heap.objs.size ≤ C) (hD : s2.heap.objs.size ≤ D) (hDC : D ≠ C) (hs' : Heap.SameBut C s4.heap h') (rv : Vals xs its) (hz : xs.length ≤ sizeLine) (e4 : s4.heap.get? D = some { cls := .type "list", data := .seq its.toArray n }) (hn : H3 D = none) :
    Inv X pins σ (upd H3 D (.lst xs)) { s4 with heap := h' } := by
  have ext := hs'.extBut
  have neC : ∀ b o, s2.heap.get? b = some o → b ≠ C := fun b o e => Nat.ne_of_lt (Nat.lt_of_lt_of_le (Heap.lt_size e) hC)
  have neD : ∀ b o, s2.heap.get? b = some o → b ≠ D := fun b o e => Nat.ne_of_lt (Nat.lt_of_lt_of_le (Heap.lt_size e) hD)
  have hok : HOk X.prog X.w (upd H3 D (.lst xs)) h' := by
    have h1 : HOk X.prog X.w H3 h' := HOk.but (C := C) I4.hok I4.free fun b o hb e => ext b o hb e
    exact HOk.track h1 hn ⟨hz, its, n, rv, ext D _ hDC e4⟩
  have B : Un (frs X.stack) fp H2 H3 s2.heap s4.heap := I4.base
  have u : Un (frs X.stack) fp H2 (upd H3 D (.lst xs)) s2.heap h' := by
    refine ⟨fun b o e q hb hx => ext b o (neC b o e) (B.keep b o e q hb hx), fun b o e q hb hx => ?_, fun b o e q hx => ?_, fun b o e hx => ?_, fun b ys q => ?_, fun b o ys q => ?_, fun b ps q => ?_⟩
    · obtain ⟨sl, e1⟩ := B.slot b o e q hb hx
      exact ⟨sl, ext b _ (neC b o e) e1⟩
    · rw [upd_ne (neD b o e)]; exact B.free b o e q hx
    · obtain ⟨o', e1⟩ := B.there b o e hx
      exact ⟨o', ext b _ (neC b o e) e1⟩
    · have := B.tups b ys q
      rw [upd_ne (ne_of_none this hn)]; exact this
    · have := B.frzs b o ys q
      rw [upd_ne (ne_of_none this hn)]; exact this
    · obtain ⟨m1, e1⟩ := B.tbls b ps q
      exact ⟨m1, by rw [upd_ne (ne_of_none e1 hn)]; exact e1⟩
  have os : s4.os = s2.os := I4.os
  have gb := I4.bare
  obtain ⟨hh, gg, dd, tt, os'⟩ := s4
  obtain rfl : os' = s2.os := os
  have fin := I2.call (h' := h') (g' := gg) (d' := dd) (t' := tt) (ch := fp) u hok gb fun b hb => ⟨(f2 b hb).2.2.2.1, (f2 b hb).2.1, (f2 b hb).2.2.2.2.1, (f2 b hb).2.2.2.2.2⟩
  exact fin

theorem pe_comp (ts ys : List Str) (js : List Nat) (hc : X.calm = true) (hi : PI X tg iter wi) (hclos : closureFor scope X.env = pure cl) (hsub : subCl X.env cl) (hcap : capt X scope cl ys js)
    (hg : ∀ s H fp C, PG (X.comp scope cl (ts ++ ys) s H fp C) tg g) (ht : ∀ s H fp C, PIf (X.comp scope cl (ts ++ ys) s H fp C) ifs tc) (he : ∀ s H fp C, PE (X.comp scope cl (ts ++ ys) s H fp C) elt te)
    (hkind : scope.kind = .function := by rfl) (hcell : (scope.names.all fun y => y.2 != .cell) = true := by rfl)
    (hnames : (scope.names.all fun y => y.2 != .local || scope.names.lookup y.1 == some .local) = true := by rfl)
    (hhas : ((relabel scope X.env).names.all fun p => (p.2 != .cell && p.2 != .free) || (cl.lookup p.1).isSome) = true := by rfl)
    (hs : ∀ x, foldedSetIterable iter X.env x = pure x := by intro _; rfl) : PE X (.ListComp elt [⟨tg, iter, ifs, 0⟩] scope pos) (tComp wi ts.length js g tc te) := by
  intro pins s σ H Q I h
  have hcell' : ∀ y ∈ scope.names, y.2 ≠ .cell := fun y hy z => by
    have := List.all_eq_true.mp hcell y hy
    rw [z] at this
    exact absurd this (by decide)
  have hnames' : ∀ y ∈ scope.names, y.2 = .local → scope.names.lookup y.1 = some .local := fun y hy z => by
    have := List.all_eq_true.mp hnames y hy
    rw [z] at this
    simpa using this
  have hhas' : ∀ x, ((relabel scope X.env).names.lookup x = some .cell ∨ (relabel scope X.env).names.lookup x = some .free) → ∃ c, cl.lookup x = some c := fun x hx => by
    rcases hx with hx | hx
    · have := List.all_eq_true.mp hhas _ (PySem.mem_of_lookup hx)
      exact Option.isSome_iff_exists.mp (by simpa using this)
    · have := List.all_eq_true.mp hhas _ (PySem.mem_of_lookup hx)
      exact Option.isSome_iff_exists.mp (by simpa using this)
  rw [eval_ListComp]
  refine wpAny_comprehension_free (use := none) rfl hs hclos hkind hnames' (thn (hi pins s σ H _ I h) fun v s1 h1 => thn h1 fun itv s2 h2 => ?_)
  obtain ⟨it, fp, tn, J, H2, e, I2, T, st2, f2, W, ⟨m0, w0⟩, turn⟩ := h2
  subst e
  have fl : ∀ b ∈ fp, b < s2.heap.objs.size := fun b hb => by
    obtain ⟨o, e, _⟩ := T.obj _ _ st2 b hb
    exact Heap.lt_size e
  refine wpAny_newObj_type (wpAny_newFunctionEnv hcell' (by intro y hy; simp at hy) (fun h₁ hns₁ hsb₁ => ?_) hkind)
  dsimp only at hns₁ hsb₁ ⊢
  generalize hHH : s2.heap.push { cls := .type "list", dict := none, data := .seq ([] : List Value).toArray } = HH at hns₁ hsb₁ ⊢
  have hC : HH.objs.size = s2.heap.objs.size + 1 := by rw [← hHH, Heap.size_push]
  have hDC : s2.heap.objs.size ≠ HH.objs.size := by rw [hC]; exact Nat.ne_of_lt (Nat.lt_succ_self _)
  have hCle : s2.heap.objs.size ≤ HH.objs.size := by rw [hC]; exact Nat.le_succ _
  have old : ∀ b o, s2.heap.get? b = some o → h₁.get? b = some o := fun b o e =>
    hsb₁.extBut b o (Nat.ne_of_lt (Nat.lt_of_lt_of_le (Heap.lt_size e) hCle)) (Heap.get?_push_of_some _ (hHH ▸ Heap.get?_push_of_some _ e))
  have hacc : h₁.get? s2.heap.objs.size = some { cls := .type "list", data := .seq ([] : List Value).toArray } := hsb₁.extBut _ _ hDC (Heap.get?_push_of_some _ (hHH ▸ Heap.get?_push_size _ rfl))
  have nofs : ∀ b, s2.heap.objs.size ≤ b → b ∉ frs X.stack := fun b hb z => by
    rcases List.mem_cons.mp (I2.stkSub b z) with e | e
    · exact absurd (Nat.lt_of_lt_of_le I2.lt (e ▸ hb)) (Nat.lt_irrefl _)
    · exact I2.nofs hb e
  have nocell : ∀ b, s2.heap.objs.size ≤ b → ∀ x c, cl.lookup x = some c → c ≠ b := fun b hb x c e z => by
    obtain ⟨v, q⟩ := I2.cell x c (hsub.at e)
    exact absurd (Nat.lt_of_lt_of_le q.lt (z ▸ hb)) (Nat.lt_irrefl _)
  have I' : Inv (X.comp scope cl (ts ++ ys) s2 H2 fp HH.objs.size) [] (capSt ts.length js σ) H2 { s2 with heap := h₁, toks := s2.toks + ([] : List (Str × Value)).length } :=
    inv_comp I2 hsub hcap hkind hhas' f2 fl hCle hns₁ old
  have addPin : ∀ {σ' : St} {H' : Hp} {s' : Shared} {o : Obj}, Inv (X.comp scope cl (ts ++ ys) s2 H2 fp HH.objs.size) [] σ' H' s' → s'.heap.get? s2.heap.objs.size = some o → H' s2.heap.objs.size = none → (∀ v, o.data ≠ .cell v) →
      Inv (X.comp scope cl (ts ++ ys) s2 H2 fp HH.objs.size) [(s2.heap.objs.size, o)] σ' H' s' := fun {σ' H' s' o} J e n d => J.pins_of fun p hp => by
    have e' : p = (s2.heap.objs.size, o) := by simpa using hp
    subst e'
    exact ⟨e, n, hDC, nofs _ (Nat.le_refl _), d⟩
  have stat : ∀ {pins' : List (Addr × Obj)} {H' : Hp}, (∀ p ∈ pins', p.1 = s2.heap.objs.size) → (∀ b ∈ fp, H' b = none) → ∀ b ∈ fp, FpOk (X.comp scope cl (ts ++ ys) s2 H2 fp HH.objs.size) pins' H' b := fun {pins' H'} hp hn b hb =>
    ⟨hn b hb, Nat.ne_of_lt (Nat.lt_of_lt_of_le (fl b hb) hCle), I'.ok.exfs b hb, .inl hb, (I'.ok.exf b hb).2, fun p hq z => by
      have hq' : p ∈ pins' := by simpa using hq
      exact absurd (fl b hb) (by rw [← z, hp p hq']; exact Nat.lt_irrefl _)⟩
  have tn1 : tn 0 h₁ := T.keep _ _ _ st2 fun b _ o e => old b o e
  have loop : ∀ s₃ : Shared, s₃ = { s2 with heap := h₁, toks := s2.toks + ([] : List (Str × Value)).length } →
      codeAny (model X.prog X.w) X.A (.compLoop (.ListComp elt [⟨tg, iter, ifs, 0⟩] scope pos) 0 (.ref it) (.ref s2.heap.objs.size) (compEnvC scope cl HH.objs.size X.env))
        (compPost (model X.prog X.w) X.A X.xe none (EP X pins σ Q) (.ref s2.heap.objs.size) HH.objs.size) s₃ := by
    rintro s₃ rfl
    refine compLoop_gen (fun n s' => ∃ i σ' xs H' its nn, Inv (X.comp scope cl (ts ++ ys) s2 H2 fp HH.objs.size) [] σ' H' s' ∧ Vals xs its ∧ xs.length ≤ sizeLine ∧ s'.heap.get? s2.heap.objs.size = some { cls := .type "list", data := .seq its.toArray nn } ∧ H' s2.heap.objs.size = none ∧
      tn i s'.heap ∧ (∀ b ∈ fp, H' b = none) ∧ W i n σ' xs H') ?_ m0 ⟨0, _, [], H2, [], 0, I', .nil, Nat.zero_le _, hacc, I2.hok.fresh (Nat.le_refl _), tn1, fun b hb => (f2 b hb).1, w0⟩
    rintro n s3 ⟨i, σ3, xs, H3, its, nn, I3, rv, hz3, ac3, nD3, st3, fr3, w3⟩
    have nd : ∀ v, ({ cls := .type "list", data := .seq its.toArray nn } : Obj).data ≠ .cell v := fun v z => by
      have z' : Data.seq its.toArray nn = Data.cell v := z
      cases z'
    have I3p := addPin I3 ac3 nD3 nd
    have pinD : ∀ p ∈ [(s2.heap.objs.size, ({ cls := .type "list", data := .seq its.toArray nn } : Obj))], p.1 = s2.heap.objs.size := fun p hp => by
      rw [List.mem_singleton] at hp
      rw [hp]
    rcases turn i n σ3 xs H3 w3 with ⟨stop, qn⟩ | ⟨go, hz, N, hN, step⟩
    · refine thn (T.done (X.comp scope cl (ts ++ ys) s2 H2 fp HH.objs.size) rfl rfl rfl hc i _ s3 σ3 H3 (fun _ _ => False) I3p (stat pinD fr3) st3 stop) fun r s4 ⟨hr, I4⟩ => ?_
      subst hr
      obtain ⟨m, hn, _⟩ := I4.loc
      have ac4 := (I4.pin _ (List.mem_append_right _ (List.mem_singleton.mpr rfl))).1
      exact ⟨m, hn, fun h' hs' => ⟨.ref s2.heap.objs.size, _, comp_end I2 f2 I4 hCle (Nat.le_refl _) hDC hs' rv hz3 ac4 nD3, rfl, qn _ nD3⟩⟩
    · refine thn (T.item (X.comp scope cl (ts ++ ys) s2 H2 fp HH.objs.size) rfl rfl rfl hc i _ s3 σ3 H3 (fun _ _ => False) I3p (stat pinD fr3) st3 go) fun r s4 ⟨u, hr, h4⟩ => ?_
      subst hr
      refine thn h4 fun _ s5 ⟨x, H5, I5, r5, y5, st5, fr5⟩ => ?_
      have I5' := I5.pinned (stat pinD fr5) (T.obj _ _ st5)
      refine thn (hg _ _ _ _ _ s5 σ3 H5 x u _ I5' r5 (step x H5 y5)) fun _ s6 ⟨σ6, H6, I6, q6⟩ => ?_
      refine thn (ht _ _ _ _ _ s6 σ6 H6 _ I6 q6) fun b s7 ⟨H7, I7, q7⟩ => ?_
      -- what stands of the pins
      have facts : ∀ {σ' : St} {H' : Hp} {s' : Shared}, Inv (X.comp scope cl (ts ++ ys) s2 H2 fp HH.objs.size) ([(s2.heap.objs.size, ({ cls := .type "list", data := .seq its.toArray nn } : Obj))] ++ pinsAt fp s5.heap) σ' H' s' →
          s'.heap.get? s2.heap.objs.size = some { cls := .type "list", data := .seq its.toArray nn } ∧ H' s2.heap.objs.size = none ∧ tn (i + 1) s'.heap ∧ (∀ b ∈ fp, H' b = none) := fun {σ' H' s'} J => by
        have p1 := J.pin (s2.heap.objs.size, ({ cls := .type "list", data := .seq its.toArray nn } : Obj)) (by simp)
        refine ⟨p1.1, p1.2.1, T.keep _ _ _ st5 fun b hb o e => (J.pin (b, o) (List.mem_append_right _ (List.mem_append_right _ (mem_pinsAt hb e)))).1, fun b hb => ?_⟩
        obtain ⟨o, e, d⟩ := T.obj _ _ st5 b hb
        exact (J.pin (b, o) (List.mem_append_right _ (List.mem_append_right _ (mem_pinsAt hb e)))).2.1
      have bare : ∀ {σ' : St} {H' : Hp} {s' : Shared}, Inv (X.comp scope cl (ts ++ ys) s2 H2 fp HH.objs.size) ([(s2.heap.objs.size, ({ cls := .type "list", data := .seq its.toArray nn } : Obj))] ++ pinsAt fp s5.heap) σ' H' s' →
          Inv (X.comp scope cl (ts ++ ys) s2 H2 fp HH.objs.size) [] σ' H' s' := fun J => J.pins_of fun p hp => absurd hp (by simp)
      cases b with
      | false =>
        have q7' : N σ6 xs H7 := by simpa using q7
        obtain ⟨m', hm, w7⟩ := hN _ _ _ q7'
        obtain ⟨a1, a2, a3, a4⟩ := facts I7
        show ∃ m, m < n ∧ _
        exact ⟨m', hm, i + 1, σ6, xs, H7, its, nn, bare I7, rv, hz3, a1, a2, a3, a4, w7⟩
      | true =>
        have q7' : te σ6 H7 fun v H5 => N σ6 (xs ++ [v]) H5 := by
          rw [if_pos rfl] at q7
          exact q7
        show wpAny _ _ (eval elt _) _ _ s7
        refine thn (he _ _ _ _ _ s7 σ6 H7 _ I7 q7') fun xv s8 ⟨v, H8, I8, r8, n8⟩ => ?_
        obtain ⟨m', hm, w8⟩ := hN _ _ _ n8
        obtain ⟨a1, a2, a3, a4⟩ := facts I8
        have hl := rv.length
        refine call_meets F.slot_list_append ⟨_, a1, rfl⟩ F.entry_list_append (F.args_list_append_2 _ _) (PySem.list_append s2.heap.objs.size its.toArray nn xv (by rw [List.size_toArray]; omega)) ⟨a1, ?_⟩
        obtain ⟨n9, q9⟩ : ∃ n9, (s8.heap.update s2.heap.objs.size (Obj.mapSeq fun a => a.push xv)).get? s2.heap.objs.size = some { cls := .type "list", data := .seq (its ++ [xv]).toArray n9 } :=
          ⟨_, by rw [show (its ++ [xv]).toArray = its.toArray.push xv by simp]; exact PySem.IsL.update a1 (fun a => a.push xv)⟩
        have I9 : Inv (X.comp scope cl (ts ++ ys) s2 H2 fp HH.objs.size) [] σ6 H8 { s8 with heap := s8.heap.update s2.heap.objs.size (Obj.mapSeq fun a => a.push xv), toks := s8.toks } :=
          (bare I8).turned (it := s2.heap.objs.size) (fun b o hb e => (Heap.get?_update_other s8.heap _ (Ne.symm hb)).trans e) a2 hDC (.inr (Nat.le_refl _)) (nocell _ (Nat.le_refl _)) fun p hp => absurd (show p ∈ ([] : List (Addr × Obj)) from hp) (by simp)
        refine ⟨m', hm, i + 1, σ6, xs ++ [v], H8, its ++ [xv], n9, I9, rv.append (.cons r8 .nil), ?_, q9, a2, ?_, a4, w8⟩
        · rw [List.length_append, List.length_singleton]; omega
        · exact T.keep _ _ _ a3 fun b hb o e => (Heap.get?_update_other s8.heap _ (Ne.symm (Nat.ne_of_lt (fl b hb)))).trans e
  exact codeAny_compStart_list (loop _ rfl) (T.self _ 0 _ _ _ tn1 (loop _ rfl))
end

/-! ### the forms one uses: one name as target. At a turn's end: what P says, and (_, rfl) that the names from around are as they were -/
abbrev capV (js : List Nat) (σ : St) : St := js.map fun j => σ.getD j none
def CompN (P : Nat → List V → Hp → Prop) (i : Nat) (js : List Nat) (σ : St) : St → List V → Hp → Prop := fun σ' ys H => P (i + 1) ys H ∧ ∃ o, σ' = o :: capV js σ
theorem comp_list {K : PySem.W.Frag} {a : Addr} {xs : List V} {k : Nat} {js : List Nat} {tc : TT} {te : TE} {σ : St} {Q : VK} {H1 : Hp} (P : Nat → List V → Hp → Prop) (h0 : P 0 [] H1) (hl : ∀ i ys H, i ≤ xs.length → P i ys H → SqL K H a xs ∧ ys.length ≤ i) (hz : xs.length < sizeLine)
    (hs : ∀ i x ys H, xs[i]? = some x → P i ys H → tc (some x :: capV js σ) H fun b H2 => if b = true then te (some x :: capV js σ) H2 fun v H3 => CompN P i js σ (some x :: capV js σ) (ys ++ [v]) H3 else CompN P i js σ (some x :: capV js σ) ys H2)
    (hd : ∀ ys H, P xs.length ys H → ∀ p, H p = none → Q (.ref p) (upd H p (.lst ys))) (hk : k = 1 := by rfl) :
    CompR (Itl K a) k js (gName 0) tc te σ Q H1 := by
  subst hk
  refine ⟨fun i m σ' ys H => m = xs.length - i ∧ i ≤ xs.length ∧ P i ys H ∧ ∃ o, σ' = o :: capV js σ, ⟨xs.length, by simp, Nat.zero_le _, h0, none, rfl⟩, ?_⟩
  rintro i m σ' ys H ⟨rfl, hi, p, o, rfl⟩
  obtain ⟨q, hy⟩ := hl i ys H hi p
  by_cases hlt : i < xs.length
  · refine .inr ⟨⟨xs, xs[i], q, by simp [hlt]⟩, by omega, CompN P i js σ, fun σ3 zs H3 z => ⟨xs.length - (i + 1), by omega, rfl, hlt, z.1, z.2⟩, fun x H' y => ?_⟩
    obtain ⟨e, y⟩ := y
    subst e
    exact hs i x ys _ (y xs q) p
  · have e : i = xs.length := by omega
    subst e
    exact .inl ⟨⟨xs, q, Nat.le_refl _⟩, hd ys H p⟩
theorem comp_tup {K : PySem.W.Frag} {a : Addr} {xs : List V} {k : Nat} {js : List Nat} {tc : TT} {te : TE} {σ : St} {Q : VK} {H1 : Hp} (P : Nat → List V → Hp → Prop) (h0 : P 0 [] H1) (hl : ∀ i ys H, i ≤ xs.length → P i ys H → SqT K H a xs ∧ ys.length ≤ i) (hz : xs.length < sizeLine)
    (hs : ∀ i x ys H, xs[i]? = some x → P i ys H → tc (some x :: capV js σ) H fun b H2 => if b = true then te (some x :: capV js σ) H2 fun v H3 => CompN P i js σ (some x :: capV js σ) (ys ++ [v]) H3 else CompN P i js σ (some x :: capV js σ) ys H2)
    (hd : ∀ ys H, P xs.length ys H → ∀ p, H p = none → Q (.ref p) (upd H p (.lst ys))) (hk : k = 1 := by rfl) :
    CompR (Itt K a) k js (gName 0) tc te σ Q H1 := by
  subst hk
  refine ⟨fun i m σ' ys H => m = xs.length - i ∧ i ≤ xs.length ∧ P i ys H ∧ ∃ o, σ' = o :: capV js σ, ⟨xs.length, by simp, Nat.zero_le _, h0, none, rfl⟩, ?_⟩
  rintro i m σ' ys H ⟨rfl, hi, p, o, rfl⟩
  obtain ⟨q, hy⟩ := hl i ys H hi p
  by_cases hlt : i < xs.length
  · refine .inr ⟨⟨xs, xs[i], q, by simp [hlt]⟩, by omega, CompN P i js σ, fun σ3 zs H3 z => ⟨xs.length - (i + 1), by omega, rfl, hlt, z.1, z.2⟩, fun x H' y => ?_⟩
    obtain ⟨e, y⟩ := y
    subst e
    exact hs i x ys _ (y xs q) p
  · have e : i = xs.length := by omega
    subst e
    exact .inl ⟨⟨xs, q, Nat.le_refl _⟩, hd ys H p⟩
theorem comp_range {lo : Int} {n : Nat} {k : Nat} {js : List Nat} {tc : TT} {te : TE} {σ : St} {Q : VK} {H1 : Hp} (P : Nat → List V → Hp → Prop) (h0 : P 0 [] H1) (hl : ∀ i ys H, i ≤ n → P i ys H → ys.length ≤ i) (hz : n < sizeLine)
    (hs : ∀ i ys H, i < n → P i ys H → tc (some (.int (lo + i)) :: capV js σ) H fun b H2 => if b = true then te (some (.int (lo + i)) :: capV js σ) H2 fun v H3 => CompN P i js σ (some (.int (lo + i)) :: capV js σ) (ys ++ [v]) H3 else CompN P i js σ (some (.int (lo + i)) :: capV js σ) ys H2)
    (hd : ∀ ys H, P n ys H → ∀ p, H p = none → Q (.ref p) (upd H p (.lst ys))) (hk : k = 1 := by rfl) :
    CompR (Itr lo n) k js (gName 0) tc te σ Q H1 := by
  subst hk
  refine ⟨fun i m σ' ys H => m = n - i ∧ i ≤ n ∧ P i ys H ∧ ∃ o, σ' = o :: capV js σ, ⟨n, by simp, Nat.zero_le _, h0, none, rfl⟩, ?_⟩
  rintro i m σ' ys H ⟨rfl, hi, p, o, rfl⟩
  have hy := hl i ys H hi p
  by_cases hlt : i < n
  · refine .inr ⟨hlt, by omega, CompN P i js σ, fun σ3 zs H3 z => ⟨n - (i + 1), by omega, rfl, hlt, z.1, z.2⟩, fun x H' y => ?_⟩
    obtain ⟨e, y⟩ := y
    subst e
    subst y
    exact hs i ys _ hlt p
  · have e : i = n := by omega
    subst e
    exact .inl ⟨Nat.le_refl _, hd ys H p⟩
end L2

/-! range objects made and listed, of any ints; a negated int -/
namespace L2
open PySem PySem.Spec PyProof.Rows
section
variable {prog : Program} {w : World} {A : Around} {E : Value → Shared → Prop} {s : Shared}
theorem ext_long {R : Result → Shared → Prop} {r : Addr} {a b c : Int} {t u v : Tok} {n : Nat} (hh : A.handled = none) (hr : IsRange s.heap r a b c t u v) (hbig : Builtin.Range.small a b c = false) (hn : Builtin.Range.rangeSize a b c = n) (hlen : n ≤ 2 ^ 24) (D : Addr) (res : Value) (c0 : Nat)
    (hD : s.heap.get? D = some { cls := .type "list", data := .seq #[] c0 })
    (hR : ∀ h' tk acc' c', (∀ b o, b ≠ D → s.heap.get? b = some o → h'.get? b = some o) → h'.get? D = some { cls := .type "list", dict := none, data := .seq acc' c', slots := #[] } → ItemsOf (fun i v => ∃ t, v = .int (a + i * c) t) acc' n → R (.ok (.ret res)) { s with heap := h', toks := tk }) :
    wpAny (model prog w) A.in1 (Builtin.List.listExtendWith (.ref D) (.ref r) res) (fun fin s' => match fin with | .done f => R (.ok f) s' | .again c' => c'.quiet = true ∧ codeAny (model prog w) A c' R s') (fun e s' => R (.error e) s') s := by
  have nDr : D ≠ r := fun e => by
    rw [e, hr] at hD; simp at hD
  have nDI : D ≠ s.heap.objs.size := Nat.ne_of_lt (Heap.lt_size hD)
  have nDf : D ∉ [s.heap.objs.size] := fun z => nDI (List.mem_singleton.mp z)
  have W := (Walks.longrange (prog := prog) (w := w) (A := A.in1) hh s.heap.objs.size a c n).toS
  have go : ∀ (g : Heap) (c1 tk : Nat), IsLongIter g s.heap.objs.size (a + ((0 : Nat) : Int) * c) ((n : Int) - ((0 : Nat) : Int)) c → (∀ b o, b ≠ D → s.heap.get? b = some o → g.get? b = some o) → g.get? D = some { cls := .type "list", data := .seq #[] c1 } →
      codeAny (model prog w) A (.builtin "list.extend.loop" ⟨[.ref D, .ref s.heap.objs.size, res], []⟩) R { s with heap := g, toks := tk } := by
    intro g c1 tk hit hk hD1
    refine codeAny_extend_loopS W (by rw [sizeLine_eq]; omega) D nDf res n 0 _ #[] c1 rfl (Nat.zero_le _) hit hD1 (ItemsOf.nil _) fun s' acc' c' hm hD' hacc => ?_
    rw [Moved.eq_with hm]
    exact hR s'.heap s'.toks acc' c' (fun b o hb e => hm.heap b o (fun z => (List.mem_cons.mp z).elim hb fun z => absurd (Heap.lt_size e) (by rw [List.mem_singleton.mp z]; exact Nat.lt_irrefl _)) (hk b o hb e)) hD' hacc
  unfold Builtin.List.listExtendWith
  refine wpAny_bind (wpAny_typeOf (T := "range") ⟨_, hr, rfl⟩ ?_)
  simp only [show Builtin.List.listSameRef (.ref D) (.ref r) = false by simp [Builtin.List.listSameRef, nDr], show (Value.type "range" == Value.type "list") = false by decide, show (Value.type "range" == Value.type "tuple") = false by decide, Bool.or_false, Bool.false_eq_true, if_false]
  refine wpAny_bind (wpAny_pyIter_longrange hr hbig (wpAny_bind (wpAny_holding (wpAny_hint_range (n := n) (Heap.get?_push_of_some _ hr) hn hlen ?_))))
  have hit1 : IsLongIter (s.heap.push { cls := .type "longrange_iterator", data := .fields #[rawInt a, rawInt (Builtin.Range.rangeSize a b c), rawInt c] }) s.heap.objs.size (a + ((0 : Nat) : Int) * c) ((n : Int) - ((0 : Nat) : Int)) c := by
    show IsLongIter _ _ _ _ _
    rw [hn]
    simpa using Heap.get?_push_size _ rfl
  have hD1 := Heap.get?_push_of_some { cls := .type "longrange_iterator", data := .fields #[rawInt a, rawInt (Builtin.Range.rangeSize a b c), rawInt c] } hD
  refine wpAny_ite_split (fun _ => ?_) (fun _ => wpAny_pure ⟨plainId_quiet F.plain_extend_loop _, go _ c0 _ hit1 (fun b o _ e => Heap.get?_push_of_some _ e) hD1⟩)
  refine wpAny_bind (wpAny_rule (wpAny_bind ?_))
  show wpAny _ _ (updateSeq D (·.push .none) >>= fun _ => updateSeq D (·.pop)) _ _ _
  refine wpAny_bind (wpAny_updateSeq hD1 rfl ?_)
  have hD2 := Heap.get?_update_self (Obj.mapSeq (·.push Value.none)) hD1 rfl
  refine wpAny_updateSeq (hz := by seq_fits) hD2 rfl ?_
  have hD3 := Heap.get?_update_self (Obj.mapSeq (·.pop)) hD2 rfl
  refine wpAny_pure ⟨plainId_quiet F.plain_extend_loop _, go _ _ _ ((Heap.get?_update_other _ _ nDI).trans ((Heap.get?_update_other _ _ nDI).trans hit1)) (fun b o hb e => ?_) hD3⟩
  exact (Heap.get?_update_other _ _ (Ne.symm hb)).trans ((Heap.get?_update_other _ _ (Ne.symm hb)).trans (Heap.get?_push_of_some _ e))
theorem list_long {Q : Value → Shared → Prop} {r : Addr} {a b c : Int} {t u v : Tok} {n : Nat} (hh : A.handled = none) (hr : IsRange s.heap r a b c t u v) (hbig : Builtin.Range.small a b c = false) (hn : Builtin.Range.rangeSize a b c = n) (hlen : n ≤ 2 ^ 24)
    (hQ : ∀ h' tk acc' c', (∀ b o, s.heap.get? b = some o → h'.get? b = some o) → h'.get? s.heap.objs.size = some { cls := .type "list", dict := none, data := .seq acc' c', slots := #[] } → ItemsOf (fun i v => ∃ t, v = .int (a + i * c) t) acc' n → Q (.ref s.heap.objs.size) { s with heap := h', toks := tk }) :
    wpAny (model prog w) A (call (.type "list") [.ref r]) Q E s := by
  refine callType_codes (Q₁ := fun obj s1 => obj = .ref s.heap.objs.size ∧ s1 = { s with heap := s.heap.push { cls := .type "list", data := .seq #[] } }) F.called_list (F.typeCall_list_1 _) F.entry_list_init (code_list_new _ ⟨rfl, rfl⟩) fun obj s1 h1 => ?_
  obtain ⟨rfl, rfl⟩ := h1
  have hD : (s.heap.push { cls := .type "list", data := .seq #[] }).get? s.heap.objs.size = some { cls := .type "list", data := .seq #[] } := Heap.get?_push_size _ rfl
  have hr1 : IsRange (s.heap.push { cls := .type "list", data := .seq #[] }) r a b c t u v := Heap.get?_push_of_some _ hr
  have nDr : s.heap.objs.size ≠ r := fun e => by
    rw [e] at hD
    have := hD.symm.trans hr1
    simp at this
  refine ⟨⟨_, hD, rfl⟩, F.args_list_init_2 _ _, ?_⟩
  show wpAny _ _ (do let old ← Builtin.List.listItems (.ref s.heap.objs.size); Builtin.List.listUpdate (.ref s.heap.objs.size) (fun _ => #[]); letGo old.toList.reverse; Builtin.List.listExtendWith (.ref s.heap.objs.size) (.ref r) .none) _ _ _
  refine wpAny_bind ?_
  unfold Builtin.List.listItems
  refine wpAny_bind (wpAny_seqItems hD rfl (wpAny_pure ?_))
  refine wpAny_bind (m := updateSeq s.heap.objs.size (fun _ => #[])) (wpAny_updateSeq hD rfl ?_)
  have hD2 := Heap.get?_update_self (Obj.mapSeq (fun _ => (#[] : Array Value))) hD rfl
  refine wpAny_bind (wpAny_letGo ?_)
  refine ext_long (A := A.in1) hh ((Heap.get?_update_other _ _ nDr).trans hr1) hbig hn hlen _ .none _ hD2 fun h' tk acc' c' hk hD' hacc => ?_
  exact ⟨rfl, hQ h' tk acc' c' (fun b o e => hk b o (Nat.ne_of_lt (Heap.lt_size e)) ((Heap.get?_update_other _ _ (Nat.ne_of_gt (Heap.lt_size e))).trans (Heap.get?_push_of_some _ e))) hD' hacc⟩
end
/-- lo, lo + 1, .. (n of them) -/
def rangeL (lo : Int) (n : Nat) : List Int := (List.range n).map fun i : Nat => lo + (i : Int)
theorem rangeL_length (lo : Int) (n : Nat) : (rangeL lo n).length = n := by simp [rangeL]
theorem rangeL_succ (lo : Int) (n : Nat) : rangeL lo (n + 1) = rangeL lo n ++ [lo + n] := by simp [rangeL, List.range_succ]
section
variable {X : Cx}
/-- range(lo, hi) as an object -/
theorem call_range2 : CallR X (.type "range") (fun xs H Q => ∃ lo hi : Int, xs = [.int lo, .int hi] ∧ ∀ p, H p = none → Q (.ref p) (upd H p (.rng lo hi))) := by
  intro pins s σ H xs us Q I r h
  obtain ⟨lo, hi, rfl, q⟩ := h
  obtain ⟨u, w', rfl, ⟨t, rfl⟩, ⟨t', rfl⟩⟩ := vals2 r
  refine call_range_2 ⟨.ref s.heap.objs.size, _, ?_, rfl, q _ (I.hok.fresh (Nat.le_refl _))⟩
  exact I.laid (fun b o e => Heap.get?_push_of_some _ e) (Nat.le_refl _) ⟨_, _, _, Heap.get?_push_size _ rfl⟩
theorem vals_range (lo : Int) : ∀ (n : Nat) (acc : Array Value), ItemsOf (fun i v => ∃ t, v = Value.int (lo + (i : Nat) * 1) t) acc n → Vals ((rangeL lo n).map V.int) acc.toList := by
  intro n acc h
  obtain ⟨hs, hi⟩ := h
  have key : ∀ (l : List Value) (k : Nat), (∀ j v, l[j]? = some v → ∃ t, v = Value.int (lo + ((k + j : Nat) : Int)) t) → Vals ((List.range' k l.length).map fun i : Nat => V.int (lo + (i : Int))) l := by
    intro l
    induction l with
    | nil => intro k _; exact .nil
    | cons v l ih =>
      intro k hk
      rw [List.length_cons, List.range'_succ, List.map_cons]
      refine .cons ?_ (ih (k + 1) fun j v hv => ?_)
      · obtain ⟨t, e⟩ := hk 0 v rfl
        exact ⟨t, by simpa using e⟩
      · obtain ⟨t, e⟩ := hk (j + 1) v (by simpa using hv)
        exact ⟨t, by rw [e, show k + 1 + j = k + (j + 1) by omega]⟩
  have := key acc.toList 0 fun j v hv => by
    obtain ⟨t, e⟩ := hi j v (by simpa using hv)
    exact ⟨t, by rw [e]; simp⟩
  rw [show (rangeL lo n).map V.int = (List.range' 0 acc.toList.length).map fun i : Nat => V.int (lo + (i : Int)) by rw [show acc.toList.length = n by simpa using hs]; simp [rangeL, List.range_eq_range']]
  exact this
/-- list(a range object) -/
theorem call_list_rng (hc : X.calm = true) : CallR X (.type "list") (fun xs H Q => ∃ (p : Addr) (lo hi : Int), xs = [.ref p] ∧ H p = some (.rng lo hi) ∧ hi - lo ≤ 2 ^ 24 ∧ ∀ l, H l = none → Q (.ref l) (upd H l (.lst ((rangeL lo (hi - lo).toNat).map V.int)))) := by
  intro pins s σ H xs us Q I r h
  obtain ⟨p, lo, hi, rfl, hp, hz, q⟩ := h
  obtain ⟨u, rfl, rx⟩ := vals1 r
  cases rx
  obtain ⟨t, u, v, e⟩ := I.hok p _ hp
  have hsz : Builtin.Range.rangeSize lo hi 1 = ((hi - lo).toNat : Int) := by rw [rangeSize_one]; split <;> omega
  have fin : ∀ (h' : Heap) (tk : Nat) (acc : Array Value) (c' : Nat), (∀ b o, s.heap.get? b = some o → h'.get? b = some o) → h'.get? s.heap.objs.size = some { cls := .type "list", dict := none, data := .seq acc c', slots := #[] } →
      ItemsOf (fun i v => ∃ t, v = Value.int (lo + (i : Nat) * 1) t) acc (hi - lo).toNat → EP X pins σ Q (.ref s.heap.objs.size) { s with heap := h', toks := tk } := fun h' tk acc c' kp e hacc => by
    refine ⟨.ref s.heap.objs.size, _, I.laid kp (Nat.le_refl _) (show ObjOk X.prog X.w _ h' _ (.lst ((rangeL lo (hi - lo).toNat).map V.int)) from ⟨?_, acc.toList, c', vals_range lo _ acc hacc, by simpa using e⟩), rfl, q _ (I.hok.fresh (Nat.le_refl _))⟩
    rw [List.length_map, rangeL_length, sizeLine_eq]
    omega
  cases hs : Builtin.Range.small lo hi 1 with
  | true => exact call_list_range (I.ok.hd hc) e hs hsz (by omega) fin
  | false => exact list_long (I.ok.hd hc) e hs hsz (by omega) fin
end
end L2

namespace L2
open PySem PySem.Spec PyProof.Rows

/-! ### lists of pairs as tables -/
section
variable {κ : Type} [DecidableEq κ]
def valV (kvs : List (κ × V)) (k : κ) : Option V := (kvs.find? fun kv => decide (kv.1 = k)).map (·.2)
/-- in its place, or at the end -/
def putK (kvs : List (κ × V)) (k : κ) (v : V) : List (κ × V) :=
  if (kvs.any fun kv => decide (kv.1 = k)) = true then kvs.map (fun kv => if kv.1 = k then (kv.1, v) else kv) else kvs ++ [(k, v)]
def dropK (kvs : List (κ × V)) (k : κ) : List (κ × V) := kvs.filter fun kv => decide (kv.1 ≠ k)

theorem valV_pos {p : κ × V} {r : List (κ × V)} {k : κ} (e : p.1 = k) : valV (p :: r) k = some p.2 := by simp [valV, List.find?_cons, e]
theorem valV_neg {p : κ × V} {r : List (κ × V)} {k : κ} (e : ¬ p.1 = k) : valV (p :: r) k = valV r k := by simp [valV, List.find?_cons, e]
theorem valV_any (k : κ) : ∀ kvs : List (κ × V), (kvs.any fun kv => decide (kv.1 = k)) = (valV kvs k).isSome
  | [] => rfl
  | p :: r => by
    rw [List.any_cons]
    by_cases e : p.1 = k
    · simp only [valV_pos e, decide_eq_true e, Bool.true_or, Option.isSome_some]
    · rw [valV_neg e, decide_eq_false e, Bool.false_or]; exact valV_any k r
theorem valV_map (k j : κ) (y : V) : ∀ kvs : List (κ × V), valV (kvs.map fun kv => if kv.1 = k then (kv.1, y) else kv) j = (valV kvs j).map fun x => if j = k then y else x
  | [] => rfl
  | p :: r => by
    have ih := valV_map k j y r
    rw [List.map_cons]
    by_cases h : p.1 = k
    · rw [if_pos h]
      by_cases e : p.1 = j
      · rw [valV_pos (p := (p.1, y)) e, valV_pos e, Option.map_some, if_pos (e.symm.trans h)]
      · rw [valV_neg (p := (p.1, y)) e, valV_neg e, ih]
    · rw [if_neg h]
      by_cases e : p.1 = j
      · rw [valV_pos (p := p) e, valV_pos e, Option.map_some, if_neg (fun z => h (e.trans z))]
      · rw [valV_neg (p := p) e, valV_neg e, ih]
theorem valV_snoc (k j : κ) (y : V) : ∀ kvs : List (κ × V), valV kvs k = none → valV (kvs ++ [(k, y)]) j = if j = k then some y else valV kvs j
  | [], _ => by
    by_cases e : k = j
    · rw [if_pos e.symm]; exact valV_pos (p := (k, y)) e
    · rw [if_neg (fun z => e z.symm)]; exact valV_neg (p := (k, y)) e
  | p :: r, hn => by
    rw [List.cons_append]
    have hk : ¬ p.1 = k := fun z => by rw [valV_pos z] at hn; cases hn
    rw [valV_neg hk] at hn
    have ih := valV_snoc k j y r hn
    by_cases e : p.1 = j
    · rw [valV_pos e, valV_pos e, if_neg (fun z => hk (e.trans z))]
    · rw [valV_neg e, valV_neg e, ih]
theorem valV_put (kvs : List (κ × V)) (k j : κ) (y : V) : valV (putK kvs k y) j = if j = k then some y else valV kvs j := by
  unfold putK
  by_cases a : (kvs.any fun kv => decide (kv.1 = k)) = true
  · rw [if_pos a, valV_map]
    rw [valV_any] at a
    by_cases e : j = k
    · obtain ⟨x, hx⟩ := Option.isSome_iff_exists.mp a
      rw [if_pos e, e, hx, Option.map_some, if_pos rfl]
    · rw [if_neg e]
      cases valV kvs j with
      | none => rfl
      | some x => rw [Option.map_some, if_neg e]
  · rw [if_neg a]
    refine valV_snoc k j y kvs ?_
    rw [valV_any] at a
    cases q : valV kvs k with
    | none => rfl
    | some x => rw [q] at a; exact (a rfl).elim
theorem length_putK (kvs : List (κ × V)) (k : κ) (v : V) : (putK kvs k v).length ≤ kvs.length + 1 := by
  unfold putK
  split
  · rw [List.length_map]; omega
  · rw [List.length_append, List.length_cons, List.length_nil]; omega
theorem RelO.isSome_eq {o : Option V} {u : Option Value} (r : RelO o u) : o.isSome = u.isSome := by
  cases o with
  | none => cases u with
    | none => rfl
    | some _ => exact (show False from r).elim
  | some _ => cases u with
    | none => exact (show False from r).elim
    | some _ => rfl
/-- raw tables of the same keys -/
theorem KV.val {kvs : List (κ × V)} {vs : List (κ × Value)} (r : KV kvs vs) (k : κ) : RelO (valV kvs k) (valueAt vs k) := by
  unfold KV at r
  induction r with
  | nil => exact True.intro
  | @cons p q ps qs h t ih =>
    obtain ⟨h1, h2⟩ := h
    by_cases e : p.1 = k
    · have e' : q.1 = k := h1.symm.trans e
      have b : valueAt (q :: qs) k = some q.2 := by simp [valueAt, List.find?_cons, e']
      rw [valV_pos e, b]; exact h2
    · have e' : ¬ q.1 = k := fun z => e (h1.trans z)
      have b : valueAt (q :: qs) k = valueAt qs k := by simp [valueAt, List.find?_cons, e']
      rw [valV_neg e, b]; exact ih
theorem KV.any {kvs : List (κ × V)} {vs : List (κ × Value)} (r : KV kvs vs) (k : κ) : (kvs.any fun kv => decide (kv.1 = k)) = vs.any fun kv => decide (kv.1 = k) := by
  unfold KV at r
  induction r with
  | nil => rfl
  | cons h t ih => rw [List.any_cons, List.any_cons, ih, h.1]
theorem KV.repl {kvs : List (κ × V)} {vs : List (κ × Value)} (r : KV kvs vs) (k : κ) {y : V} {u : Value} (ry : RelV y u) :
    KV (kvs.map fun kv => if kv.1 = k then (kv.1, y) else kv) (vs.map fun kv => if kv.1 = k then (kv.1, u) else kv) := by
  unfold KV at r ⊢
  induction r with
  | nil => exact .nil
  | @cons p q ps qs h t ih =>
    rw [List.map_cons, List.map_cons]
    refine .cons ?_ ih
    obtain ⟨h1, h2⟩ := h
    by_cases e : p.1 = k
    · rw [if_pos e, if_pos (h1.symm.trans e)]; exact ⟨h1, ry⟩
    · rw [if_neg e, if_neg (fun z => e (h1.trans z))]; exact ⟨h1, h2⟩
theorem KV.put {kvs : List (κ × V)} {vs : List (κ × Value)} (r : KV kvs vs) (k : κ) {y : V} {u : Value} (ry : RelV y u) : KV (putK kvs k y) (stored vs k u) := by
  unfold putK stored
  rw [r.any k]
  by_cases e : (vs.any fun kv => decide (kv.1 = k)) = true
  · rw [if_pos e, if_pos e]; exact r.repl k ry
  · rw [if_neg e, if_neg e]; exact Paired.snoc r ⟨rfl, ry⟩
theorem KV.length {kvs : List (κ × V)} {vs : List (κ × Value)} (r : KV kvs vs) : kvs.length = vs.length := Paired.length r
end


/-! ### a tracked dict, its keys ints and texts or tuples of these -/
theorem kV_is {P : Program} {w : World} {k : Key} {u : Value} (r : RelV (kV k) u) : (mixKind P w).is k u = true := by
  cases k with
  | inl i => obtain ⟨t, e⟩ := (show ∃ t, u = Value.int i t from r); subst e; exact mixKind_int P w i t
  | inr x => obtain ⟨t, e⟩ := (show ∃ t, u = Value.str x t from r); subst e; exact mixKind_str P w x t
theorem items_are {P : Program} {w : World} : ∀ {ks : List Key} {us : List Value}, Vals (ks.map kV) us → ItemsAre (mixKind P w) ks us
  | [], _, r => by rw [List.map_nil] at r; cases r; exact .nil
  | k :: ks, _, r => by
    rw [List.map_cons] at r
    cases r with
    | cons h t => exact .cons (kV_is h) (items_are t)

/-- raw entries of a dict with tuple keys -/
abbrev KT (H : Hp) : List (List Key × V) → List (List Key × Addr × Value) → Prop := Paired fun p q => p.1 = q.1 ∧ H q.2.1 = some (.tup (p.1.map kV)) ∧ RelV p.2 q.2.2
theorem KT.val {H : Hp} {kvs : List (List Key × V)} {xs : List (List Key × Addr × Value)} (r : KT H kvs xs) (k : List Key) : RelO (valV kvs k) ((atKey xs k).map (·.2)) := by
  induction r with
  | nil => exact True.intro
  | @cons p q ps qs h t ih =>
    obtain ⟨h1, _, h2⟩ := h
    by_cases e : p.1 = k
    · have e' : q.1 = k := h1.symm.trans e
      have b : atKey (q :: qs) k = some q.2 := by simp [atKey, List.find?_cons, e']
      rw [valV_pos e, b]; exact h2
    · have e' : ¬ q.1 = k := fun z => e (h1.trans z)
      have b : atKey (q :: qs) k = atKey qs k := by simp [atKey, List.find?_cons, e']
      rw [valV_neg e, b]; exact ih
theorem KT.repl {H : Hp} {kvs : List (List Key × V)} {xs : List (List Key × Addr × Value)} (r : KT H kvs xs) (k : List Key) {y : V} {u : Value} (ry : RelV y u) :
    KT H (kvs.map fun kv => if kv.1 = k then (kv.1, y) else kv) (xs.map (putAt k u)) := by
  induction r with
  | nil => exact .nil
  | @cons p q ps qs h t ih =>
    rw [List.map_cons, List.map_cons]
    refine .cons ?_ ih
    obtain ⟨h1, h2, h3⟩ := h
    unfold putAt
    by_cases e : p.1 = k
    · rw [if_pos e, if_pos (h1.symm.trans e)]; exact ⟨h1, h2, ry⟩
    · rw [if_neg e, if_neg (fun z => e (h1.trans z))]; exact ⟨h1, h2, h3⟩
theorem KT.put {H : Hp} {kvs : List (List Key × V)} {xs : List (List Key × Addr × Value)} (r : KT H kvs xs) (k : List Key) {b : Addr} {y : V} {u : Value} (hb : H b = some (.tup (k.map kV))) (ry : RelV y u) :
    KT H (putK kvs k y) (storedH xs k b u) := by
  have e : (kvs.any fun kv => decide (kv.1 = k)) = (atKey xs k).isSome := by
    rw [valV_any, (r.val k).isSome_eq, Option.isSome_map]
  unfold putK storedH
  rw [e]
  by_cases q : (atKey xs k).isSome = true
  · rw [if_pos q, if_pos q]; exact r.repl k ry
  · rw [if_neg q, if_neg q]; exact Paired.snoc r ⟨rfl, hb, ry⟩
theorem KT.keeps {H H' : Hp} {kvs : List (List Key × V)} {xs : List (List Key × Addr × Value)} (r : KT H kvs xs) (ht : ∀ b ys, H b = some (.tup ys) → H' b = some (.tup ys)) : KT H' kvs xs :=
  Paired.mapP r fun _ _ z => ⟨z.1, ht _ _ z.2.1, z.2.2⟩

section
variable {P : Program} {w : World} {H : Hp} {h : Heap} {a : Addr}
theorem rd_of {u : HO} (ok : HOk P w H h) (e : Rd H a u) : ObjOk P w H h a u := e.ok ok
theorem dk_rd {kvs : List (Key × V)} (ok : HOk P w H h) (e : Rd H a (.dK kvs)) : kvs.length ≤ sizeLine ∧ (a == sysModules) = false ∧ ∃ vs, KV kvs vs ∧ h.DictOf (mixKind P w) a vs :=
  show ObjOk P w H h a (.dK kvs) from rd_of ok e
theorem dk_of {kvs : List (Key × V)} (ok : HOk P w H h) (e : H a = some (.dK kvs)) : kvs.length ≤ sizeLine ∧ (a == sysModules) = false ∧ ∃ vs, KV kvs vs ∧ h.DictOf (mixKind P w) a vs := dk_rd ok (.inl e)
/-- a tracked tuple of ints and texts is a key -/
theorem key_of {ks : List Key} (ok : HOk P w H h) (e : H a = some (.tup (ks.map kV))) : (tupleKind (mixKind P w)).is h ks a := by
  obtain ⟨_, its, r, o, h1, h2, n, h3⟩ := (show ObjOk P w H h a (.tup (ks.map kV)) from ok a _ e)
  exact ⟨o, its.toArray, n, h1, h2, h3, by simpa using items_are r⟩
theorem dt_rd {kvs : List (List Key × V)} (ok : HOk P w H h) (e : Rd H a (.dT kvs)) : kvs.length ≤ sizeLine ∧ (a == sysModules) = false ∧
    ∃ xs, KT H kvs xs ∧ h.DictOfH (tupleKind (mixKind P w)) a xs := by
  obtain ⟨z, y, xs, r, o, es, ep, h1, h2, h3, h4, h5⟩ := (show ObjOk P w H h a (.dT kvs) from rd_of ok e)
  refine ⟨z, y, xs, r, o, es, ep, h1, h2, h3, h4, fun x hx => ?_, h5⟩
  have all : ∀ {l : List (List Key × V)} {m : List (List Key × Addr × Value)}, KT H l m → ∀ x ∈ m, (tupleKind (mixKind P w)).is h x.1 x.2.1 := by
    intro l m q
    induction q with
    | nil => intro x hx; exact nomatch hx
    | @cons p q ps qs hq t ih =>
      intro x hx
      rcases List.mem_cons.mp hx with e | hx
      · subst e
        exact key_of ok (by rw [← hq.1]; exact hq.2.1)
      · exact ih x hx
  exact all r x hx
theorem dt_of {kvs : List (List Key × V)} (ok : HOk P w H h) (e : H a = some (.dT kvs)) : kvs.length ≤ sizeLine ∧ (a == sysModules) = false ∧
    ∃ xs, KT H kvs xs ∧ h.DictOfH (tupleKind (mixKind P w)) a xs := dt_rd ok (.inl e)
end

/-- what the dict at a holds at the key y -/
def DGet (H : Hp) (a : Addr) (y : V) (r : Option V) : Prop :=
  (∃ kvs k, Rd H a (.dK kvs) ∧ y = kV k ∧ r = valV kvs k) ∨ ∃ kvs k b, Rd H a (.dT kvs) ∧ y = .ref b ∧ H b = some (.tup (k.map kV)) ∧ r = valV kvs k
/-- the heap behind a[y] = v -/
def DPut (H : Hp) (a : Addr) (y v : V) (H' : Hp) : Prop :=
  (∃ kvs k, H a = some (.dK kvs) ∧ y = kV k ∧ kvs.length < sizeLine ∧ H' = upd H a (.dK (putK kvs k v))) ∨
  ∃ kvs k b, H a = some (.dT kvs) ∧ y = .ref b ∧ H b = some (.tup (k.map kV)) ∧ kvs.length < sizeLine ∧ H' = upd H a (.dT (putK kvs k v))
theorem DGet.k {H : Hp} {a : Addr} {kvs : List (Key × V)} {k : Key} (e : H a = some (.dK kvs)) : DGet H a (kV k) (valV kvs k) := .inl ⟨kvs, k, .inl e, rfl, rfl⟩
theorem DPut.k {H : Hp} {a : Addr} {kvs : List (Key × V)} {k : Key} {v : V} (e : H a = some (.dK kvs)) (hl : kvs.length < sizeLine) : DPut H a (kV k) v (upd H a (.dK (putK kvs k v))) := .inl ⟨kvs, k, e, rfl, hl, rfl⟩
section
variable {X : Cx} {pins : List (Addr × Obj)} {σ : St} {H : Hp} {s : Shared} {a : Addr} {y v : V} {u r : Value} {o : Option V} {A : Around} {E : Value → Shared → Prop}

theorem Inv.big (I : Inv X pins σ H s) : sysModules < s.heap.objs.size := by
  have h : mainGlobals < s.heap.objs.size := (I.mod.glob.keeps I.bk).lt
  exact Nat.lt_trans (by decide) h

/-- d[y], there -/
theorem d_getItem {Q : Value → Shared → Prop} (hu : A.units + 1 < cLine) (I : Inv X pins σ H s) (g : DGet H a y (some v)) (ry : RelV y u) (h : ∀ w' s', Inv X pins σ H s' → RelV v w' → Q w' s') :
    wpAny (model X.prog X.w) A (getItem (.ref a) u) Q E s := by
  rcases g with ⟨kvs, k, e, ey, l⟩ | ⟨kvs, k, b, e, ey, eb, l⟩
  · subst ey
    obtain ⟨z, hd, vs, rel, dd⟩ := dk_rd I.hok e
    obtain ⟨w', hw, rw'⟩ := RelO.some_of (v := v) (o := valueAt vs k) (by rw [l]; exact rel.val k)
    exact wpAny_getItem_of (kV_is ry) dd.mapOf hw (h w' _ (I.tok _) rw')
  · subst ey
    cases (show u = Value.ref b from ry)
    obtain ⟨z, hd, xs, rel, dd⟩ := dt_rd I.hok e
    obtain ⟨w', hw, rw'⟩ := RelO.some_of (v := v) (o := (atKey xs k).map (·.2)) (by rw [l]; exact rel.val k)
    obtain ⟨p, hp, hp2⟩ := Option.map_eq_some_iff.mp hw
    refine wpAny_getItem_heap (tupleKind_room_in1 hu) (key_of I.hok eb) dd hp ?_
    rw [hp2]
    exact h w' _ (I.tok _) rw'
/-- y in d -/
theorem d_in {Q : Value → Shared → Prop} (hu : A.units + 1 < cLine) (I : Inv X pins σ H s) (g : DGet H a y o) (ry : RelV y u) (h : ∀ s', Inv X pins σ H s' → Q (.bool o.isSome) s') :
    wpAny (model X.prog X.w) A (compareOp .In u (.ref a)) Q E s := by
  rcases g with ⟨kvs, k, e, ey, l⟩ | ⟨kvs, k, b, e, ey, eb, l⟩
  · subst ey
    obtain ⟨z, hd, vs, rel, dd⟩ := dk_rd I.hok e
    refine wpAny_in_of (kV_is ry) hd dd.mapOf ?_
    rw [← (rel.val k).isSome_eq, ← l]
    exact h _ (I.tok _)
  · subst ey
    cases (show u = Value.ref b from ry)
    obtain ⟨z, hd, xs, rel, dd⟩ := dt_rd I.hok e
    refine wpAny_in_heap (tupleKind_room_in1 hu) (key_of I.hok eb) hd dd ?_
    have q := (rel.val k).isSome_eq
    rw [Option.isSome_map] at q
    rw [← q, ← l]
    exact h _ (I.tok _)
/-- a dict's object is replaced -/
theorem d_write {h' : Heap} {t' : Nat} {ob : HO} (I : Inv X pins σ H s) (mu : Mut (H a)) (hs : Heap.SameBut a s.heap h') (he : ∃ q, h'.get? a = some q) (new : ObjOk X.prog X.w (upd H a ob) h' a ob) :
    Inv X pins σ (upd H a ob) { s with heap := h', toks := t' } :=
  I.write (x := a) (e := a) mu (.inl rfl) (fun b q hb z => (hs.2 b hb).trans z) he new
theorem dk_new {P : Program} {w : World} {H' : Hp} {h' : Heap} {kvs : List (Key × V)} {vs : List (Key × Value)} (z : kvs.length ≤ sizeLine) (hd : (a == sysModules) = false) (rel : KV kvs vs) (dd : h'.DictOf (mixKind P w) a vs) :
    ObjOk P w H' h' a (.dK kvs) := ⟨z, hd, vs, rel, dd⟩
/-- d[y] = v -/
theorem d_setItem {H' : Hp} {Q : Unit → Shared → Prop} (hu : A.units + 1 < cLine) (I : Inv X pins σ H s) (g : DPut H a y v H') (ry : RelV y u) (rv : RelV v r) (h : ∀ s', Inv X pins σ H' s' → Q () s') :
    wpAny (model X.prog X.w) A (setItem (.ref a) u r) Q E s := by
  rcases g with ⟨kvs, k, e, ey, l, eH⟩ | ⟨kvs, k, b, e, ey, eb, l, eH⟩
  · subst ey eH
    obtain ⟨z, hd, vs, rel, dd⟩ := dk_of I.hok e
    have hz : vs.length ≤ sizeLine := by rw [← rel.length]; exact z
    have hl : (putK kvs k v).length ≤ sizeLine := by have := length_putK kvs k v; omega
    refine wpAny_setItem_pairs (hsz := hz) (kV_is ry) dd fun h' dd' hs => h _ ?_
    have he : ∃ q, h'.get? a = some q := let ⟨q, _, _, hq, _⟩ := dd'; ⟨q, hq⟩
    exact d_write I (by rw [e]; exact True.intro) hs he (dk_new hl hd (rel.put k rv) dd')
  · subst ey eH
    cases (show u = Value.ref b from ry)
    obtain ⟨z, hd, xs, rel, dd⟩ := dt_of I.hok e
    have hz : xs.length ≤ sizeLine := by rw [← Paired.length rel]; exact z
    have hl : (putK kvs k v).length ≤ sizeLine := by have := length_putK kvs k v; omega
    refine wpAny_setItem_heap (hsz := hz) (tupleKind_room_in1 hu) (key_of I.hok eb) dd fun h' dd' hs => h _ ?_
    obtain ⟨q, es, ep, hq, h2, h3, h4, _, h5⟩ := dd'
    refine d_write I (by rw [e]; exact True.intro) hs ⟨q, hq⟩ ⟨hl, hd, _, (rel.put k eb rv).keeps fun c ys ec => ?_, q, es, ep, hq, h2, h3, h4, h5⟩
    rw [upd_ne (ne_of ec e (fun z => nomatch z))]
    exact ec
end

section
variable {X : Cx} {pins : List (Addr × Obj)} {σ : St} {H : Hp} {s : Shared} {a : Addr} {kvs : List (Key × V)} {k : Key} {u : Value} {A : Around} {E : Value → Shared → Prop}
end


/-! ### readings and rules -/
/-- the element of a subscription, not a slice -/
def NoSl (i : Expr) : Prop := ∀ ov iv, subscripted i false ov iv = operate [ov, iv] (getItem ov iv)
theorem subD_of {prog : Program} {w : World} {A : Around} {E : Value → Shared → Prop} {s : Shared} {env : Env} {value slice : Expr} {pos : Pos} {T id : String} {Q : Value → Shared → Prop}
    (hl : typeLookup (.type T) "__getitem__" = pure (some (.builtin id))) (hs : NoSl slice)
    (h : wpAny (model prog w) A (eval value env) (fun o s₁ => wpAny (model prog w) A (eval slice env) (fun i s₂ => s₂.TypeIs o T ∧ wpAny (model prog w) A (getItem o i) Q E s₂) E s₁) E s) :
    wpAny (model prog w) A (eval (.Subscript value slice pos) env) Q E s := by
  refine Subscript_ (wpAny_mono h (fun o s₁ h₁ => wpAny_mono h₁ (fun i s₂ h₂ => ?_) fun _ _ x => x) fun _ _ x => x)
  obtain ⟨hT, h₂⟩ := h₂
  unfold subscriptTail
  refine wpAny_bind ?_
  rw [getitemInPython_of_ne hT.not_modules]
  refine wpAny_bind (wpAny_specialOf hT hl ?_)
  have fin : wpAny (model prog w) A (subscripted slice false o i) (fun r s₃ => wpAny (model prog w) A (letTemporaryGo value o r >>= fun _ => pure r) Q E s₃) E s₂ := by
    rw [hs o i]
    exact wpAny_operating (wpAny_mono h₂ (fun r s₃ h₃ => wpAny_bind (wpAny_letTemporaryGo (wpAny_pure h₃))) fun _ _ x => x)
  first
    | exact wpAny_pure (wpAny_bind fin)
    | exact wpAny_bind (wpAny_pure (wpAny_bind fin))
    | exact wpAny_bind fin

theorem dict_typeIs {X : Cx} {pins : List (Addr × Obj)} {σ : St} {H : Hp} {s : Shared} {a : Addr} {y : V} {o : Option V} (I : Inv X pins σ H s) (g : DGet H a y o) : s.TypeIs (.ref a) "dict" := by
  rcases g with ⟨kvs, k, e, _, _⟩ | ⟨kvs, k, b, e, _, _, _⟩
  · obtain ⟨_, _, vs, _, dd⟩ := dk_rd I.hok e
    exact dd.typeIs
  · obtain ⟨_, _, xs, _, dd⟩ := dt_rd I.hok e
    exact dd.typeIs
/-- d[y] -/
def tDGet (td ty : TE) : TE := fun σ H Q => td σ H fun x H1 => ty σ H1 fun y H2 => ∃ a v, x = .ref a ∧ DGet H2 a y (some v) ∧ Q v H2
/-- y in d, y not in d -/
def tDIn (ty td : TE) : TE := fun σ H Q => ty σ H fun y H1 => td σ H1 fun x H2 => ∃ a o, x = .ref a ∧ DGet H2 a y o ∧ Q (.bl o.isSome) H2
def tDNotIn (ty td : TE) : TE := fun σ H Q => ty σ H fun y H1 => td σ H1 fun x H2 => ∃ a o, x = .ref a ∧ DGet H2 a y o ∧ Q (.bl (!o.isSome)) H2
/-- d[y] = v -/
def sDPut (td ty tv : TE) : TS := fun D σ H => tv σ H fun v H1 => td σ H1 fun x H2 => ty σ H2 fun y H3 => ∃ a H4, x = .ref a ∧ DPut H3 a y v H4 ∧ D.nx σ H4
/-- d[y] op= v -/
def sDAug (td ty tv : TE) (rd : V → V → Hp → VK → Prop) : TS := fun D σ H => td σ H fun x H1 => ty σ H1 fun y H2 => ∃ a v, x = .ref a ∧ DGet H2 a y (some v) ∧
  tv σ H2 fun y2 H3 => rd v y2 H3 fun z H4 => ∃ H5, DPut H4 a y z H5 ∧ D.nx σ H5
/-- del d[y] -/
def sDDel (td ty : TE) : TS := fun D σ H => td σ H fun x H1 => ty σ H1 fun y H2 => ∃ a kvs k, x = .ref a ∧ H2 a = some (.dK kvs) ∧ y = kV k ∧ (valV kvs k).isSome = true ∧ D.nx σ (upd H2 a (.dK (dropK kvs k)))

section
variable {X : Cx} {o i e value : Expr} {pos pos' tpos : Pos} {td ty tv : TE}
theorem pe_dget (hu : X.A.units + 1 < cLine) (ho : PE X o td) (hi : PE X i ty) (hs : NoSl i) : PE X (.Subscript o i pos) (tDGet td ty) := by
  intro pins s σ H Q I h
  refine subD_of PySem.F.slot_dict_getitem.lookup hs (thn (ho pins s σ H _ I h) fun u s1 ⟨x, H1, I1, rx, q1⟩ => thn (hi pins s1 σ H1 _ I1 q1) fun iv s2 ⟨y, H2, I2, ry, a, v, ex, g, q2⟩ => ?_)
  subst ex
  obtain rfl : u = Value.ref a := rx
  exact ⟨dict_typeIs I2 g, d_getItem hu I2 g ry fun w' s3 I3 rw' => ⟨v, H2, I3, rw', q2⟩⟩
theorem pc_din (hu : X.A.units + 1 < cLine) (hi : PE X i ty) (ho : PE X o td) : PC X .In i o (tDIn ty td) := by
  intro pins s σ H Q I h
  refine thn (hi pins s σ H _ I h) fun iv s1 ⟨y, H1, I1, ry, q1⟩ => thn (ho pins s1 σ H1 _ I1 q1) fun u s2 ⟨x, H2, I2, rx, a, ov, ex, g, q2⟩ => ?_
  subst ex
  obtain rfl : u = Value.ref a := rx
  exact d_in hu I2 g ry fun s3 I3 => ⟨.bl ov.isSome, H2, I3, rfl, q2⟩
theorem ps_dput (hu : X.A.units + 1 < cLine) (ho : PE X o td) (hi : PE X i ty) (hv : PE X value tv) (hs : swapsWith value (some (.Subscript o i pos')) pos.line X.env = pure false) :
    PS X (.Assign [.Subscript o i pos'] value pos) (sDPut td ty tv) := by
  intro pins s σ H D I h
  refine wpAny_Assign_Subscript (thn (hv pins s σ H _ I h) fun r s1 ⟨v, H1, I1, rv, q1⟩ => thn (ho pins s1 σ H1 _ I1 q1) fun u s2 ⟨x, H2, I2, rx, q2⟩ => thn (hi pins s2 σ H2 _ I2 q2) fun iv s3 ⟨y, H3, I3, ry, a, H4, ex, g, q3⟩ => ?_) hs
  subst ex
  obtain rfl : u = Value.ref a := rx
  exact d_setItem hu I3 g ry rv fun s4 I4 => ⟨σ, H4, I4, q3⟩
end


/-! ### displays -/
theorem dk_empty {P : Program} {w : World} {H : Hp} (h : Heap) (hb : sysModules < h.objs.size) : ObjOk P w H (h.push { cls := .type "dict", data := .dict #[] }) h.objs.size (.dK []) :=
  ⟨Nat.zero_le _, beq_eq_false_iff_ne.mpr (Ne.symm (Nat.ne_of_lt hb)), [], .nil, Heap.DictOf.new h⟩
/-- {}, to be a dict of the kind that is wanted -/
def tDNewK : TE := fun _ H Q => ∀ p, H p = none → Q (.ref p) (upd H p (.dK []))
def tDNewT : TE := fun _ H Q => ∀ p, H p = none → Q (.ref p) (upd H p (.dT []))
section
variable {X : Cx} {pos : Pos}
theorem pe_dnewK : PE X (.Dict [] [] pos) tDNewK := fun pins s σ H Q I h =>
  wpAny_Dict_empty ⟨.ref s.heap.objs.size, _, I.laid (a := s.heap.objs.size) (o := .dK []) (t' := s.toks) (fun _ _ q => Heap.get?_push_of_some _ q) (Nat.le_refl _) (dk_empty s.heap I.big), rfl, h _ (I.hok.fresh (Nat.le_refl _))⟩
end

/-- the pairs of a display, from the left -/
def tPairs : List (TE × TE) → St → Hp → (List (V × V) → Hp → Prop) → Prop
  | [], _, H, Q => Q [] H
  | (tk, tv) :: r, σ, H, Q => tk σ H fun x H1 => tv σ H1 fun y H2 => tPairs r σ H2 fun ps H3 => Q ((x, y) :: ps) H3
abbrev VV : List (V × V) → List (Value × Value) → Prop := Paired fun p q => RelV p.1 q.1 ∧ RelV p.2 q.2
def PPs (X : Cx) (pos : Pos) (keys : List (Option Expr)) (values : List Expr) (trs : List (TE × TE)) : Prop :=
  ∀ (pins : List (Addr × Obj)) (s : Shared) (σ : St) (H : Hp) (Q : List (V × V) → Hp → Prop), Inv X pins σ H s → tPairs trs σ H Q →
    wpAny (model X.prog X.w) X.A (evalPairs (pairTrees keys values X.env pos)) (fun vs s' => ∃ ps H', Inv X pins σ H' s' ∧ VV ps vs ∧ Q ps H') X.xe s
def mergeK (kvs more : List (Key × V)) : List (Key × V) := more.foldl (fun acc kv => putK acc kv.1 kv.2) kvs
/-- {k: v, ..} with keys ints and texts; the new dict stands empty while the pairs are made -/
def tDisp (trs : List (TE × TE)) : TE := fun σ H Q => ∀ p, H p = none → tPairs trs σ (upd H p (.dK [])) fun ps H2 => H2 p = some (.dK []) ∧ ∃ kvs : List (Key × V), ps = kvs.map (fun kv => (kV kv.1, kv.2)) ∧ kvs.length ≤ 15 ∧ Q (.ref p) (upd H2 p (.dK (mergeK [] kvs)))
/-! ### methods -/
/-- a method call o.m(e) of a built-in, with one argument: what must be seen of the text -/
structure M1 (X : Cx) (o : Expr) (m : Str) (apos : Pos) (e : Expr) (cpos : Pos) : Prop where
  base : attributeBase o m X.env (eval o X.env) = eval o X.env
  few : ((backTo cpos (starEach [e] X.env)).all (fun x => !x.1) && (backToKw cpos (keywordEach [] X.env)).all (fun x => x.1.isSome)
    && decide (([e] : List Expr).length + ([] : List Keyword).length + (if ([] : List Keyword).isEmpty then 0 else 1) < 30)) = true
  line : (apos.endLine == cpos.line) = true
  trees : backTo cpos (starEach [e] X.env) = [(false, eval e X.env)]
structure M2 (X : Cx) (o : Expr) (m : Str) (apos : Pos) (e f : Expr) (cpos : Pos) : Prop where
  base : attributeBase o m X.env (eval o X.env) = eval o X.env
  few : ((backTo cpos (starEach [e, f] X.env)).all (fun x => !x.1) && (backToKw cpos (keywordEach [] X.env)).all (fun x => x.1.isSome)
    && decide (([e, f] : List Expr).length + ([] : List Keyword).length + (if ([] : List Keyword).isEmpty then 0 else 1) < 30)) = true
  line : (apos.endLine == cpos.line) = true
  trees : backTo cpos (starEach [e, f] X.env) = [(false, eval e X.env), (false, eval f X.env)]

/-- a is a dict, whatever its keys -/
def IsD (H : Hp) (a : Addr) : Prop := (∃ kvs, Rd H a (.dK kvs)) ∨ ∃ kvs, Rd H a (.dT kvs)
section
variable {X : Cx} {pins : List (Addr × Obj)} {σ : St} {H : Hp} {s : Shared} {a : Addr} {y d : V} {u r : Value} {o : Option V} {A : Around} {E : Value → Shared → Prop}
end

def tDGet1 (td ty : TE) : TE := fun σ H Q => td σ H fun x H1 => ∃ a, x = .ref a ∧ IsD H1 a ∧ ty σ H1 fun y H2 => ∃ o, DGet H2 a y o ∧ Q (o.getD .non) H2
def tDGet2 (td ty tx : TE) : TE := fun σ H Q => td σ H fun x H1 => ∃ a, x = .ref a ∧ IsD H1 a ∧ ty σ H1 fun y H2 => tx σ H2 fun z H3 => ∃ o, DGet H3 a y o ∧ Q (o.getD z) H3
/-- d.pop(k): there; d.pop(k, x): there or not -/
def tDPop1 (td ty : TE) : TE := fun σ H Q => td σ H fun x H1 => ∃ a, x = .ref a ∧ IsD H1 a ∧ ty σ H1 fun y H2 => ∃ kvs k v, H2 a = some (.dK kvs) ∧ y = kV k ∧ valV kvs k = some v ∧ Q v (upd H2 a (.dK (dropK kvs k)))
def tDPop2 (td ty tx : TE) : TE := fun σ H Q => td σ H fun x H1 => ∃ a, x = .ref a ∧ IsD H1 a ∧ ty σ H1 fun y H2 => tx σ H2 fun z H3 => ∃ kvs k, H3 a = some (.dK kvs) ∧ y = kV k ∧
  (∀ v, valV kvs k = some v → Q v (upd H3 a (.dK (dropK kvs k)))) ∧ (valV kvs k = none → Q z H3)
section
variable {X : Cx} {o e f : Expr} {apos cpos : Pos} {td ty tx : TE}
end

/-! ### dict(d): a copy -/
section
variable {X : Cx} {pins : List (Addr × Obj)} {σ : St} {H : Hp} {s : Shared} {a : Addr} {kvs : List (Key × V)} {A : Around} {E : Value → Shared → Prop}
end


section
variable {X : Cx} {pins : List (Addr × Obj)} {σ : St} {H : Hp} {s : Shared} {a : Addr} {y : V} {u : Value} {A : Around} {E : Value → Shared → Prop}
end
end L2

/-! texts over the hand layer -/
namespace L2
open PySem PySem.Spec PyProof.Rows
section
variable {X : Cx}
theorem call_isiD : CallR X (.builtin "isinstance") (fun xs H Q => ∃ p T kvs, xs = [.ref p, .ty T] ∧ T ∈ isiTs ∧ H p = some (.dK kvs) ∧ Q (.bl (isa "dict" T)) H) := by
  intro pins s σ H xs us Q I r h
  obtain ⟨p, T, kvs, rfl, hT, ht, q⟩ := h
  obtain ⟨u, w', rfl, rx, rT⟩ := vals2 r
  cases rT
  cases rx
  have hT' : T = "int" ∨ T = "bool" ∨ T = "str" ∨ T = "list" ∨ T = "tuple" ∨ T = "dict" := by simpa [isiTs] using hT
  have fin : ∀ {k : Bool} {s' : Shared}, isa "dict" T = k → Inv X pins σ H s' → EP X pins σ Q (.bool k) s' := fun {k s'} e I' => by subst e; exact ⟨.bl _, H, I', rfl, q⟩
  obtain ⟨_, _, vs, _, o, es, ep, e, hx, _⟩ := I.hok p _ ht
  have hc : o.cls = .type "dict" := hx.1
  rcases hT' with rfl | rfl | rfl | rfl | rfl | rfl
  · exact IsiPair.dict_int e hc (fin (by decide) (I.tok _))
  · exact IsiPair.dict_bool e hc (fin (by decide) (I.tok _))
  · exact IsiPair.dict_str e hc (fin (by decide) (I.tok _))
  · exact IsiPair.dict_list e hc (fin (by decide) (I.tok _))
  · exact IsiPair.dict_tuple e hc (fin (by decide) (I.tok _))
  · exact IsiPair.dict_dict e hc (fin (by decide) I)

/-! ### for c in a text -/
def Itx (x : Str) : It := ⟨fun i _ => i < x.cps.size, fun i H v H' => H' = H ∧ ∃ c, x.cps[i]? = some c ∧ v = .str ⟨#[c]⟩, fun i _ => x.cps.size ≤ i⟩
def iStr (tl : TE) : TI := fun σ H R => tl σ H fun v H1 => ∃ x, v = .str x ∧ R (Itx x) H1
/-! ### texts compared -/
/-- int, None beside each other -/
def intOrN : V → Bool
  | .non => true
  | .int _ => true
  | _ => false
/-! ### a part of a text: some text, not longer -/
/-! ### join, split, index, int(text) -/
/-- split by a sign that stands in the text -/
def splitL (x y : Str) : List Str := Builtin.Str.partsBetween x (Builtin.Str.occurrences x y 0 x.length (x.length + 1)) y.length
end
end L2
namespace L2
open PySem PySem.Spec PyProof.Rows
end L2
namespace L2
open PySem
theorem se_const {c k p} {es : List Expr} {env : Env} : starEach (.Constant c k p :: es) env = (false, eval (.Constant c k p) env) :: starEach es env := rfl
theorem se_list {xs p} {es : List Expr} {env : Env} : starEach (.List xs p :: es) env = (false, eval (.List xs p) env) :: starEach es env := rfl
theorem se_tuple {xs k p} {es : List Expr} {env : Env} : starEach (.Tuple xs k p :: es) env = (false, eval (.Tuple xs k p) env) :: starEach es env := rfl
theorem se_dict {ks vs p} {es : List Expr} {env : Env} : starEach (.Dict ks vs p :: es) env = (false, eval (.Dict ks vs p) env) :: starEach es env := rfl
end L2
/-! the judgements as structures: where an app's type would be evaluated too far (a display of many things) -/
namespace L2
open PySem PySem.Spec PyProof.Rows
structure PEx (X : Cx) (e : Expr) (t : TE) : Prop where
  h : PE X e t
structure PAx (X : Cx) (es : List Expr) (t : TA) : Prop where
  h : PA X es t
structure PStx (X : Cx) (st : Stmt) (t : TS) : Prop where
  h : PS X st t
structure PSx (X : Cx) (sts : List Stmt) (t : TS) : Prop where
  h : PSs X sts t
section
variable {X : Cx} {e : Expr} {es : List Expr} {te : TE} {t : TA} {st : Stmt} {rest : List Stmt} {ts us : TS}
theorem pax_nil : PAx X [] tNil := ⟨pa_nil⟩
theorem pax_cons (ha : PEx X e te) (hr : PAx X es t) (hs : starEach (e :: es) X.env = (false, eval e X.env) :: starEach es X.env) : PAx X (e :: es) (tCons te t) := ⟨pa_cons ha.h hr.h hs⟩
theorem pex_of (h : PE X e te) : PEx X e te := ⟨h⟩
theorem pex_menu {ix : Expr} {ti : TE} {p1 p2 : Pos} (hes : PAx X es t) (hi : PEx X ix ti) (hs : PlainIx ix) : PEx X (.Subscript (.List es p1) ix p2) (tOp (rIxL X.K) (tLst t) ti) := ⟨pe_ix ix_list (pe_lst hes.h) hi.h hs⟩
theorem pstx_menu {i : Nat} {x : Str} {pos' pos p1 p2 : Pos} {ix : Expr} (hN : X.N.Nodup) (hi : X.N[i]? = some x) (hx : X.env.scope.names.lookup x = some .local) (he : PEx X (.Subscript (.List es p1) ix p2) te) :
    PStx X (.Assign [.Name x pos'] (.Subscript (.List es p1) ix p2) pos) (tAsg te (gName i)) := ⟨ps_set hN hi (.inl hx) he.h rfl (.inr hx)⟩
theorem psx_cons (h1 : PStx X st ts) (h2 : PSx X rest us) : PSx X (st :: rest) (tSeq ts us) := ⟨pss_cons h1.h h2.h⟩
theorem psx_one (h1 : PStx X st ts) : PSx X [st] ts := ⟨pss_one h1.h⟩
end
end L2

/-! long division, list + list of what is read alone, == and != of data -/
namespace L2
open PySem PySem.Spec PyProof.Rows
/-- // by a positive divisor of some size -/
def CDivL (i j : Int) : Prop := 0 < j ∧ j < 2 ^ 128
theorem log2_small {n : Nat} (h : n < 2 ^ 128) : n.log2 < 9000 := by
  by_cases h0 : n = 0
  · subst h0; decide
  · have := (Nat.log2_lt h0).mpr h
    omega
section
variable {X : Cx}
theorem op_fdivL : OpR X (binaryOp .FloorDiv) (rI CDivL fun i j => .int (i / j)) := opI fun i j _ _ _ _ _ hc q => by
  have hj : 0 ≤ j := Int.le_of_lt hc.1
  have e : i.fdiv j = i / j := Int.fdiv_eq_ediv_of_nonneg _ hj
  refine floordiv_int (Int.ne_of_gt hc.1) (by rw [e]; exact q) (.inl (PyProof.noPylong_of_log2 (log2_small ?_)))
  obtain ⟨n, rfl⟩ := Int.eq_ofNat_of_zero_le hj
  have h2 := hc.2
  simp only [Int.natAbs_natCast]
  exact_mod_cast h2
/-- list + list, both read alone -/
def rCatS (K : PySem.W.Frag) : R2 := fun x y H Q => ∃ l b xs zs, x = .ref l ∧ y = .ref b ∧ SqL K H l xs ∧ SqL K H b zs ∧ xs.length + zs.length ≤ sizeLine ∧ ∀ p, H p = none → Q (.ref p) (upd H p (.lst (xs ++ zs)))
theorem list_add_any (l : Addr) (items : Array Value) (n : Nat) (b : Addr) (items2 : Array Value) (n2 : Nat) (sl sl2 : Array (Option Value)) (hc0 : items.size + items2.size ≤ sizeLine) :
    Meets (Builtin.«list.__add__» ⟨[.ref l, .ref b], []⟩) (fun _ R s => s.heap.get? l = some { cls := .type "list", dict := none, data := .seq items n, slots := sl } ∧ s.heap.get? b = some { cls := .type "list", dict := none, data := .seq items2 n2, slots := sl2 } ∧ R (.ok (.ret (Value.ref s.heap.objs.size))) { s with heap := s.heap.push { cls := Value.type "list", data := Data.seq (items ++ items2) }, toks := s.toks }) :=
  .of_wp fun prog w A R s h => by obtain ⟨hp, g, d, tk, os⟩ := s; obtain ⟨hl, hb, h⟩ := h; have f1 := AutoSeq1.idx_int; have f2 := AutoSeq1.sub_tuple_tuple; have f3 := AutoSeq1.sub_list_list; have f4 := AutoSeq1.sub_tuple_list; have f5 := AutoSeq1.sub_list_tuple; wp_walk using AutoSeq1.wpAny_loadPart' hl, AutoSeq1.wpAny_loadPart' hb; exact ⟨_, rfl, h⟩
theorem op_catS : OpR X (binaryOp .Add) (rCatS X.K) := by
  intro pins s σ H x y v u Q I rx ry h
  obtain ⟨l, b, xs, zs, rfl, rfl, hH, hB, hz, q⟩ := h
  cases rx
  cases ry
  obtain ⟨its, r, ⟨o, n, e, hc, hdn, hd⟩, _⟩ := I.list hH
  obtain ⟨its2, r2, ⟨o2, n2, e2, hc2, hdn2, hd2⟩, _⟩ := I.list hB
  obtain ⟨c, d, dt, sl⟩ := o
  obtain ⟨c2, d2, dt2, sl2⟩ := o2
  cases hc; cases hdn; cases hd
  cases hc2; cases hdn2; cases hd2
  have l1 := r.length
  have l2 := r2.length
  refine concat_meets ⟨_, e, rfl⟩ ⟨_, e2, rfl⟩ PySem.noFill_list_add PySem.seq_list_add F.slot_list_add F.entry_list_add (F.args_list_add_2 _ _) (list_add_any l its.toArray n b its2.toArray n2 sl sl2 (by rw [List.size_toArray, List.size_toArray]; omega)) ⟨e, e2, ?_⟩
  have ea : its.toArray ++ its2.toArray = (its ++ its2).toArray := by simp
  rw [ea]
  exact ⟨.ref _, _, I.lnew (t' := s.toks) (r.append r2) (by rw [List.length_append]; omega), rfl, q _ I.fresh⟩

/-! ### data -/
mutual
inductive Dat (K : PySem.W.Frag) (H : Hp) : V → PyData → Prop
  | non : Dat K H .non .none
  | bl (b : Bool) : Dat K H (.bl b) (.bool b)
  | int (i : Int) : Dat K H (.int i) (.int i)
  | str (x : Str) : Dat K H (.str x) (.str x)
  | lst {a : Addr} {xs : List V} {ds : List PyData} : SqL K H a xs → DatAll K H xs ds → Dat K H (.ref a) (.list ds)
  | tup {a : Addr} {xs : List V} {ds : List PyData} : SqT K H a xs → DatAll K H xs ds → Dat K H (.ref a) (.tuple ds)
inductive DatAll (K : PySem.W.Frag) (H : Hp) : List V → List PyData → Prop
  | nil : DatAll K H [] []
  | cons {x : V} {xs : List V} {d : PyData} {ds : List PyData} : Dat K H x d → DatAll K H xs ds → DatAll K H (x :: xs) (d :: ds)
end
mutual
theorem Inv.reads {pins : List (Addr × Obj)} {σ : St} {H : Hp} {s : Shared} (I : Inv X pins σ H s) : ∀ {x : V} {d : PyData} {u : Value}, Dat X.K H x d → RelV x u → ∃ as, Reads s.heap u d as
  | _, _, _, .non, r => by cases r; exact ⟨_, .none⟩
  | _, _, _, .bl b, r => by cases r; exact ⟨_, .bool b⟩
  | _, _, _, .int i, r => by obtain ⟨t, rfl⟩ := r; exact ⟨_, .int i t⟩
  | _, _, _, .str x, r => by obtain ⟨t, rfl⟩ := r; exact ⟨_, .str x t⟩
  | _, _, _, .lst h ds, r => by
    cases r
    obtain ⟨its, rv, ⟨o, n, e, hc, _, hd⟩, _⟩ := I.list h
    obtain ⟨as, ra⟩ := Inv.readsAll I ds rv
    exact ⟨_, .list e hc hd ra⟩
  | _, _, _, .tup h ds, r => by
    cases r
    obtain ⟨its, rv, ⟨o, e, hc, n, hd⟩, _⟩ := I.tuple h
    obtain ⟨as, ra⟩ := Inv.readsAll I ds rv
    exact ⟨_, .tuple e hc hd ra⟩
theorem Inv.readsAll {pins : List (Addr × Obj)} {σ : St} {H : Hp} {s : Shared} (I : Inv X pins σ H s) : ∀ {xs : List V} {ds : List PyData} {us : List Value}, DatAll X.K H xs ds → Vals xs us → ∃ as, ReadsAll s.heap us ds as
  | _, _, _, .nil, r => by cases r; exact ⟨_, .nil⟩
  | _, _, _, .cons h t, r => by
    cases r with
    | cons r1 r2 =>
      obtain ⟨a1, e1⟩ := Inv.reads I h r1
      obtain ⟨a2, e2⟩ := Inv.readsAll I t r2
      exact ⟨_, .cons e1 e2⟩
end
def rEqD (K : PySem.W.Frag) (neg : Bool) : R2 := fun x y H Q => ∃ d d' : PyData, Dat K H x d ∧ Dat K H y d' ∧ SeqAt.shaped d = true ∧ SeqAt.shaped d' = true ∧ Q (.bl (xor neg (PyData.eqv d d'))) H
end
mutual
theorem Dat.same {K : PySem.W.Frag} {H H' : Hp} (g : Same H H') : ∀ {x : V} {d : PyData}, Dat K H x d → Dat K H' x d
  | _, _, .non => .non
  | _, _, .bl b => .bl b
  | _, _, .int i => .int i
  | _, _, .str x => .str x
  | _, _, .lst h t => .lst (g.seq h) (DatAll.same g t)
  | _, _, .tup h t => .tup (by
      rcases h with (h | ⟨o, h⟩) | h
      · exact .inl (.inl (g _ _ h))
      · exact .inl (.inr ⟨o, g _ _ h⟩)
      · exact .inr h) (DatAll.same g t)
theorem DatAll.same {K : PySem.W.Frag} {H H' : Hp} (g : Same H H') : ∀ {xs : List V} {ds : List PyData}, DatAll K H xs ds → DatAll K H' xs ds
  | _, _, .nil => .nil
  | _, _, .cons h t => .cons (Dat.same g h) (DatAll.same g t)
end
end L2

/-! sum of a list of ints, << of long ints, range falling by one, a slice given -/
namespace L2
open PySem PySem.Spec PyProof.Rows
section
variable {X : Cx}
/-- << of an int of some size -/
def CShl (i j : Int) : Prop := 0 ≤ j ∧ j ≤ 1000000 ∧ i.natAbs < 2 ^ 4000
/-- lo, lo + st, .. (n of them) -/
def Itrs (lo st : Int) (n : Nat) : It := ⟨fun i _ => i < n, fun i H x H' => H' = H ∧ x = .int (lo + i * st), fun i _ => n ≤ i⟩
def iRngD (ta : TA) : TI := fun σ H R => ta σ H fun vs H1 => ∃ i j : Int, vs = [.int i, .int j, .int (-1)] ∧ (-(2 ^ 62) ≤ i ∧ i < 2 ^ 62 ∧ -(2 ^ 62) ≤ j ∧ j < 2 ^ 62) ∧ R (Itrs i (-1) (i - j).toNat) H1
/-- o[lo:hi] = a list -/
def gSlc (to : TE) (tl th : TO) : TG := fun v σ H Q => to σ H fun o H1 => tl σ H1 fun l H2 => th σ H2 fun u H3 => ∃ (p b : Addr) (xs ys : List V) (a c : Int), o = .ref p ∧ v = .ref b ∧ H3 p = some (.lst xs) ∧ H3 b = some (.lst ys) ∧ p ≠ b ∧ l = some a ∧ u = some c ∧
  0 ≤ a ∧ a ≤ c ∧ c ≤ xs.length ∧ xs.length + ys.length ≤ sizeLine ∧ Q σ (upd H3 p (.lst (xs.take a.toNat ++ ys ++ xs.drop c.toNat)))
end
end L2

/-! name = [.. for ..] : the value is stored ahead of the block's end -/
namespace L2
open PySem PySem.Spec PyProof.Rows
section
variable {X : Cx} {elt tg iter : Expr} {ifs : List Expr} {scope : Scope} {cl : List (Str × Addr)} {ts ys : List Str} {js : List Nat} {pos : Pos} {wi : TI} {g : TG} {tc : TT} {te : TE}
theorem comp_mid (ts ys : List Str) (js : List Nat) (hc : X.calm = true) (hi : PI X tg iter wi) (hclos : closureFor scope X.env = pure cl) (hsub : subCl X.env cl) (hcap : capt X scope cl ys js)
    (hg : ∀ s H fp C, PG (X.comp scope cl (ts ++ ys) s H fp C) tg g) (ht : ∀ s H fp C, PIf (X.comp scope cl (ts ++ ys) s H fp C) ifs tc) (he : ∀ s H fp C, PE (X.comp scope cl (ts ++ ys) s H fp C) elt te)
    (hkind : scope.kind = .function) (hcell : (scope.names.all fun y => y.2 != .cell) = true)
    (hnames : (scope.names.all fun y => y.2 != .local || scope.names.lookup y.1 == some .local) = true)
    (hhas : ((relabel scope X.env).names.all fun p => (p.2 != .cell && p.2 != .free) || (cl.lookup p.1).isSome) = true)
    (hs : ∀ x, foldedSetIterable iter X.env x = pure x) {use : Option (Value → Sem Unit)} {QV : Value → Shared → Prop} {pins : List (Addr × Obj)} {s : Shared} {σ : St} {H : Hp} {Q : VK} {p0 : Pos} (I : Inv X pins σ H s) (h : tComp wi ts.length js g tc te σ H Q)
    (hfin : ∀ {H2 H3 : Hp} {s2 s4 : Shared} {fp : List Addr} {C : Addr} {pins' : List (Addr × Obj)} {σ' : St} {its : List Value} {xs : List V} {n : Nat}, Inv X pins σ H2 s2 → (∀ b ∈ fp, FpOk X pins H2 b) → Inv (X.comp scope cl (ts ++ ys) s2 H2 fp C) pins' σ' H3 s4 → s2.heap.objs.size ≤ C → s2.heap.objs.size ≠ C → Vals xs its → xs.length ≤ sizeLine →
      s4.heap.get? s2.heap.objs.size = some { cls := .type "list", data := .seq its.toArray n } → H3 s2.heap.objs.size = none → (∀ p, H3 p = none → Q (.ref p) (upd H3 p (.lst xs))) → compPost (model X.prog X.w) X.A X.xe use QV (.ref s2.heap.objs.size) C (.ok .next) s4) :
    wpAny (model X.prog X.w) X.A (comprehension (.ListComp elt [⟨tg, iter, ifs, 0⟩] scope pos) scope X.env p0 (newList []) false (eval iter X.env) use) QV X.xe s := by
  have hcell' : ∀ y ∈ scope.names, y.2 ≠ .cell := fun y hy z => by
    have := List.all_eq_true.mp hcell y hy
    rw [z] at this
    exact absurd this (by decide)
  have hnames' : ∀ y ∈ scope.names, y.2 = .local → scope.names.lookup y.1 = some .local := fun y hy z => by
    have := List.all_eq_true.mp hnames y hy
    rw [z] at this
    simpa using this
  have hhas' : ∀ x, ((relabel scope X.env).names.lookup x = some .cell ∨ (relabel scope X.env).names.lookup x = some .free) → ∃ c, cl.lookup x = some c := fun x hx => by
    rcases hx with hx | hx
    · have := List.all_eq_true.mp hhas _ (PySem.mem_of_lookup hx)
      exact Option.isSome_iff_exists.mp (by simpa using this)
    · have := List.all_eq_true.mp hhas _ (PySem.mem_of_lookup hx)
      exact Option.isSome_iff_exists.mp (by simpa using this)
  refine wpAny_comprehension_free (use := use) rfl hs hclos hkind hnames' (thn (hi pins s σ H _ I h) fun v s1 h1 => thn h1 fun itv s2 h2 => ?_)
  obtain ⟨it, fp, tn, J, H2, e, I2, T, st2, f2, W, ⟨m0, w0⟩, turn⟩ := h2
  subst e
  have fl : ∀ b ∈ fp, b < s2.heap.objs.size := fun b hb => by
    obtain ⟨o, e, _⟩ := T.obj _ _ st2 b hb
    exact Heap.lt_size e
  refine wpAny_newObj_type (wpAny_newFunctionEnv hcell' (by intro y hy; simp at hy) (fun h₁ hns₁ hsb₁ => ?_) hkind)
  dsimp only at hns₁ hsb₁ ⊢
  generalize hHH : s2.heap.push { cls := .type "list", dict := none, data := .seq ([] : List Value).toArray } = HH at hns₁ hsb₁ ⊢
  have hC : HH.objs.size = s2.heap.objs.size + 1 := by rw [← hHH, Heap.size_push]
  have hDC : s2.heap.objs.size ≠ HH.objs.size := by rw [hC]; exact Nat.ne_of_lt (Nat.lt_succ_self _)
  have hCle : s2.heap.objs.size ≤ HH.objs.size := by rw [hC]; exact Nat.le_succ _
  have old : ∀ b o, s2.heap.get? b = some o → h₁.get? b = some o := fun b o e =>
    hsb₁.extBut b o (Nat.ne_of_lt (Nat.lt_of_lt_of_le (Heap.lt_size e) hCle)) (Heap.get?_push_of_some _ (hHH ▸ Heap.get?_push_of_some _ e))
  have hacc : h₁.get? s2.heap.objs.size = some { cls := .type "list", data := .seq ([] : List Value).toArray } := hsb₁.extBut _ _ hDC (Heap.get?_push_of_some _ (hHH ▸ Heap.get?_push_size _ rfl))
  have nofs : ∀ b, s2.heap.objs.size ≤ b → b ∉ frs X.stack := fun b hb z => by
    rcases List.mem_cons.mp (I2.stkSub b z) with e | e
    · exact absurd (Nat.lt_of_lt_of_le I2.lt (e ▸ hb)) (Nat.lt_irrefl _)
    · exact I2.nofs hb e
  have nocell : ∀ b, s2.heap.objs.size ≤ b → ∀ x c, cl.lookup x = some c → c ≠ b := fun b hb x c e z => by
    obtain ⟨v, q⟩ := I2.cell x c (hsub.at e)
    exact absurd (Nat.lt_of_lt_of_le q.lt (z ▸ hb)) (Nat.lt_irrefl _)
  have I' : Inv (X.comp scope cl (ts ++ ys) s2 H2 fp HH.objs.size) [] (capSt ts.length js σ) H2 { s2 with heap := h₁, toks := s2.toks + ([] : List (Str × Value)).length } :=
    inv_comp I2 hsub hcap hkind hhas' f2 fl hCle hns₁ old
  have addPin : ∀ {σ' : St} {H' : Hp} {s' : Shared} {o : Obj}, Inv (X.comp scope cl (ts ++ ys) s2 H2 fp HH.objs.size) [] σ' H' s' → s'.heap.get? s2.heap.objs.size = some o → H' s2.heap.objs.size = none → (∀ v, o.data ≠ .cell v) →
      Inv (X.comp scope cl (ts ++ ys) s2 H2 fp HH.objs.size) [(s2.heap.objs.size, o)] σ' H' s' := fun {σ' H' s' o} J e n d => J.pins_of fun p hp => by
    have e' : p = (s2.heap.objs.size, o) := by simpa using hp
    subst e'
    exact ⟨e, n, hDC, nofs _ (Nat.le_refl _), d⟩
  have stat : ∀ {pins' : List (Addr × Obj)} {H' : Hp}, (∀ p ∈ pins', p.1 = s2.heap.objs.size) → (∀ b ∈ fp, H' b = none) → ∀ b ∈ fp, FpOk (X.comp scope cl (ts ++ ys) s2 H2 fp HH.objs.size) pins' H' b := fun {pins' H'} hp hn b hb =>
    ⟨hn b hb, Nat.ne_of_lt (Nat.lt_of_lt_of_le (fl b hb) hCle), I'.ok.exfs b hb, .inl hb, (I'.ok.exf b hb).2, fun p hq z => by
      have hq' : p ∈ pins' := by simpa using hq
      exact absurd (fl b hb) (by rw [← z, hp p hq']; exact Nat.lt_irrefl _)⟩
  have tn1 : tn 0 h₁ := T.keep _ _ _ st2 fun b _ o e => old b o e
  have loop : ∀ s₃ : Shared, s₃ = { s2 with heap := h₁, toks := s2.toks + ([] : List (Str × Value)).length } →
      codeAny (model X.prog X.w) X.A (.compLoop (.ListComp elt [⟨tg, iter, ifs, 0⟩] scope pos) 0 (.ref it) (.ref s2.heap.objs.size) (compEnvC scope cl HH.objs.size X.env))
        (compPost (model X.prog X.w) X.A X.xe use QV (.ref s2.heap.objs.size) HH.objs.size) s₃ := by
    rintro s₃ rfl
    refine compLoop_gen (fun n s' => ∃ i σ' xs H' its nn, Inv (X.comp scope cl (ts ++ ys) s2 H2 fp HH.objs.size) [] σ' H' s' ∧ Vals xs its ∧ xs.length ≤ sizeLine ∧ s'.heap.get? s2.heap.objs.size = some { cls := .type "list", data := .seq its.toArray nn } ∧ H' s2.heap.objs.size = none ∧
      tn i s'.heap ∧ (∀ b ∈ fp, H' b = none) ∧ W i n σ' xs H') ?_ m0 ⟨0, _, [], H2, [], 0, I', .nil, Nat.zero_le _, hacc, I2.hok.fresh (Nat.le_refl _), tn1, fun b hb => (f2 b hb).1, w0⟩
    rintro n s3 ⟨i, σ3, xs, H3, its, nn, I3, rv, hz3, ac3, nD3, st3, fr3, w3⟩
    have nd : ∀ v, ({ cls := .type "list", data := .seq its.toArray nn } : Obj).data ≠ .cell v := fun v z => by
      have z' : Data.seq its.toArray nn = Data.cell v := z
      cases z'
    have I3p := addPin I3 ac3 nD3 nd
    have pinD : ∀ p ∈ [(s2.heap.objs.size, ({ cls := .type "list", data := .seq its.toArray nn } : Obj))], p.1 = s2.heap.objs.size := fun p hp => by
      rw [List.mem_singleton] at hp
      rw [hp]
    rcases turn i n σ3 xs H3 w3 with ⟨stop, qn⟩ | ⟨go, hz, N, hN, step⟩
    · refine thn (T.done (X.comp scope cl (ts ++ ys) s2 H2 fp HH.objs.size) rfl rfl rfl hc i _ s3 σ3 H3 (fun _ _ => False) I3p (stat pinD fr3) st3 stop) fun r s4 ⟨hr, I4⟩ => ?_
      subst hr
      have ac4 := (I4.pin _ (List.mem_append_right _ (List.mem_singleton.mpr rfl))).1
      exact hfin I2 f2 I4 hCle hDC rv hz3 ac4 nD3 qn
    · refine thn (T.item (X.comp scope cl (ts ++ ys) s2 H2 fp HH.objs.size) rfl rfl rfl hc i _ s3 σ3 H3 (fun _ _ => False) I3p (stat pinD fr3) st3 go) fun r s4 ⟨u, hr, h4⟩ => ?_
      subst hr
      refine thn h4 fun _ s5 ⟨x, H5, I5, r5, y5, st5, fr5⟩ => ?_
      have I5' := I5.pinned (stat pinD fr5) (T.obj _ _ st5)
      refine thn (hg _ _ _ _ _ s5 σ3 H5 x u _ I5' r5 (step x H5 y5)) fun _ s6 ⟨σ6, H6, I6, q6⟩ => ?_
      refine thn (ht _ _ _ _ _ s6 σ6 H6 _ I6 q6) fun b s7 ⟨H7, I7, q7⟩ => ?_
      -- what stands of the pins
      have facts : ∀ {σ' : St} {H' : Hp} {s' : Shared}, Inv (X.comp scope cl (ts ++ ys) s2 H2 fp HH.objs.size) ([(s2.heap.objs.size, ({ cls := .type "list", data := .seq its.toArray nn } : Obj))] ++ pinsAt fp s5.heap) σ' H' s' →
          s'.heap.get? s2.heap.objs.size = some { cls := .type "list", data := .seq its.toArray nn } ∧ H' s2.heap.objs.size = none ∧ tn (i + 1) s'.heap ∧ (∀ b ∈ fp, H' b = none) := fun {σ' H' s'} J => by
        have p1 := J.pin (s2.heap.objs.size, ({ cls := .type "list", data := .seq its.toArray nn } : Obj)) (by simp)
        refine ⟨p1.1, p1.2.1, T.keep _ _ _ st5 fun b hb o e => (J.pin (b, o) (List.mem_append_right _ (List.mem_append_right _ (mem_pinsAt hb e)))).1, fun b hb => ?_⟩
        obtain ⟨o, e, d⟩ := T.obj _ _ st5 b hb
        exact (J.pin (b, o) (List.mem_append_right _ (List.mem_append_right _ (mem_pinsAt hb e)))).2.1
      have bare : ∀ {σ' : St} {H' : Hp} {s' : Shared}, Inv (X.comp scope cl (ts ++ ys) s2 H2 fp HH.objs.size) ([(s2.heap.objs.size, ({ cls := .type "list", data := .seq its.toArray nn } : Obj))] ++ pinsAt fp s5.heap) σ' H' s' →
          Inv (X.comp scope cl (ts ++ ys) s2 H2 fp HH.objs.size) [] σ' H' s' := fun J => J.pins_of fun p hp => absurd hp (by simp)
      cases b with
      | false =>
        have q7' : N σ6 xs H7 := by simpa using q7
        obtain ⟨m', hm, w7⟩ := hN _ _ _ q7'
        obtain ⟨a1, a2, a3, a4⟩ := facts I7
        show ∃ m, m < n ∧ _
        exact ⟨m', hm, i + 1, σ6, xs, H7, its, nn, bare I7, rv, hz3, a1, a2, a3, a4, w7⟩
      | true =>
        have q7' : te σ6 H7 fun v H5 => N σ6 (xs ++ [v]) H5 := by
          rw [if_pos rfl] at q7
          exact q7
        show wpAny _ _ (eval elt _) _ _ s7
        refine thn (he _ _ _ _ _ s7 σ6 H7 _ I7 q7') fun xv s8 ⟨v, H8, I8, r8, n8⟩ => ?_
        obtain ⟨m', hm, w8⟩ := hN _ _ _ n8
        obtain ⟨a1, a2, a3, a4⟩ := facts I8
        have hl := rv.length
        refine call_meets F.slot_list_append ⟨_, a1, rfl⟩ F.entry_list_append (F.args_list_append_2 _ _) (PySem.list_append s2.heap.objs.size its.toArray nn xv (by rw [List.size_toArray]; omega)) ⟨a1, ?_⟩
        obtain ⟨n9, q9⟩ : ∃ n9, (s8.heap.update s2.heap.objs.size (Obj.mapSeq fun a => a.push xv)).get? s2.heap.objs.size = some { cls := .type "list", data := .seq (its ++ [xv]).toArray n9 } :=
          ⟨_, by rw [show (its ++ [xv]).toArray = its.toArray.push xv by simp]; exact PySem.IsL.update a1 (fun a => a.push xv)⟩
        have I9 : Inv (X.comp scope cl (ts ++ ys) s2 H2 fp HH.objs.size) [] σ6 H8 { s8 with heap := s8.heap.update s2.heap.objs.size (Obj.mapSeq fun a => a.push xv), toks := s8.toks } :=
          (bare I8).turned (it := s2.heap.objs.size) (fun b o hb e => (Heap.get?_update_other s8.heap _ (Ne.symm hb)).trans e) a2 hDC (.inr (Nat.le_refl _)) (nocell _ (Nat.le_refl _)) fun p hp => absurd (show p ∈ ([] : List (Addr × Obj)) from hp) (by simp)
        refine ⟨m', hm, i + 1, σ6, xs ++ [v], H8, its ++ [xv], n9, I9, rv.append (.cons r8 .nil), ?_, q9, a2, ?_, a4, w8⟩
        · rw [List.length_append, List.length_singleton]; omega
        · exact T.keep _ _ _ a3 fun b hb o e => (Heap.get?_update_other s8.heap _ (Ne.symm (Nat.ne_of_lt (fl b hb)))).trans e
  exact codeAny_compStart_list (loop _ rfl) (T.self _ 0 _ _ _ tn1 (loop _ rfl))

theorem ps_setC {i : Nat} {y : Str} {py spos : Pos} (ts ys : List Str) (js : List Nat) (hN : X.N.Nodup) (hiN : X.N[i]? = some y) (hy : X.env.scope.names.lookup y = some .local) (hc : X.calm = true) (hi : PI X tg iter wi) (hclos : closureFor scope X.env = pure cl) (hsub : subCl X.env cl) (hcap : capt X scope cl ys js)
    (hg : ∀ s H fp C, PG (X.comp scope cl (ts ++ ys) s H fp C) tg g) (ht : ∀ s H fp C, PIf (X.comp scope cl (ts ++ ys) s H fp C) ifs tc) (he : ∀ s H fp C, PE (X.comp scope cl (ts ++ ys) s H fp C) elt te)
    (hkind : scope.kind = .function := by rfl) (hcell : (scope.names.all fun y => y.2 != .cell) = true := by rfl)
    (hnames : (scope.names.all fun y => y.2 != .local || scope.names.lookup y.1 == some .local) = true := by rfl)
    (hhas : ((relabel scope X.env).names.all fun p => (p.2 != .cell && p.2 != .free) || (cl.lookup p.1).isSome) = true := by rfl)
    (hs : ∀ x, foldedSetIterable iter X.env x = pure x := by intro _; rfl)
    (hsw : swapsWith (.ListComp elt [⟨tg, iter, ifs, 0⟩] scope pos) (some (.Name y py)) spos.line X.env = pure true := by rfl) :
    PS X (.Assign [.Name y py] (.ListComp elt [⟨tg, iter, ifs, 0⟩] scope pos) spos) (tAsg (tComp wi ts.length js g tc te) (gName i)) := by
  intro pins s σ H D I h
  rw [exec_Assign_Name_used _ _ _ _ hsw]; refine wpAny_bind (wpAny_standAt (wpAny_bind ?_))
  show wpAny _ _ (do let _ ← comprehension (.ListComp elt [⟨tg, iter, ifs, 0⟩] scope pos) scope X.env _ (newList []) false (eval iter X.env) (some (assign (.Name y py) X.env))) _ _ s
  refine wpAny_bind (wpAny_mono (comp_mid (QV := fun _ s' => SP X pins D .next s') ts ys js hc hi hclos hsub hcap hg ht he hkind hcell hnames hhas hs I h ?_) (fun _ s' q => wpAny_pure (wpAny_pure q)) fun _ _ z => z)
  intro H2 H3 s2 s4 fp C pins' σ' its xs n I2 f2 I4 hC hDC rv hz e4 nD q
  have J : Inv X pins σ (upd H3 s2.heap.objs.size (.lst xs)) { s4 with heap := s4.heap } := comp_end I2 f2 I4 hC (Nat.le_refl _) hDC (Heap.SameBut.refl _ _) rv hz e4 nD
  obtain ⟨m, hm, _⟩ := I4.loc
  have hm' : s4.heap.Ns C m := hm
  have hL : C ≠ X.env.locals := fun z => absurd (Nat.lt_of_lt_of_le I2.lt (z ▸ hC)) (Nat.lt_irrefl _)
  have hn : upd H3 s2.heap.objs.size (.lst xs) C = none := by
    rw [upd_ne (Ne.symm hDC)]; exact I4.free
  have hcl : ∀ x c, X.env.cells.lookup x = some c → c ≠ C := fun x c e z => by
    obtain ⟨v, q⟩ := I2.cell x c e
    exact absurd (Nat.lt_of_lt_of_le q.lt (z ▸ hC)) (Nat.lt_irrefl _)
  have hpin : ∀ p ∈ X.pn ++ pins, p.1 ≠ C := fun p hp z => absurd (Nat.lt_of_lt_of_le (Heap.lt_size (I2.pin p hp).1) (z ▸ hC)) (Nat.lt_irrefl _)
  show wpAny _ _ (assign (.Name y py) X.env _) _ _ _
  refine wpAny_assign_Name (store_ok2 J hN hiN (.inl hy) (v := .ref s2.heap.objs.size) rfl (fun s5 J5 ⟨a, sb, ha⟩ => ?_) (.inr hy))
  have hCa : C ≠ a := by
    rcases ha with z | z
    · rw [z]; exact hL
    · exact Ne.symm (hcl _ _ z)
  refine ⟨m, hm'.sameBut sb hCa, fun h' hs' => ?_⟩
  exact ⟨_, _, J5.turned (h' := h') (t' := s5.toks) (fun b o hb e => hs'.extBut b o hb e) hn hL (.inr (Nat.le_trans I2.sz hC)) hcl hpin, q _ nD⟩
end
end L2

/-! list.insert(0, x), list.remove(n) of ints; a comprehension whose target is a tuple of names -/
namespace L2
open PySem PySem.Spec PyProof.Rows
section
variable {X : Cx}
def rInsert0 : V → List V → Hp → VK → Prop := fun x vs H Q => ∃ l xs y, x = .ref l ∧ vs = [.int 0, y] ∧ H l = some (.lst xs) ∧ xs.length < sizeLine ∧ Q .non (upd H l (.lst (y :: xs)))
def rRemoveI : V → List V → Hp → VK → Prop := fun x vs H Q => ∃ (l : Addr) (ns : List Int) (k : Int), x = .ref l ∧ vs = [.int k] ∧ H l = some (.lst (ns.map V.int)) ∧ k ∈ ns ∧ Q .non (upd H l (.lst ((ns.erase k).map V.int)))
def rInI (K : PySem.W.Frag) : R2 := fun x y H Q => ∃ (p : Addr) (n : Int) (ns : List Int), x = .int n ∧ y = .ref p ∧ SqL K H p (ns.map V.int) ∧ Q (.bl (decide (n ∈ ns))) H
def rNotInI (K : PySem.W.Frag) : R2 := fun x y H Q => ∃ (p : Addr) (n : Int) (ns : List Int), x = .int n ∧ y = .ref p ∧ SqL K H p (ns.map V.int) ∧ Q (.bl (decide (n ∉ ns))) H
theorem op_catTK {K : PySem.W.Frag} (hK : X.K = K) : OpR X (binaryOp .Add) (rCatT K) := hK ▸ op_catT
theorem pg_tupK {K : PySem.W.Frag} {es : List Expr} {k : Nat} {t : TGs} {n : Nat} {pos : Pos} (hK : X.K = K) (hc : X.calm = true) (h : PGs X es t)
    (hn : (assignEach es X.env).length = n := by rfl) (hst : (assignEach es X.env).findIdx? (·.1) = none := by rfl) : PG X (.Tuple es k pos) (gTup K n t) := hK ▸ pg_tup hc h hn hst
end
/-- a comprehension over a list with any target: the names' cells are the first k -/
def CompM (P : Nat → List V → Hp → Prop) (i k : Nat) (js : List Nat) (σ : St) : St → List V → Hp → Prop := fun σ' ys H => P (i + 1) ys H ∧ ∃ os : St, os.length = k ∧ σ' = os ++ capV js σ
/-- all but the list at l is as it was -/
def But (l : Addr) (H H' : Hp) : Prop := ∀ b o, b ≠ l → H b = some o → H' b = some o
end L2

namespace L2
open PySem PySem.Spec PyProof.Rows
section
variable {prog : Program} {w : World} {A : Around} {E : Value → Shared → Prop} {s : Shared}
end
section
variable {X : Cx}
/-- o[:] = a list -/
def gSlcA (to : TE) : TG := fun v σ H Q => to σ H fun o H1 => ∃ (p b : Addr) (xs ys : List V), o = .ref p ∧ v = .ref b ∧ H1 p = some (.lst xs) ∧ H1 b = some (.lst ys) ∧ p ≠ b ∧ xs.length + ys.length ≤ sizeLine ∧ Q σ (upd H1 p (.lst ys))
end
end L2

/-! an exception of one's own on its way through the frames -/
namespace L2
open PySem
/-- the record of the exception at e: its class, its dict, its newest entry T of the way (e itself where there is none), and where that entry flies -/
def Xc (h : Heap) (e C : Addr) (dx : Option Addr) (T : Addr) (fl : Option Value) : Prop :=
  ∃ oe vs, h.get? e = some oe ∧ oe.cls = .ref C ∧ oe.dict = dx ∧ oe.data = .fields vs ∧ 1 < vs.size ∧
    ((fl = none ∧ T = e ∧ vs[1]? = some .none) ∨ ∃ oT ts v, fl = some v ∧ T ≠ e ∧ vs[1]? = some (.ref T) ∧ h.get? T = some oT ∧ oT.data = .fields ts ∧ ts[3]? = some v)
/-- all but e and T is as it was, the frames at S up to their slots -/
def Mv (S : List Addr) (e T : Addr) (h h' : Heap) : Prop :=
  ∀ b o, h.get? b = some o → b ≠ e → b ≠ T → (b ∉ S → h'.get? b = some o) ∧ ∃ sl, h'.get? b = some { o with slots := sl }
theorem Mv.refl (S : List Addr) (e T : Addr) (h : Heap) : Mv S e T h h := fun b o q _ _ => ⟨fun _ => q, o.slots, q⟩
theorem Mv.ff {S : List Addr} {e T : Addr} {h h' base : Heap} {l : List Env} (m : Mv S e T h h') (ff : h.FunFrames base l) (he : ∀ o, h.get? e = some o → ∃ vs, o.data = .fields vs) (hT : ∀ o, h.get? T = some o → ∃ vs, o.data = .fields vs) : h'.FunFrames base l :=
  ff.of_keeps fun b o q nf => by
    obtain ⟨_, sl, q'⟩ := m b o q (fun z => by subst z; obtain ⟨vs, z⟩ := he o q; exact nf vs z) (fun z => by subst z; obtain ⟨vs, z⟩ := hT o q; exact nf vs z)
    exact ⟨_, q', rfl⟩
theorem Xc.fe {h : Heap} {e C : Addr} {dx : Option Addr} {T : Addr} {fl : Option Value} (x : Xc h e C dx T fl) : ∀ o, h.get? e = some o → ∃ vs, o.data = .fields vs := fun o q => by
  obtain ⟨oe, vs, he, _, _, hd, _⟩ := x
  rw [he] at q; cases q; exact ⟨vs, hd⟩
theorem Xc.fT {h : Heap} {e C : Addr} {dx : Option Addr} {T : Addr} {fl : Option Value} (x : Xc h e C dx T fl) : ∀ o, h.get? T = some o → ∃ vs, o.data = .fields vs := fun o q => by
  have fe := x.fe
  obtain ⟨oe, vs, he, _, _, hd, _, ⟨_, rfl, _⟩ | ⟨oT, ts, v, _, _, _, hT, hd', _⟩⟩ := x
  · exact fe o q
  · rw [hT] at q; cases q; exact ⟨ts, hd'⟩
theorem dict_mapFields (o : Obj) (f : Array Value → Array Value) : (o.mapFields f).dict = o.dict := by
  obtain ⟨c, d, dt, sl⟩ := o
  cases dt <;> rfl
section
variable {M : Model} {A : Around} {E : Value → Shared → Prop} {s : Shared} {base : Heap} {env : Env} {outer : List Env} {L e C : Addr} {dx : Option Addr} {T : Addr} {fl : Option Value} {Q : Unit → Shared → Prop}
/-- a new entry is laid ahead of the others -/
theorem entry_ok {s1 : Shared} {oe : Obj} {vs : Array Value} {head : Value} {had : Bool} (hA : A.frames = some (env :: outer)) (hL : env.frame = some L) (ff : s1.heap.FunFrames base (env :: outer))
    (he : s1.heap.get? e = some oe) (hc : oe.cls = .ref C) (hx : oe.dict = dx) (hd : oe.data = .fields vs) (h1 : 1 < vs.size)
    (hQ : ∀ h' T', s1.heap.get? T' = none → s1.heap.objs.size ≤ T' → Xc h' e C dx T' (some (rawInt L)) → Mv ((env :: outer).filterMap (·.frame)) e e s1.heap h' → Q () { s1 with heap := h' }) :
    wpAny M A (do let a ← frameOf env; let pl ← entryPlaceOf L had; let b ← EntryCells.newEntry head a .none (rawInt L) .none pl; setField (.ref e) 1 b) Q E s1 := by
  have nfr : e ∉ (env :: outer).filterMap (·.frame) := fun z => by
    obtain ⟨_, o, q, nf⟩ := ff.mem z
    rw [he] at q; cases q; exact nf vs hd
  refine wpAny_bind (wpAny_frameOf_fun hA ff hL fun g so => wpAny_bind (wpAny_entryPlaceOf fun pl isp => ?_))
  unfold EntryCells.newEntry newFields
  refine wpAny_bind (wpAny_newObj_type ?_ (isp.sizeOk5 _ _ _ _ _))
  have e1 : g.get? e = some oe := (so.2.1 e nfr).trans he
  generalize hob : ({ cls := .type "traceback", dict := none, data := .fields ([head, .ref L, .none, rawInt L, .none] ++ (if pl.isEmpty then List.replicate 6 Value.none else pl)).toArray } : Obj) = ob
  have e2 := Heap.get?_push_of_some ob e1
  refine wpAny_setField e2 hd h1 ?_
  have nT : g.objs.size ≠ e := Nat.ne_of_gt (Heap.lt_size e1)
  have d3 := Obj.data_mapFields hd (·.setIfInBounds 1 (Value.ref g.objs.size))
  have e3 := Heap.get?_update_self (Obj.mapFields (·.setIfInBounds 1 (Value.ref g.objs.size))) e2 (Obj.isFreed_of_fields d3)
  have t3 : ((g.push ob).update e (Obj.mapFields (·.setIfInBounds 1 (Value.ref g.objs.size)))).get? g.objs.size = some ob :=
    (Heap.get?_update_other _ _ (Ne.symm nT)).trans (Heap.get?_push_size g (by rw [← hob]; rfl))
  refine hQ _ g.objs.size (Heap.get?_none_of_le (by rw [so.1]; exact Nat.le_refl _)) (by rw [so.1]; exact Nat.le_refl _) ⟨_, _, e3, (Obj.cls_mapFields _ _).trans hc, (dict_mapFields _ _).trans hx, d3, by simpa using h1, .inr ⟨ob, _, rawInt L, rfl, nT, by simp [h1], t3, by rw [← hob], ?_⟩⟩ fun b o q ne _ => ?_
  · first
      | (simp; done)
      | (rcases isp with rfl | ⟨_, _, _, _, _, _, _, rfl⟩ <;> simp)
  · have keep : ∀ u, g.get? b = some u → ((g.push ob).update e (Obj.mapFields (·.setIfInBounds 1 (Value.ref g.objs.size)))).get? b = some u := fun u z => by
      rw [Heap.get?_update_other _ _ (Ne.symm ne)]
      exact Heap.get?_push_of_some _ z
    exact ⟨fun nb => keep _ ((so.2.1 b nb).trans q), let ⟨sl, z⟩ := so.2.2 b o q; ⟨sl, keep _ z⟩⟩
theorem note_ok (hA : A.frames = some (env :: outer)) (hL : env.frame = some L) (ff : s.heap.FunFrames base (env :: outer)) (x : Xc s.heap e C dx T fl) (hf : fl = none ∨ fl = some .none ∨ fl = some (rawInt L))
    (hQ : ∀ h' T', (T' = T ∨ s.heap.objs.size ≤ T') → Xc h' e C dx T' (some (rawInt L)) → Mv ((env :: outer).filterMap (·.frame)) e T s.heap h' → Q () { s with heap := h' }) :
    wpAny M A (noteFrame (.ref e) env) Q E s := by
  have x0 := x
  obtain ⟨oe, vs, he, hc, hx, hd, h1, ht⟩ := x
  unfold noteFrame
  simp only [hL]
  rcases ht with ⟨rfl, rfl, hv⟩ | ⟨oT, ts, v, rfl, nT, hv, hT, hdT, h3⟩
  · refine wpAny_bind (wpAny_field he hd hv ?_)
    rw [if_neg (by decide)]
    exact entry_ok hA hL ff he hc hx hd h1 fun h' T' _ q2 q3 q4 => hQ h' T' (.inr q2) q3 q4
  · refine wpAny_bind (wpAny_field he hd hv ?_)
    rw [if_pos (show (Value.ref T != Value.none) = true from by simp)]
    refine wpAny_bind (wpAny_field hT hdT h3 ?_)
    by_cases hvL : v = rawInt L
    · subst hvL
      rw [if_pos (show (rawInt L == rawInt L) = true from by simp)]
      exact wpAny_pure (hQ s.heap T (.inl rfl) x0 (Mv.refl _ _ _ _))
    · have hv0 : v = .none := by
        rcases hf with z | z | z
        · cases z
        · exact Option.some.inj z
        · exact absurd (Option.some.inj z) hvL
      subst hv0
      rw [if_neg (show ¬ ((Value.none == rawInt L) = true) from by simp [rawInt])]
      refine wpAny_bind (wpAny_setField hT hdT (Array.getElem?_eq_some_iff.mp h3).1 ?_)
      have oth : ∀ b, b ≠ T → (s.heap.update T (Obj.mapFields (·.setIfInBounds 3 Value.none))).get? b = s.heap.get? b := fun b hb => Heap.get?_update_other _ _ (Ne.symm hb)
      have mv : Mv ((env :: outer).filterMap (·.frame)) e T s.heap (s.heap.update T (Obj.mapFields (·.setIfInBounds 3 Value.none))) := fun b o q _ nb => ⟨fun _ => (oth b nb).trans q, o.slots, (oth b nb).trans q⟩
      refine entry_ok (s1 := { s with heap := s.heap.update T (Obj.mapFields (·.setIfInBounds 3 Value.none)) }) hA hL (mv.ff ff x0.fe x0.fT) ((oth e (Ne.symm nT)).trans he) hc hx hd h1 fun h' T' q1 q2 q3 q4 => hQ h' T' (.inr ?_) q3 fun b o q ne nb => ?_
      · have : (s.heap.update T (Obj.mapFields (·.setIfInBounds 3 Value.none))).objs.size = s.heap.objs.size := Heap.size_after_update ..
        rw [← this]; exact q2
      · exact q4 b o ((oth b nb).trans q) ne ne
/-- the newest entry flies at fr -/
theorem flight_ok {v : Value} {fr : Option Addr} (x : Xc s.heap e C dx T (some v))
    (hQ : ∀ h', Xc h' e C dx T (some (fr.elim .none fun f => rawInt f)) → Mv [] e T s.heap h' → Q () { s with heap := h' }) : wpAny M A (setFlight (.ref e) fr) Q E s := by
  obtain ⟨oe, vs, he, hc, hx, hd, h1, ⟨z, _⟩ | ⟨oT, ts, v', _, nT, hv, hT, hdT, h3⟩⟩ := x
  · cases z
  have hsz := (Array.getElem?_eq_some_iff.mp h3).1
  unfold setFlight
  refine wpAny_bind (wpAny_field he hd hv ?_)
  rw [if_pos (show (Value.ref T != Value.none) = true from by simp)]
  refine wpAny_setField hT hdT hsz (hQ _ ?_ fun b o q _ nb => ?_)
  · exact ⟨oe, vs, (Heap.get?_update_other _ _ nT).trans he, hc, hx, hd, h1, .inr ⟨_, _, _, rfl, nT, hv, Heap.get?_update_self _ hT (Obj.isFreed_of_fields (Obj.data_mapFields hdT _)), Obj.data_mapFields hdT _, by simp [hsz]⟩⟩
  · have := (Heap.get?_update_other s.heap (Obj.mapFields (·.setIfInBounds 3 (fr.elim Value.none fun f => rawInt f))) (Ne.symm nb)).trans q
    exact ⟨fun _ => this, o.slots, this⟩
theorem Mv.trans {S S' : List Addr} {e T T' : Addr} {h h1 h2 : Heap} (a : Mv S e T h h1) (b : Mv S' e T' h1 h2) (hT : T' = T ∨ h.get? T' = none) (hS : ∀ x ∈ S', x ∈ S) : Mv S e T h h2 := fun c o q ne nT => by
  obtain ⟨k1, sl, k2⟩ := a c o q ne nT
  have nT' : c ≠ T' := fun z => by
    rcases hT with y | y
    · exact nT (z.trans y)
    · rw [← z, q] at y; cases y
  refine ⟨fun nS => (b c o (k1 nS) ne nT').1 fun z => nS (hS c z), ?_⟩
  obtain ⟨_, sl', k3⟩ := b c _ k2 ne nT'
  exact ⟨sl', k3⟩
theorem leave_ok (hA : A.frames = some (env :: outer)) (hL : env.frame = some L) (ff : s.heap.FunFrames base (env :: outer)) (x : Xc s.heap e C dx T fl) (hf : fl = none ∨ fl = some .none ∨ fl = some (rawInt L))
    (hQ : ∀ h' T', (T' = T ∨ s.heap.objs.size ≤ T') → Xc h' e C dx T' (some .none) → Mv ((env :: outer).filterMap (·.frame)) e T s.heap h' → Q () { s with heap := h' }) :
    wpAny M A (leaving env (.ref e)) Q E s := by
  unfold leaving
  refine wpAny_bind (note_ok hA hL ff x hf fun h1 T1 q1 x1 m1 => flight_ok x1 fun h2 x2 m2 => hQ h2 T1 q1 x2 (m1.trans m2 ?_ (by simp)))
  exact q1.imp id fun z => Heap.get?_none_of_le z
end
end L2

/-! an exception of one's own class is made: __new__ is ValueError's, __init__ its own -/
namespace L2
open PySem
/-- what the tail of the class's line must have -/
structure XTail (bm : List Value) : Prop where
  v : bm.contains (.type "ValueError") = true
  b : bm.contains (.type "BaseException") = true
  a : bm.contains (.type "AttributeError") = false
  n : bm.contains (.type "NameError") = false
section
variable {prog : Program} {w : World} {M : Model} {A : Around} {E : Value → Shared → Prop} {h : Heap} {g : Array GenState} {d : Drawn} {t : Nat} {os : OsState}
  {nm qn : Str} {C N : Addr} {bs bm : List Value} {hdct : Bool} {sn : List Str} {sub : List Value} {ab : Bool} {col : Option Bool} {dd : Option Addr} {k0 k1 k2 k3 k5 : Option Value}
abbrev xcls (nm qn : Str) (C N : Addr) (bs bm : List Value) (hdct : Bool) (sn : List Str) (sub : List Value) (ab : Bool) (col : Option Bool) (dd : Option Addr) (k0 k1 k2 k3 k5 : Option Value) : Obj :=
  excClassObj nm qn C N bs bm hdct sn sub ab col dd k0 k1 k2 k3 k5 "ValueError.__new__"
theorem XTail.cv (x : XTail bm) : (Value.ref C :: bm).contains (.type "ValueError") = true := by rw [List.contains_cons, x.v, Bool.or_true]
theorem XTail.cb (x : XTail bm) : (Value.ref C :: bm).contains (.type "BaseException") = true := by rw [List.contains_cons, x.b, Bool.or_true]
theorem XTail.ca (x : XTail bm) : (Value.ref C :: bm).contains (.type "AttributeError") = false := by rw [List.contains_cons, x.a]; rfl
theorem XTail.cn (x : XTail bm) : (Value.ref C :: bm).contains (.type "NameError") = false := by rw [List.contains_cons, x.n]; rfl
theorem xnew_check (x : XTail bm) {rest : List Value} {Q : Unit → Shared → Prop} (hC : h.get? C = some (xcls nm qn C N bs bm hdct sn sub ab col dd k0 k1 k2 k3 k5)) (hq : Q () ⟨h, g, d, t, os⟩) :
    wpAny M A (checkBuiltinCall "ValueError.__new__" ⟨.ref C :: rest, []⟩) Q E ⟨h, g, d, t, os⟩ := by
  have c1 := x.cv (C := C)
  have B := PySem.F.excBase_ValueError
  have c2 := B.noStar
  simp only [checkBuiltinCall, B.newSplit, B.newKind, B.newRow]
  repeat (first
    | refine wpAny_loadPart_at hC ?_
    | (refine wpAny_isSubtype_exc hC ?_; rw [c1])
    | refine wpAny_madeBy_exc hC ?_
    | refine wpAny_staticBase_exc hC ?_
    | simp only [bne_self_eq_false, if_false, Bool.false_eq_true]
    | wp_step)
  exact hq
theorem xnew_run (x : XTail bm) {rest : List Value} {R : Result → Shared → Prop} (hC : h.get? C = some (xcls nm qn C N bs bm hdct sn sub ab col dd k0 k1 k2 k3 k5)) (hz : rest.length ≤ sizeLine)
    (hq : R (.ok (.ret (.ref (h.objs.size + 1)))) ⟨(h.push { cls := .type "tuple", data := .seq rest.toArray }).push { cls := .ref C, data := .fields #[.ref h.objs.size, .none, .none, .none, .bool false, .none] }, g, d, t, os⟩) :
    codeAny (model prog w) A (.builtin "ValueError.__new__" ⟨.ref C :: rest, []⟩) R ⟨h, g, d, t, os⟩ := by
  have B := PySem.F.excBase_ValueError
  have c0 := B.ends
  have c1 := x.cv (C := C)
  have c2 := x.ca (C := C)
  have c3 := x.cn (C := C)
  refine codeAny_builtinAt B.entry ?_
  unfold Builtin.«BaseException.__new__»
  refine wpAt_bind ?_
  show wpAt _ _ _ (stack >>= _) _ _ _
  refine wpAt_bind (wpAt_stack fun p below => wpAt_of_wpAny ?_)
  wp_walk
  refine wpAt_of_wpAny ?_
  rw [B.owner]
  repeat (first
    | with_reducible refine wpAny_loadPart_at hC ?_
    | with_reducible refine wpAny_madeHere_exc B.canon hC ?_
    | (with_reducible refine wpAny_isSubtype_exc hC ?_; first | rw [c1] | rw [c2] | rw [c3])
    | wp_step)
  show R _ _
  rw [Heap.size_push]
  exact hq
theorem xtype_call (x : XTail bm) {mN : Str → Option Value} {rest : List Value} {fI : Addr} {oI : Obj} {Q : Fin → Shared → Prop} (hC : h.get? C = some (xcls nm qn C N bs bm hdct sn sub ab col dd k0 k1 k2 k3 k5))
    (hn : h.Ns N mN) (hi : mN "__init__" = some (.ref fI)) (hf : h.get? fI = some oI) (hfc : oI.cls = .type "function") (hz : rest.length ≤ sizeLine)
    (hq : ∀ h' e, Heap.MadeExcOf h h' e (.ref C) rest → h.objs.size ≤ e → wpAny (model prog w) A (call (.ref fI) (.ref e :: rest)) (fun r s' => r = .none ∧ Q (.done (.ret (.ref e))) s') E ⟨h', g, d, t, os⟩) :
    wpAny (model prog w) A (Builtin.«type.__call__» ⟨.ref C :: rest, []⟩) Q E ⟨h, g, d, t, os⟩ := by
  repeat (first
    | with_reducible refine wpAny_madeBy_exc hC ?_
    | with_reducible refine wpAny_loadPart_at hC ?_
    | wp_step)
  have B := PySem.F.excBase_ValueError
  refine codeAny_call_builtin_code (Code.quiet_builtin _ B.quiet) (xnew_check x hC (xnew_run x hC hz ?_))
  show wpAny _ _ _ _ _ _
  generalize htu : ({ cls := .type "tuple", data := .seq rest.toArray } : Obj) = otu
  generalize hex : ({ cls := .ref C, data := .fields #[.ref h.objs.size, .none, .none, .none, .bool false, .none] } : Obj) = oex
  have kp : ∀ b o, h.get? b = some o → ((h.push otu).push oex).get? b = some o := fun b o z => Heap.get?_push_of_some _ (Heap.get?_push_of_some _ z)
  have ge : ((h.push otu).push oex).get? (h.objs.size + 1) = some oex := by
    have := Heap.get?_push_size (h.push otu) (o := oex) (by rw [← hex]; rfl)
    rwa [Heap.size_push] at this
  have gt : ((h.push otu).push oex).get? h.objs.size = some otu := Heap.get?_push_of_some _ (Heap.get?_push_size h (by rw [← htu]; rfl))
  have oc : oex.cls = .ref C := by rw [← hex]
  have hC1 := kp _ _ hC
  have hn1 : ((h.push otu).push oex).Ns N mN := let ⟨o, es, ep, z, r⟩ := hn; ⟨o, es, ep, kp _ _ z, r⟩
  have c0 : (Value.ref C :: bm).contains (.ref C) = true := by simp
  unfold isInstance
  repeat (first
    | (with_reducible refine wpAny_loadPart_at ge ?_; rw [oc])
    | (with_reducible refine wpAny_isSubtype_exc hC1 ?_; rw [c0])
    | wp_step)
  show wpAny _ _ (typeLookup (.ref C) _) _ _ _
  rw [typeLookup_eq]
  refine wpAny_bind (wpAny_mroOf_exc hC1 ?_)
  rw [lookupAlong_cons]
  refine wpAny_bind (wpAny_classOwn_exc hC1 hn1 ?_)
  rw [hi]
  refine wpAny_pure (wpAny_holding (wpAny_bind ?_))
  unfold bindSpecial
  refine wpAny_bind (wpAny_typeOf (T := "function") ⟨_, kp _ _ hf, hfc⟩ ?_)
  rw [if_pos (by decide)]
  refine wpAny_pure (wpAny_bind (wpAny_mono (hq _ (h.objs.size + 1) ⟨kp, Heap.get?_none_of_le (Nat.le_succ _), h.objs.size, by rw [ge, ← hex], Heap.get?_none_of_le (Nat.le_refl _), by rw [gt, ← htu]⟩ (Nat.le_succ _)) (fun r s' z => ?_) fun _ _ y => y))
  obtain ⟨rfl, z⟩ := z
  wp_walk
  exact z
theorem xmake (x : XTail bm) {mN : Str → Option Value} {rest : List Value} {fI : Addr} {oI : Obj} {Q : Value → Shared → Prop} (hC : h.get? C = some (xcls nm qn C N bs bm hdct sn sub ab col dd k0 k1 k2 k3 k5))
    (hn : h.Ns N mN) (hi : mN "__init__" = some (.ref fI)) (hf : h.get? fI = some oI) (hfc : oI.cls = .type "function") (hz : rest.length ≤ sizeLine)
    (hq : ∀ h' e, Heap.MadeExcOf h h' e (.ref C) rest → h.objs.size ≤ e → wpAny (model prog w) (A.under (.builtin "type.__call__" ⟨.ref C :: rest, []⟩)) (call (.ref fI) (.ref e :: rest)) (fun r s' => r = .none ∧ Q (.ref e) s') E ⟨h', g, d, t, os⟩) :
    wpAny (model prog w) A (call (.ref C) rest) Q E ⟨h, g, d, t, os⟩ := by
  have b1 := tc_lookup
  have b2 := tc_bind (.ref C)
  have b3 : (⟨h, g, d, t, os⟩ : Shared).TypeIs (.ref C) "type" := ⟨_, hC, rfl⟩
  refine wpAny_call (codeAny_of_tree ?_)
  show wpAny _ _ (callAny (.ref C) _) _ _ _
  repeat (any_goals (first | assumption | with_reducible refine wpAny_loadPart_at hC ?_ | wp_step))
  refine ⟨rfl, codeAny_call_builtin_at (Code.quiet_builtin _ (by decide +kernel)) entry_typeCall (wpAny_check_type_call_sub hC (xtype_call x hC hn hi hf hfc hz hq))⟩
theorem xraise {s : Shared} {env : Env} {x : Sem Value} {Q : Flow → Shared → Prop} (hh : A.handled = none)
    (hx : wpAny M A x (fun v s1 => ∃ (e C N : Addr) (nm qn : Str) (bs bm : List Value) (hdct : Bool) (sn : List Str) (sub : List Value) (ab : Bool) (col : Option Bool) (dd : Option Addr) (k0 k1 k2 k3 k5 : Option Value) (dx : Option Addr) (vs : Array Value) (sl : Array (Option Value)),
      v = .ref e ∧ XTail bm ∧ s1.heap.get? C = some (xcls nm qn C N bs bm hdct sn sub ab col dd k0 k1 k2 k3 k5) ∧ s1.heap.get? e = some ⟨.ref C, dx, .fields vs, sl⟩ ∧ vs[1]? = some .none ∧ E (.ref e) s1) E s) :
    wpAny M A (raiseStmt env (some x) none) Q E s := by
  unfold raiseStmt
  refine wpAny_bind (wpAny_mono hx (fun v s1 z => ?_) fun _ _ y => y)
  obtain ⟨e, C, N, nm, qn, bs, bm, hdct, sn, sub, ab, col, dd, k0, k1, k2, k3, k5, dx, vs, sl, rfl, xt, hC, he, hv, hE⟩ := z
  have c1 := xt.cb (C := C)
  obtain ⟨hp, g, d, tk, os⟩ := s1
  repeat (first
    | with_reducible refine wpAny_loadPart_at he ?_
    | with_reducible refine wpAny_loadPart_at hC ?_
    | with_reducible refine wpAny_field he rfl hv ?_
    | (with_reducible refine wpAny_isSubtype_exc hC ?_; rw [c1])
    | wp_step)
  exact wpAny_raiseNew_none hh hE
/-- raise X(..): the statement -/
theorem xRaise {s : Shared} {env : Env} {x : Expr} {pos : Pos} {Q : Flow → Shared → Prop} (hh : A.handled = none)
    (hx : wpAny M A (eval x env) (fun v s1 => ∃ (e C N : Addr) (nm qn : Str) (bs bm : List Value) (hdct : Bool) (sn : List Str) (sub : List Value) (ab : Bool) (col : Option Bool) (dd : Option Addr) (k0 k1 k2 k3 k5 : Option Value) (dx : Option Addr) (vs : Array Value) (sl : Array (Option Value)),
      v = .ref e ∧ XTail bm ∧ s1.heap.get? C = some (xcls nm qn C N bs bm hdct sn sub ab col dd k0 k1 k2 k3 k5) ∧ s1.heap.get? e = some ⟨.ref C, dx, .fields vs, sl⟩ ∧ vs[1]? = some .none ∧ E (.ref e) s1) E s) :
    wpAny M A (exec (.Raise (some x) none pos) env) Q E s := by
  rw [arm_exec_Raise]
  have key := xraise (Q := Q) (env := env) (x := do let v ← eval x env; standAt pos; pure v) hh (wpAny_bind (wpAny_mono hx (fun v s1 z => wpAny_bind (wpAny_standAt (wpAny_pure z))) fun _ _ y => y))
  first
    | exact wpAny_bind (wpAny_standAt key)
    | (simp only [evalOpt, Option.map]; exact wpAny_bind (wpAny_standAt key))
/-- the base's __init__: the exception's args -/
theorem xinit_check (x : XTail bm) {e : Addr} {oe : Obj} {rest : List Value} {Q : Unit → Shared → Prop} (hC : h.get? C = some (xcls nm qn C N bs bm hdct sn sub ab col dd k0 k1 k2 k3 k5)) (he : h.get? e = some oe) (oc : oe.cls = .ref C)
    (hq : Q () ⟨h, g, d, t, os⟩) : wpAny M A (checkBuiltinCall "ValueError.__init__" ⟨.ref e :: rest, []⟩) Q E ⟨h, g, d, t, os⟩ := by
  have c1 := x.cv (C := C)
  have B := PySem.F.excBase_ValueError
  have c2 := B.noStar
  simp only [checkBuiltinCall, B.initSplit, B.initKind, B.initRow]
  repeat (first
    | with_reducible refine wpAny_loadPart_at hC ?_
    | (with_reducible refine wpAny_loadPart_at he ?_; rw [oc])
    | (with_reducible refine wpAny_isSubtype_exc hC ?_; rw [c1])
    | wp_step)
  refine wpAny_onRaise ?_
  rw [show ∀ (a b : String) (n : Nat), Bind.check ⟨.positional, "*", "ValueError", .self, [⟨"args", .varPos, false⟩]⟩ a b n (List.map (fun y => y.fst) ({ pos := Value.ref e :: rest } : Args).kw) = pure () from fun a b n => check_star_args _ _ _ _ _ _]
  exact wpAny_pure hq
theorem xinit (x : XTail bm) {e : Addr} {oe : Obj} {vs : Array Value} {v : Value} {Q : Value → Shared → Prop} (hC : h.get? C = some (xcls nm qn C N bs bm hdct sn sub ab col dd k0 k1 k2 k3 k5)) (he : h.get? e = some oe) (oc : oe.cls = .ref C)
    (hd : oe.data = .fields vs) (h1 : 1 < vs.size)
    (hq : ∀ h' oe' vs', (∀ b o, b ≠ e → h.get? b = some o → h'.get? b = some o) → h'.get? e = some oe' → oe'.cls = oe.cls → oe'.dict = oe.dict → oe'.data = .fields vs' → vs'.size = vs.size → vs'[1]? = vs[1]? → Q .none ⟨h', g, d, t, os⟩) :
    wpAny (model prog w) A (call (.builtin "ValueError.__init__") [.ref e, v]) Q E ⟨h, g, d, t, os⟩ := by
  have B := PySem.F.excBase_ValueError
  refine wpAny_call (codeAny_call_builtin B.init.plain B.initEntry (xinit_check x hC he oc ?_))
  obtain ⟨c, dx, dt, sl⟩ := oe
  cases hd
  wp_walk
  have h0 : vs[0]? = some vs[0] := by simp
  rw [h0]
  refine wpAny_pure (wpAny_bind (wpAny_setField (Heap.get?_push_of_some _ he) rfl (by omega) ?_))
  have e2 := Heap.get?_push_of_some { cls := Value.type "tuple", data := Data.seq #[v] } he
  have fin := hq _ _ _ (fun b o nb z => (Heap.get?_update_other (h.push { cls := Value.type "tuple", data := Data.seq #[v] }) (Obj.mapFields (·.setIfInBounds 0 (Value.ref h.objs.size))) (Ne.symm nb)).trans (Heap.get?_push_of_some _ z))
    (Heap.get?_update_self (Obj.mapFields (·.setIfInBounds 0 (Value.ref h.objs.size))) e2 rfl) rfl rfl rfl (by simp) (by simp)
  generalize vs[0] = a0
  cases a0 <;> first
    | exact wpAny_pure (wpAny_pure fin)
    | exact wpAny_letGo (wpAny_pure fin)
/-- which clause takes it -/
theorem xmatch {e Cn : Addr} {oe : Obj} {b : Bool} {Q : Bool → Shared → Prop} {nm1 q1 nm2 q2 : Str} {N1 N2 : Addr} {bs1 bm1 bs2 bm2 : List Value} {hd1 hd2 : Bool} {sn1 sn2 : List Str} {sub1 sub2 : List Value} {ab1 ab2 : Bool} {co1 co2 : Option Bool} {dd1 dd2 : Option Addr}
    {j0 j1 j2 j3 j5 l0 l1 l2 l3 l5 : Option Value} {ni1 ni2 : String} (hC : h.get? C = some (excClassObj nm1 q1 C N1 bs1 bm1 hd1 sn1 sub1 ab1 co1 dd1 j0 j1 j2 j3 j5 ni1)) (hD : h.get? Cn = some (excClassObj nm2 q2 Cn N2 bs2 bm2 hd2 sn2 sub2 ab2 co2 dd2 l0 l1 l2 l3 l5 ni2))
    (hb : bm2.contains (.type "BaseException") = true) (he : h.get? e = some oe) (oc : oe.cls = .ref C) (hs : (Value.ref C :: bm1).contains (.ref Cn) = b) (hq : Q b ⟨h, g, d, t, os⟩) : wpAny M A (excMatches (.ref e) (.ref Cn)) Q E ⟨h, g, d, t, os⟩ := by
  have c1 : (Value.ref Cn :: bm2).contains (.type "BaseException") = true := by rw [List.contains_cons, hb, Bool.or_true]
  have c2 := tc_notTuple
  unfold excMatches
  repeat (first
    | with_reducible refine wpAny_loadPart_at hD ?_
    | (with_reducible refine wpAny_loadPart_at he ?_; rw [oc])
    | (with_reducible refine wpAny_isSubtype_exc hD ?_; rw [c1])
    | (with_reducible refine wpAny_isSubtype_exc hC ?_; rw [hs])
    | wp_step)
  cases b <;> (wp_walk; exact hq)
end
end L2

/-! attributes of exceptions of one's own: stored by their __init__, read in a handler -/
namespace L2
open PySem PyProof.Rows
abbrev VB : List Value := [.type "ValueError", .type "Exception", .type "BaseException", .type "object"]
/-- an exception class of the text: its base R is a class of the text under ValueError; fI its own __init__ -/
structure ExCl (K : PySem.W.Frag) (C R fI : Addr) : Prop where
  obj : ∃ (nm qn : Str) (N : Addr) (bs : List Value) (sn : List Str) (sub : List Value) (ab : Bool) (col : Option Bool) (dd : Option Addr) (k0 k1 k2 k3 k5 : Option Value),
    K.lookup C = some (xcls nm qn C N bs (.ref R :: VB) true sn sub ab col dd k0 k1 k2 k3 k5) ∧ PySem.W.nsOkIn K N = true ∧ PySem.W.nsIn K N "__init__" = some (some (.ref fI))
  fn : PySem.W.isFn K (.ref fI) = true
  kp : PySem.W.keepIn K (.ref C) = true
  sa : PySem.W.findIn K (.ref C) "__setattr__" = some (some (.builtin "object.__setattr__"))
  ga : PySem.W.findIn K (.ref C) "__getattribute__" = some (some (.builtin "BaseException.__getattribute__"))
  gh : PySem.W.findIn K (.ref C) "__getattr__" = some none
theorem xtail (R : Addr) : XTail (.ref R :: VB) := ⟨rfl, rfl, rfl, rfl⟩
theorem ns_some_of {K : PySem.W.Frag} {h : Heap} {N : Addr} {m : Str → Option Value} {n : Str} {v : Value} (X : K.In h) (G : h.Ns N m) (e : PySem.W.nsIn K N n = some (some v)) : m n = some v := by
  obtain ⟨o, es, ep, ho, hd, _, hf⟩ := G
  unfold PySem.W.nsIn at e
  cases q : K.lookup N with
  | none => rw [q] at e; cases e
  | some o' =>
    have z := X _ _ q
    rw [ho] at z; cases z
    rw [q] at e
    obtain ⟨c, d, dt, sl⟩ := o
    cases hd
    rw [← hf]
    unfold nsFind findBy
    rw [← Array.find?_toList]
    dsimp only at e
    cases q2 : es.toList.find? (fun x => x.key.isStr n) with
    | some y =>
      rw [q2] at e
      exact congrArg (fun z : Option (Option Value) => z.getD none) e
    | none =>
      rw [q2] at e
      dsimp only at e
      split at e <;> cases e
theorem ExCl.cls {K : PySem.W.Frag} {C R fI : Addr} (c : ExCl K C R fI) {h : Heap} (X : K.In h) :
    ∃ (nm qn : Str) (N : Addr) (bs : List Value) (sn : List Str) (sub : List Value) (ab : Bool) (col : Option Bool) (dd : Option Addr) (k0 k1 k2 k3 k5 : Option Value) (mN : Str → Option Value) (oI : Obj),
      h.get? C = some (xcls nm qn C N bs (.ref R :: VB) true sn sub ab col dd k0 k1 k2 k3 k5) ∧ h.Ns N mN ∧ mN "__init__" = some (.ref fI) ∧ h.get? fI = some oI ∧ oI.cls = .type "function" := by
  obtain ⟨nm, qn, N, bs, sn, sub, ab, col, dd, k0, k1, k2, k3, k5, lk, nsok, nsi⟩ := c.obj
  have hN := Heap.Ns.of_isNs (PySem.W.isNs_of_in X nsok)
  have hf := c.fn
  unfold PySem.W.isFn PySem.W.typeIn at hf
  have hf' := beq_iff_eq.mp hf
  obtain ⟨oI, q, r⟩ := Option.map_eq_some_iff.mp hf'
  exact ⟨nm, qn, N, bs, sn, sub, ab, col, dd, k0, k1, k2, k3, k5, _, oI, X _ _ lk, hN, ns_some_of X hN nsi, X _ _ q, r⟩
section
variable {prog : Program} {w : World} {A : Around} {E : Value → Shared → Prop} {s : Shared} {K : PySem.W.Frag} {e C R fI : Addr} {oe : Obj} {vs : Array Value} {name : Str} {v : Value}
theorem inst_of {od : Option Obj} (he : s.heap.get? e = some oe) (oc : oe.cls = .ref C) (hd : oe.data = .fields vs) (hx : match oe.dict, od with | some dx, some o => s.heap.get? dx = some o | none, none => True | _, _ => False) : PySem.W.InstAt s.heap e oe C od :=
  ⟨he, oc, by unfold PySem.W.notCls; rw [hd], hx⟩
theorem ExCl.clsIn (c : ExCl K C R fI) : ∃ cd, PySem.W.clsIn K C = some cd ∧ cd.mro = .ref C :: .ref R :: VB ∧ cd.hasDict = true := by
  obtain ⟨nm, qn, N, bs, sn, sub, ab, col, dd, k0, k1, k2, k3, k5, lk, _⟩ := c.obj
  exact ⟨_, by unfold PySem.W.clsIn; rw [lk], rfl, rfl⟩
/-- the store itself is reached -/
theorem xset_open {od : Option Obj} {Q : Unit → Shared → Prop} (X : K.In s.heap) (c : ExCl K C R fI) (I : PySem.W.InstAt s.heap e oe C od) (hf : PySem.W.findIn K (.ref C) name = some none)
    (h : wpAny (model prog w) A.in1 (Builtin.ObjectAttr.storeInOwnDict (.ref e) (.ref C) (.str name s.toks) name v false)
      (fun fin s' => match fin with | .done (.ret _) => Q () s' | _ => False) (fun _ _ => False) { s with toks := s.toks + 1 }) :
    wpAny (model prog w) A (setAttr (.ref e) name v) Q E s := by
  have SF := PySem.F.store_ValueError
  obtain ⟨cd, hcd, hm, hh⟩ := c.clsIn
  refine PySem.W.set_plain X I c.sa ?_
  have mro : PySem.W.Looks (model prog w) s.heap (mroOf (.ref C)) (.ref C :: .ref R :: VB) := hm ▸ (PySem.W.looks_clsIn X hcd).andThen .now
  have isO : PySem.W.Looks (model prog w) s.heap (isInstance (.ref e) (.type "object")) true := I.type.andThen (PySem.W.looks_mroIn X (by
    unfold PySem.W.mroIn
    rw [hcd, Option.bind_some, hm, if_neg (by intro z; cases z)]
    rfl))
  refine codeAny_call_builtin SF.slot.plain SF.entry (@PySem.W.check_slot (model prog w) _ _ { s with toks := s.toks + 1 } "object.__setattr__" "object" "__setattr__" (.ref e) [.str name s.toks, v] [] _ SF.kind SF.split isO (SF.args (.ref e) (.str name s.toks) v) ?_)
  rw [PySem.W.osa_eq, refuse_eq]
  refine wpAny_bind (wpAny_bind (PySem.W.Looks.here (s := { s with toks := s.toks + 1 }) I.type (wpAny_bind (PySem.W.Looks.here (s := { s with toks := s.toks + 1 }) mro ?_))))
  rw [refuseLoop_ref, refuseLoop_ref, SF.passes]
  refine wpAny_pure (wpAny_bind (PySem.W.Looks.here (s := { s with toks := s.toks + 1 }) I.type (wpAny_bind (PySem.W.Looks.here (s := { s with toks := s.toks + 1 }) (PySem.W.looks_findIn X hf) (wpAny_bind (wpAny_pure ?_))))))
  refine wpAny_mono h (fun fin s' z => ?_) fun _ _ z => z.elim
  rcases fin with (_ | _ | _ | _) | _ <;> first | exact z | exact z.elim
/-- the first store: a dict is made -/
theorem xset_first {Q : Unit → Shared → Prop} (X : K.In s.heap) (c : ExCl K C R fI) (he : s.heap.get? e = some oe) (oc : oe.cls = .ref C) (hd : oe.data = .fields vs) (hx : oe.dict = none) (hf : PySem.W.findIn K (.ref C) name = some none)
    (h : ∀ h' dx tk, s.heap.objs.size ≤ dx → dx ≠ e → h'.get? e = some { oe with dict := some dx } → h'.Ns1 dx (fun y => if y = name then some v else none) → (∀ b o, b ≠ e → s.heap.get? b = some o → h'.get? b = some o) → Q () { s with heap := h', toks := tk }) :
    wpAny (model prog w) A (setAttr (.ref e) name v) Q E s := by
  obtain ⟨cd, hcd, hm, hh⟩ := c.clsIn
  refine xset_open X c (inst_of (od := none) he oc hd (by rw [hx]; trivial)) hf ?_
  obtain ⟨cc, dd, dt, sl⟩ := oe
  cases oc; cases hd; cases hx
  have ne : s.heap.objs.size ≠ e := Nat.ne_of_gt (Heap.lt_size he)
  unfold Builtin.ObjectAttr.storeInOwnDict Builtin.ObjectAttr.ownDictForStores instanceDict
  refine wpAny_bind (wpAny_pure ?_)
  refine wpAny_bind (wpAny_bind (wpAny_loadPart he (wpAny_bind (PySem.W.Looks.here (s := { s with toks := s.toks + 1 }) (PySem.W.looks_clsIn X hcd) ?_))))
  rw [hh]
  refine wpAny_bind (wpAny_alloc ?_)
  have he1 := Heap.get?_push_of_some ({ cls := .type "dict", data := .dict #[] } : Obj) he
  refine wpAny_bind (wpAny_update he1 ?_)
  refine wpAny_pure (a := some s.heap.objs.size) ?_
  have hg : ((s.heap.push ({ cls := .type "dict", data := .dict #[] } : Obj)).update e fun o => { o with dict := some s.heap.objs.size }).get? s.heap.objs.size = some ({ cls := .type "dict", data := .dict #[] } : Obj) := (Heap.get?_update_ne _ _ _ _ ne).trans (Heap.get?_push_at rfl rfl)
  have hE : ((s.heap.push ({ cls := .type "dict", data := .dict #[] } : Obj)).update e fun o => { o with dict := some s.heap.objs.size }).Ns s.heap.objs.size (fun _ => none) := ⟨_, #[], _, hg, rfl, fun y hy => absurd hy (by simp), fun _ => rfl⟩
  refine wpAny_bind (wpAny_pure (wpAny_bind (wpAny_nsSet1 (Heap.Ns1.of_empty hE) fun h' hn hs => ?_)))
  obtain ⟨oD, esD, epD, hoD, hdD, hcD⟩ := hn.count (PySem.Within.cons name v PySem.Within.nil)
  refine wpAny_bind (wpAny_lookBehind hoD (by rw [hdD]; exact pastItsLine_dict (Nat.le_trans hcD (by rw [List.length_cons, List.length_nil]; omega))) ?_)
  refine wpAny_pure (h h' s.heap.objs.size _ (Nat.le_refl _) ne ((hs.2 _ (Ne.symm ne)).trans (Heap.get?_update_self _ he1 rfl)) hn fun b o hb q => ?_)
  exact (hs.2 b (Nat.ne_of_lt (Heap.lt_size q))).trans ((Heap.get?_update_ne _ _ _ _ hb).trans (Heap.get?_push_of_some _ q))
/-- a later store -/
theorem xset_next {dx : Addr} {mA : Str → Option Value} {ns : List Str} {Q : Unit → Shared → Prop} (X : K.In s.heap) (c : ExCl K C R fI) (he : s.heap.get? e = some oe) (oc : oe.cls = .ref C) (hd : oe.data = .fields vs) (hx : oe.dict = some dx) (hN : s.heap.Ns1 dx mA) (hw : PySem.Within mA ns) (hz : ns.length ≤ sizeLine) (hf : PySem.W.findIn K (.ref C) name = some none)
    (h : ∀ h', h'.Ns1 dx (fun y => if y = name then some v else mA y) → Heap.SameBut dx s.heap h' → Q () { s with heap := h', toks := s.toks + 2 }) :
    wpAny (model prog w) A (setAttr (.ref e) name v) Q E s := by
  obtain ⟨cd, hcd, hm, hh⟩ := c.clsIn
  obtain ⟨o1, es1, ep1, ho1, _⟩ := id hN
  refine xset_open X c (inst_of (od := some o1) he oc hd (by rw [hx]; exact ho1)) hf ?_
  obtain ⟨cc, dd, dt, sl⟩ := oe
  cases oc; cases hd; cases hx
  unfold Builtin.ObjectAttr.storeInOwnDict Builtin.ObjectAttr.ownDictForStores instanceDict
  refine wpAny_bind (wpAny_pure ?_)
  refine wpAny_bind (wpAny_bind (wpAny_loadPart he (wpAny_bind (PySem.W.Looks.here (s := { s with toks := s.toks + 1 }) (PySem.W.looks_clsIn X hcd) ?_))))
  rw [hh]
  refine wpAny_pure (a := some dx) (wpAny_bind (wpAny_pure (wpAny_bind (wpAny_nsSet1 (s := { s with toks := s.toks + 1 }) hN fun h' hn hs => ?_))))
  obtain ⟨oD, esD, epD, hoD, hdD, hcD⟩ := hn.count (PySem.Within.cons name v hw)
  refine wpAny_bind (wpAny_lookBehind hoD (by rw [hdD]; exact pastItsLine_dict (Nat.le_trans hcD (by rw [List.length_cons]; omega))) ?_)
  exact wpAny_pure (h _ hn hs)
end
end L2

namespace L2
open PySem PyProof.Rows
section
variable {prog : Program} {w : World} {A : Around} {E : Value → Shared → Prop} {s : Shared} {K : PySem.W.Frag} {e C R fI : Addr} {oe : Obj} {vs : Array Value} {name : Str} {v : Value}
/-- an attribute of an exception is read -/
theorem xget {expr : Bool} {od : Option Obj} {Q : Value → Shared → Prop} (X : K.In s.heap) (c : ExCl K C R fI) (I : PySem.W.InstAt s.heap e oe C od) (hf : PySem.W.findObj K C od name = some (.value v)) (hh : PySem.W.handedIn v = true) (h : Q v { s with toks := s.toks + 1 }) :
    wpAny (model prog w) A (getAttr (.ref e) name expr) Q E s := by
  obtain ⟨cd, hcd, hm, _⟩ := c.clsIn
  have isB : PySem.W.Looks (model prog w) s.heap (isInstance (.ref e) (.type "BaseException")) true := I.type.andThen (PySem.W.looks_mroIn X (by
    unfold PySem.W.mroIn
    rw [hcd, Option.bind_some, hm, if_neg (by intro z; cases z)]
    rfl))
  have L0 := I.type (M := model prog w)
  have L1 := PySem.W.looks_findIn (M := model prog w) X c.ga
  have L2 := PySem.W.looks_findIn (M := model prog w) X c.gh
  have L3 := PySem.W.looks_find (M := model prog w) X I hf
  have hx0 : (expr && onTheHeap (Value.builtin "BaseException.__getattribute__")) = false := by cases expr <;> rfl
  obtain ⟨hp, g, d, t, os⟩ := s
  unfold getAttr getAttrBy
  refine wpAny_bind (wpAny_mkText (wpAny_holding (wpAny_bind (L0.at (wpAny_bind (L1.at ?_))))))
  show wpAny _ _ (getAttrByItsOwn _ _ _ _ _ _) _ _ _
  unfold getAttrByItsOwn
  refine wpAny_bind (show wpAny _ _ (typeLookup (.ref C) "__getattr__") _ _ _ from L2.at ?_)
  have FB := PySem.F.attr_ValueError.ga
  have hk : builtinKind "BaseException.__getattribute__" = some .slot := by decide +kernel
  have hs : splitId "BaseException.__getattribute__" = some ("BaseException", "__getattribute__") := by decide +kernel
  refine wpAny_bind (wpAny_attempt (wpAny_holding ?_))
  unfold callGetattribute
  rw [hx0, if_neg Bool.false_ne_true]
  unfold boundAndCalled
  rw [FB.bind]
  refine wpAny_bind (wpAny_pure (wpAny_call ?_))
  show codeAny _ _ (.call (.builtin "BaseException.__getattribute__") ⟨[.ref e, .str name t], []⟩) _ _
  refine codeAny_call_builtin FB.plain PySem.F.entry_bexc_ga ?_
  refine @PySem.W.check_slot (model prog w) _ _ _ "BaseException.__getattribute__" "BaseException" "__getattribute__" (.ref e) [.str name t] [] _ hk hs isB (PySem.F.args_bexc_ga _ _) ?_
  unfold Builtin.«object.__getattribute__» slotArgs
  refine wpAny_bind (wpAny_pure ?_)
  refine wpAny_bind (wpAny_pure ?_)
  refine wpAny_bind (L0.at ?_)
  refine wpAny_bind (L3.at ?_)
  refine wpAny_pure ?_
  show wpAny _ _ (handedOut v) _ _ _
  rw [PySem.W.handedOut_of hh]
  exact wpAny_pure h
end
end L2

/-! exceptions of one's own over the hand layer: the abstract heap bears them, they leave defs, they are raised -/
namespace L2
open PySem PySem.Spec PyProof.Rows
/-- an exception that was made and has not flown -/
def Ex0 (e C : Addr) (dx : Option Addr) : HO := .ext fun h => ∃ oe vs, h.get? e = some oe ∧ oe.cls = .ref C ∧ oe.dict = dx ∧ oe.data = .fields vs ∧ 1 < vs.size ∧ vs[1]? = some .none
/-- one that flies, or has flown -/
def ExF (e C : Addr) (dx : Option Addr) : HO := .ext fun h => ∃ oe vs, h.get? e = some oe ∧ oe.cls = .ref C ∧ oe.dict = dx ∧ oe.data = .fields vs
theorem Ex0.ok {P : Program} {w : World} {H : Hp} {h : Heap} {e C : Addr} {dx : Option Addr} {oe : Obj} {vs : Array Value} (he : h.get? e = some oe) (hc : oe.cls = .ref C) (hx : oe.dict = dx) (hd : oe.data = .fields vs) (h1 : 1 < vs.size) (hv : vs[1]? = some .none) : ObjOk P w H h e (Ex0 e C dx) :=
  ⟨⟨oe, vs, he, hc, hx, hd, h1, hv⟩, ⟨oe, he⟩, fun _ _ ⟨oe, vs, a, b⟩ k => ⟨oe, vs, k _ a, b⟩⟩
theorem ExF.ok {P : Program} {w : World} {H : Hp} {h : Heap} {e C : Addr} {dx : Option Addr} {oe : Obj} {vs : Array Value} (he : h.get? e = some oe) (hc : oe.cls = .ref C) (hx : oe.dict = dx) (hd : oe.data = .fields vs) : ObjOk P w H h e (ExF e C dx) :=
  ⟨⟨oe, vs, he, hc, hx, hd⟩, ⟨oe, he⟩, fun _ _ ⟨oe, vs, a, b⟩ k => ⟨oe, vs, k _ a, b⟩⟩
theorem Xc.ok {P : Program} {w : World} {H : Hp} {h : Heap} {e C : Addr} {dx : Option Addr} {T : Addr} {fl : Option Value} (x : Xc h e C dx T fl) : ObjOk P w H h e (ExF e C dx) := by
  obtain ⟨oe, vs, he, hc, hx, hd, _⟩ := x
  exact ExF.ok he hc hx hd
structure Fly (X : Cx) (pins : List (Addr × Obj)) (σ : St) (H : Hp) (s : Shared) (e C : Addr) (dx : Option Addr) (T : Addr) (fl : Option Value) : Prop where
  inv : Inv X pins σ H s
  at_ : H e = some (ExF e C dx)
  xc : Xc s.heap e C dx T fl
  ye : X.s₀.heap.objs.size ≤ e
  fp : T = e ∨ FpOk X pins H T
section
variable {X : Cx} {pins : List (Addr × Obj)} {σ : St} {H H' : Hp} {s s' : Shared} {e C : Addr} {dx : Option Addr} {T : Addr} {fl : Option Value}
theorem Fly.moved (f : Fly X pins σ H s e C dx T fl) {h' : Heap} {T' : Addr} {fl' : Option Value} (m : Mv (frs X.stack) e T s.heap h') (hT : T' = T ∨ s.heap.objs.size ≤ T') (x' : Xc h' e C dx T' fl') :
    Fly X pins σ H { s with heap := h' } e C dx T' fl' := by
  have I := f.inv
  have nT : ∀ b u, H b = some u → b ≠ e → b ≠ T := fun b u q ne z => by
    rcases f.fp with y | y
    · exact ne (z.trans y)
    · rw [z, y.1] at q; cases q
  have hok : HOk X.prog X.w H h' := fun b u q => by
    by_cases hb : b = e
    · subst hb; rw [f.at_] at q; cases q; exact x'.ok
    · refine (I.hok b u q).stay (fun c v hc z => ?_) (fun _ z => z) fun _ _ z => z
      have hc' : ∃ u', H c = some u' ∧ c ≠ e := by
        rcases hc with rfl | hc
        · exact ⟨u, q, hb⟩
        · exact ⟨_, hc, fun y => by rw [y, f.at_] at hc; cases hc⟩
      obtain ⟨u', qc, nc⟩ := hc'
      exact (m c v z nc (nT c u' qc nc)).1 fun y => by rw [I.stkFree c y] at qc; cases qc
  obtain ⟨oe, vs, he, _⟩ := id x'
  have un : Un (frs X.stack) [T] H H s.heap h' := by
    have nn : ∀ b, H b = none → b ≠ e := fun b n z => by rw [z, f.at_] at n; cases n
    refine ⟨fun b o q n hb hx => (m b o q (nn b n) (fun z => hx (by simp [z]))).1 hb, fun b o q n _ hx => (m b o q (nn b n) (fun z => hx (by simp [z]))).2, fun _ _ _ n _ => n, fun b o q hx => ?_, fun _ _ q => q, fun _ _ _ q => q, fun _ ps q => ⟨#[], by rw [q]; simp⟩⟩
    by_cases hb : b = e
    · exact ⟨oe, hb ▸ he⟩
    · obtain ⟨_, sl, z⟩ := m b o q hb (fun z => hx (by simp [z]))
      exact ⟨_, z⟩
  have hch : ∀ b ∈ [T], (b ∈ X.ex ∨ X.s₀.heap.objs.size ≤ b) ∧ b ≠ X.env.locals ∧ (∀ x c, X.env.cells.lookup x = some c → c ≠ b) ∧ ∀ p ∈ X.pn ++ pins, p.1 ≠ b := fun b hb => by
    obtain rfl : b = T := by simpa using hb
    rcases f.fp with y | y
    · subst y
      refine ⟨.inr f.ye, fun z => ?_, fun x c q z => ?_, fun p hp z => ?_⟩
      · have := I.free; rw [← z, f.at_] at this; cases this
      · have := I.freeC x c q; rw [z, f.at_] at this; cases this
      · have := (I.pin p hp).2.1; rw [z, f.at_] at this; cases this
    · exact ⟨y.2.2.2.1, y.2.1, y.2.2.2.2.1, y.2.2.2.2.2⟩
  refine ⟨I.call (g' := s.gens) (t' := s.toks) (d' := s.drawn) un hok I.bare hch, f.at_, x', f.ye, ?_⟩
  rcases hT with z | z
  · rw [z]; exact f.fp
  · exact .inr (I.fpOk z (I.hok.fresh z))
theorem Xc.neT {h : Heap} {v : Value} (x : Xc h e C dx T (some v)) : T ≠ e := by
  obtain ⟨oe, vs, _, _, _, _, _, ⟨z, _⟩ | ⟨_, _, _, _, n, _⟩⟩ := x
  · cases z
  · exact n

/-- how an exception lies behind a call -/
def CXE (P : Program) (w : World) : CXT := fun outer H s E ev s' => ∃ (e C : Addr) (dx : Option Addr) (T : Addr) (H' : Hp), ev = .ref e ∧ s'.os = s.os ∧ AllBare s'.gens ∧ Un (frs outer) [] H H' s.heap s'.heap ∧ HOk P w H' s'.heap ∧
  H' e = some (ExF e C dx) ∧ Xc s'.heap e C dx T (some .none) ∧ s.heap.objs.size ≤ e ∧ s.heap.objs.size ≤ T ∧ H' T = none ∧ E ev none H'
theorem Fly.of_call {E : XK} {ev : Value} (I : Inv X pins σ H s) (h : CXE X.prog X.w X.stack H s E ev s') : ∃ e C dx T H', ev = .ref e ∧ Fly X pins σ H' s' e C dx T (some .none) ∧ E ev none H' := by
  obtain ⟨e, C, dx, T, H', rfl, os, ba, un, hok, at_, xc, ye, yT, hT, hE⟩ := h
  have I' := I.call' (ch := []) os un hok ba (fun b hb => absurd hb (by simp))
  exact ⟨e, C, dx, T, H', rfl, ⟨I', at_, xc, Nat.le_trans I.sz ye, .inr (I.fpOk yT hT)⟩, hE⟩
end
/-! ### an exception leaves a def -/
section
variable {P : Program} {w : World} {K : PySem.W.Frag} {mg : Str → Option Value} {base : Heap} {N : List Str} {qual : Str} {scope : Scope} {f : Addr} {cd : Value} {A : Around} {outer : List Env} {s₀ : Shared} {H₀ : Hp} {E E' : XK}
theorem leave_cx {pins : List (Addr × Obj)} {σ : St} {H : Hp} {s : Shared} {e C : Addr} {dx : Option Addr} {T : Addr} {fl : Option Value} (y : Fly (cxOf (CXE P w) P w K mg base N qual scope f cd A outer s₀ H₀ E) pins σ H s e C dx T fl)
    (hf : fl = none ∨ fl = some .none ∨ fl = some (rawInt s₀.heap.objs.size)) (hE : E (.ref e) none H) : (cxOf (CXE P w) P w K mg base N qual scope f cd A outer s₀ H₀ E).xe (.ref e) s := by
  have I := y.inv
  refine leave_ok (base := base) (env := envOfC qual scope s₀.heap.objs.size f cd) (outer := outer) I.ok.frames rfl I.stack y.xc hf fun h' T' hT x' m => ?_
  have y' := y.moved m hT x'
  have I' := y'.inv
  rcases y'.fp with z | z
  · exact absurd z x'.neT
  refine ⟨e, C, dx, T', H, rfl, I'.os, I'.bare, I'.base, I'.hok, y.at_, x', y.ye, ?_, z.1, hE⟩
  rcases z.2.2.2.1 with q | q
  · exact absurd (show T' ∈ ([] : List Addr) from q) (by simp)
  · exact q
/-- what a callee throws, the def throws -/
theorem passE (hE : ∀ v d H', E' v d H' → E v d H') : Passes (CXE P w) (cxOf (CXE P w) P w K mg base N qual scope f cd A outer s₀ H₀ E) E' := by
  intro pins σ H s ev s' I h
  obtain ⟨e, C, dx, T, H', rfl, y, q⟩ := Fly.of_call (X := cxOf (CXE P w) P w K mg base N qual scope f cd A outer s₀ H₀ E) I h
  exact leave_cx y (.inr (.inl rfl)) (hE _ _ _ q)
theorem passX {P : Program} {w : World} {X : Cx} : Passes (CXE P w) X E0 := fun _ _ _ _ _ _ _ h => by
  obtain ⟨_, _, _, _, _, _, _, _, _, _, _, _, _, _, _, q⟩ := h
  exact q.elim
/-- what is wanted of an exception that is raised here -/
def Raises (X : Cx) (S : St → Prop) (E : XK) : Prop := ∀ (pins : List (Addr × Obj)) (σ : St) (H : Hp) (s : Shared) (e C : Addr) (dx : Option Addr), S σ → Inv X pins σ H s → H e = some (Ex0 e C dx) → X.s₀.heap.objs.size ≤ e → E (.ref e) none (upd H e (ExF e C dx)) → X.xe (.ref e) s
/-- an exception that was made flies -/
theorem Fly.start {X : Cx} {pins : List (Addr × Obj)} {σ : St} {H : Hp} {s : Shared} {e C : Addr} {dx : Option Addr} (I : Inv X pins σ H s) (he : H e = some (Ex0 e C dx)) (ye : X.s₀.heap.objs.size ≤ e) :
    Fly X pins σ (upd H e (ExF e C dx)) s e C dx e none := by
  obtain ⟨⟨oe, vs, q, hc, hx, hd, h1, hv⟩, _⟩ := I.hok e _ he
  have I' : Inv X pins σ (upd H e (ExF e C dx)) s := by
    have := I.write (x := e) (e := e) (o := ExF e C dx) (t' := s.toks) (h' := s.heap) (by rw [he]; exact True.intro) (.inl rfl) (fun _ _ _ z => z) ⟨_, q⟩ (ExF.ok q hc hx hd)
    exact this
  exact ⟨I', upd_same, ⟨oe, vs, q, hc, hx, hd, h1, .inl ⟨rfl, rfl, hv⟩⟩, ye, .inl rfl⟩
theorem raisesE : Raises (cxOf (CXE P w) P w K mg base N qual scope f cd A outer s₀ H₀ E) (fun _ => True) E := fun pins σ H s e C dx _ I he ye hE => leave_cx (Fly.start I he ye) (.inl rfl) hE
/-- loops pass it on -/
theorem ownE : PassesOwn (model P w) (A.deeper (envOfC qual scope s₀.heap.objs.size f cd)) (envOfC qual scope s₀.heap.objs.size f cd) (cxOf (CXE P w) P w K mg base N qual scope f cd A outer s₀ H₀ E).xe := PassesOwn.leaving
end
/-- THE RULE for a def from which an exception may leave -/
theorem Fun.okE {P : Program} {w : World} {K : PySem.W.Frag} {mg : Str → Option Value} {base : Heap} {x qual : Str} {st : Stmt} {f : Addr} {fd : FuncData} {N ps : List Str} {k : Nat} {sp : Sp} (F : Fun K x qual st f fd) (S : FnScope N ps (defScope st)) (len : ∀ vs H Q E, sp vs H Q E → vs.length = ps.length)
    (hbody : ∀ (cdv : Value) (A : Around) (outer : List Env) (s : Shared) (H : Hp) (vs : List V) (Q : VK) (E : XK), Room k (A.deeper (envOfC qual (defScope st) s.heap.objs.size f cdv)) → sp vs H Q E →
      ∃ t, PSs (cxOf (CXE P w) P w K mg base N qual (defScope st) f cdv A outer s H E) (defBody st) t ∧ t { nx := fun _ H' => Q .non H', rt := Q } (start N vs) H) : FnOk P w K mg base (CXE P w) (k + 1) f fd ps sp := by
  obtain ⟨oc, od, kV, doc, pm, an, cdv, ct, osl, rfl, lk, hcd⟩ := F.ex
  exact fn_of lk hcd S len fun A outer s H vs Q E hr hsp => hbody cdv A outer s H vs Q E hr hsp
end L2

/-! try with an exception of one's own: body, handler, the name unbound -/
namespace L2
open PySem PySem.Spec PyProof.Rows
/-! ### the same state in another context -/
theorem Cx.Ok.re {X : Cx} (ok : X.Ok) (pn : List (Addr × Obj)) (E : Value → Shared → Prop) : Cx.Ok { X with pn := pn, xe := E } :=
  ⟨ok.mod, ok.kind, ok.glob, ok.blt, ok.above, ok.inj, ok.has, ok.cab, ok.hd, ok.frames, ok.stk, ok.exf, ok.bs, ok.bsz, ok.noex, ok.exfs, ok.funs, ok.frf⟩
theorem Cx.Ok.back {X : Cx} {pn : List (Addr × Obj)} {E : Value → Shared → Prop} (ok : Cx.Ok { X with pn := pn, xe := E }) : X.Ok :=
  ⟨ok.mod, ok.kind, ok.glob, ok.blt, ok.above, ok.inj, ok.has, ok.cab, ok.hd, ok.frames, ok.stk, ok.exf, ok.bs, ok.bsz, ok.noex, ok.exfs, ok.funs, ok.frf⟩
section
variable {X : Cx} {pins : List (Addr × Obj)} {σ : St} {H : Hp} {s : Shared}
theorem Inv.re (I : Inv X pins σ H s) (pn pins' : List (Addr × Obj)) (E : Value → Shared → Prop) (h : ∀ p ∈ pn ++ pins', p ∈ X.pn ++ pins) : Inv { X with pn := pn, xe := E } pins' σ H s :=
  ⟨I.ok.re pn E, I.os, I.bare, I.base, I.loc, I.cell, I.free, I.freeC, fun p hp => I.pin p (h p hp), I.hok, I.len⟩
theorem Inv.back {pn : List (Addr × Obj)} {E : Value → Shared → Prop} {pins' : List (Addr × Obj)} (I : Inv { X with pn := pn, xe := E } pins' σ H s) (h : ∀ p ∈ X.pn ++ pins, p ∈ pn ++ pins') : Inv X pins σ H s :=
  ⟨I.ok.back, I.os, I.bare, I.base, I.loc, I.cell, I.free, I.freeC, fun p hp => I.pin p (h p hp), I.hok, I.len⟩
/-- the wish within a try: the exception flies, the names are as S tells -/
def XT (X : Cx) (pn : List (Addr × Obj)) (S : St → Prop) (W : XK) : Value → Shared → Prop := fun ev s => ∃ (e C : Addr) (dx : Option Addr) (T : Addr) (fl : Option Value) (σ : St) (H : Hp),
  ev = .ref e ∧ Fly { X with pn := pn, xe := fun _ _ => False } [] σ H s e C dx T fl ∧ (fl = none ∨ fl = some .none) ∧ S σ ∧ W ev none H
/-- the context of a try's body -/
abbrev XB (X : Cx) (pn : List (Addr × Obj)) (S : St → Prop) (W : XK) : Cx := { X with pn := pn, xe := XT X pn S W }
theorem Fly.re {pn : List (Addr × Obj)} {E E' : Value → Shared → Prop} {e C : Addr} {dx : Option Addr} {T : Addr} {fl : Option Value} (f : Fly { X with pn := pn, xe := E } pins σ H s e C dx T fl) : Fly { X with pn := pn, xe := E' } [] σ H s e C dx T fl := by
  refine ⟨?_, f.at_, f.xc, f.ye, ?_⟩
  · exact Inv.re (X := { X with pn := pn, xe := E }) f.inv pn [] E' (fun p hp => by
      rw [List.append_nil] at hp
      exact List.mem_append_left _ hp)
  · rcases f.fp with z | ⟨a1, a2, a3, a4, a5, a6⟩
    · exact .inl z
    · exact .inr ⟨a1, a2, a3, a4, a5, fun p hp => a6 p (by
        have hp' : p ∈ pn ++ [] := hp
        rw [List.append_nil] at hp'
        exact List.mem_append_left _ hp')⟩
/-- .. an exception of a callee, where the names are as S tells -/
def PassesS (CX : CXT) (X : Cx) (S : St → Prop) (E : XK) : Prop := ∀ (pins : List (Addr × Obj)) (σ : St) (H : Hp) (s : Shared) (e : Value) (s' : Shared), S σ → Inv X pins σ H s → CX X.stack H s E e s' → X.xe e s'
theorem passT {pn : List (Addr × Obj)} {S : St → Prop} {W : XK} : PassesS (CXE X.prog X.w) (XB X pn S W) S W := by
  intro pins σ H s ev s' hS I h
  obtain ⟨e, C, dx, T, H', rfl, y, q⟩ := Fly.of_call (X := XB X pn S W) I h
  exact ⟨e, C, dx, T, _, σ, H', rfl, y.re, .inr rfl, hS, q⟩
end
/-! ### calls within a try -/
section
variable {X : Cx} {CX : CXT} {k : Nat} {f C : Addr} {fd : FuncData} {ps : List Str} {sp : Sp} {dvs : List V} {ds : List Value} {E : XK} {S : St → Prop} {x m : Str} {p pos apos : Pos} {e o : Expr} {es : List Expr} {ta : TE} {t : TA}
theorem run_fnS {pins : List (Addr × Obj)} {σ : St} {H : Hp} {s : Shared} {Q : VK} {us : List Value} {vs : List V} (F : FnOk X.prog X.w X.K X.mg X.base CX k f fd ps sp) (hr : Room k X.A) (hb : Binds X.K fd ps ds) (hd : Vals dvs ds) (hx : PassesS CX X S E) (hS : S σ)
    (I : Inv X pins σ H s) (r : Vals vs us) (h : sp (vs ++ dvs) H Q E) : wpAny (model X.prog X.w) X.A (call (.ref f) us) (EP X pins σ Q) X.xe s := by
  have r2 : Vals (vs ++ dvs) (us ++ ds) := r.append hd
  have hl : (us ++ ds).length = ps.length := by rw [← r2.length]; exact F.len _ _ _ _ h
  refine wpAny_call (codeAny_mono (F.run X.A X.stack s H ⟨us, []⟩ (us ++ ds) (vs ++ dvs) Q E hr I.env0 (hb s us I.kIn hl) r2 h) fun r s' hq => ?_)
  cases r with
  | error e => exact hx pins σ H s e s' hS I hq
  | ok fl =>
    cases fl with
    | ret u => exact I.after hq
    | next => exact False.elim hq
    | brk => exact False.elim hq
    | cont => exact False.elim hq
def tCallS (S : St → Prop) (sp : Sp) (dvs : List V) (E : XK) (t : TA) : TE := fun σ H Q => t σ H fun vs H1 => S σ ∧ sp (vs ++ dvs) H1 Q E
def tMethS (S : St → Prop) (C : Addr) (m : Str) (sp : Sp) (dvs : List V) (E : XK) (ta : TE) (t : TA) : TE := fun σ H Q => ta σ H fun x H1 => ∃ a dx fs, x = .ref a ∧ H1 a = some (.ins C dx fs) ∧ fs.lookup m = none ∧
  t σ H1 fun vs H2 => S σ ∧ sp (x :: (vs ++ dvs)) H2 Q E
theorem pe_callS (F : FnOk X.prog X.w X.K X.mg X.base CX k f fd ps sp) (hr : Room k X.A) (hg : Gl X x) (hm : X.mg x = some (.ref f)) (hk : PySem.W.keepIn X.K (.ref f) = true) (hb : Binds X.K fd ps ds) (hd : Vals dvs ds) (hx : PassesS CX X S E)
    (ha : PA X (e :: es) t) (hdb : (x == ("__debug__" : Str)) = false := by decide) (he : starEach (e :: es) X.env = (false, eval e X.env) :: starEach es X.env := by rfl) (hpl : (backTo pos (starEach es X.env)).any (·.1) = false := by rfl) :
    PE X (.Call (.Name x p) (e :: es) [] pos) (tCallS S sp dvs E t) := by
  intro pins s σ H Q I h
  refine wpAny_Call_Name_kw (ld_glob I hg hm ?_ hdb)
  refine PySem.W.callWith_K (h₀ := X.base) I.ok.mod.kin hk (thn (ha pos pins s σ H _ I h) fun us s1 ⟨vs, H1, I1, r, hS, q⟩ => ⟨I1.kIn, ?_⟩) he hpl
  exact run_fnS F hr hb hd hx hS I1 r q
end
/-! ### the handler -/
/-- an exception class of the text, and its line behind it -/
structure XCls (K : PySem.W.Frag) (C : Addr) (bm : List Value) : Prop where
  obj : ∃ (nm q : Str) (N : Addr) (bs : List Value) (hd : Bool) (sn : List Str) (sub : List Value) (ab : Bool) (col : Option Bool) (dd : Option Addr) (k0 k1 k2 k3 k5 : Option Value) (ni : String), K.lookup C = some (excClassObj nm q C N bs bm hd sn sub ab col dd k0 k1 k2 k3 k5 ni)
  b : bm.contains (.type "BaseException") = true
/-- the context of a handler's suite -/
abbrev XH (X : Cx) (e : Addr) : Cx := { X with A := X.A.mark (some (.ref e)), calm := false, xe := fun _ _ => False }
section
variable {X : Cx} {pins : List (Addr × Obj)} {σ : St} {H : Hp} {s : Shared}
theorem Inv.toH (I : Inv X pins σ H s) (e : Addr) : Inv (XH X e) pins σ H s :=
  ⟨⟨I.ok.mod, I.ok.kind, I.ok.glob, I.ok.blt, I.ok.above, I.ok.inj, I.ok.has, I.ok.cab, (fun z => by cases z), I.ok.frames, I.ok.stk, I.ok.exf, I.ok.bs, I.ok.bsz, I.ok.noex, I.ok.exfs, I.ok.funs, I.ok.frf⟩, I.os, I.bare, I.base, I.loc, I.cell, I.free, I.freeC, I.pin, I.hok, I.len⟩
theorem Inv.ofH {e : Addr} (hd : X.calm = true → X.A.handled = none) (I : Inv (XH X e) pins σ H s) : Inv X pins σ H s :=
  ⟨⟨I.ok.mod, I.ok.kind, I.ok.glob, I.ok.blt, I.ok.above, I.ok.inj, I.ok.has, I.ok.cab, hd, I.ok.frames, I.ok.stk, I.ok.exf, I.ok.bs, I.ok.bsz, I.ok.noex, I.ok.exfs, I.ok.funs, I.ok.frf⟩, I.os, I.bare, I.base, I.loc, I.cell, I.free, I.freeC, I.pin, I.hok, I.len⟩
/-- a local name is unbound -/
theorem Inv.unbound {h' : Heap} {m : Str → Option Value} {u : Option Value} {i : Nat} {n : Str} (I : Inv X pins σ H s) (hN : X.N.Nodup) (hi : X.N[i]? = some n) (hn : s.heap.Ns X.env.locals m)
    (hm : ∀ (j : Nat) (x : Str) (v : V), X.N[j]? = some x → σ[j]? = some (some v) → Vis X.env.scope x → ∃ u, RelV v u ∧ Look X.env s.heap m x u)
    (hn' : h'.Ns X.env.locals (fun x => if x = n then u else m x)) (sb : Heap.SameBut X.env.locals s.heap h') : Inv X pins (σ.set i none) H { s with heap := h' } := by
  have kp : ∀ b o, b ≠ X.env.locals → s.heap.get? b = some o → h'.get? b = some o := fun b o nb q => (sb.2 b nb).trans q
  have neL : ∀ b o, X.s₀.heap.get? b = some o → b ≠ X.env.locals := fun b o e => Nat.ne_of_lt (Nat.lt_of_lt_of_le (Heap.lt_size e) I.ok.above)
  have B := I.base
  refine ⟨I.ok, I.os, I.bare, ⟨fun b o q n1 hb hx => kp b o (neL b o q) (B.keep b o q n1 hb hx), fun b o q n1 hb hx => ?_, B.free, fun b o q hx => ?_, B.tups, B.frzs, B.tbls⟩, ⟨_, hn', fun j x v e1 e2 e3 => ?_⟩, fun x c e => ?_, I.free, I.freeC, fun p hp => ?_, ?_, ?_⟩
  · obtain ⟨sl, z⟩ := B.slot b o q n1 hb hx
    exact ⟨sl, kp b _ (neL b o q) z⟩
  · obtain ⟨o', z⟩ := B.there b o q hx
    exact ⟨o', kp b _ (neL b o q) z⟩
  · have hj : j ≠ i := fun z => by
      subst z
      rw [List.getElem?_set_self' ] at e2
      cases hz : σ[j]? with
      | none => rw [hz] at e2; cases e2
      | some _ => rw [hz] at e2; cases e2
    rw [List.getElem?_set_ne (Ne.symm hj)] at e2
    obtain ⟨u', ru, l⟩ := hm j x v e1 e2 e3
    have xn : x ≠ n := fun z => hj (nodup_ix hN e1 (z ▸ hi))
    refine ⟨u', ru, ?_⟩
    rcases l with ⟨k1, k2⟩ | ⟨k1, c, k2, o, ho, hd⟩
    · exact .inl ⟨k1, by show (if x = n then u else m x) = some u'; rw [if_neg xn]; exact k2⟩
    · exact .inr ⟨k1, c, k2, o, kp c o (I.cne x c k2) ho, hd⟩
  · obtain ⟨v, o, ho, hd⟩ := I.cell x c e
    exact ⟨v, o, kp c o (I.cne x c e) ho, hd⟩
  · obtain ⟨a1, a2, a3, a4, a5⟩ := I.pin p hp
    exact ⟨kp _ _ a3 a1, a2, a3, a4, a5⟩
  · intro b o q
    refine (I.hok b o q).stay (fun c v hc z => kp c v ?_ z) (fun _ z => z) fun _ _ z => z
    rintro rfl
    rcases hc with z | z
    · rw [← z, I.free] at q; cases q
    · rw [I.free] at z; cases z
  · rw [List.length_set]; exact I.len
/-- the except clause is reached with an exception that flies -/
def tTry (tb : (St → Prop) → XK → TS) (K : PySem.W.Frag) (Cn : Addr) (i : Nat) (ts : TS) : TS := fun D σ H => ∃ (S : St → Prop) (W : XK), tb S W D σ H ∧
  ∀ (σ' : St) (e : Addr) (H' : Hp), S σ' → W (.ref e) none H' → ∃ C dx bm, H' e = some (ExF e C dx) ∧ XCls K C bm ∧ (Value.ref C :: bm).contains (.ref Cn) = true ∧
    ts { nx := fun σ2 H2 => D.nx (σ2.set i none) H2, rt := D.rt, bk := fun σ2 H2 => D.bk (σ2.set i none) H2, ct := fun σ2 H2 => D.ct (σ2.set i none) H2 } (σ'.set i (some (.ref e))) H'
theorem ps_try {body : List Stmt} {b0 : Stmt} {suite : List Stmt} {rest : List ExceptHandler} {cn n : Str} {Cn : Addr} {i : Nat} {tb : (St → Prop) → XK → TS} {ts : TS} {p hp pos : Pos} (hcalm : X.calm = true) (hst : X.stack = X.env :: X.outer) (hfr : X.env.frame = some X.env.locals)
    (hg : Gl X cn) (hm : X.mg cn = some (.ref Cn)) {bmn : List Value} (hcl : XCls X.K Cn bmn)
    (hN : X.N.Nodup) (hi : X.N[i]? = some n) (hn : X.env.scope.names.lookup n = some .local)
    (hb : ∀ pn S W, PSs (XB X pn S W) body (tb S W)) (hs : ∀ e, PSs (XH X e) (b0 :: suite) ts) (hdb : (cn == ("__debug__" : Str)) = false := by decide) :
    PS X (.Try body (.ExceptHandler (some (.Name cn p)) (some n) (b0 :: suite) hp :: rest) [] [] pos) (tTry tb X.K Cn i ts) := by
  intro pins s σ H D I h
  obtain ⟨S, W, hbody, hh⟩ := h
  refine wpAny_Try_except (wpAny_mono (hb (X.pn ++ pins) S W [] s σ H D (I.re (X.pn ++ pins) [] _ (fun q hq => by rwa [List.append_nil] at hq)) hbody) (fun f s1 hf => ?_) fun ev s1 hx => ?_)
  · have bk : ∀ {σ' : St} {H' : Hp}, Inv (XB X (X.pn ++ pins) S W) [] σ' H' s1 → Inv X pins σ' H' s1 := fun {σ' H'} J => J.back (fun q hq => by rw [List.append_nil]; exact hq)
    cases f with
    | next =>
      obtain ⟨σ', H', J, q⟩ := hf
      exact wpAny_execs_nil ⟨σ', H', bk J, q⟩
    | brk => obtain ⟨σ', H', J, q⟩ := hf; exact ⟨σ', H', bk J, q⟩
    | cont => obtain ⟨σ', H', J, q⟩ := hf; exact ⟨σ', H', bk J, q⟩
    | ret u => obtain ⟨v, σ', H', J, r, q⟩ := hf; exact ⟨v, σ', H', bk J, r, q⟩
  · obtain ⟨e, C, dx, T, fl, σ', H', rfl, y, hfl, hS, hW⟩ := hx
    have hA : X.A.frames = some (X.env :: X.outer) := hst ▸ I.ok.frames
    have ff : s1.heap.FunFrames X.base (X.env :: X.outer) := hst ▸ y.inv.stack
    refine note_ok hA hfr ff y.xc (hfl.imp id .inl) fun h1 T1 q1 x1 m1 => ?_
    have y1 := y.moved (by show Mv (frs X.stack) _ _ _ _; rw [hst]; exact m1) q1 x1
    refine flight_ok x1 fun h2 x2 m2 => ?_
    have y2 := y1.moved (h' := h2) (fun b o q ne nT => ⟨fun _ => (m2 b o q ne nT).1 (by simp), (m2 b o q ne nT).2⟩) (.inl rfl) x2
    obtain ⟨C', dx', bm, hat, hxc, hmro, hsu⟩ := hh σ' e H' hS hW
    have eqs : C' = C ∧ dx' = dx := by
      have z := y.at_.symm.trans hat
      obtain ⟨⟨oe, vs, a1, a2, a3, _⟩, _⟩ := y.inv.hok e _ y.at_
      obtain ⟨⟨oe', vs', b1, b2, b3, _⟩, _⟩ := y.inv.hok e _ hat
      rw [a1] at b1
      cases b1
      exact ⟨by rw [a2] at b2; exact (Value.ref.inj b2).symm, b3.symm.trans a3⟩
    obtain ⟨rfl, rfl⟩ := eqs
    have I2 : Inv X pins σ' H' { s1 with heap := h2 } := y2.inv.back (fun q hq => by rw [List.append_nil]; exact hq)
    refine wpAny_handleBy_cons (codeAny_handlers_test ?_) (by intro z; cases z)
    refine ld_glob (X := XH X e) (I2.toH e) hg hm ?_ hdb
    obtain ⟨oe, vs, he, oc, _⟩ := id x2
    have match_ : ∀ {Q : Bool → Shared → Prop} {E : Value → Shared → Prop}, Q true { s1 with heap := h2 } → wpAny (model X.prog X.w) (X.A.mark (some (.ref e))) (excMatches (.ref e) (.ref Cn)) Q E { s1 with heap := h2 } := fun {Q E} q => by
      obtain ⟨nm1, q1, N1, bs1, hd1, sn1, su1, ab1, co1, dd1, j0, j1, j2, j3, j5, ni1, lk1⟩ := hxc.obj
      obtain ⟨nm2, q2, N2, bs2, hd2, sn2, su2, ab2, co2, dd2, l0, l1, l2, l3, l5, ni2, lk2⟩ := hcl.obj
      exact xmatch (I2.kIn _ _ lk1) (I2.kIn _ _ lk2) hcl.b he oc hmro q
    refine match_ ?_
    refine codeAny_handlers_suite_as ?_
    refine flight_ok x2 fun h3 x3 m3 => ?_
    have y3 := y2.moved (h' := h3) (fun b o q ne nT => ⟨fun _ => (m3 b o q ne nT).1 (by simp), (m3 b o q ne nT).2⟩) (.inl rfl) x3
    have I3 : Inv X pins σ' H' { s1 with heap := h3 } := y3.inv.back (fun q hq => by rw [List.append_nil]; exact hq)
    refine store_ok2 (X := XH X e) (I3.toH e) hN hi (.inl hn) (v := .ref e) rfl (fun s4 I4 _ => ?_) (.inr hn)
    refine wpAny_mono (hs e pins s4 _ H' _ I4 hsu) (fun fl5 s5 hf => ?_) fun _ _ z => z.elim
    have fin : ∀ {σ5 : St} {H5 : Hp} {P5 : Shared → Prop}, Inv (XH X e) pins σ5 H5 s5 → (∀ s6, Inv X pins (σ5.set i none) H5 s6 → P5 s6) →
        wpAny (model X.prog X.w) X.A (do bindName X.env n .none; unbindBehindTheSuite X.env n hp) (fun _ s6 => P5 s6) X.xe s5 := fun {σ5 H5 P5} J q => by
      have J' : Inv X pins σ5 H5 s5 := J.ofH I.ok.hd
      refine wpAny_bind (wpAny_bindName (store_ok2 (X := X) J' hN hi (.inl hn) (v := .non) rfl (fun s6 J6 _ => ?_) (.inr hn)))
      obtain ⟨m, hm6, hl6⟩ := id J6.loc
      have hv : ∃ v, m n = some v := by
        have hiσ : i < σ5.length := by rw [J'.len]; exact (List.getElem?_eq_some_iff.mp hi).1
        obtain ⟨u, _, l⟩ := hl6 i n .non hi (by rw [List.getElem?_set_self hiσ]) (.inl hn)
        rcases l with ⟨_, z⟩ | ⟨z, _⟩
        · exact ⟨u, z⟩
        · have hn' : X.env.kindOf n = some .local := hn
          rcases z with z | z <;> (rw [hn'] at z; cases z)
      obtain ⟨v, hv⟩ := hv
      unfold unbindBehindTheSuite
      refine wpAny_onRaise (wpAny_unbindName_local hn hm6 hv (by rw [J'.ok.kind]; rfl) fun h7 u7 hn7 sb7 => ?_)
      have := J6.unbound hN hi hm6 hl6 hn7 sb7
      rw [List.set_set] at this
      exact q _ this
    cases fl5 with
    | next => obtain ⟨σ5, H5, J, q⟩ := hf; exact fin J fun s6 J6 => ⟨_, H5, J6, q⟩
    | brk => obtain ⟨σ5, H5, J, q⟩ := hf; exact fin J fun s6 J6 => ⟨_, H5, J6, q⟩
    | cont => obtain ⟨σ5, H5, J, q⟩ := hf; exact fin J fun s6 J6 => ⟨_, H5, J6, q⟩
    | ret u => obtain ⟨v, σ5, H5, J, r, q⟩ := hf; exact fin J fun s6 J6 => ⟨v, _, H5, J6, r, q⟩
end
end L2

/-! exceptions of one's own: made, their attributes, raised -/
namespace L2
open PySem PySem.Spec PyProof.Rows
/-- the dict of an exception -/
def XD (dx : Addr) (fs : List (Str × V)) : HO := .ext fun h => ∃ mA, h.Ns1 dx mA ∧ (∀ f, RelO (fs.lookup f) (mA f)) ∧ PySem.Within mA (fs.map (·.1))
theorem XD.ok {P : Program} {w : World} {H : Hp} {h : Heap} {dx : Addr} {fs : List (Str × V)} (a : ∃ mA, h.Ns1 dx mA ∧ (∀ f, RelO (fs.lookup f) (mA f)) ∧ PySem.Within mA (fs.map (·.1))) : ObjOk P w H h dx (XD dx fs) := by
  obtain ⟨mA, ⟨o, es, ep, ho, z⟩, r⟩ := id a
  exact ⟨a, ⟨o, ho⟩, fun h1 h2 ⟨mA, ⟨o, es, ep, ho, z⟩, r⟩ k => ⟨mA, ⟨o, es, ep, k _ ho, z⟩, r⟩⟩
theorem upd_id {H : Hp} {a : Addr} {o : HO} (e : H a = some o) : upd H a o = H := by
  funext b
  unfold upd
  split
  · rename_i q; rw [q, e]
  · rfl
section
variable {X : Cx} {pins : List (Addr × Obj)} {σ : St} {H : Hp} {s : Shared} {e C R fI dx : Addr}
/-- the first attribute comes -/
theorem Inv.xfirst {h' : Heap} {t' : Nat} {oe : Obj} {vs : Array Value} {fs : List (Str × V)} (I : Inv X pins σ H s) (he : H e = some (Ex0 e C none)) (hx : s.heap.objs.size ≤ dx) (ne : dx ≠ e) (g : h'.get? e = some oe) (oc : oe.cls = .ref C) (od : oe.dict = some dx) (hd : oe.data = .fields vs) (h1 : 1 < vs.size) (hv : vs[1]? = some .none)
    (hn : ∃ mA, h'.Ns1 dx mA ∧ (∀ f, RelO (fs.lookup f) (mA f)) ∧ PySem.Within mA (fs.map (·.1))) (k : ∀ b o, b ≠ e → s.heap.get? b = some o → h'.get? b = some o) :
    Inv X pins σ (upd (upd H dx (XD dx fs)) e (Ex0 e C (some dx))) { s with heap := h', toks := t' } := by
  have nx : H dx = none := I.hok.fresh hx
  have eqs : ∀ b u, H b = some u → b ≠ e → upd (upd H dx (XD dx fs)) e (Ex0 e C (some dx)) b = some u := fun b u q nb => by
    rw [upd_ne nb, upd_ne (ne_of_none q nx)]; exact q
  refine I.un ⟨fun b o q n _ _ => k b o (ne_of_none he n).symm q, fun b o q n _ _ => ⟨o.slots, k b o (ne_of_none he n).symm q⟩, fun b o q n _ => ?_, fun b o q _ => ?_, fun b xs q => ?_, fun b o u q => ?_, fun b ps q => ⟨#[], ?_⟩⟩ fun b u q => ?_
  · rw [upd_ne (ne_of_none he n).symm, upd_ne (Nat.ne_of_lt (Nat.lt_of_lt_of_le (Heap.lt_size q) hx))]; exact n
  · by_cases hb : b = e
    · exact ⟨oe, hb ▸ g⟩
    · exact ⟨o, k b o hb q⟩
  · exact eqs b _ q fun z => by rw [z, he] at q; cases q
  · exact eqs b _ q fun z => by rw [z, he] at q; cases q
  · rw [eqs b _ q fun z => by rw [z, he] at q; cases q]; simp
  · by_cases hb : b = e
    · subst hb; rw [upd_same] at q; cases q; exact Ex0.ok g oc od hd h1 hv
    · rw [upd_ne hb] at q
      by_cases hb2 : b = dx
      · subst hb2; rw [upd_same] at q; cases q; exact XD.ok hn
      · rw [upd_ne hb2] at q
        refine (I.hok b u q).stay (fun c v hc z => k c v ?_ z) (fun c z => eqs c _ z fun y => by rw [y, he] at z; cases z) fun c xs z => eqs c _ z fun y => by rw [y, he] at z; cases z
        rcases hc with y | y
        · rw [y]; exact hb
        · intro z; rw [z, he] at y; cases y
/-- self.f = value, in the __init__ of an exception -/
def sXfld (K : PySem.W.Frag) (ta tv : TE) (f : Str) : TS := fun D σ H => tv σ H fun y H1 => ta σ H1 fun x H2 => ∃ e C R fI, x = .ref e ∧ ExCl K C R fI ∧ PySem.W.findIn K (.ref C) f = some none ∧
  ((H2 e = some (Ex0 e C none) ∧ ∀ dx, H2 dx = none → D.nx σ (upd (upd H2 dx (XD dx [(f, y)])) e (Ex0 e C (some dx)))) ∨
   ∃ dx fs, H2 e = some (Ex0 e C (some dx)) ∧ H2 dx = some (XD dx fs) ∧ fs.length < 1000 ∧ D.nx σ (upd H2 dx (XD dx (putF f y fs))))
theorem xstore {y : V} {u : Value} {f : Str} {A : Around} {E : Value → Shared → Prop} {Q : Unit → Shared → Prop} (I : Inv X pins σ H s) (c : ExCl X.K C R fI) (hf : PySem.W.findIn X.K (.ref C) f = some none) (ry : RelV y u) {N : Hp → Prop}
    (h : (H e = some (Ex0 e C none) ∧ ∀ dx, H dx = none → N (upd (upd H dx (XD dx [(f, y)])) e (Ex0 e C (some dx)))) ∨ ∃ dx fs, H e = some (Ex0 e C (some dx)) ∧ H dx = some (XD dx fs) ∧ fs.length < 1000 ∧ N (upd H dx (XD dx (putF f y fs))))
    (q : ∀ s' H', Inv X pins σ H' s' → N H' → Q () s') : wpAny (model X.prog X.w) A (setAttr (.ref e) f u) Q E s := by
  rcases h with ⟨he, hN⟩ | ⟨dx, fs, he, hd, hl, hN⟩
  · obtain ⟨⟨oe, vs, g, oc, ox, od, h1, hv⟩, _⟩ := I.hok e _ he
    refine xset_first I.kIn c g oc od ox hf fun h' dx tk hx ne g' hn k => ?_
    refine q _ _ (I.xfirst he hx ne g' oc rfl od h1 hv ⟨_, hn, fun z => ?_, fun z hz => ?_⟩ k) (hN dx (I.hok.fresh hx))
    · show RelO (List.lookup z [(f, y)]) (if z = f then some u else none)
      by_cases hz : z = f
      · rw [if_pos hz, hz]; simp only [List.lookup, beq_self_eq_true]; exact ry
      · have hb : (z == f) = false := beq_eq_false_iff_ne.mpr hz
        rw [if_neg hz]; simp only [List.lookup, hb]; exact True.intro
    · by_cases hz' : z = f
      · rw [hz']; exact List.mem_singleton.mpr rfl
      · exact absurd (if_neg hz') hz
  · obtain ⟨⟨oe, vs, g, oc, ox, od, h1, hv⟩, _⟩ := I.hok e _ he
    obtain ⟨⟨mA, hn, r, wi⟩, _⟩ := I.hok dx _ hd
    refine xset_next I.kIn c g oc od ox hn wi (by rw [List.length_map, sizeLine_eq]; omega) hf fun h' hn' sb => ?_
    have ho : ∃ o, h'.get? dx = some o := let ⟨o, _, _, e', _⟩ := hn'; ⟨o, e'⟩
    refine q _ _ (I.write (x := dx) (e := dx) (o := XD dx (putF f y fs)) (by rw [hd]; exact True.intro) (.inl rfl) (fun b o hb z => (sb.2 b hb).trans z) ho (XD.ok ⟨_, hn', fun z => ?_, fun z hz => ?_⟩)) hN
    · show RelO ((putF f y fs).lookup z) (if z = f then some u else mA z)
      rw [lookup_putF]
      by_cases q : z = f
      · rw [if_pos q, if_pos q]; exact ry
      · rw [if_neg q, if_neg q]; exact r z
    · by_cases q : z = f
      · rw [q]; exact (keys_putF f y fs).1
      · refine (keys_putF f y fs).2 z (wi z fun y' => hz ?_)
        show (if z = f then some u else mA z) = none
        rw [if_neg q]; exact y'
theorem ps_xfld {o value : Expr} {f : Str} {pos pos' : Pos} {ta tv : TE} (ha : PE X o ta) (hv : PE X value tv) (hs : swapsWith value (some (.Attribute o f pos')) pos.line X.env = pure false := by rfl) : PS X (.Assign [.Attribute o f pos'] value pos) (sXfld X.K ta tv f) := by
  intro pins s σ H D I h
  refine plainObj_wpAny_Assign_Attribute (thn (hv pins s σ H _ I h) fun u s1 ⟨y, H1, I1, ry, h1⟩ => thn (ha pins s1 σ H1 _ I1 h1) fun ov s2 ⟨x, H2, I2, rx, e, C, R, fI, ex, c, hf, h2⟩ => ?_) hs
  subst ex
  obtain rfl : ov = Value.ref e := rx
  exact xstore I2 c hf ry h2 fun s' H' I' q => ⟨σ, H', I', q⟩
/-- e.f of an exception -/
def tXfld (K : PySem.W.Frag) (ta : TE) (f : Str) : TE := fun σ H Q => ta σ H fun x H1 => ∃ e C R fI dx fs v, x = .ref e ∧ (H1 e = some (ExF e C (some dx)) ∨ H1 e = some (Ex0 e C (some dx))) ∧ H1 dx = some (XD dx fs) ∧ ExCl K C R fI ∧ PySem.W.findIn K (.ref C) f = some none ∧ fs.lookup f = some v ∧ Q v H1
theorem pe_xfld {o : Expr} {f : Str} {pos : Pos} {ta : TE} (he : PE X o ta) (hb : attributeBase o f X.env (eval o X.env) = eval o X.env) : PE X (.Attribute o f pos) (tXfld X.K ta f) := by
  intro pins s σ H Q I h
  refine attr_of hb (thn (he pins s σ H _ I h) fun u s1 ⟨x, H1, I1, rx, e, C, R, fI, dx, fs, v, ex, ea, ed, c, hf, l, q⟩ => ?_)
  subst ex
  obtain rfl : u = Value.ref e := rx
  obtain ⟨⟨mA, hn, r, wi⟩, _⟩ := I1.hok dx _ ed
  obtain ⟨u', hu, ru⟩ := RelO.some_of (v := v) (o := mA f) (by rw [← l]; exact r f)
  obtain ⟨oe, vs, g, oc, ox, od⟩ : ∃ oe vs, s1.heap.get? e = some oe ∧ oe.cls = .ref C ∧ oe.dict = some dx ∧ oe.data = .fields vs := by
    rcases ea with ea | ea
    · obtain ⟨⟨oe, vs, g, oc, ox, od⟩, _⟩ := I1.hok e _ ea; exact ⟨oe, vs, g, oc, ox, od⟩
    · obtain ⟨⟨oe, vs, g, oc, ox, od, _⟩, _⟩ := I1.hok e _ ea; exact ⟨oe, vs, g, oc, ox, od⟩
  obtain ⟨o1, ho, hl⟩ := lookIn_ns hn
  obtain ⟨cd, hcd, hm, hh⟩ := c.clsIn
  have hh' : PySem.W.hasDictIn X.K C = true := by unfold PySem.W.hasDictIn; rw [hcd]; exact hh
  exact xget I1.kIn c (inst_of (od := some o1) g oc od (by rw [ox]; exact ho)) (PySem.W.findObj_own hh' hf rfl (by rw [hl, hu])) (handed_of ru) ⟨v, H1, I1.tok _, ru, q⟩
end
/-! ### the __init__ of the classes above -/
structure CInit (K : PySem.W.Frag) (B f : Addr) : Prop where
  r : PySem.W.readsIn K B (.type "type") = true
  fd : PySem.W.findCls K (.ref B) (.type "type") "__init__" = some (.val (.ref f))
  g : PySem.W.specialIn K (.ref B) "__getattribute__" = some (some (.builtin "type.__getattribute__"))
  k : PySem.W.keepIn K (.ref f) = true
structure VInit (K : PySem.W.Frag) : Prop where
  ga : PySem.W.findIn K (.type "type") "__getattribute__" = some (some (.builtin "type.__getattribute__"))
  sub : PySem.W.subIn K (.type "type") (.type "type") = some true
  f : PySem.W.findCls K (.type "ValueError") (.type "type") "__init__" = some (.val (.builtin "ValueError.__init__"))
theorem tov_VE : typeOf (.type "ValueError") = pure (.type "type") := by kernel_rfl
theorem oca_VE : opaqueClassAbove (.type "ValueError") = pure none := by kernel_rfl
theorem hkb_type : hookBefore (.type "type") = pure none := by kernel_rfl
theorem tga_type : typeLookup (.type "type") "__getattribute__" = pure (some (.builtin "type.__getattribute__")) := by rw [typeLookup_type, builtinLookup_eq_fast]; kernel_rfl
theorem spv_VE : specialOf (.type "ValueError") "__getattribute__" = pure (some (.builtin "type.__getattribute__")) := by
  unfold specialOf
  rw [tov_VE]
  show typeLookup (.type "type") "__getattribute__" = _
  exact tga_type
section
variable {X : Cx} {CX : CXT} {k : Nat} {f B C R : Addr} {fd : FuncData} {ps : List Str} {sp : Sp} {dvs : List V} {ds : List Value} {E : XK} {x : Str} {p pos apos : Pos} {e o : Expr} {es : List Expr} {t : TA}
theorem pe_cinit {pl : Sem Bool} (c : CInit X.K B f) (ho : PE X o (tC (.ref B))) (F : FnOk X.prog X.w X.K X.mg X.base CX k f fd ps sp) (hr : Room k X.A) (hb : Binds X.K fd ps ds) (hd : Vals dvs ds) (hx : Passes CX X E) (ha : PA X (e :: es) t)
    (hst : starEach (e :: es) X.env = (false, eval e X.env) :: starEach es X.env := by rfl) (hpl : (backTo pos (starEach es X.env)).any (·.1) = false := by rfl)
    (ht : eval (.Call (.Attribute o "__init__" apos) (e :: es) [] pos) X.env = (do
      let ov ← eval o X.env
      standAt apos.atName
      let (f, first) ← holding [ov] (getMethod ov "__init__" pl)
      callWith pos f first (backTo pos (starEach (e :: es) X.env)) (backToKw pos (keywordEach [] X.env))) := by rfl) :
    PE X (.Call (.Attribute o "__init__" apos) (e :: es) [] pos) (tCall sp dvs E t) := by
  intro pins s σ H Q I h
  refine PySem.W.methodCall_KW (pl := pl) (thn (ho pins s σ H (fun v H1 => v = .ref B ∧ tCall sp dvs E t σ H1 Q) I ⟨rfl, h⟩) fun u s1 ⟨x, H1, I1, rx, ex, q⟩ => ?_) ht
  subst ex
  obtain rfl : u = Value.ref B := rx
  refine PySem.W.method_cls I1.kIn c.g (PySem.W.cls_value I1.kIn c.r c.fd rfl ?_)
  refine PySem.W.callWith_K (first := []) (h₀ := X.base) I.ok.mod.kin c.k (thn (ha pos pins _ σ H1 _ (I1.tok _) q) fun us s2 ⟨vs, H2, I2, r, q2⟩ => ⟨I2.kIn, ?_⟩) hst hpl
  exact run_fn F hr hb hd hx I2 r q2
/-- ValueError.__init__(self, words) -/
def tVinit (K : PySem.W.Frag) (t : TA) : TE := fun σ H Q => t σ H fun vs H1 => ∃ e v C R fI dx, vs = [.ref e, v] ∧ H1 e = some (Ex0 e C dx) ∧ ExCl K C R fI ∧ Q .non H1
theorem pe_vinit {pl : Sem Bool} (c : VInit X.K) (ho : PE X o (tC (.ty "ValueError"))) (ha : PA X (e :: es) t)
    (hst : starEach (e :: es) X.env = (false, eval e X.env) :: starEach es X.env := by rfl) (hpl : (backTo pos (starEach es X.env)).any (·.1) = false := by rfl)
    (ht : eval (.Call (.Attribute o "__init__" apos) (e :: es) [] pos) X.env = (do
      let ov ← eval o X.env
      standAt apos.atName
      let (f, first) ← holding [ov] (getMethod ov "__init__" pl)
      callWith pos f first (backTo pos (starEach (e :: es) X.env)) (backToKw pos (keywordEach [] X.env))) := by rfl) :
    PE X (.Call (.Attribute o "__init__" apos) (e :: es) [] pos) (tVinit X.K t) := by
  intro pins s σ H Q I h
  refine PySem.W.methodCall_KW (pl := pl) (thn (ho pins s σ H (fun v H1 => v = .ty "ValueError" ∧ tVinit X.K t σ H1 Q) I ⟨rfl, h⟩) fun u s1 ⟨x, H1, I1, rx, ex, q⟩ => ?_) ht
  subst ex
  obtain rfl : u = Value.type "ValueError" := rx
  have key : ∀ {Q' : Value × List Value → Shared → Prop}, Q' (.builtin "ValueError.__init__", []) { s1 with toks := s1.toks + 1 } → wpAny (model X.prog X.w) X.A (getMethod (.type "ValueError") "__init__" pl) Q' X.xe s1 := fun {Q'} q' => by
    unfold getMethod
    refine wpAny_bind ((PySem.W.Looks.of_pure spv_VE).here ?_)
    dsimp only
    rw [if_pos PySem.W.canon_tga]
    refine wpAny_bind (PySem.W.cls_open (hook := none) I1.kIn (PySem.W.Looks.of_pure oca_VE) (PySem.W.Looks.of_pure tov_VE) c.ga (PySem.W.Looks.of_pure hkb_type) c.sub c.f (wpAny_pure ?_))
    show wpAny _ _ (handedOut (.builtin "ValueError.__init__")) _ _ _
    rw [PySem.W.handedOut_of (v := .builtin "ValueError.__init__") rfl]
    exact wpAny_pure (wpAny_pure q')
  refine key ?_
  refine PyProof.Rows.callWith_builtin1 (thn (ha pos pins _ σ H1 _ (I1.tok _) q) fun us s2 ⟨vs, H2, I2, r, e', v, C, R, fI, dx, ev, he, cx, q2⟩ => ?_) hst hpl
  subst ev
  cases r with
  | cons r1 r2 =>
    cases r2 with
    | cons r3 r4 =>
      cases r4
      cases r1
      obtain ⟨⟨oe, vs, g, oc, ox, od, h1, hv⟩, _⟩ := I2.hok e' _ he
      obtain ⟨nm, qn, N, bs, sn, sub, ab, col, dd, k0, k1, k2, k3, k5, mN, oI, hC, _⟩ := cx.cls I2.kIn
      obtain ⟨hh, gg, d, tk, os⟩ := s2
      refine xinit (xtail R) hC g oc od h1 fun h' oe' vs' kp g' oc' ox' od' sz hv' => ?_
      have I3 := I2.write (x := e') (e := e') (o := Ex0 e' C dx) (t' := tk) (h' := h') (by rw [he]; exact True.intro) (.inl rfl) (fun b o nb z => kp b o nb z) ⟨_, g'⟩ (Ex0.ok g' (oc'.trans oc) (ox'.trans ox) od' (by rw [sz]; exact h1) (hv'.trans hv))
      rw [upd_id he] at I3
      exact ⟨.non, H2, I3, rfl, q2⟩
/-- C(..), C an exception class of the text -/
theorem run_makeX {pins : List (Addr × Obj)} {σ : St} {H : Hp} {s : Shared} {Q : VK} {us : List Value} {vs : List V} (c : ExCl X.K C R f) (F : FnOk X.prog X.w X.K X.mg X.base CX k f fd ps sp) (hr : Room (k + 1) X.A) (hb : Binds X.K fd ps ds) (hd : Vals dvs ds)
    (hx : Passes CX X E) (I : Inv X pins σ H s) (r : Vals vs us) (hz : vs.length ≤ sizeLine) (h : ∀ e, H e = none → sp (.ref e :: (vs ++ dvs)) (upd H e (Ex0 e C none)) (fun v H2 => v = .non ∧ Q (.ref e) H2) E) :
    wpAny (model X.prog X.w) X.A (call (.ref C) us) (fun u s' => ∃ e H', u = .ref e ∧ X.s₀.heap.objs.size ≤ e ∧ Inv X pins σ H' s' ∧ Q (.ref e) H') X.xe s := by
  obtain ⟨nm, qn, N, bs, sn, sub, ab, col, dd, k0, k1, k2, k3, k5, mN, oI, hC, hN, hi, hf, hfc⟩ := c.cls I.kIn
  obtain ⟨hh, g, d, t, os⟩ := s
  refine xmake (xtail R) hC hN hi hf hfc (by rw [← r.length]; exact hz) fun h' e mk ye => ?_
  obtain ⟨kp, en, t0, e1, tn, e2⟩ := mk
  have hE : H e = none := I.hok.fresh ye
  have I2 : Inv X pins σ (upd H e (Ex0 e C none)) ⟨h', g, d, t, os⟩ := I.laid (a := e) (o := Ex0 e C none) (t' := t) kp ye (Ex0.ok e1 rfl rfl rfl (by show 1 < 6; decide) rfl)
  have hq := h e hE
  have r2 : Vals (V.ref e :: (vs ++ dvs)) (Value.ref e :: (us ++ ds)) := .cons rfl (r.append hd)
  have hl : (Value.ref e :: us ++ ds).length = ps.length := by
    have e' := r2.length
    rw [F.len _ _ _ _ hq] at e'
    exact e'.symm
  refine wpAny_call (codeAny_mono (F.run _ X.stack _ _ ⟨Value.ref e :: us, []⟩ (Value.ref e :: (us ++ ds)) _ _ E (hr.make C us []) (I2.env0.make C us []) (hb _ (Value.ref e :: us) I2.kIn hl) r2 hq) fun rr s' hq' => ?_)
  cases rr with
  | error ev => exact hx pins σ _ _ ev s' I2 hq'
  | ok fl =>
    cases fl with
    | ret u =>
      obtain ⟨v, H', I3, rv, ev, q3⟩ := I2.after hq'
      subst ev
      exact ⟨rv, e, H', rfl, Nat.le_trans I.sz ye, I3, q3⟩
    | next => exact False.elim hq'
    | brk => exact False.elim hq'
    | cont => exact False.elim hq'
/-- raise C(..) -/
def tRaise (S : St → Prop) (C : Addr) (sp : Sp) (dvs : List V) (E : XK) (t : TA) : TS := fun _ σ H => S σ ∧ t σ H fun vs H1 => vs.length ≤ 1000 ∧ ∀ e, H1 e = none →
  sp (.ref e :: (vs ++ dvs)) (upd H1 e (Ex0 e C none)) (fun v H2 => v = .non ∧ ∃ e' dx, V.ref e = .ref e' ∧ H2 e' = some (Ex0 e' C dx) ∧ E (.ref e') none (upd H2 e' (ExF e' C dx))) E0
theorem ps_raise {S : St → Prop} {rpos : Pos} (c : ExCl X.K C R f) (F : FnOk X.prog X.w X.K X.mg X.base (CXE X.prog X.w) k f fd ps sp) (hr : Room (k + 1) X.A) (hg : Gl X x) (hm : X.mg x = some (.ref C)) (hb : Binds X.K fd ps ds) (hd : Vals dvs ds) (hra : Raises X S E) (ha : PA X (e :: es) t)
    (hdb : (x == ("__debug__" : Str)) = false := by decide) (he : starEach (e :: es) X.env = (false, eval e X.env) :: starEach es X.env := by rfl) (hpl : (backTo pos (starEach es X.env)).any (·.1) = false := by rfl) :
    PS X (.Raise (some (.Call (.Name x p) (e :: es) [] pos)) none rpos) (tRaise S C sp dvs E t) := by
  intro pins s σ H D I h
  obtain ⟨hS, h⟩ := h
  refine xRaise hr.hd ?_
  refine wpAny_Call_Name_kw (ld_glob I hg hm ?_ hdb)
  refine PySem.W.callWith_K (h₀ := X.base) I.ok.mod.kin c.kp (thn (ha pos pins s σ H _ I h) fun us s1 ⟨vs, H1, I1, r, hz, q⟩ => ⟨I1.kIn, ?_⟩) he hpl
  refine thn (run_makeX (E := E0) (Q := fun v H2 => ∃ e' dx, v = .ref e' ∧ H2 e' = some (Ex0 e' C dx) ∧ E (.ref e') none (upd H2 e' (ExF e' C dx))) c F hr hb hd passX I1 r (by rw [sizeLine_eq]; omega) q) fun u s2 ⟨e', H2, eu, ye, I2, e'', dx, e3, h2, hE⟩ => ?_
  · cases e3
    obtain ⟨⟨oe, vs', g, oc, ox, od, h1, hv⟩, _⟩ := I2.hok e' _ h2
    obtain ⟨nm, qn, N, bs, sn, sub, ab, col, dd, k0, k1, k2, k3, k5, mN, oI, hC, _⟩ := c.cls I2.kIn
    obtain ⟨c1, d1, dt1, sl1⟩ := oe
    cases oc; cases ox; cases od
    exact ⟨e', C, N, nm, qn, bs, _, true, sn, sub, ab, col, dd, k0, k1, k2, k3, k5, _, vs', sl1, eu, xtail R, hC, g, hv, hra pins σ H2 s2 e' C _ hS I2 h2 ye hE⟩
end
end L2

/-! repr of data, isinstance of an exception, isinstance of an empty dict among the rest -/
namespace L2
open PySem PySem.Spec PyProof.Rows
theorem se_un {o v p} {es : List Expr} {env : Env} : starEach (.UnaryOp o v p :: es) env = (false, eval (.UnaryOp o v p) env) :: starEach es env := rfl
theorem se_bin {l o r p} {es : List Expr} {env : Env} : starEach (.BinOp l o r p :: es) env = (false, eval (.BinOp l o r p) env) :: starEach es env := rfl
section
variable {X : Cx}
end
/-- data, the empty dict too -/
def DatE (K : PySem.W.Frag) (H : Hp) (x : V) (d : PyData) : Prop := (Dat K H x d ∧ d.hasDict = false) ∨ ((∃ a, x = .ref a ∧ H a = some (.dK [])) ∧ d = .dict [])
def rRepr (K : PySem.W.Frag) : List V → Hp → VK → Prop := fun xs H Q => ∃ x d, xs = [x] ∧ DatE K H x d ∧ d.showable = true ∧ d.depth ≤ 8 ∧ d.shown.length ≤ sizeLine ∧ Q (.str d.shown) H
section
variable {X : Cx}
theorem call_repr {K : PySem.W.Frag} (hK : X.K = K) (hg : X.A.guards = some []) (hu : X.A.units + 64 < cLine) : CallR X (.builtin "repr") (rRepr K) := by
  subst hK
  intro pins s σ H xs us Q I r h
  obtain ⟨x, d, rfl, hd, hs, hdep, hsz, q⟩ := h
  obtain ⟨u, rfl, rx⟩ := r.one
  have fin : ∀ (h' : Heap) (u : Tok) (tk : Nat), (∀ b o, s.heap.get? b = some o → h'.get? b = some o) → EP X pins σ Q (.str d.shown u) { s with heap := h', toks := tk } := fun h' u tk hk => ⟨.str d.shown, H, I.kept hk, ⟨u, rfl⟩, q⟩
  rcases hd with ⟨hd, hnd⟩ | ⟨⟨a, rfl, ha⟩, rfl⟩
  · cases x with
    | ref a =>
      cases rx
      obtain ⟨as, ra⟩ := I.reads hd rfl
      exact repr_of_reads' ra hs (PyData.noDict_hsm hnd) hg (by omega) (fun _ _ e => e) fin hsz
    | non => cases hd; cases rx; exact P.repr_of_none (fin s.heap _ _ (fun _ _ e => e))
    | bl b => cases hd; cases rx; cases b <;> exact P.repr_of_bool (fin s.heap _ _ (fun _ _ e => e))
    | int i =>
      cases hd
      obtain ⟨t, rfl⟩ := rx
      exact P.repr_of_int (by simpa [PyData.showable] using hs) (fin s.heap _ _ (fun _ _ e => e))
    | str x =>
      cases hd
      obtain ⟨t, rfl⟩ := rx
      exact P.repr_of_str (fin s.heap _ _ (fun _ _ e => e)) hsz
    | byt _ => cases hd
    | flt _ => cases hd
    | ty _ => cases hd
  · cases rx
    obtain ⟨_, hsm, vs, kv, o, es, ep, e1, hx, e2, _, e3, _⟩ := dk_of I.hok ha
    have ev : vs = [] := by cases kv; rfl
    subst ev
    have ee : es.toList = [] := by cases e3'' : es.toList with
      | nil => rfl
      | cons z zs => rw [e3''] at e3; cases e3
    have ra : Reads s.heap (.ref a) (.dict []) (a :: [] ++ []) := .dict e1 hx.1 e2 (by rw [ee]; exact .nil) (by rw [ee]; exact .nil)
    refine repr_of_reads' ra hs (fun _ z => ?_) hg (by show X.A.units + (0 + 1 + 1) < cLine; omega) (fun _ _ e => e) fin hsz
    have z' : sysModules = a := by simpa using z
    rw [z'] at hsm
    simp at hsm
/-- the type's name of a value, an empty dict's too -/
def tyM (K : PySem.W.Frag) (x : V) (H : Hp) (t : String) : Prop := tyN K x H t ∨ (t = "dict" ∧ ∃ p kvs, x = .ref p ∧ H p = some (.dK kvs))
theorem call_isiM : CallR X (.builtin "isinstance") (fun xs H Q => ∃ x T t, xs = [x, .ty T] ∧ T ∈ isiTs ∧ tyM X.K x H t ∧ Q (.bl (isa t T)) H) := by
  intro pins s σ H xs us Q I r h
  obtain ⟨x, T, t, rfl, hT, ht | ⟨rfl, p, kvs, rfl, hp⟩, q⟩ := h
  · exact call_isi pins s σ H _ us Q I r ⟨x, T, t, rfl, hT, ht, q⟩
  · exact call_isiD pins s σ H _ us Q I r ⟨p, T, kvs, rfl, hT, hp, q⟩
/-- an exception is of a built-in class behind its own -/
theorem call_isv {K : PySem.W.Frag} (hK : X.K = K) {T : String} (hty : typeOf (.type T) = pure (.type "type")) : CallR X (.builtin "isinstance") (fun xs H Q => ∃ e C dx bm, xs = [.ref e, .ty T] ∧ H e = some (ExF e C dx) ∧ XCls K C bm ∧ (Value.ref C :: bm).contains (.type T) = true ∧ Q (.bl true) H) := by
  subst hK
  intro pins s σ H xs us Q I r h
  obtain ⟨e, C, dx, bm, rfl, he, hxc, hc, q⟩ := h
  obtain ⟨u, v, rfl, ru, rv⟩ := vals2 r
  cases ru
  cases rv
  obtain ⟨⟨oe, vs, a1, a2, _⟩, _⟩ := I.hok e _ he
  obtain ⟨nm1, q1, N1, bs1, hd1, sn1, su1, ab1, co1, dd1, j0, j1, j2, j3, j5, ni1, lk1⟩ := hxc.obj
  have hC := I.kIn _ _ lk1
  refine call_isinstance_of ?_ (by intro z; cases z)
  unfold Builtin.«isinstance.nested»
  refine wpAny_bind (m := typeOf (.ref e)) (wpAny_typeOf_ref a1 ?_)
  rw [a2]
  show wpAny _ _ (if (Value.ref C == Value.type T) = true then _ else _) _ _ s
  rw [if_neg (by simp)]
  refine wpAny_bind (m := typeOf (.type T)) (wpAny_of_eq hty ?_)
  show wpAny _ _ (if (Value.type "type" == Value.type "type") = true then _ else _) _ _ s
  rw [if_pos (by decide)]
  refine wpAny_bind (wpAny_bind (m := isType (.type T)) (wpAny_pure (a := true) ?_))
  refine wpAny_bind (m := isInstance (.ref e) (.type T)) ?_
  unfold isInstance
  refine wpAny_bind (m := typeOf (.ref e)) (wpAny_typeOf_ref a1 ?_)
  rw [a2]
  obtain ⟨hp, g, d, t, os⟩ := s
  refine wpAny_isSubtype_exc hC ?_
  rw [hc]
  exact wpAny_pure (a := true) (wpAny_pure ⟨.bl true, H, I, rfl, q⟩)
end
end L2

/-! == of lists of the very same things; a class made within a try -/
namespace L2
open PySem PySem.Spec PyProof.Rows
/-- a thing that is the same as itself by ==: flat, or an object -/
def SelfV (v : V) : Prop := flatV v = true ∨ ∃ r, v = .ref r
theorem eqV_self : ∀ {v : V}, flatV v = true → eqV v v = true
  | .non, _ => rfl
  | .bl b, _ => by cases b <;> rfl
  | .int i, _ => by simp [eqV]
  | .str x, _ => by simp [eqV]
theorem eqAt_self {A : Around} {s : Shared} {v : V} {u u' : Value} (h : SelfV v) (r : RelV v u) (r' : RelV v u') : SeqAt.EqAt A s u u' true := by
  rcases h with h | ⟨a, rfl⟩
  · have := eqAt_V (A := A) (s := s) r r' h h
    rw [eqV_self h] at this
    exact this
  · cases r
    cases r'
    exact SeqAt.EqAt.same _
def rEqSame (K : PySem.W.Frag) : R2 := fun x y H Q => ∃ a b xs, x = .ref a ∧ y = .ref b ∧ SqL K H a xs ∧ SqL K H b xs ∧ (∀ v ∈ xs, SelfV v) ∧ Q (.bl true) H
section
variable {X : Cx}
end
/-! ### C(..) within a try -/
section
variable {X : Cx} {CX : CXT} {k : Nat} {f C : Addr} {fd : FuncData} {ps : List Str} {sp : Sp} {dvs : List V} {ds : List Value} {E : XK} {S : St → Prop} {x : Str} {p pos : Pos} {e : Expr} {es : List Expr} {t : TA}
def tMakeS (S : St → Prop) (C : Addr) (sp : Sp) (dvs : List V) (E : XK) (t : TA) : TE := fun σ H Q => t σ H fun vs H1 => S σ ∧ ∀ x dx, H1 x = none → H1 dx = none → dx ≠ x → sp (.ref x :: (vs ++ dvs)) (upd (upd H1 dx (.own x)) x (.ins C dx [])) (fun v H2 => v = .non ∧ Q (.ref x) H2) E
end
end L2

/-! isinstance(e, another class) of an exception: no -/
namespace L2
open PySem PyProof.Rows
section
variable {prog : Program} {w : World} {A : Around} {E : Value → Shared → Prop} {s : Shared} {K : PySem.W.Frag} {e C R fI : Addr} {oe : Obj}
theorem xclass {od : Option Obj} {Q : Option Value → Shared → Prop} (X : K.In s.heap) (c : ExCl K C R fI) (I : PySem.W.InstAt s.heap e oe C od) (hf : PySem.W.findObj K C od "__class__" = some (.bind (.builtin "getset_descriptor.__get__") (.builtin "object.__class__"))) (hmo : PySem.W.mroIn K C (.type "object") = some true) (h : Q (some (.ref C)) { s with toks := s.toks + 1 }) :
    wpAny (model prog w) A (getAttr? (.ref e) "__class__") Q E s := by
  obtain ⟨cd, hcd, hm, _⟩ := c.clsIn
  have isB : PySem.W.Looks (model prog w) s.heap (isInstance (.ref e) (.type "BaseException")) true := I.type.andThen (PySem.W.looks_mroIn X (by
    unfold PySem.W.mroIn
    rw [hcd, Option.bind_some, hm, if_neg (by intro z; cases z)]
    rfl))
  have L0 := I.type (M := model prog w)
  have L1 := PySem.W.looks_findIn (M := model prog w) X c.ga
  have L2 := PySem.W.looks_findIn (M := model prog w) X c.gh
  have L3 := PySem.W.looks_find (M := model prog w) X I hf
  obtain ⟨hp, g, d, t, os⟩ := s
  unfold getAttr? getAttrBy? getAttrBy
  refine wpAny_bind (wpAny_mkText (wpAny_bind (wpAny_attempt (wpAny_holding (wpAny_bind (L0.at (wpAny_bind (L1.at ?_))))))))
  show wpAny _ _ (getAttrByItsOwn _ _ _ _ _ _) _ _ _
  unfold getAttrByItsOwn
  refine wpAny_bind (show wpAny _ _ (typeLookup (.ref C) "__getattr__") _ _ _ from L2.at ?_)
  have FB := PySem.F.attr_ValueError.ga
  have hk : builtinKind "BaseException.__getattribute__" = some .slot := by decide +kernel
  have hs : splitId "BaseException.__getattribute__" = some ("BaseException", "__getattribute__") := by decide +kernel
  refine wpAny_bind (wpAny_attempt (wpAny_holding ?_))
  unfold callGetattribute
  rw [if_neg (by intro z; cases z)]
  unfold boundAndCalled
  rw [FB.bind]
  refine wpAny_bind (wpAny_pure (wpAny_call ?_))
  show codeAny _ _ (.call (.builtin "BaseException.__getattribute__") ⟨[.ref e, .str "__class__" t], []⟩) _ _
  refine codeAny_call_builtin FB.plain PySem.F.entry_bexc_ga ?_
  refine @PySem.W.check_slot (model prog w) _ _ _ "BaseException.__getattribute__" "BaseException" "__getattribute__" (.ref e) [.str "__class__" t] [] _ hk hs isB (PySem.F.args_bexc_ga _ _) ?_
  unfold Builtin.«object.__getattribute__» slotArgs
  refine wpAny_bind (wpAny_pure ?_)
  refine wpAny_bind (wpAny_pure ?_)
  refine wpAny_bind (L0.at ?_)
  refine wpAny_bind (L3.at ?_)
  show wpAny _ _ (holding [Value.builtin "object.__class__"] (call (.builtin "getset_descriptor.__get__") [.builtin "object.__class__", .ref e, .ref C]) >>= ret) _ _ _
  refine wpAny_bind (wpAny_holding (wpAny_call ?_))
  refine PySem.W.class_get (s := ⟨hp, g, d, t + 1, os⟩) X I hmo ?_
  refine wpAny_pure ?_
  show wpAny _ _ (handedOut (.ref C)) _ _ _
  rw [PySem.W.handedOut_of rfl]
  exact wpAny_pure (wpAny_pure h)
/-- .. is of no other class -/
theorem xisnt {od : Option Obj} {D : Addr} {dep : Int} {tk : Tok} {Q : Fin → Shared → Prop} (X : K.In s.heap) (c : ExCl K C R fI) (I : PySem.W.InstAt s.heap e oe C od) (hf : PySem.W.findObj K C od "__class__" = some (.bind (.builtin "getset_descriptor.__get__") (.builtin "object.__class__"))) (hmo : PySem.W.mroIn K C (.type "object") = some true)
    (hn : PySem.W.kin_not K C D = true) (h : Q (.done (.ret (.bool false))) { s with toks := s.toks + 1 }) :
    wpAny (model prog w) A (Builtin.«isinstance.nested» ⟨[.ref e, .ref D, .int dep tk], []⟩) Q E s := by
  unfold PySem.W.kin_not at hn
  rw [Bool.and_eq_true, Bool.and_eq_true, Bool.and_eq_true] at hn
  obtain ⟨⟨⟨e0, e1⟩, e2⟩, e3⟩ := hn
  have hty := PySem.W.looks_typeIn (M := model prog w) X (beq_iff_eq.mp e2)
  have hsub := PySem.W.looks_subIn (M := model prog w) X (beq_iff_eq.mp e3)
  have isT : ∀ {B : Addr}, (PySem.W.clsIn K B).isSome = true → PySem.W.Looks (model prog w) s.heap (isType (.ref B)) true := fun {B} hB => by
    unfold PySem.W.clsIn at hB
    split at hB
    · rename_i c' d' cd' sl' ho
      intro A' Q' E' s' k q
      unfold isType loadHead
      exact wpAny_bind (wpAny_loadPart (k _ _ (X _ _ ho)) (wpAny_pure q))
    · cases hB
  have his := isT e1
  obtain ⟨cd, hcd, _⟩ := c.clsIn
  have hisD := isT (B := C) (by rw [hcd]; rfl)
  have hne : (Value.ref C == Value.ref D) = false := Bool.eq_false_iff.mpr fun q => of_decide_eq_true e0 (Value.ref.inj (beq_iff_eq.mp q))
  obtain ⟨h0, g, d, tt, os⟩ := s
  have L0 := I.type (M := model prog w)
  have LI : PySem.W.Looks (model prog w) h0 (isInstance (.ref e) (.ref D)) false := L0.andThen hsub
  unfold Builtin.«isinstance.nested»
  refine wpAny_bind (L0.at ?_)
  rw [if_neg (fun q => by rw [hne] at q; exact Bool.noConfusion q)]
  refine wpAny_bind (hty.at ?_)
  rw [if_pos (by decide)]
  k_delta "plainIsInstance"
  refine wpAny_bind (wpAny_bind (his.at ?_))
  simp only [Bool.not_true, Bool.false_eq_true, if_false]
  refine wpAny_bind (LI.at ?_)
  simp only [Bool.false_eq_true, if_false]
  refine wpAny_bind (xclass X c I hf hmo ?_)
  refine wpAny_bind (hisD.at ?_)
  simp only [Bool.not_true, Bool.false_eq_true, if_false]
  refine wpAny_bind (wpAny_rule ?_)
  refine hsub.at ?_
  first
    | exact wpAny_pure h
    | exact wpAny_pure (wpAny_pure h)
    | exact wpAny_bind (wpAny_pure (wpAny_pure h))
end
/-- facts by which an exception of C is none of D -/
structure XNot (K : PySem.W.Frag) (C D : Addr) : Prop where
  ha : PySem.W.findIn K (.ref C) "__class__" = some (some (.builtin "object.__class__"))
  hg : PySem.W.specialIn K (.builtin "object.__class__") "__get__" = some (some (.builtin "getset_descriptor.__get__"))
  ht : PySem.W.takesIn K (.builtin "object.__class__") = some true
  hm : PySem.W.mroIn K C (.type "object") = some true
  nt : PySem.W.kin_not K C D = true
section
variable {X : Cx}
end
/-! ### repr of a dict of flat things -/
def keyD : Key → PyData
  | .inl n => .int n
  | .inr x => .str x
def flatD : V → PyData
  | .bl b => .bool b
  | .int i => .int i
  | .str x => .str x
  | _ => .none
theorem reads_key {P : Program} {w : World} {h : Heap} {k : Key} {u : Value} (hk : (mixKind P w).is k u = true) : Reads h u (keyD k) [] := by
  rcases keyIs_shape hk with ⟨i, t, rfl, rfl⟩ | ⟨x, t, rfl, rfl⟩
  · exact .int _ _
  · exact .str _ _
theorem reads_flat {h : Heap} : ∀ {v : V} {u : Value}, flatV v = true → RelV v u → Reads h u (flatD v) []
  | .non, _, _, r => by cases r; exact .none
  | .bl b, _, _, r => by cases r; exact .bool b
  | .int i, _, _, r => by obtain ⟨t, rfl⟩ := r; exact .int i t
  | .str x, _, _, r => by obtain ⟨t, rfl⟩ := r; exact .str x t
theorem reads_dict {P : Program} {w : World} {h : Heap} : ∀ {kvs : List (Key × V)} {vs : List (Key × Value)} {es : List DictEntry}, KV kvs vs → Pairs (mixKind P w) es vs → (∀ p ∈ kvs, flatV p.2 = true) →
    ReadsAll h (es.map (·.key)) (kvs.map fun p => keyD p.1) [] ∧ ReadsAll h (es.map (·.val)) (kvs.map fun p => flatD p.2) []
  | [], _, _, r, p, _ => by cases r; cases p; exact ⟨.nil, .nil⟩
  | (k, v) :: kvs, _, _, r, p, hf => by
    cases r with
    | cons r1 r2 =>
      cases p with
      | cons p1 p2 p3 =>
        obtain ⟨a, b⟩ := reads_dict (h := h) r2 p3 fun q hq => hf q (List.mem_cons_of_mem _ hq)
        have e1 : k = _ := r1.1
        refine ⟨ReadsAll.cons (reads_key (by rw [e1]; exact p1)) a, ReadsAll.cons (reads_flat (hf _ (List.mem_cons_self ..)) ?_) b⟩
        have z : RelV v _ := r1.2
        rw [← p2] at z
        exact z
/-- data, a dict of flat things too -/
def DatF (K : PySem.W.Frag) (H : Hp) (x : V) (d : PyData) : Prop := (Dat K H x d ∧ d.hasDict = false) ∨ ∃ a kvs, x = .ref a ∧ H a = some (.dK kvs) ∧ (∀ p ∈ kvs, flatV p.2 = true) ∧ d = .dict (kvs.map fun p => (keyD p.1, flatD p.2))
theorem DatF.same {K : PySem.W.Frag} {H H' : Hp} {x : V} {d : PyData} (h : DatF K H x d) (g : Same H H') : DatF K H' x d := by
  rcases h with ⟨h, z⟩ | ⟨a, kvs, rfl, h, z⟩
  · exact .inl ⟨Dat.same g h, z⟩
  · exact .inr ⟨a, kvs, rfl, g _ _ h, z⟩
def rReprF (K : PySem.W.Frag) : List V → Hp → VK → Prop := fun xs H Q => ∃ x d, xs = [x] ∧ DatF K H x d ∧ d.showable = true ∧ d.depth ≤ 8 ∧ d.shown.length ≤ sizeLine ∧ Q (.str d.shown) H
section
variable {X : Cx}
theorem call_reprF {K : PySem.W.Frag} (hK : X.K = K) (hg : X.A.guards = some []) (hu : X.A.units + 64 < cLine) : CallR X (.builtin "repr") (rReprF K) := by
  subst hK
  intro pins s σ H xs us Q I r h
  obtain ⟨x, d, rfl, hd, hs, hdep, hsz, q⟩ := h
  rcases hd with hd | ⟨a, kvs, rfl, ha, hf, rfl⟩
  · exact call_repr rfl hg hu pins s σ H _ us Q I r ⟨x, d, rfl, .inl hd, hs, hdep, hsz, q⟩
  · obtain ⟨u, rfl, rx⟩ := r.one
    cases rx
    obtain ⟨_, hsm, vs, kv, o, es, ep, e1, hx, e2, _, e3, _⟩ := dk_of I.hok ha
    obtain ⟨q1, q2⟩ := reads_dict (h := s.heap) kv e3 hf
    have ra : Reads s.heap (.ref a) (.dict (kvs.map fun p => (keyD p.1, flatD p.2))) (a :: [] ++ []) := .dict e1 hx.1 e2 (by rw [List.map_map]; exact q1) (by rw [List.map_map]; exact q2)
    refine repr_of_reads' ra hs (fun _ z => ?_) hg (by omega) (fun _ _ e => e) (fun h' u tk hk => ⟨.str _, H, I.kept hk, ⟨u, rfl⟩, q⟩) hsz
    have z' : sysModules = a := by simpa using z
    rw [z'] at hsm
    simp at hsm
end
end L2

/-! x == x of a thing, the empty dict too -/
namespace L2
open PySem PySem.Spec PyProof.Rows
section
variable {X : Cx}
/-- a thing held against itself -/
def rEqSelf (K : PySem.W.Frag) : R2 := fun x y H Q => x = y ∧ ((flatV x = true) ∨ (∃ d, Dat K H x d ∧ SeqAt.shaped d = true) ∨ ∃ a, x = .ref a ∧ H a = some (.dK [])) ∧ Q (.bl true) H
end
end L2

/-! for a, b in enumerate(a list): each turn's tuple is new -/
namespace L2
open PySem PySem.Spec PyProof.Rows
section
variable {X : Cx} {pins : List (Addr × Obj)} {σ : St} {H : Hp} {s : Shared} {h' : Heap}
/-- two untracked records of ours have turned, and a new object is laid and tracked -/
theorem Inv.turned2 {t' : Nat} {e it p : Addr} {o : HO} (I : Inv X pins σ H s) (k : ∀ b u, b ≠ e → b ≠ it → s.heap.get? b = some u → h'.get? b = some u) (fe : FpOk X pins H e) (fi : FpOk X pins H it)
    (hp : s.heap.objs.size ≤ p) (new : ObjOk X.prog X.w (upd H p o) h' p o) : Inv X pins σ (upd H p o) { s with heap := h', toks := t' } := by
  have hn := I.hok.fresh hp
  have ne : ∀ b u, H b = some u → b ≠ e := fun b u q => ne_of_none q fe.1
  have ni : ∀ b u, H b = some u → b ≠ it := fun b u q => ne_of_none q fi.1
  have nx : ∀ b, b ∉ [e, it] → b ≠ e ∧ b ≠ it := fun b hb => ⟨fun z => hb (by simp [z]), fun z => hb (by simp [z])⟩
  have np : ∀ b u, s.heap.get? b = some u → b ≠ p := fun b u q => Nat.ne_of_lt (Nat.lt_of_lt_of_le (Heap.lt_size q) hp)
  have u : Un (frs X.stack) [e, it] H (upd H p o) s.heap h' := by
    refine ⟨fun b u q _ _ hx => k b u (nx b hx).1 (nx b hx).2 q, fun b u q _ _ hx => ⟨u.slots, k b u (nx b hx).1 (nx b hx).2 q⟩, fun b u q n _ => ?_, fun b u q hx => ⟨u, k b u (nx b hx).1 (nx b hx).2 q⟩, fun b xs q => ?_, fun b o' u q => ?_, fun b ps q => ⟨#[], ?_⟩⟩
    · rw [upd_ne (np b u q)]; exact n
    · rw [upd_ne (ne_of_none q hn)]; exact q
    · rw [upd_ne (ne_of_none q hn)]; exact q
    · rw [upd_ne (ne_of_none q hn), q]; simp
  have hok : HOk X.prog X.w (upd H p o) h' := fun b v eb => by
    by_cases hb : b = p
    · subst hb; rw [upd_same] at eb; cases eb; exact new
    · rw [upd_ne hb] at eb
      refine (I.hok b v eb).stay (fun c w hc q => k c w ?_ ?_ q) (fun c q => by rw [upd_ne (ne_of_none q hn)]; exact q) fun c xs q => by rw [upd_ne (ne_of_none q hn)]; exact q
      · rcases hc with z | z
        · rw [z]; exact ne b v eb
        · exact ne c _ z
      · rcases hc with z | z
        · rw [z]; exact ni b v eb
        · exact ni c _ z
  refine I.call (g' := s.gens) (d' := s.drawn) (t' := t') (ch := [e, it]) u hok I.bare fun b hb => ?_
  have : b = e ∨ b = it := by simpa using hb
  rcases this with rfl | rfl
  · exact ⟨fe.2.2.2.1, fe.2.1, fe.2.2.2.2.1, fe.2.2.2.2.2⟩
  · exact ⟨fi.2.2.2.1, fi.2.1, fi.2.2.2.2.1, fi.2.2.2.2.2⟩
end
def Ite (K : PySem.W.Frag) (a : Addr) : It :=
  ⟨fun i H => ∃ xs x, SqL K H a xs ∧ xs[i]? = some x, fun i H x H' => ∃ y p, x = .ref p ∧ H p = none ∧ H' = upd H p (.tup [.int (i : Int), y]) ∧ ∀ xs, SqL K H a xs → xs[i]? = some y, fun i H => ∃ xs, SqL K H a xs ∧ xs.length ≤ i⟩
theorem turn_enum {P : Program} {w : World} {K : PySem.W.Frag} {elts : List Expr} {x1 : Nat} {pos : Pos} (a e it : Addr) (hne : e ≠ it) : Turn P w K (.Tuple elts x1 pos) (Ite K a) [e, it] e (fun i h => (∃ old, IsEnum h e it (i : Int) old) ∧ h.IsListIter it a i) where
  mem := by simp
  obj := fun i h st b hb => by
    have : b = e ∨ b = it := by simpa using hb
    obtain ⟨⟨old, he⟩, o, ho, hc, hd⟩ := st
    rcases this with rfl | rfl
    · exact ⟨_, he, fun v z => by cases z⟩
    · exact ⟨o, ho, fun v z => by rw [hd] at z; cases z⟩
  keep := fun i h h' st k => by
    obtain ⟨⟨old, he⟩, o, ho, r⟩ := st
    exact ⟨⟨old, k e (by simp) _ he⟩, o, k it (by simp) _ ho, r⟩
  item := by
    intro X hP hw hK hc i pins s σ H E I hf st hg
    subst hP hw hK
    obtain ⟨xs, x, hq, hx⟩ := hg
    obtain ⟨its, rv, p, hz⟩ := I.list hq
    obtain ⟨u, hu, ru⟩ := rv.get hx
    have fe := hf e (by simp)
    have fi := hf it (by simp)
    obtain ⟨⟨old, he⟩, hit⟩ := st
    refine wpAny_pyNext_enum_item he hit p.isList (x := u) (by simpa using hu) hne fun h1 heo hit1 ht1 hz1 hk1 => ⟨_, rfl, ?_⟩
    refine wpAny_letOwnedTupleGo_enum heo fun h2 he2 hs2 => ?_
    replace hs2 : Heap.SameBut e h1 h2 := hs2
    have ne : s.heap.objs.size ≠ e := Nat.ne_of_gt (Heap.lt_size he)
    have ht2 : h2.get? s.heap.objs.size = some { cls := .type "tuple", data := .seq #[.int i s.toks, u] } := (hs2.2 _ ne).trans ht1
    have k2 : ∀ b v, b ≠ e → b ≠ it → s.heap.get? b = some v → h2.get? b = some v := fun b v n1 n2 q => (hs2.2 b n1).trans (hk1 b v n1 n2 q)
    refine ⟨.ref s.heap.objs.size, upd H s.heap.objs.size (.tup [.int (i : Int), x]), I.turned2 (t' := s.toks + 1) k2 fe fi (Nat.le_refl _) ⟨(by show 2 ≤ sizeLine; decide), [.int i s.toks, u], .cons ⟨_, rfl⟩ (.cons ru .nil), _, ht2, rfl, _, rfl⟩, rfl, ⟨x, _, rfl, I.hok.fresh (Nat.le_refl _), rfl, fun ys hy => by rw [I.list_inj hy hq]; exact hx⟩, ⟨⟨_, he2⟩, ?_⟩, fun b hb => ?_⟩
    · obtain ⟨o, ho, r⟩ := hit1
      exact ⟨o, (hs2.2 it (Ne.symm hne)).trans ho, r⟩
    · have : b = e ∨ b = it := by simpa using hb
      obtain ⟨oi, hoi, _⟩ := hit
      rcases this with rfl | rfl
      · rw [upd_ne (Ne.symm ne)]; exact fe.1
      · rw [upd_ne (Nat.ne_of_lt (Heap.lt_size hoi))]; exact fi.1
  done := by
    intro X hP hw hK hc i pins s σ H E I hf st hg
    subst hP hw hK
    obtain ⟨xs, hq, hl⟩ := hg
    obtain ⟨its, rv, p, hz⟩ := I.list hq
    have hlen := rv.length
    obtain ⟨f0, f1, f2, f3, f4, f5⟩ := hf it (by simp)
    obtain ⟨⟨old, he⟩, hit⟩ := st
    exact wpAny_pyNext_enum_end (I.ok.hd hc) he hit p.isList (by simp; omega) fun h' eb => ⟨rfl, I.turned (t' := s.toks) (fun b o hb e => eb b o hb e) f0 f1 f3 f4 f5⟩
  self := fun _ _ _ _ _ st h => by
    obtain ⟨⟨old, he⟩, _⟩ := st
    exact wpAny_pyIter_enum he h
def iEnum (K : PySem.W.Frag) (ta : TA) : TI := fun σ H R => ta σ H fun vs H1 => ∃ a xs, vs = [.ref a] ∧ SqL K H1 a xs ∧ R (Ite K a) H1
theorem pi_enum {X : Cx} {elts : List Expr} {x1 : Nat} {tpos : Pos} {a : Expr} {ta : TA} {p pos : Pos} (hg : Gl X "enumerate") (hm : X.mg "enumerate" = none) (ha : PA X [a] ta) (hs : starEach [a] X.env = [(false, eval a X.env)] := by rfl) : PI X (.Tuple elts x1 tpos) (.Call (.Name "enumerate" p) [a] [] pos) (iEnum X.K ta) := by
  intro pins s σ H R I h
  refine Call_ (ld_blt I hg hm boot_enumerate (PyProof.Rows.callWith_type1 (thn (ha pos pins s σ H _ I h) fun us s1 ⟨vs, H1, I1, r1, q1⟩ => ?_) hs rfl))
  obtain ⟨l, xs, e, hl, q⟩ := q1
  subst e
  obtain ⟨u, rfl, rx⟩ := vals1 r1
  cases rx
  obtain ⟨its, rv, pl, hz⟩ := I1.list hl
  refine call_enumerate_list pl.isList fun h' he hit hsz hk => wpAny_pyIter_enum he ?_
  refine ⟨s1.heap.objs.size + 1, [s1.heap.objs.size + 1, s1.heap.objs.size], _, _, H1, rfl, I1.kept (t' := s1.toks) hk, turn_enum l _ _ (Nat.succ_ne_self _), ⟨⟨_, he⟩, hit⟩, fun b hb => ?_, q⟩
  have : b = s1.heap.objs.size + 1 ∨ b = s1.heap.objs.size := by simpa using hb
  rcases this with rfl | rfl
  · exact I1.fpOk (Nat.le_succ _) (I1.hok.fresh (Nat.le_succ _))
  · exact I1.fpOk (Nat.le_refl _) (I1.hok.fresh (Nat.le_refl _))
/-- the loop by an invariant: the list stays -/
theorem for_enum {K : PySem.W.Frag} {a : Addr} {xs : List V} {g : TG} {tb : TS} {D : Ends} {σ : St} {H : Hp} (Pv : Nat → St → Hp → Prop) (h0 : Pv 0 σ H) (hl : ∀ i σ H, i ≤ xs.length → Pv i σ H → SqL K H a xs)
    (hs : ∀ i x σ H p, xs[i]? = some x → Pv i σ H → H p = none → g (.ref p) σ (upd H p (.tup [.int (i : Int), x])) fun σ2 H2 => tb { D with nx := Pv (i + 1), ct := Pv (i + 1), bk := D.nx } σ2 H2) (hd : ∀ σ H, Pv xs.length σ H → D.nx σ H) :
    ∃ W : Nat → Nat → St → Hp → Prop, (∃ m, W 0 m σ H) ∧ ∀ i m σ H, W i m σ H →
      ((Ite K a).stop i H ∧ D.nx σ H) ∨ ((Ite K a).go i H ∧ ∃ N : St → Hp → Prop, (∀ σ' H', N σ' H' → ∃ m', m' < m ∧ W (i + 1) m' σ' H') ∧ ∀ x H', (Ite K a).yld i H x H' → g x σ H' fun σ2 H2 => tb { D with nx := N, ct := N, bk := D.nx } σ2 H2) := by
  refine ⟨fun i m σ H => m = xs.length - i ∧ i ≤ xs.length ∧ Pv i σ H, ⟨xs.length, by simp, Nat.zero_le _, h0⟩, ?_⟩
  rintro i m σ H ⟨rfl, hi, p⟩
  have q := hl i σ H hi p
  by_cases hlt : i < xs.length
  · refine .inr ⟨⟨xs, xs[i], q, by simp [hlt]⟩, Pv (i + 1), fun σ' H' p' => ⟨xs.length - (i + 1), by omega, rfl, hlt, p'⟩, fun x H' y => ?_⟩
    obtain ⟨y', pa, rfl, hn, rfl, hy⟩ := y
    exact hs i y' σ H pa (hy xs q) p hn
  · have e : i = xs.length := by omega
    subst e
    exact .inl ⟨⟨xs, q, Nat.le_refl _⟩, hd σ H p⟩
end L2

/-! A list comprehension that has another one within: its own names are cells. -/
namespace L2
open PySem PySem.Spec PyProof.Rows
abbrev Cx.compK (X : Cx) (scope : Scope) (cl : List (Str × Addr)) (ks : List Str) (N : List Str) (s : Shared) (H : Hp) (fp : List Addr) (C : Addr) : Cx where
  prog := X.prog
  w := X.w
  K := X.K
  mg := X.mg
  base := X.base
  A := X.A
  N := N
  s₀ := s
  H₀ := H
  env := compEnvC scope cl C X.env
  outer := X.stack
  stack := X.stack
  ex := fp
  fn := fun x => ks.contains x
  calm := X.calm
  pn := []
  xe := fun _ _ => False
/-- the names ys have the same cells in both -/
def sameL (cl cl' : List (Str × Addr)) : List Str → Prop
  | [] => True
  | y :: ys => cl'.lookup y = cl.lookup y ∧ sameL cl cl' ys
theorem sameL.at {cl cl' : List (Str × Addr)} : ∀ {ys : List Str} {y : Str}, sameL cl cl' ys → y ∈ ys → cl'.lookup y = cl.lookup y
  | [], _, _, h => by simp at h
  | _ :: _, _, x, h => (List.mem_cons.mp h).elim (fun e => e ▸ x.1) (sameL.at x.2)
/-- the names ks have new cells -/
def newL (cl : List (Str × Addr)) (C : Nat) : List Str → Prop
  | [] => True
  | y :: ys => (∃ c, cl.lookup y = some c ∧ C < c) ∧ newL cl C ys
theorem newL.at {cl : List (Str × Addr)} {C : Nat} : ∀ {ys : List Str} {y : Str}, newL cl C ys → y ∈ ys → ∃ c, cl.lookup y = some c ∧ C < c
  | [], _, _, h => by simp at h
  | _ :: _, _, x, h => (List.mem_cons.mp h).elim (fun e => e ▸ x.1) (newL.at x.2)
theorem cellsFrom_has : ∀ (names : List (Str × NameKind)) (n : Nat) (acc : List (Str × Addr)) (x : Str), (∃ c, acc.lookup x = some c) → ∃ c, (cellsFrom n names acc).lookup x = some c
  | [], _, _, _, h => h
  | (name, kind) :: r, n, acc, x, h => by
    unfold cellsFrom
    split
    · refine cellsFrom_has r _ _ x ?_
      rw [List.lookup_cons]
      split
      · exact ⟨_, rfl⟩
      · exact h
    · exact cellsFrom_has r _ _ x h
structure CK (h : Heap) (lo : Nat) (cl acc : List (Str × Addr)) : Prop where
  mem : ∀ n c, acc.lookup n = some c → cl.lookup n = some c ∨ (lo ≤ c ∧ h.IsCell c none)
  inj : ∀ x y c, acc.lookup x = some c → acc.lookup y = some c → lo ≤ c → x = y
theorem cellsFrom_ck {cl : List (Str × Addr)} : ∀ (names : List (Str × NameKind)) (h : Heap) (lo : Nat) (acc : List (Str × Addr)), CK h lo cl acc → lo ≤ h.objs.size → (∀ n c, cl.lookup n = some c → c < lo) →
    CK (pushCells h names) lo cl (cellsFrom h.objs.size names acc)
  | [], _, _, _, x, _, _ => x
  | (name, kind) :: r, h, lo, acc, x, hlo, hcl => by
    unfold pushCells cellsFrom
    split
    · have lt : ∀ n c, acc.lookup n = some c → c < h.objs.size := fun n c e => by
        rcases x.mem n c e with q | q
        · exact Nat.lt_of_lt_of_le (hcl n c q) hlo
        · exact q.2.lt
      have := cellsFrom_ck r (h.push { cls := .type "cell", data := .cell none }) lo ((name, h.objs.size) :: acc) ⟨fun n c e => ?_, fun y z c e1 e2 hl => ?_⟩ (by rw [Heap.size_push]; omega) hcl
      · rwa [Heap.size_push] at this
      · rw [List.lookup_cons] at e
        split at e
        · cases e; exact .inr ⟨hlo, _, Heap.get?_push_size _ rfl, rfl⟩
        · rcases x.mem n c e with q | q
          · exact .inl q
          · exact .inr ⟨q.1, q.2.keeps fun b o e => Heap.get?_push_of_some _ e⟩
      · rw [List.lookup_cons] at e1 e2
        cases b1 : (y == name) with
        | true =>
          cases b2 : (z == name) with
          | true => rw [beq_iff_eq.mp b1, beq_iff_eq.mp b2]
          | false =>
            rw [b1] at e1
            rw [b2] at e2
            cases e1
            exact absurd (lt _ _ e2) (Nat.lt_irrefl _)
        | false =>
          rw [b1] at e1
          cases b2 : (z == name) with
          | true =>
            rw [b2] at e2
            cases e2
            exact absurd (lt _ _ e1) (Nat.lt_irrefl _)
          | false =>
            rw [b2] at e2
            exact x.inj y z c e1 e2 hl
    · exact cellsFrom_ck r h lo acc x hlo hcl
section
variable {M : Model} {A : Around} {E : Value → Shared → Prop} {s : Shared}
theorem newEnvK {scope : Scope} {globals : Addr} {closure : List (Str × Addr)} {qual : Str} {func : Option Addr} {code : Value} {env : Env} {builtins : Addr} {Q : Env → Shared → Prop}
    (h : Q (newEnv scope s.heap.objs.size globals (cellsFrom (s.heap.objs.size + 1) scope.names closure) qual func code (some env) builtins) { s with heap := pushCells (s.heap.push { cls := .type "dict", data := .dict #[] }) scope.names }) :
    wpAny M A (newFunctionEnv scope globals closure [] qual func code (some env) builtins) Q E s := by
  simp only [newFunctionEnv, Option.isSome_some, if_true]
  refine wpAny_bind (wpAny_alloc ?_)
  refine wpAny_bind (wpAny_layCells _ (fun name kind cells => by cases hkc : kind == NameKind.cell <;> simp [hkc]) _ _ _ _ ?_)
  rw [show ({ s with heap := s.heap.push { cls := .type "dict", data := .dict #[] } } : Shared).heap.objs.size = s.heap.objs.size + 1 from Heap.size_push ..]
  refine wpAny_bind ?_
  rw [List.forIn_nil]
  exact wpAny_pure (wpAny_pure h)
end
section
variable {X : Cx} {elt tg iter : Expr} {ifs : List Expr} {scope : Scope} {cl : List (Str × Addr)} {ts ys : List Str} {js : List Nat} {pos : Pos} {wi : TI} {g : TG} {tc : TT} {te : TE}
/-- the block's entry -/
theorem inv_compK {ks : List Str} {cl' : List (Str × Addr)} {pins : List (Addr × Obj)} {σ : St} {H : Hp} {s : Shared} {fp : List Addr} {C : Addr} {h1 : Heap} {m : Str → Option Value} {t' : Nat} (I : Inv X pins σ H s) (hsub : subCl X.env cl) (hcap : capt X scope cl ys js) (hsame : sameL cl cl' ys) (hnew : newL cl' C ks)
    (hkind : scope.kind = .function) (hhas : ∀ x, ((relabel scope X.env).names.lookup x = some .cell ∨ (relabel scope X.env).names.lookup x = some .free) → ∃ c, cl'.lookup x = some c)
    (f2 : ∀ b ∈ fp, FpOk X pins H b) (fl : ∀ b ∈ fp, b < s.heap.objs.size) (hC : s.heap.objs.size ≤ C) (hn : h1.Ns C m) (old : ∀ b o, s.heap.get? b = some o → h1.get? b = some o) (hck : CK h1 (C + 1) cl cl') :
    Inv (X.compK scope cl' ks (ts ++ ys) s H fp C) [] (capSt ts.length js σ) H { s with heap := h1, toks := t' } := by
  obtain ⟨mo, hno, hlo⟩ := id I.loc
  have oldlt : ∀ x c, cl.lookup x = some c → c < s.heap.objs.size := fun x c e => by
    obtain ⟨v, q⟩ := I.cell x c (hsub.at e)
    exact q.lt
  refine ⟨⟨I.ok.mod, hkind, I.ok.glob, I.ok.blt, hC, fun x y c e1 e2 => ?_, fun x hx => hhas x hx, fun x c z e => ?_, I.ok.hd, I.ok.frames, .inl rfl,
      fun b hb => ⟨Nat.ne_of_lt (Nat.lt_of_lt_of_le (fl b hb) hC), fun x c e => ?_⟩, I.bs, Nat.le_trans I.ok.bsz I.sz, fun b o e hb => ?_, fun b hb z => ?_, I.stack, I.stkFree⟩,
    rfl, I.bare, Un.kept old, ⟨m, hn, fun i x v e1 e2 e3 => ?_⟩, fun x c e => ?_, I.hok.fresh hC, fun x c e => ?_, fun p hp => absurd (show p ∈ ([] : List (Addr × Obj)) from hp) (by simp), I.hok.kept old, ?_⟩
  · rcases hck.mem x c e1 with q | q
    · rcases hck.mem y c e2 with q' | q'
      · exact I.ok.inj x y c (hsub.at q) (hsub.at q')
      · exact absurd (Nat.lt_of_lt_of_le (oldlt x c q) (Nat.le_trans hC (Nat.le_of_succ_le q'.1))) (Nat.lt_irrefl _)
    · exact hck.inj x y c e1 e2 q.1
  · obtain ⟨c', hc', hl⟩ := hnew.at (show x ∈ ks by simpa using z)
    have e' : cl'.lookup x = some c := e
    rw [hc'] at e'
    cases e'
    exact Nat.le_trans hC (Nat.le_of_lt hl)
  · rcases hck.mem x c e with q | q
    · exact (f2 b hb).2.2.2.2.1 x c (hsub.at q)
    · intro z
      subst z
      exact absurd (Nat.lt_of_lt_of_le (fl _ hb) (Nat.le_trans hC (Nat.le_of_succ_le q.1))) (Nat.lt_irrefl _)
  · -- an object of the base is none of the iterator's
    obtain ⟨_, _, _, h3, _⟩ := f2 b hb
    rcases h3 with z | z
    · exact I.ok.noex b o e z
    · exact absurd (Nat.lt_of_lt_of_le (Heap.lt_size e) (Nat.le_trans I.ok.bsz z)) (Nat.lt_irrefl _)
  · obtain ⟨_, h1', h2', _⟩ := f2 b hb
    rcases List.mem_cons.mp (I.stkSub b z) with e | e
    · exact h1' e
    · exact h2' e
  · obtain ⟨n, j, rfl, ej, es⟩ := capSt_get e2
    have ey : ys[n]? = some x := by
      have e1' : (ts ++ ys)[ts.length + n]? = some x := e1
      rw [List.getElem?_append_right (by omega)] at e1'
      simpa using e1'
    obtain ⟨j', ej', hN, hk, hr, c, hc⟩ := hcap.get ey
    rw [ej] at ej'
    cases ej'
    obtain ⟨u, ru, l⟩ := hlo j x v hN es (.inr (.inl hk))
    refine ⟨u, ru, .inr ⟨.inl hr, c, (hsame.at (List.mem_of_getElem? ey)).trans hc, ?_⟩⟩
    rcases l with ⟨k1, _⟩ | ⟨_, c', hc', ⟨o, ho, hd⟩⟩
    · rw [hk] at k1; cases k1
    · have := hsub.at hc
      rw [hc'] at this
      cases this
      exact ⟨o, old _ o ho, hd⟩
  · rcases hck.mem x c e with q | q
    · obtain ⟨v, o, ho, hd⟩ := I.cell x c (hsub.at q)
      exact ⟨v, o, old _ o ho, hd⟩
    · exact ⟨_, q.2⟩
  · rcases hck.mem x c e with q | q
    · exact I.freeC x c (hsub.at q)
    · exact I.hok.fresh (Nat.le_trans hC (Nat.le_of_succ_le q.1))
  · show (capSt ts.length js σ).length = (ts ++ ys).length
    unfold capSt
    rw [List.length_append, List.length_append, List.length_replicate, List.length_map, hcap.len]
theorem comp_endK {ks : List Str} {pins pins' : List (Addr × Obj)} {σ σ' : St} {H2 H3 : Hp} {s2 s4 : Shared} {fp : List Addr} {C D : Addr} {N : List Str} {h' : Heap} {its : List Value} {xs : List V} {n : Nat} (I2 : Inv X pins σ H2 s2) (f2 : ∀ b ∈ fp, FpOk X pins H2 b)
    (I4 : Inv (X.compK scope cl ks N s2 H2 fp C) pins' σ' H3 s4) (hC : s2.heap.objs.size ≤ C) (hD : s2.heap.objs.size ≤ D) (hDC : D ≠ C) (hs' : Heap.SameBut C s4.heap h') (rv : Vals xs its) (hz : xs.length ≤ sizeLine) (e4 : s4.heap.get? D = some { cls := .type "list", data := .seq its.toArray n }) (hn : H3 D = none) :
    Inv X pins σ (upd H3 D (.lst xs)) { s4 with heap := h' } := by
  have ext := hs'.extBut
  have neC : ∀ b o, s2.heap.get? b = some o → b ≠ C := fun b o e => Nat.ne_of_lt (Nat.lt_of_lt_of_le (Heap.lt_size e) hC)
  have neD : ∀ b o, s2.heap.get? b = some o → b ≠ D := fun b o e => Nat.ne_of_lt (Nat.lt_of_lt_of_le (Heap.lt_size e) hD)
  have hok : HOk X.prog X.w (upd H3 D (.lst xs)) h' := by
    have h1 : HOk X.prog X.w H3 h' := HOk.but (C := C) I4.hok I4.free fun b o hb e => ext b o hb e
    exact HOk.track h1 hn ⟨hz, its, n, rv, ext D _ hDC e4⟩
  have B : Un (frs X.stack) fp H2 H3 s2.heap s4.heap := I4.base
  have u : Un (frs X.stack) fp H2 (upd H3 D (.lst xs)) s2.heap h' := by
    refine ⟨fun b o e q hb hx => ext b o (neC b o e) (B.keep b o e q hb hx), fun b o e q hb hx => ?_, fun b o e q hx => ?_, fun b o e hx => ?_, fun b ys q => ?_, fun b o ys q => ?_, fun b ps q => ?_⟩
    · obtain ⟨sl, e1⟩ := B.slot b o e q hb hx
      exact ⟨sl, ext b _ (neC b o e) e1⟩
    · rw [upd_ne (neD b o e)]; exact B.free b o e q hx
    · obtain ⟨o', e1⟩ := B.there b o e hx
      exact ⟨o', ext b _ (neC b o e) e1⟩
    · have := B.tups b ys q
      rw [upd_ne (ne_of_none this hn)]; exact this
    · have := B.frzs b o ys q
      rw [upd_ne (ne_of_none this hn)]; exact this
    · obtain ⟨m1, e1⟩ := B.tbls b ps q
      exact ⟨m1, by rw [upd_ne (ne_of_none e1 hn)]; exact e1⟩
  have os : s4.os = s2.os := I4.os
  have gb := I4.bare
  obtain ⟨hh, gg, dd, tt, os'⟩ := s4
  obtain rfl : os' = s2.os := os
  have fin := I2.call (h' := h') (g' := gg) (d' := dd) (t' := tt) (ch := fp) u hok gb fun b hb => ⟨(f2 b hb).2.2.2.1, (f2 b hb).2.1, (f2 b hb).2.2.2.2.1, (f2 b hb).2.2.2.2.2⟩
  exact fin

theorem pe_compK (ts ys ks : List Str) (js : List Nat) (hc : X.calm = true) (hi : PI X tg iter wi) (hclos : closureFor scope X.env = pure cl) (hsub : subCl X.env cl) (hcap : capt X scope cl ys js) (hsame : ∀ C, sameL cl (cellsFrom (C + 1) scope.names cl) ys) (hnew : ∀ C, newL (cellsFrom (C + 1) scope.names cl) C ks)
    (hg : ∀ s H fp C, PG (X.compK scope (cellsFrom (C + 1) scope.names cl) ks (ts ++ ys) s H fp C) tg g) (ht : ∀ s H fp C, PIf (X.compK scope (cellsFrom (C + 1) scope.names cl) ks (ts ++ ys) s H fp C) ifs tc) (he : ∀ s H fp C, PE (X.compK scope (cellsFrom (C + 1) scope.names cl) ks (ts ++ ys) s H fp C) elt te)
    (hkind : scope.kind = .function := by rfl)
    (hnames : (scope.names.all fun y => y.2 != .local || scope.names.lookup y.1 == some .local) = true := by rfl)
    (hhas : ((relabel scope X.env).names.all fun p => (p.2 != .cell && p.2 != .free) || (cl.lookup p.1).isSome || ks.contains p.1) = true := by rfl)
    (hs : ∀ x, foldedSetIterable iter X.env x = pure x := by intro _; rfl) : PE X (.ListComp elt [⟨tg, iter, ifs, 0⟩] scope pos) (tComp wi ts.length js g tc te) := by
  intro pins s σ H Q I h
  have hnames' : ∀ y ∈ scope.names, y.2 = .local → scope.names.lookup y.1 = some .local := fun y hy z => by
    have := List.all_eq_true.mp hnames y hy
    rw [z] at this
    simpa using this
  have hhas' : ∀ C, ∀ x, ((relabel scope X.env).names.lookup x = some .cell ∨ (relabel scope X.env).names.lookup x = some .free) → ∃ c, (cellsFrom (C + 1) scope.names cl).lookup x = some c := fun C x hx => by
    have key : (cl.lookup x).isSome = true ∨ x ∈ ks := by
      rcases hx with hx | hx
      · have := List.all_eq_true.mp hhas _ (PySem.mem_of_lookup hx)
        simpa using this
      · have := List.all_eq_true.mp hhas _ (PySem.mem_of_lookup hx)
        simpa using this
    rcases key with k | k
    · obtain ⟨c, hc⟩ := Option.isSome_iff_exists.mp k
      exact cellsFrom_has _ _ _ _ ⟨c, hc⟩
    · obtain ⟨c, hc, _⟩ := (hnew C).at k
      exact ⟨c, hc⟩
  rw [eval_ListComp]
  refine wpAny_comprehension_free (use := none) rfl hs hclos hkind hnames' (thn (hi pins s σ H _ I h) fun v s1 h1 => thn h1 fun itv s2 h2 => ?_)
  obtain ⟨it, fp, tn, J, H2, e, I2, T, st2, f2, W, ⟨m0, w0⟩, turn⟩ := h2
  subst e
  have fl : ∀ b ∈ fp, b < s2.heap.objs.size := fun b hb => by
    obtain ⟨o, e, _⟩ := T.obj _ _ st2 b hb
    exact Heap.lt_size e
  refine wpAny_newObj_type (newEnvK ?_)
  dsimp only
  generalize hHH : s2.heap.push { cls := .type "list", dict := none, data := .seq ([] : List Value).toArray } = HH
  have hC : HH.objs.size = s2.heap.objs.size + 1 := by rw [← hHH, Heap.size_push]
  have hclt : ∀ n c, cl.lookup n = some c → c < HH.objs.size + 1 := fun n c e => by
    obtain ⟨v, q⟩ := I2.cell n c (hsub.at e)
    rw [hC]
    exact Nat.lt_of_lt_of_le q.lt (by omega)
  have keepsP : ∀ b o, HH.get? b = some o → (pushCells (HH.push { cls := .type "dict", data := .dict #[] }) scope.names).get? b = some o := fun b o e => pushCells_keeps _ _ b o (Heap.get?_push_of_some _ e)
  have hns₁ : (pushCells (HH.push { cls := .type "dict", data := .dict #[] }) scope.names).Ns HH.objs.size (fun _ => none) := (Heap.Ns.new HH (.type "dict")).keeps (pushCells_keeps _ _)
  have hck := cellsFrom_ck (cl := cl) scope.names (HH.push { cls := .type "dict", data := .dict #[] }) (HH.objs.size + 1) cl ⟨fun n c e => .inl e, fun x y c e _ hl => absurd (Nat.lt_of_lt_of_le (hclt x c e) hl) (Nat.lt_irrefl _)⟩ (by rw [Heap.size_push]; exact Nat.le_refl _) (fun n c e => hclt n c e)
  rw [Heap.size_push] at hck
  generalize hh₁ : pushCells (HH.push { cls := .type "dict", data := .dict #[] }) scope.names = h₁ at keepsP hns₁ hck
  have hDC : s2.heap.objs.size ≠ HH.objs.size := by rw [hC]; exact Nat.ne_of_lt (Nat.lt_succ_self _)
  have hCle : s2.heap.objs.size ≤ HH.objs.size := by rw [hC]; exact Nat.le_succ _
  have old : ∀ b o, s2.heap.get? b = some o → h₁.get? b = some o := fun b o e => keepsP b o (hHH ▸ Heap.get?_push_of_some _ e)
  have hacc : h₁.get? s2.heap.objs.size = some { cls := .type "list", data := .seq ([] : List Value).toArray } := keepsP _ _ (hHH ▸ Heap.get?_push_size _ rfl)
  have nofs : ∀ b, s2.heap.objs.size ≤ b → b ∉ frs X.stack := fun b hb z => by
    rcases List.mem_cons.mp (I2.stkSub b z) with e | e
    · exact absurd (Nat.lt_of_lt_of_le I2.lt (e ▸ hb)) (Nat.lt_irrefl _)
    · exact I2.nofs hb e
  have nocell : ∀ x c, (cellsFrom (HH.objs.size + 1) scope.names cl).lookup x = some c → c ≠ s2.heap.objs.size := fun x c e z => by
    rcases hck.mem x c e with q | q
    · obtain ⟨v, q⟩ := I2.cell x c (hsub.at q)
      rw [z] at q
      exact absurd q.lt (Nat.lt_irrefl _)
    · rw [z, hC] at q
      exact absurd q.1 (by omega)
  have I' : Inv (X.compK scope (cellsFrom (HH.objs.size + 1) scope.names cl) ks (ts ++ ys) s2 H2 fp HH.objs.size) [] (capSt ts.length js σ) H2 { s2 with heap := h₁, toks := s2.toks } :=
    inv_compK I2 hsub hcap (hsame _) (hnew _) hkind (hhas' _) f2 fl hCle hns₁ old hck
  have addPin : ∀ {σ' : St} {H' : Hp} {s' : Shared} {o : Obj}, Inv (X.compK scope (cellsFrom (HH.objs.size + 1) scope.names cl) ks (ts ++ ys) s2 H2 fp HH.objs.size) [] σ' H' s' → s'.heap.get? s2.heap.objs.size = some o → H' s2.heap.objs.size = none → (∀ v, o.data ≠ .cell v) →
      Inv (X.compK scope (cellsFrom (HH.objs.size + 1) scope.names cl) ks (ts ++ ys) s2 H2 fp HH.objs.size) [(s2.heap.objs.size, o)] σ' H' s' := fun {σ' H' s' o} J e n d => J.pins_of fun p hp => by
    have e' : p = (s2.heap.objs.size, o) := by simpa using hp
    subst e'
    exact ⟨e, n, hDC, nofs _ (Nat.le_refl _), d⟩
  have stat : ∀ {pins' : List (Addr × Obj)} {H' : Hp}, (∀ p ∈ pins', p.1 = s2.heap.objs.size) → (∀ b ∈ fp, H' b = none) → ∀ b ∈ fp, FpOk (X.compK scope (cellsFrom (HH.objs.size + 1) scope.names cl) ks (ts ++ ys) s2 H2 fp HH.objs.size) pins' H' b := fun {pins' H'} hp hn b hb =>
    ⟨hn b hb, Nat.ne_of_lt (Nat.lt_of_lt_of_le (fl b hb) hCle), I'.ok.exfs b hb, .inl hb, (I'.ok.exf b hb).2, fun p hq z => by
      have hq' : p ∈ pins' := by simpa using hq
      exact absurd (fl b hb) (by rw [← z, hp p hq']; exact Nat.lt_irrefl _)⟩
  have tn1 : tn 0 h₁ := T.keep _ _ _ st2 fun b _ o e => old b o e
  have loop : ∀ s₃ : Shared, s₃ = { s2 with heap := h₁, toks := s2.toks } →
      codeAny (model X.prog X.w) X.A (.compLoop (.ListComp elt [⟨tg, iter, ifs, 0⟩] scope pos) 0 (.ref it) (.ref s2.heap.objs.size) (compEnvC scope (cellsFrom (HH.objs.size + 1) scope.names cl) HH.objs.size X.env))
        (compPost (model X.prog X.w) X.A X.xe none (EP X pins σ Q) (.ref s2.heap.objs.size) HH.objs.size) s₃ := by
    rintro s₃ rfl
    refine compLoop_gen (fun n s' => ∃ i σ' xs H' its nn, Inv (X.compK scope (cellsFrom (HH.objs.size + 1) scope.names cl) ks (ts ++ ys) s2 H2 fp HH.objs.size) [] σ' H' s' ∧ Vals xs its ∧ xs.length ≤ sizeLine ∧ s'.heap.get? s2.heap.objs.size = some { cls := .type "list", data := .seq its.toArray nn } ∧ H' s2.heap.objs.size = none ∧
      tn i s'.heap ∧ (∀ b ∈ fp, H' b = none) ∧ W i n σ' xs H') ?_ m0 ⟨0, _, [], H2, [], 0, I', .nil, Nat.zero_le _, hacc, I2.hok.fresh (Nat.le_refl _), tn1, fun b hb => (f2 b hb).1, w0⟩
    rintro n s3 ⟨i, σ3, xs, H3, its, nn, I3, rv, hz3, ac3, nD3, st3, fr3, w3⟩
    have nd : ∀ v, ({ cls := .type "list", data := .seq its.toArray nn } : Obj).data ≠ .cell v := fun v z => by
      have z' : Data.seq its.toArray nn = Data.cell v := z
      cases z'
    have I3p := addPin I3 ac3 nD3 nd
    have pinD : ∀ p ∈ [(s2.heap.objs.size, ({ cls := .type "list", data := .seq its.toArray nn } : Obj))], p.1 = s2.heap.objs.size := fun p hp => by
      rw [List.mem_singleton] at hp
      rw [hp]
    rcases turn i n σ3 xs H3 w3 with ⟨stop, qn⟩ | ⟨go, hz, N, hN, step⟩
    · refine thn (T.done (X.compK scope (cellsFrom (HH.objs.size + 1) scope.names cl) ks (ts ++ ys) s2 H2 fp HH.objs.size) rfl rfl rfl hc i _ s3 σ3 H3 (fun _ _ => False) I3p (stat pinD fr3) st3 stop) fun r s4 ⟨hr, I4⟩ => ?_
      subst hr
      obtain ⟨m, hn, _⟩ := I4.loc
      have ac4 := (I4.pin _ (List.mem_append_right _ (List.mem_singleton.mpr rfl))).1
      exact ⟨m, hn, fun h' hs' => ⟨.ref s2.heap.objs.size, _, comp_endK I2 f2 I4 hCle (Nat.le_refl _) hDC hs' rv hz3 ac4 nD3, rfl, qn _ nD3⟩⟩
    · refine thn (T.item (X.compK scope (cellsFrom (HH.objs.size + 1) scope.names cl) ks (ts ++ ys) s2 H2 fp HH.objs.size) rfl rfl rfl hc i _ s3 σ3 H3 (fun _ _ => False) I3p (stat pinD fr3) st3 go) fun r s4 ⟨u, hr, h4⟩ => ?_
      subst hr
      refine thn h4 fun _ s5 ⟨x, H5, I5, r5, y5, st5, fr5⟩ => ?_
      have I5' := I5.pinned (stat pinD fr5) (T.obj _ _ st5)
      refine thn (hg _ _ _ _ _ s5 σ3 H5 x u _ I5' r5 (step x H5 y5)) fun _ s6 ⟨σ6, H6, I6, q6⟩ => ?_
      refine thn (ht _ _ _ _ _ s6 σ6 H6 _ I6 q6) fun b s7 ⟨H7, I7, q7⟩ => ?_
      -- what stands of the pins
      have facts : ∀ {σ' : St} {H' : Hp} {s' : Shared}, Inv (X.compK scope (cellsFrom (HH.objs.size + 1) scope.names cl) ks (ts ++ ys) s2 H2 fp HH.objs.size) ([(s2.heap.objs.size, ({ cls := .type "list", data := .seq its.toArray nn } : Obj))] ++ pinsAt fp s5.heap) σ' H' s' →
          s'.heap.get? s2.heap.objs.size = some { cls := .type "list", data := .seq its.toArray nn } ∧ H' s2.heap.objs.size = none ∧ tn (i + 1) s'.heap ∧ (∀ b ∈ fp, H' b = none) := fun {σ' H' s'} J => by
        have p1 := J.pin (s2.heap.objs.size, ({ cls := .type "list", data := .seq its.toArray nn } : Obj)) (by simp)
        refine ⟨p1.1, p1.2.1, T.keep _ _ _ st5 fun b hb o e => (J.pin (b, o) (List.mem_append_right _ (List.mem_append_right _ (mem_pinsAt hb e)))).1, fun b hb => ?_⟩
        obtain ⟨o, e, d⟩ := T.obj _ _ st5 b hb
        exact (J.pin (b, o) (List.mem_append_right _ (List.mem_append_right _ (mem_pinsAt hb e)))).2.1
      have bare : ∀ {σ' : St} {H' : Hp} {s' : Shared}, Inv (X.compK scope (cellsFrom (HH.objs.size + 1) scope.names cl) ks (ts ++ ys) s2 H2 fp HH.objs.size) ([(s2.heap.objs.size, ({ cls := .type "list", data := .seq its.toArray nn } : Obj))] ++ pinsAt fp s5.heap) σ' H' s' →
          Inv (X.compK scope (cellsFrom (HH.objs.size + 1) scope.names cl) ks (ts ++ ys) s2 H2 fp HH.objs.size) [] σ' H' s' := fun J => J.pins_of fun p hp => absurd hp (by simp)
      cases b with
      | false =>
        have q7' : N σ6 xs H7 := by simpa using q7
        obtain ⟨m', hm, w7⟩ := hN _ _ _ q7'
        obtain ⟨a1, a2, a3, a4⟩ := facts I7
        show ∃ m, m < n ∧ _
        exact ⟨m', hm, i + 1, σ6, xs, H7, its, nn, bare I7, rv, hz3, a1, a2, a3, a4, w7⟩
      | true =>
        have q7' : te σ6 H7 fun v H5 => N σ6 (xs ++ [v]) H5 := by
          rw [if_pos rfl] at q7
          exact q7
        show wpAny _ _ (eval elt _) _ _ s7
        refine thn (he _ _ _ _ _ s7 σ6 H7 _ I7 q7') fun xv s8 ⟨v, H8, I8, r8, n8⟩ => ?_
        obtain ⟨m', hm, w8⟩ := hN _ _ _ n8
        obtain ⟨a1, a2, a3, a4⟩ := facts I8
        have hl := rv.length
        refine call_meets F.slot_list_append ⟨_, a1, rfl⟩ F.entry_list_append (F.args_list_append_2 _ _) (PySem.list_append s2.heap.objs.size its.toArray nn xv (by rw [List.size_toArray]; omega)) ⟨a1, ?_⟩
        obtain ⟨n9, q9⟩ : ∃ n9, (s8.heap.update s2.heap.objs.size (Obj.mapSeq fun a => a.push xv)).get? s2.heap.objs.size = some { cls := .type "list", data := .seq (its ++ [xv]).toArray n9 } :=
          ⟨_, by rw [show (its ++ [xv]).toArray = its.toArray.push xv by simp]; exact PySem.IsL.update a1 (fun a => a.push xv)⟩
        have I9 : Inv (X.compK scope (cellsFrom (HH.objs.size + 1) scope.names cl) ks (ts ++ ys) s2 H2 fp HH.objs.size) [] σ6 H8 { s8 with heap := s8.heap.update s2.heap.objs.size (Obj.mapSeq fun a => a.push xv), toks := s8.toks } :=
          (bare I8).turned (it := s2.heap.objs.size) (fun b o hb e => (Heap.get?_update_other s8.heap _ (Ne.symm hb)).trans e) a2 hDC (.inr (Nat.le_refl _)) nocell fun p hp => absurd (show p ∈ ([] : List (Addr × Obj)) from hp) (by simp)
        refine ⟨m', hm, i + 1, σ6, xs ++ [v], H8, its ++ [xv], n9, I9, rv.append (.cons r8 .nil), ?_, q9, a2, ?_, a4, w8⟩
        · rw [List.length_append, List.length_singleton]; omega
        · exact T.keep _ _ _ a3 fun b hb o e => (Heap.get?_update_other s8.heap _ (Ne.symm (Nat.ne_of_lt (fl b hb)))).trans e
  exact codeAny_compStart_list (loop _ rfl) (T.self _ 0 _ _ _ tn1 (loop _ rfl))
end
end L2

/-! del xs[i]; set(xs) of a list of ints and its len -/
namespace L2
open PySem PySem.Spec PyProof.Rows
section
variable {X : Cx}
/-- del o[i] of a list -/
def tDel (to ti : TE) : TS := fun D σ H => to σ H fun o H1 => ti σ H1 fun j H2 => ∃ (l : Addr) (xs : List V) (k : Nat), o = .ref l ∧ j = .int (k : Int) ∧ H2 l = some (.lst xs) ∧ k < xs.length ∧ D.nx σ (upd H2 l (.lst (xs.eraseIdx k)))
theorem ps_del {o i : Expr} {to ti : TE} {pos pos2 : Pos} (ho : PE X o to) (hi : PE X i ti) : PS X (.Delete [.Subscript o i pos] pos2) (tDel to ti) := by
  intro pins s σ H D I h
  refine wpAny_Delete (wpAny_deleteEach_cons (wpAny_delete_Subscript (thn (ho pins s σ H _ I h) fun ov s1 ⟨x, H1, I1, r1, q1⟩ => thn (hi pins s1 σ H1 _ I1 q1) fun iv s2 ⟨y, H2, I2, r2, q2⟩ => ?_)))
  obtain ⟨l, xs, k, rfl, rfl, hH, hk, q⟩ := q2
  cases r1
  obtain ⟨t, rfl⟩ := r2
  obtain ⟨z, _⟩ := I2.lstM hH
  have hz : xs.length < 2 ^ 63 := by rw [sizeLine_eq] at z; omega
  refine del_list I2 hH (by omega) (by omega) (k := k) ?_ fun s' I' => ?_
  · unfold seqIndex?
    simp
    omega
  · exact wpAny_deleteEach_nil ⟨σ, _, I', q⟩
/-- a set of n things -/
def SetN (a : Addr) (n : Nat) : HO := .ext fun h => ∃ o es ep t, h.get? a = some o ∧ o.ExactSet ∧ o.data = .set es ep t ∧ t.fits es.size = true ∧ es.size = n
/-- how many unlike ones -/
def unlike (ns : List Int) : Nat := (firstMet (fun i => ns.getD i 0) ns.length).length
end
end L2
namespace L2
open PySem
theorem Room.units1 {k : Nat} {A : Around} (r : Room k A) : A.units + 1 < cLine := by
  have := r.units
  omega
end L2
namespace L2
open PySem PySem.Spec PyProof.Rows
theorem call_lenK {X : Cx} {K : PySem.W.Frag} (h : X.K = K) : CallR X (.builtin "len") (fun xs H Q => ∃ p ys, xs = [.ref p] ∧ (SqL K H p ys ∨ SqT K H p ys) ∧ Q (.int ys.length) H) := h ▸ call_len_seq
theorem pi_listK {X : Cx} {tg l : Expr} {tl : TE} {K : PySem.W.Frag} (h : X.K = K) (hl : PE X l tl) : PI X tg l (iList K tl) := h ▸ pi_list hl
end L2

/-! zip of two lists or of two tuples -/
namespace L2
open PySem PySem.Spec PyProof.Rows
/-- b: tuples; else lists -/
def Sq2 (K : PySem.W.Frag) : Bool → Hp → Addr → List V → Prop
  | false, H, a, xs => SqL K H a xs
  | true, H, a, xs => SqT K H a xs
def IsIt2 : Bool → Heap → Addr → Addr → Nat → Prop
  | false, h, j, a, i => h.IsListIter j a i
  | true, h, j, a, i => h.IsTupleIter j a i
def IsSq2 : Bool → Heap → Addr → Array Value → Prop
  | false, h, a, xs => h.IsList a xs
  | true, h, a, xs => h.IsTuple a xs
theorem IsIt2.keep {b : Bool} {h g : Heap} {j a : Addr} {i : Nat} (x : IsIt2 b h j a i) (k : ∀ o, h.get? j = some o → g.get? j = some o) : IsIt2 b g j a i := by
  cases b <;> (obtain ⟨o, e, r⟩ := x; exact ⟨o, k o e, r⟩)
theorem IsSq2.keep {b : Bool} {h g : Heap} {a : Addr} {xs : Array Value} (x : IsSq2 b h a xs) (k : ∀ o, h.get? a = some o → g.get? a = some o) : IsSq2 b g a xs := by
  cases b <;> (obtain ⟨o, e, r⟩ := x; exact ⟨o, k o e, r⟩)
theorem IsIt2.obj {b : Bool} {h : Heap} {j a : Addr} {i : Nat} (x : IsIt2 b h j a i) : ∃ o, h.get? j = some o ∧ ∀ v, o.data ≠ .cell v := by
  cases b <;> (obtain ⟨o, e, c, d⟩ := x; exact ⟨o, e, fun v z => by rw [d] at z; cases z⟩)
theorem IsSq2.lt {b : Bool} {h : Heap} {a : Addr} {xs : Array Value} (x : IsSq2 b h a xs) : a < h.objs.size := by
  cases b <;> (obtain ⟨o, e, _⟩ := x; exact Heap.lt_size e)
section
variable {P : Program} {w : World} {A : Around} {E : Value → Shared → Prop} {s : Shared}
theorem tupNext {j a : Addr} {n : Nat} {vs : Array Value} {v : Value} {Q : Value → Shared → Prop} (hj : s.heap.IsTupleIter j a n) (ha : s.heap.IsTuple a vs) (hv : vs[n]? = some v)
    (q : ∀ g, g.IsTupleIter j a (n + 1) → Heap.SameBut j s.heap g → Q v { s with heap := g }) : wpAny (model P w) A (Builtin.SmallTypes.nextOf (.ref j)) Q E s := by
  obtain ⟨oj, ej, cj, dj⟩ := id hj
  obtain ⟨oa, ea, ca, na, da⟩ := ha
  unfold Builtin.SmallTypes.nextOf
  refine wpAny_bind (wpAny_callSpecial?_slot (name := Str.ofString "__next__") hj.typeIs F.slot_tuple_iterator_next (wpAny_call_entry F.slot_tuple_iterator_next hj.typeIs F.entry_tuple_iterator_next ?_ (F.args_tuple_iterator_next_1 _)))
  show wpAny _ _ (field (.ref j) 0 >>= _) _ _ s
  refine wpAny_bind (wpAny_field ej dj (x := .ref a) rfl ?_)
  show wpAny _ _ (if (Value.ref a == Value.none) = true then _ else _) _ _ s
  rw [if_neg (show ¬ ((Value.ref a == Value.none) = true) from Bool.false_ne_true)]
  show wpAny _ _ (field (.ref j) 1 >>= _) _ _ s
  refine wpAny_bind (wpAny_field ej dj (x := .int n 0) rfl ?_)
  show wpAny _ _ (seqItems? (.ref a) >>= _) _ _ s
  refine wpAny_bind (wpAny_seqItems ea da ?_)
  simp only [Int.toNat_natCast, hv]
  refine wpAny_bind (wpAny_setField ej dj (by simp) (wpAny_pure ⟨v, rfl, wpAny_pure (q _ ?_ (Heap.SameBut.update ..))⟩))
  exact ⟨_, Heap.get?_update_self _ ej (Obj.isFreed_of_fields (Obj.data_mapFields dj _)), (Obj.cls_mapFields ..).trans cj, by rw [Obj.data_mapFields dj]; simp [rawInt]⟩
theorem tupEnd {j a : Addr} {n : Nat} {vs : Array Value} {Q : Value → Shared → Prop} (hh : A.handled = none) (hj : s.heap.IsTupleIter j a n) (ha : s.heap.IsTuple a vs) (hv : vs[n]? = none)
    (hE : ∀ g x, Heap.ExtBut j s.heap g → (∃ o, g.get? x = some o ∧ o.cls = .type "StopIteration") → E (.ref x) { s with heap := g }) : wpAny (model P w) A (Builtin.SmallTypes.nextOf (.ref j)) Q E s := by
  obtain ⟨oj, ej, cj, dj⟩ := id hj
  obtain ⟨oa, ea, ca, na, da⟩ := ha
  unfold Builtin.SmallTypes.nextOf
  refine wpAny_bind (wpAny_callSpecial?_slot (name := Str.ofString "__next__") hj.typeIs F.slot_tuple_iterator_next (wpAny_call_entry F.slot_tuple_iterator_next hj.typeIs F.entry_tuple_iterator_next ?_ (F.args_tuple_iterator_next_1 _)))
  show wpAny _ _ (field (.ref j) 0 >>= _) _ _ s
  refine wpAny_bind (wpAny_field ej dj (x := .ref a) rfl ?_)
  show wpAny _ _ (if (Value.ref a == Value.none) = true then _ else _) _ _ s
  rw [if_neg (show ¬ ((Value.ref a == Value.none) = true) from Bool.false_ne_true)]
  show wpAny _ _ (field (.ref j) 1 >>= _) _ _ s
  refine wpAny_bind (wpAny_field ej dj (x := .int n 0) rfl ?_)
  show wpAny _ _ (seqItems? (.ref a) >>= _) _ _ s
  refine wpAny_bind (wpAny_seqItems ea da ?_)
  simp only [Int.toNat_natCast, hv]
  refine wpAny_bind (wpAny_rule (wpAny_bind (wpAny_setField ej dj (by simp) ?_)))
  show wpAny _ _ (newExc (.type "StopIteration") [] >>= fun x => raiseNew x) _ _ _
  refine wpAny_bind ?_
  simp only [newExc, newTuple]
  refine wpAny_bind (wpAny_newObj_type ?_ (by size_fits))
  refine wpAny_bind (m := firstArgMember _ _) (wpAny_of_eq (a := Value.none) (by first | rfl | (simp only [firstArgMember]; rfl)) ?_)
  refine wpAny_newObj_type ?_ (by size_fits)
  simp only [raiseNew]
  refine wpAny_bind (wpAny_handled ?_)
  first | rw [show A.in1.handled = none from hh] | rw [hh]
  exact wpAny_bind (wpAny_pure (wpAny_throw (hE _ _ (((Heap.SameBut.update ..).extBut.push _).push _) ⟨_, Heap.get?_push_size _ rfl, rfl⟩)))
theorem sqNext {b : Bool} {j a : Addr} {n : Nat} {vs : Array Value} {v : Value} {Q : Value → Shared → Prop} (hj : IsIt2 b s.heap j a n) (ha : IsSq2 b s.heap a vs) (hv : vs[n]? = some v)
    (q : ∀ g, IsIt2 b g j a (n + 1) → Heap.SameBut j s.heap g → Q v { s with heap := g }) : wpAny (model P w) A (Builtin.SmallTypes.nextOf (.ref j)) Q E s := by
  cases b
  · exact wpAny_nextOf_list_item hj ha hv q
  · exact tupNext hj ha hv q
theorem sqEnd {b : Bool} {j a : Addr} {n : Nat} {vs : Array Value} {Q : Value → Shared → Prop} (hh : A.handled = none) (hj : IsIt2 b s.heap j a n) (ha : IsSq2 b s.heap a vs) (hv : vs[n]? = none)
    (hE : ∀ g x, Heap.ExtBut j s.heap g → (∃ o, g.get? x = some o ∧ o.cls = .type "StopIteration") → E (.ref x) { s with heap := g }) : wpAny (model P w) A (Builtin.SmallTypes.nextOf (.ref j)) Q E s := by
  cases b
  · exact wpAny_nextOf_list_end hh hj ha hv hE
  · exact tupEnd hh hj ha hv hE
/-- the zip's own objects: itself, its iterators' tuple, the tuple it owns, the two iterators -/
structure Zp (b : Bool) (h : Heap) (z ti to j1 j2 a1 a2 : Addr) (n : Nat) : Prop where
  z : IsZip h z ti to .none
  ti : IsPair h ti (.ref j1) (.ref j2)
  to : ∃ p q, IsPair h to p q
  i1 : IsIt2 b h j1 a1 n
  i2 : IsIt2 b h j2 a2 n
theorem zpItem {b : Bool} {z ti to j1 j2 a1 a2 : Addr} {n : Nat} {us vs : Array Value} {u v : Value} {Q : Option Value → Shared → Prop} (D : ZipApart z ti to j1 j2 a1 a2) (hz : Zp b s.heap z ti to j1 j2 a1 a2 n)
    (g1 : IsSq2 b s.heap a1 us) (g2 : IsSq2 b s.heap a2 vs) (hu : us[n]? = some u) (hv : vs[n]? = some v)
    (k : ∀ g, IsZip g z ti to (rawInt s.heap.objs.size) → IsPair g to u v → IsIt2 b g j1 a1 (n + 1) → IsIt2 b g j2 a2 (n + 1) → IsPair g s.heap.objs.size u v →
      (∀ c o, c ∉ [z, to, j1, j2] → s.heap.get? c = some o → g.get? c = some o) → Q (some (.ref s.heap.objs.size)) { s with heap := g }) : wpAny (model P w) A (pyNext (.ref z)) Q E s := by
  obtain ⟨hz, hi, ⟨p, q, ho⟩, h1, h2⟩ := hz
  have ty : s.TypeIs (.ref z) "zip" := ⟨_, hz, rfl⟩
  unfold pyNext
  refine wpAny_bind (wpAny_attempt (wpAny_callSpecial?_slot (name := Str.ofString "__next__") ty F.slot_zip_next (wpAny_call_entry F.slot_zip_next ty F.entry_zip_next ?_ (F.args_zip_next_1 _))))
  show wpAny _ _ (field (.ref z) 2 >>= fun _ => _) _ _ _
  refine wpAny_bind (wpAny_field hz rfl (x := .bool false) rfl ?_)
  show wpAny _ _ (field (.ref z) 3 >>= fun _ => _) _ _ _
  refine wpAny_bind (wpAny_field hz rfl (x := .ref ti) rfl ?_)
  refine wpAny_bind (wpAny_seqItems hi rfl ?_)
  show wpAny _ _ (Builtin.SmallTypes.ownedTupleIsFree (.ref z) >>= fun _ => _) _ _ _
  refine wpAny_bind ?_
  unfold Builtin.SmallTypes.ownedTupleIsFree
  refine wpAny_bind (wpAny_field hz rfl (x := Value.none) rfl (wpAny_pure ?_))
  simp only [if_true]
  refine wpAny_bind (wpAny_rule ?_)
  refine wpAny_bind (wpAny_field hz rfl (x := .ref to) rfl ?_)
  refine wpAny_bind (wpAny_setField_rec hz (by simp) fun e1 z1 s1 => ?_)
  replace z1 : IsZip e1 z ti to .ellipsis := z1
  refine wpAny_bind ?_
  simp only [List.zipIdx_cons, List.zipIdx_nil, List.forIn_cons, List.forIn_nil]
  have x1 := s1.extBut
  refine wpAny_bind (wpAny_bind (wpAny_onRaise ?_))
  show wpAny _ _ (Builtin.SmallTypes.nextOf (.ref j1) >>= fun _ => _) _ _ _
  refine wpAny_bind (sqNext (h1.keep fun o e => x1 _ o D.i1z e) (g1.keep fun o e => x1 _ o D.l1z e) hu fun e2 m2 s2 => wpAny_pure ?_)
  have x2 := s2.extBut
  have o2 : IsPair e2 to p q := x2 _ _ D.TOi1 (x1 _ _ D.TOz ho)
  refine wpAny_bind (wpAny_seqItems o2 rfl ?_)
  refine wpAny_bind (wpAny_updateSeq_pair o2 fun e3 o3 s3 => ?_)
  replace o3 : IsPair e3 to u q := o3
  have x3 := s3.extBut
  refine wpAny_bind (wpAny_letGo (wpAny_pure ?_))
  refine wpAny_bind (wpAny_bind (wpAny_onRaise ?_))
  show wpAny _ _ (Builtin.SmallTypes.nextOf (.ref j2) >>= fun _ => _) _ _ _
  refine wpAny_bind (sqNext (h2.keep fun o e => x3 _ o D.TOi2.symm (x2 _ o D.i12.symm (x1 _ o D.i2z e))) (g2.keep fun o e => x3 _ o D.l2TO (x2 _ o D.l2i1 (x1 _ o D.l2z e))) hv fun e4 m4 s4 => wpAny_pure ?_)
  have x4 := s4.extBut
  have o4 : IsPair e4 to u q := x4 _ _ D.TOi2 o3
  refine wpAny_bind (wpAny_seqItems o4 rfl ?_)
  refine wpAny_bind (wpAny_updateSeq_pair o4 fun e5 o5 s5 => ?_)
  replace o5 : IsPair e5 to u v := o5
  have x5 := s5.extBut
  refine wpAny_bind (wpAny_letGo (wpAny_pure (wpAny_pure ?_)))
  refine wpAny_bind (wpAny_seqItems o5 rfl ?_)
  refine wpAny_bind (wpAny_newTuple ?_)
  have sz : e5.objs.size = s.heap.objs.size := by rw [s5.1, s4.1, s3.1, s2.1, s1.1]
  have z5 : IsZip e5 z ti to .ellipsis := x5 _ _ D.TOz.symm (x4 _ _ D.i2z.symm (x3 _ _ D.TOz.symm (x2 _ _ D.i1z.symm z1)))
  have k5 : ∀ c o, c ∉ [z, to, j1, j2] → s.heap.get? c = some o → e5.get? c = some o := fun c o hc e => by
    simp only [List.mem_cons, List.not_mem_nil, or_false, not_or] at hc
    exact x5 _ _ hc.2.1 (x4 _ _ hc.2.2.2 (x3 _ _ hc.2.1 (x2 _ _ hc.2.2.1 (x1 _ _ hc.1 e))))
  have m25 : IsIt2 b e5 j1 a1 (n + 1) := m2.keep fun o e => x5 _ o D.TOi1.symm (x4 _ o D.i12 (x3 _ o D.TOi1.symm e))
  have m45 : IsIt2 b e5 j2 a2 (n + 1) := m4.keep fun o e => x5 _ o D.TOi2.symm e
  have lz : z < e5.objs.size := Heap.lt_size z5
  show wpAny _ _ (Builtin.SmallTypes.ownedTupleHandOut (.ref z) (.ref e5.objs.size) >>= fun _ => _) _ _ _
  refine wpAny_bind ?_
  unfold Builtin.SmallTypes.ownedTupleHandOut
  have z6 : IsZip (e5.push { cls := .type "tuple", data := .seq #[u, v] }) z ti to .ellipsis := Heap.get?_push_of_some _ z5
  refine wpAny_bind (wpAny_setField_rec z6 (by simp) fun e7 z7 s7 => ?_)
  replace z7 : IsZip e7 z ti to (rawInt e5.objs.size) := z7
  refine wpAny_setField_rec z7 (by simp) fun e8 z8 s8 => ?_
  replace z8 : IsZip e8 z ti to (rawInt e5.objs.size) := z8
  have up : ∀ c o, c ≠ z → e5.get? c = some o → e8.get? c = some o := fun c o c1 e => s8.extBut _ _ c1 (s7.extBut _ _ c1 (Heap.get?_push_of_some _ e))
  have t8 : IsPair e8 e5.objs.size u v := s8.extBut _ _ (Nat.ne_of_gt lz) (s7.extBut _ _ (Nat.ne_of_gt lz) (Heap.get?_push_size _ rfl))
  rw [sz] at z8 t8
  refine wpAny_pure ⟨_, rfl, wpAny_pure ?_⟩
  rw [sz]
  exact k e8 z8 (up _ _ D.TOz o5) (m25.keep fun o e => up _ o D.i1z e) (m45.keep fun o e => up _ o D.i2z e) t8 fun c o hc e => up c o (fun x => hc (by simp [x])) (k5 c o hc e)
theorem zpEnd {b : Bool} {z ti to j1 j2 a1 a2 : Addr} {n : Nat} {us vs : Array Value} {Q : Option Value → Shared → Prop} (hh : A.handled = none) (D : ZipApart z ti to j1 j2 a1 a2) (hz : Zp b s.heap z ti to j1 j2 a1 a2 n)
    (g1 : IsSq2 b s.heap a1 us) (g2 : IsSq2 b s.heap a2 vs) (hend : us[n]? = none ∨ vs[n]? = none)
    (k : ∀ g, (∀ c o, c ∉ [z, to, j1, j2] → s.heap.get? c = some o → g.get? c = some o) → Q none { s with heap := g }) : wpAny (model P w) A (pyNext (.ref z)) Q E s := by
  obtain ⟨hz, hi, ⟨p, q, ho⟩, h1, h2⟩ := hz
  have ty : s.TypeIs (.ref z) "zip" := ⟨_, hz, rfl⟩
  have nx : ∀ c, c ∉ [z, to, j1, j2] → c ≠ z ∧ c ≠ to ∧ c ≠ j1 ∧ c ≠ j2 := fun c hc => by simpa only [List.mem_cons, List.not_mem_nil, or_false, not_or] using hc
  unfold pyNext
  refine wpAny_bind (wpAny_attempt (wpAny_callSpecial?_slot (name := Str.ofString "__next__") ty F.slot_zip_next (wpAny_call_entry F.slot_zip_next ty F.entry_zip_next ?_ (F.args_zip_next_1 _))))
  show wpAny _ _ (field (.ref z) 2 >>= fun _ => _) _ _ _
  refine wpAny_bind (wpAny_field hz rfl (x := .bool false) rfl ?_)
  show wpAny _ _ (field (.ref z) 3 >>= fun _ => _) _ _ _
  refine wpAny_bind (wpAny_field hz rfl (x := .ref ti) rfl ?_)
  refine wpAny_bind (wpAny_seqItems hi rfl ?_)
  show wpAny _ _ (Builtin.SmallTypes.ownedTupleIsFree (.ref z) >>= fun _ => _) _ _ _
  refine wpAny_bind ?_
  unfold Builtin.SmallTypes.ownedTupleIsFree
  refine wpAny_bind (wpAny_field hz rfl (x := Value.none) rfl (wpAny_pure ?_))
  simp only [if_true]
  refine wpAny_bind (wpAny_rule ?_)
  refine wpAny_bind (wpAny_field hz rfl (x := .ref to) rfl ?_)
  refine wpAny_bind (wpAny_setField_rec hz (by simp) fun e1 z1 s1 => ?_)
  replace z1 : IsZip e1 z ti to .ellipsis := z1
  refine wpAny_bind ?_
  simp only [List.zipIdx_cons, List.zipIdx_nil, List.forIn_cons, List.forIn_nil]
  have x1 := s1.extBut
  refine wpAny_bind (wpAny_bind (wpAny_onRaise ?_))
  show wpAny _ _ (Builtin.SmallTypes.nextOf (.ref j1) >>= fun _ => _) _ _ _
  cases hu : us[n]? with
  | none =>
    refine wpAny_bind (sqEnd hh (h1.keep fun o e => x1 _ o D.i1z e) (g1.keep fun o e => x1 _ o D.l1z e) hu fun e2 x s2 hx => ?_)
    obtain ⟨ox, ex, cx⟩ := hx
    have z2 : IsZip e2 z ti to .ellipsis := s2 _ _ D.i1z.symm z1
    have nz : x ≠ z := fun y => by subst y; rw [z2] at ex; cases ex; simp at cx
    refine wpAny_setField_rec z2 (by simp) fun e3 _ s3 => ?_
    refine wpAny_bind (wpAny_isInstance (T := "StopIteration") (b := true) ⟨ox, s3.extBut _ _ nz ex, cx⟩ isSubtype_stop ?_)
    refine wpAny_pure (k _ fun c o hc e => ?_)
    exact s3.extBut _ _ (nx c hc).1 (s2 _ _ (nx c hc).2.2.1 (x1 _ _ (nx c hc).1 e))
  | some u =>
    have hv : vs[n]? = none := by
      rcases hend with y | y
      · rw [hu] at y; cases y
      · exact y
    refine wpAny_bind (sqNext (h1.keep fun o e => x1 _ o D.i1z e) (g1.keep fun o e => x1 _ o D.l1z e) hu fun e2 m2 s2 => wpAny_pure ?_)
    have x2 := s2.extBut
    have o2 : IsPair e2 to p q := x2 _ _ D.TOi1 (x1 _ _ D.TOz ho)
    refine wpAny_bind (wpAny_seqItems o2 rfl ?_)
    refine wpAny_bind (wpAny_updateSeq_pair o2 fun e3 o3 s3 => ?_)
    have x3 := s3.extBut
    refine wpAny_bind (wpAny_letGo (wpAny_pure ?_))
    refine wpAny_bind (wpAny_bind (wpAny_onRaise ?_))
    show wpAny _ _ (Builtin.SmallTypes.nextOf (.ref j2) >>= fun _ => _) _ _ _
    refine wpAny_bind (sqEnd hh (h2.keep fun o e => x3 _ o D.TOi2.symm (x2 _ o D.i12.symm (x1 _ o D.i2z e))) (g2.keep fun o e => x3 _ o D.l2TO (x2 _ o D.l2i1 (x1 _ o D.l2z e))) hv fun e4 x s4 hx => ?_)
    obtain ⟨ox, ex, cx⟩ := hx
    have z4 : IsZip e4 z ti to .ellipsis := s4 _ _ D.i2z.symm (x3 _ _ D.TOz.symm (x2 _ _ D.i1z.symm z1))
    have nz : x ≠ z := fun y => by subst y; rw [z4] at ex; cases ex; simp at cx
    refine wpAny_setField_rec z4 (by simp) fun e5 _ s5 => ?_
    refine wpAny_bind (wpAny_isInstance (T := "StopIteration") (b := true) ⟨ox, s5.extBut _ _ nz ex, cx⟩ isSubtype_stop ?_)
    refine wpAny_pure (k _ fun c o hc e => ?_)
    exact s5.extBut _ _ (nx c hc).1 (s4 _ _ (nx c hc).2.2.2 (x3 _ _ (nx c hc).2.1 (x2 _ _ (nx c hc).2.2.1 (x1 _ _ (nx c hc).1 e))))
end
abbrev itN (b : Bool) : String := if b then "tuple_iterator" else "list_iterator"
abbrev zp1 (b : Bool) (h : Heap) (a : Addr) : Heap := h.push { cls := .type (itN b), data := .fields #[.ref a, .int 0 0] }
abbrev zp3 (b : Bool) (h : Heap) (a1 a2 : Addr) : Heap := (zp1 b (zp1 b h a1) a2).push { cls := .type "tuple", data := .seq #[.ref h.objs.size, .ref (zp1 b h a1).objs.size] }
abbrev zp4 (b : Bool) (h : Heap) (a1 a2 : Addr) : Heap := (zp3 b h a1 a2).push { cls := .type "tuple", data := .seq #[.none, .none] }
abbrev zp5 (b : Bool) (h : Heap) (a1 a2 : Addr) : Heap := (zp4 b h a1 a2).push { cls := .type "zip", data := .fields #[.none, .bool false, .bool false, .ref (zp1 b (zp1 b h a1) a2).objs.size, .ref (zp3 b h a1 a2).objs.size] }
theorem zpMeets (b : Bool) (a1 a2 : Addr) (us vs : Array Value) : Meets (Builtin.«zip.__new__» ⟨[.type "zip", .ref a1, .ref a2], []⟩) (fun _ R s => IsSq2 b s.heap a1 us ∧ IsSq2 b s.heap a2 vs ∧ R (.ok (.ret (.ref (zp4 b s.heap a1 a2).objs.size))) { s with heap := zp5 b s.heap a1 a2 }) :=
  .of_wp fun prog w A R s h => by
    obtain ⟨hp, g, d, tk, os⟩ := s
    obtain ⟨k1, k2, h⟩ := h
    have hsub := sub_zip
    cases b
    · have y1 : Heap.IsList (Shared.heap ⟨hp, g, d, tk, os⟩) a1 us := k1
      have y2 : Heap.IsList (Shared.heap ⟨hp.push { cls := .type "list_iterator", data := .fields #[.ref a1, .int 0 0] }, g, d, tk, os⟩) a2 vs := Heap.IsList.push k2 _
      wp_walk using wpAny_pyIter_list y1, wpAny_pyIter_list y2
      exact ⟨_, rfl, h⟩
    · have y1 : Heap.IsTuple (Shared.heap ⟨hp, g, d, tk, os⟩) a1 us := k1
      have y2 : Heap.IsTuple (Shared.heap ⟨hp.push { cls := .type "tuple_iterator", data := .fields #[.ref a1, .int 0 0] }, g, d, tk, os⟩) a2 vs := Heap.IsTuple.push k2 _
      wp_walk using wpAny_pyIter_tuple y1, wpAny_pyIter_tuple y2
      exact ⟨_, rfl, h⟩
section
variable {P : Program} {w : World} {A : Around} {E : Value → Shared → Prop} {s : Shared}
theorem zpCall {b : Bool} {a1 a2 : Addr} {us vs : Array Value} {Q : Value → Shared → Prop} (k1 : IsSq2 b s.heap a1 us) (k2 : IsSq2 b s.heap a2 vs)
    (h : ∀ g, Zp b g (s.heap.objs.size + 4) (s.heap.objs.size + 2) (s.heap.objs.size + 3) s.heap.objs.size (s.heap.objs.size + 1) a1 a2 0 → (∀ c o, s.heap.get? c = some o → g.get? c = some o) → Q (.ref (s.heap.objs.size + 4)) { s with heap := g }) :
    wpAny (model P w) A (call (.type "zip") [.ref a1, .ref a2]) Q E s := by
  refine callType_new F.called_zip (by decide) (F.typeCall_zip_2 _ _) (F.newCall_zip_2 _ _) (fun obj => F.args_object_init_3 obj _ _) F.entry_zip_new (zpMeets b a1 a2 us vs) ⟨k1, k2, ?_⟩
  have z1 : (zp1 b s.heap a1).objs.size = s.heap.objs.size + 1 := Heap.size_push ..
  have z2 : (zp1 b (zp1 b s.heap a1) a2).objs.size = s.heap.objs.size + 2 := by rw [Heap.size_push, z1]
  have z3 : (zp3 b s.heap a1 a2).objs.size = s.heap.objs.size + 3 := by rw [Heap.size_push, z2]
  have z4 : (zp4 b s.heap a1 a2).objs.size = s.heap.objs.size + 4 := by rw [Heap.size_push, z3]
  have up := fun {h : Heap} {c : Addr} {x : Obj} (o : Obj) (e : h.get? c = some x) => Heap.get?_push_of_some o e
  have g5 : (zp5 b s.heap a1 a2).get? (zp4 b s.heap a1 a2).objs.size = some _ := Heap.get?_push_size _ rfl
  have g4 : (zp5 b s.heap a1 a2).get? (zp3 b s.heap a1 a2).objs.size = some _ := up _ (Heap.get?_push_size _ rfl)
  have g3 : (zp5 b s.heap a1 a2).get? (zp1 b (zp1 b s.heap a1) a2).objs.size = some _ := up _ (up _ (Heap.get?_push_size _ rfl))
  have g2 : (zp5 b s.heap a1 a2).get? (zp1 b s.heap a1).objs.size = some _ := up _ (up _ (up _ (Heap.get?_push_size _ rfl)))
  have g1 : (zp5 b s.heap a1 a2).get? s.heap.objs.size = some _ := up _ (up _ (up _ (up _ (Heap.get?_push_size _ rfl))))
  show _ ∧ _
  rw [z2, z3, z4] at g5
  rw [z1, z2] at g3
  rw [z3] at g4
  rw [z1] at g2
  rw [z4]
  refine ⟨⟨_, g5, rfl⟩, h _ ⟨g5, g3, ⟨_, _, g4⟩, ?_, ?_⟩ fun c o x => up _ (up _ (up _ (up _ (up _ x))))⟩
  · cases b <;> exact ⟨_, g1, rfl, rfl⟩
  · cases b <;> exact ⟨_, g2, rfl, rfl⟩
end
section
variable {X : Cx} {pins : List (Addr × Obj)} {σ : St} {H : Hp} {s : Shared} {h' : Heap}
theorem Inv.turnedL {t' : Nat} {ch : List Addr} {p : Addr} {o : HO} (I : Inv X pins σ H s) (k : ∀ b u, b ∉ ch → s.heap.get? b = some u → h'.get? b = some u) (f : ∀ b ∈ ch, FpOk X pins H b)
    (hp : s.heap.objs.size ≤ p) (new : ObjOk X.prog X.w (upd H p o) h' p o) : Inv X pins σ (upd H p o) { s with heap := h', toks := t' } := by
  have hn := I.hok.fresh hp
  have nx : ∀ b u, H b = some u → b ∉ ch := fun b u q z => ne_of_none q (f b z).1 rfl
  have np : ∀ b u, s.heap.get? b = some u → b ≠ p := fun b u q => Nat.ne_of_lt (Nat.lt_of_lt_of_le (Heap.lt_size q) hp)
  have u : Un (frs X.stack) ch H (upd H p o) s.heap h' := by
    refine ⟨fun b u q _ _ hx => k b u hx q, fun b u q _ _ hx => ⟨u.slots, k b u hx q⟩, fun b u q n _ => ?_, fun b u q hx => ⟨u, k b u hx q⟩, fun b xs q => ?_, fun b o' u q => ?_, fun b ps q => ⟨#[], ?_⟩⟩
    · rw [upd_ne (np b u q)]; exact n
    · rw [upd_ne (ne_of_none q hn)]; exact q
    · rw [upd_ne (ne_of_none q hn)]; exact q
    · rw [upd_ne (ne_of_none q hn), q]; simp
  have hok : HOk X.prog X.w (upd H p o) h' := fun b v eb => by
    by_cases hb : b = p
    · subst hb; rw [upd_same] at eb; cases eb; exact new
    · rw [upd_ne hb] at eb
      refine (I.hok b v eb).stay (fun c w hc q => k c w ?_ q) (fun c q => by rw [upd_ne (ne_of_none q hn)]; exact q) fun c xs q => by rw [upd_ne (ne_of_none q hn)]; exact q
      rcases hc with z | z
      · rw [z]; exact nx b v eb
      · exact nx c _ z
  exact I.call (g' := s.gens) (d' := s.drawn) (t' := t') (ch := ch) u hok I.bare fun b hb => ⟨(f b hb).2.2.2.1, (f b hb).2.1, (f b hb).2.2.2.2.1, (f b hb).2.2.2.2.2⟩
theorem Inv.turnedL0 {t' : Nat} {ch : List Addr} (I : Inv X pins σ H s) (k : ∀ b u, b ∉ ch → s.heap.get? b = some u → h'.get? b = some u) (f : ∀ b ∈ ch, FpOk X pins H b) : Inv X pins σ H { s with heap := h', toks := t' } := by
  have nx : ∀ b u, H b = some u → b ∉ ch := fun b u q z => ne_of_none q (f b z).1 rfl
  have u : Un (frs X.stack) ch H H s.heap h' := by
    refine ⟨fun b u q _ _ hx => k b u hx q, fun b u q _ _ hx => ⟨u.slots, k b u hx q⟩, fun b u q n _ => n, fun b u q hx => ⟨u, k b u hx q⟩, fun b xs q => q, fun b o' u q => q, fun b ps q => ⟨#[], ?_⟩⟩
    rw [q]; simp
  have hok : HOk X.prog X.w H h' := fun b v eb => by
    refine (I.hok b v eb).stay (fun c w hc q => k c w ?_ q) (fun c q => q) fun c xs q => q
    rcases hc with z | z
    · rw [z]; exact nx b v eb
    · exact nx c _ z
  exact I.call (g' := s.gens) (d' := s.drawn) (t' := t') (ch := ch) u hok I.bare fun b hb => ⟨(f b hb).2.2.2.1, (f b hb).2.1, (f b hb).2.2.2.2.1, (f b hb).2.2.2.2.2⟩
theorem Inv.seq2 {b : Bool} {a : Addr} {xs : List V} (I : Inv X pins σ H s) (h : Sq2 X.K b H a xs) : ∃ its : List Value, Vals xs its ∧ IsSq2 b s.heap a its.toArray := by
  cases b
  · obtain ⟨its, r, p, _⟩ := I.list h
    exact ⟨its, r, p.isList⟩
  · obtain ⟨its, r, p, _⟩ := I.tuple h
    exact ⟨its, r, p⟩
theorem Inv.seq2_inj {b : Bool} {a : Addr} {xs ys : List V} (I : Inv X pins σ H s) (h : Sq2 X.K b H a xs) (h' : Sq2 X.K b H a ys) : xs = ys := by
  cases b
  · exact I.list_inj h h'
  · exact I.tuple_inj h h'
end
def Itz (K : PySem.W.Frag) (b : Bool) (a1 a2 : Addr) : It :=
  ⟨fun i H => ∃ xs ys x y, Sq2 K b H a1 xs ∧ Sq2 K b H a2 ys ∧ xs[i]? = some x ∧ ys[i]? = some y,
   fun i H v H' => ∃ x y p, v = .ref p ∧ H p = none ∧ H' = upd H p (.tup [x, y]) ∧ (∀ xs, Sq2 K b H a1 xs → xs[i]? = some x) ∧ ∀ ys, Sq2 K b H a2 ys → ys[i]? = some y,
   fun i H => ∃ xs ys, Sq2 K b H a1 xs ∧ Sq2 K b H a2 ys ∧ (xs.length ≤ i ∨ ys.length ≤ i)⟩
theorem turn_zip {P : Program} {w : World} {K : PySem.W.Frag} {elts : List Expr} {x1 : Nat} {pos : Pos} {b : Bool} {z ti to j1 j2 a1 a2 : Addr} (D : ZipApart z ti to j1 j2 a1 a2) :
    Turn P w K (.Tuple elts x1 pos) (Itz K b a1 a2) [z, ti, to, j1, j2] z (fun i h => Zp b h z ti to j1 j2 a1 a2 i) where
  mem := by simp
  obj := fun i h st c hc => by
    obtain ⟨hz, hi, ⟨p, q, ho⟩, h1, h2⟩ := st
    have : c = z ∨ c = ti ∨ c = to ∨ c = j1 ∨ c = j2 := by simpa using hc
    rcases this with rfl | rfl | rfl | rfl | rfl
    · exact ⟨_, hz, fun v z => by cases z⟩
    · exact ⟨_, hi, fun v z => by cases z⟩
    · exact ⟨_, ho, fun v z => by cases z⟩
    · exact h1.obj
    · exact h2.obj
  keep := fun i h h' st k => by
    obtain ⟨hz, hi, ⟨p, q, ho⟩, h1, h2⟩ := st
    exact ⟨k z (by simp) _ hz, k ti (by simp) _ hi, ⟨p, q, k to (by simp) _ ho⟩, h1.keep fun o e => k j1 (by simp) o e, h2.keep fun o e => k j2 (by simp) o e⟩
  item := by
    intro X hP hw hK hc i pins s σ H E I hf st hg
    subst hP hw hK
    obtain ⟨xs, ys, x, y, hq1, hq2, hx, hy⟩ := hg
    obtain ⟨is1, r1, p1⟩ := I.seq2 hq1
    obtain ⟨is2, r2, p2⟩ := I.seq2 hq2
    obtain ⟨u, hu, ru⟩ := r1.get hx
    obtain ⟨v, hv, rv⟩ := r2.get hy
    refine zpItem D st p1 p2 (u := u) (v := v) (by simpa using hu) (by simpa using hv) fun g gz go g1 g2 gn gk => ⟨_, rfl, ?_⟩
    refine wpAny_letOwnedTupleGo_zip gz fun h2 z2 s2 => ?_
    replace s2 : Heap.SameBut z g h2 := s2
    have nz : s.heap.objs.size ≠ z := Nat.ne_of_gt (Heap.lt_size st.z)
    have t2 : IsPair h2 s.heap.objs.size u v := (s2.2 _ nz).trans gn
    have k2 : ∀ c o, c ∉ [z, to, j1, j2] → s.heap.get? c = some o → h2.get? c = some o := fun c o hc e => (s2.2 c (fun q => hc (by simp [q]))).trans (gk c o hc e)
    have mem : ∀ c ∈ [z, to, j1, j2], c ∈ [z, ti, to, j1, j2] := fun c hc => by
      simp only [List.mem_cons, List.not_mem_nil, or_false] at hc ⊢
      rcases hc with q | q | q | q <;> simp [q]
    refine ⟨.ref s.heap.objs.size, upd H s.heap.objs.size (.tup [x, y]), I.turnedL (t' := s.toks) k2 (fun c hc => hf c (mem c hc)) (Nat.le_refl _) ⟨(by show 2 ≤ sizeLine; decide), [u, v], .cons ru (.cons rv .nil), _, t2, rfl, _, rfl⟩, rfl,
      ⟨x, y, _, rfl, I.hok.fresh (Nat.le_refl _), rfl, fun zs hz => by rw [I.seq2_inj hz hq1]; exact hx, fun zs hz => by rw [I.seq2_inj hz hq2]; exact hy⟩,
      ⟨z2, k2 ti _ (by simp [D.TIz, D.TITO, D.TIi1, D.TIi2]) st.ti, ⟨_, _, (s2.2 to D.TOz).trans go⟩, g1.keep fun o e => (s2.2 j1 D.i1z).trans e, g2.keep fun o e => (s2.2 j2 D.i2z).trans e⟩, fun c hc => ?_⟩
    obtain ⟨oc, ec, _⟩ : ∃ o, s.heap.get? c = some o ∧ ∀ v, o.data ≠ .cell v := by
      obtain ⟨hz, hi, ⟨p, q, ho⟩, h1, h2⟩ := st
      have : c = z ∨ c = ti ∨ c = to ∨ c = j1 ∨ c = j2 := by simpa using hc
      rcases this with rfl | rfl | rfl | rfl | rfl
      · exact ⟨_, hz, fun v z => by cases z⟩
      · exact ⟨_, hi, fun v z => by cases z⟩
      · exact ⟨_, ho, fun v z => by cases z⟩
      · exact h1.obj
      · exact h2.obj
    rw [upd_ne (Nat.ne_of_lt (Heap.lt_size ec))]
    exact (hf c hc).1
  done := by
    intro X hP hw hK hc i pins s σ H E I hf st hg
    subst hP hw hK
    obtain ⟨xs, ys, hq1, hq2, hl⟩ := hg
    obtain ⟨is1, r1, p1⟩ := I.seq2 hq1
    obtain ⟨is2, r2, p2⟩ := I.seq2 hq2
    have e1 := r1.length
    have e2 := r2.length
    have mem : ∀ c ∈ [z, to, j1, j2], c ∈ [z, ti, to, j1, j2] := fun c hc => by
      simp only [List.mem_cons, List.not_mem_nil, or_false] at hc ⊢
      rcases hc with q | q | q | q <;> simp [q]
    refine zpEnd (I.ok.hd hc) D st p1 p2 ?_ fun g gk => ⟨rfl, I.turnedL0 (t' := s.toks) gk fun c hc => hf c (mem c hc)⟩
    rcases hl with q | q
    · exact .inl (by simp; omega)
    · exact .inr (by simp; omega)
  self := fun _ _ _ _ _ st h => wpAny_pyIter_zip st.z h
def iZip (K : PySem.W.Frag) (b : Bool) (ta : TA) : TI := fun σ H R => ta σ H fun vs H1 => ∃ a1 a2 xs ys, vs = [.ref a1, .ref a2] ∧ Sq2 K b H1 a1 xs ∧ Sq2 K b H1 a2 ys ∧ R (Itz K b a1 a2) H1
/-- of lists or of tuples: the reading says which -/
def iZip2 (K : PySem.W.Frag) (ta : TA) : TI := fun σ H R => ∃ b, iZip K b ta σ H R
theorem pi_zip {X : Cx} {elts : List Expr} {x1 : Nat} {tpos : Pos} {a c : Expr} {ta : TA} {p pos : Pos} (hg : Gl X "zip") (hm : X.mg "zip" = none) (ha : PA X [a, c] ta) (hs : starEach [a, c] X.env = (false, eval a X.env) :: starEach [c] X.env := by rfl) (hs2 : starEach [c] X.env = [(false, eval c X.env)] := by rfl) :
    PI X (.Tuple elts x1 tpos) (.Call (.Name "zip" p) [a, c] [] pos) (iZip2 X.K ta) := by
  intro pins s σ H R I h
  obtain ⟨b, h⟩ := h
  refine Call_ (ld_blt I hg hm (show bootBuiltins "zip" = some (.type "zip") from by decide +kernel) (PyProof.Rows.callWith_type1 (thn (ha pos pins s σ H _ I h) fun us s1 ⟨vs, H1, I1, r1, q1⟩ => ?_) (by rw [hs, hs2]) (by rw [hs2]; rfl)))
  obtain ⟨a1, a2, xs, ys, e, h1, h2, q⟩ := q1
  subst e
  obtain ⟨u, v, rfl, rx, ry⟩ := vals2 r1
  cases rx
  cases ry
  obtain ⟨is1, v1, p1⟩ := I1.seq2 h1
  obtain ⟨is2, v2, p2⟩ := I1.seq2 h2
  have l1 := p1.lt
  have l2 := p2.lt
  refine zpCall p1 p2 fun g gz gk => wpAny_pyIter_zip gz.z ?_
  have D : ZipApart (s1.heap.objs.size + 4) (s1.heap.objs.size + 2) (s1.heap.objs.size + 3) s1.heap.objs.size (s1.heap.objs.size + 1) a1 a2 := by
    have A1 : (s1.heap.objs.size : Nat) + 4 = s1.heap.objs.size + 4 := rfl
    constructor <;> simp <;> first | exact Nat.ne_of_lt (Nat.lt_of_lt_of_le l1 (Nat.le_add_right _ _)) | exact Nat.ne_of_lt (Nat.lt_of_lt_of_le l2 (Nat.le_add_right _ _)) | exact Nat.ne_of_lt l1 | exact Nat.ne_of_lt l2 | decide
  refine ⟨_, _, _, _, H1, rfl, I1.kept (t' := s1.toks) gk, turn_zip D, gz, fun c hc => ?_, q⟩
  have : c = s1.heap.objs.size + 4 ∨ c = s1.heap.objs.size + 2 ∨ c = s1.heap.objs.size + 3 ∨ c = s1.heap.objs.size ∨ c = s1.heap.objs.size + 1 := by simpa using hc
  have ge : s1.heap.objs.size ≤ c := by
    rcases this with rfl | rfl | rfl | rfl | rfl <;> first | exact Nat.le_add_right _ _ | exact Nat.le_refl _
  exact I1.fpOk ge (I1.hok.fresh ge)
theorem for_zip {K : PySem.W.Frag} {b : Bool} {a1 a2 : Addr} {xs ys : List V} {g : TG} {tb : TS} {D : Ends} {σ : St} {H : Hp} (Pv : Nat → St → Hp → Prop) (he : ys.length = xs.length) (h0 : Pv 0 σ H) (hl : ∀ i σ H, i ≤ xs.length → Pv i σ H → Sq2 K b H a1 xs ∧ Sq2 K b H a2 ys)
    (hs : ∀ i x y σ H p, xs[i]? = some x → ys[i]? = some y → Pv i σ H → H p = none → g (.ref p) σ (upd H p (.tup [x, y])) fun σ2 H2 => tb { D with nx := Pv (i + 1), ct := Pv (i + 1), bk := D.nx } σ2 H2) (hd : ∀ σ H, Pv xs.length σ H → D.nx σ H) :
    ∃ W : Nat → Nat → St → Hp → Prop, (∃ m, W 0 m σ H) ∧ ∀ i m σ H, W i m σ H →
      ((Itz K b a1 a2).stop i H ∧ D.nx σ H) ∨ ((Itz K b a1 a2).go i H ∧ ∃ N : St → Hp → Prop, (∀ σ' H', N σ' H' → ∃ m', m' < m ∧ W (i + 1) m' σ' H') ∧ ∀ x H', (Itz K b a1 a2).yld i H x H' → g x σ H' fun σ2 H2 => tb { D with nx := N, ct := N, bk := D.nx } σ2 H2) := by
  refine ⟨fun i m σ H => m = xs.length - i ∧ i ≤ xs.length ∧ Pv i σ H, ⟨xs.length, by simp, Nat.zero_le _, h0⟩, ?_⟩
  rintro i m σ H ⟨rfl, hi, p⟩
  obtain ⟨q1, q2⟩ := hl i σ H hi p
  by_cases hlt : i < xs.length
  · have hl2 : i < ys.length := by omega
    refine .inr ⟨⟨xs, ys, xs[i], ys[i], q1, q2, by simp [hlt], by simp [hl2]⟩, Pv (i + 1), fun σ' H' p' => ⟨xs.length - (i + 1), by omega, rfl, hlt, p'⟩, fun v H' y => ?_⟩
    obtain ⟨x, y, pa, rfl, hn, rfl, hx, hy⟩ := y
    exact hs i x y σ H pa (hx xs q1) (hy ys q2) p hn
  · have e : i = xs.length := by omega
    subst e
    exact .inl ⟨⟨xs, ys, q1, q2, .inl (Nat.le_refl _)⟩, hd σ H p⟩
end L2

/-! is, is not of truths; int of a truth; data with an empty dict among it -/
namespace L2
open PySem PySem.Spec PyProof.Rows
section
variable {X : Cx}
end
/-- data, or a dict at the top -/
def DatT (K : PySem.W.Frag) (H : Hp) (x : V) (d : PyData) : Prop := Dat K H x d ∨ (∃ a kvs, x = .ref a ∧ H a = some (.dK kvs)) ∧ d = .dict []
def tyD : PyData → String
  | .none => "NoneType"
  | .bool _ => "bool"
  | .int _ => "int"
  | .str _ => "str"
  | .list _ => "list"
  | .tuple _ => "tuple"
  | .dict _ => "dict"
end L2

namespace L2
open PySem
theorem new_facts {H H1 : Hp} {p : Addr} {o : HO} (e : upd H p o = H1) (hp : H p = none) : Same H H1 ∧ H1 p = some o := by
  subst e
  exact ⟨fun b u q => by rw [upd_ne (ne_of_none q hp)]; exact q, upd_same⟩
theorem Same.at {H H1 : Hp} {a : Addr} {o : HO} (g : Same H H1) (h : H a = some o) : H1 a = some o := g _ _ h
theorem Same.tp {K : PySem.W.Frag} {H H' : Hp} {a : Addr} {xs : List V} (e : Same H H') (h : SqT K H a xs) : SqT K H' a xs := by
  rcases h with (h | ⟨o, h⟩) | h
  · exact .inl (.inl (e _ _ h))
  · exact .inl (.inr ⟨o, e _ _ h⟩)
  · exact .inr h
theorem joinP (P : V → Hp → Prop) {te : TE} {g : TG} {u : TS} {D : Ends} {σ : St} {H : Hp} (hk : ∀ v H', P v H' → g v σ H' (u D)) (h : ∀ Q : VK, (∀ v H', P v H' → Q v H') → te σ H Q) : tSeq (tAsg te g) u D σ H := h _ hk
end L2

local macro_rules | `(tactic| walk_at "hp") => `(tactic| first
  | assumption
  | exact L2.upd_same
  | exact L2.Same.refl _
  | (refine' L2.Same.at ?k1 ?_; (case k1 => assumption); walk_at "hp"; done)
  | (refine L2.SqL.of ?_; walk_at "hp"; done)
  | (refine L2.SqT.of ?_; walk_at "hp"; done)
  | (refine' L2.Same.seq ?k1 ?_; (case k1 => assumption); walk_at "hp"; done)
  | (refine' L2.Same.tp ?k1 ?_; (case k1 => assumption); walk_at "hp"; done)
  | (refine' L2.Same.dt ?k1 ?_; (case k1 => assumption); walk_at "hp"; done)
  | (refine' L2.Same.dts ?k1 ?_; (case k1 => assumption); walk_at "hp"; done)
  | (refine' L2.Same.dtt ?k1 ?_; (case k1 => assumption); walk_at "hp"; done)
  | (refine' L2.Same.trans ?_ ?k1; (case k1 => assumption); walk_at "hp"; done))
local macro_rules | `(tactic| walk_at "al") => `(tactic| (intro pX hX; generalize eX : L2.upd _ pX _ = HX; obtain ⟨gX, kX⟩ := L2.new_facts eX hX; clear eX))
local macro_rules | `(tactic| o_unpack $r:ident) => `(tactic| (intro $r:ident hX; generalize eX : L2.upd _ $r:ident _ = HX; obtain ⟨gX, kX⟩ := L2.new_facts eX hX; clear eX))
local macro_rules | `(tactic| walk_at "ch") => `(tactic| (generalize eX : L2.upd _ _ _ = HX; obtain ⟨gX, kX⟩ := L2.chg_facts eX; clear eX))
local macro_rules | `(tactic| walk_at "rd") => `(tactic| repeat first
  | (refine ⟨_, rfl, ?_⟩)
  | (refine ⟨_, _, rfl, rfl, ?_⟩)
  | (refine ⟨_, _, rfl, rfl, ⟨by decide, by decide⟩, ?_⟩)
  | (refine' ⟨_, _, rfl, .inl ?k1, ?_⟩; (case k1 => walk_at "hp"))
  | (refine' ⟨_, _, _, _, rfl, rfl, ?k1, ?k2, ?_⟩; (case k1 => walk_at "hp"); (case k2 => rfl)))
/-! isinstance of an own exception: one class, or a tuple of classes -/
namespace L2
open PySem PySem.Spec PyProof.Rows
section
variable {X : Cx}
/-- the exception at e, of the class at C, its dict at dx -/
def Exc (K : PySem.W.Frag) (H : Hp) (e C : Addr) (fs : List (Str × V)) : Prop := ∃ dx R fI, (H e = some (ExF e C (some dx)) ∨ H e = some (Ex0 e C (some dx))) ∧ H dx = some (XD dx fs) ∧ ExCl K C R fI
theorem Exc.obj {pins : List (Addr × Obj)} {σ : St} {H : Hp} {s : Shared} {e C : Addr} {fs : List (Str × V)} (I : Inv X pins σ H s) (h : Exc X.K H e C fs) :
    ∃ dx R fI oe vs o1, s.heap.get? e = some oe ∧ oe.cls = .ref C ∧ oe.dict = some dx ∧ oe.data = .fields vs ∧ s.heap.get? dx = some o1 ∧ ExCl X.K C R fI := by
  obtain ⟨dx, R, fI, he, hd, c⟩ := h
  obtain ⟨⟨mA, hn, _⟩, _⟩ := I.hok dx _ hd
  obtain ⟨o1, ho, _⟩ := lookIn_ns hn
  rcases he with he | he
  · obtain ⟨⟨oe, vs, g, oc, ox, od⟩, _⟩ := I.hok e _ he
    exact ⟨dx, R, fI, oe, vs, o1, g, oc, ox, od, ho, c⟩
  · obtain ⟨⟨oe, vs, g, oc, ox, od, _⟩, _⟩ := I.hok e _ he
    exact ⟨dx, R, fI, oe, vs, o1, g, oc, ox, od, ho, c⟩
structure ExP (K : PySem.W.Frag) (e C dx : Addr) (s : Shared) : Prop where
  k : K.In s.heap
  o : ∃ oe vs o1, s.heap.get? e = some oe ∧ oe.cls = .ref C ∧ oe.dict = some dx ∧ oe.data = .fields vs ∧ s.heap.get? dx = some o1
theorem ansSame {K : PySem.W.Frag} {e C dx : Addr} : Answers (ExP K e C dx) (.ref e) (.ref C) true := fun dep tk => Meets.of_wp fun prog w A R s hs => by
  obtain ⟨⟨_, oe, vs, o1, g, oc, _⟩, h⟩ := hs
  unfold Builtin.«isinstance.nested»
  refine wpAny_bind (m := typeOf (.ref e)) (wpAny_typeOf_ref g ?_)
  rw [oc]
  show wpAny _ _ (if (Value.ref C == Value.ref C) = true then _ else _) _ _ s
  rw [if_pos (by simp)]
  repeat (first | refine wpAny_pure ?_ | refine wpAny_rule ?_ | refine wpAny_bind ?_)
  exact ⟨_, rfl, h s.toks⟩
theorem ansNot {K : PySem.W.Frag} {e C D R fI dx : Addr} (c : ExCl K C R fI) (x : XNot K C D) : Answers (ExP K e C dx) (.ref e) (.ref D) false := fun dep tk => Meets.of_wp fun prog w A Rs s hs => by
  obtain ⟨⟨k, oe, vs, o1, g, oc, ox, od, ho⟩, h⟩ := hs
  obtain ⟨cd, hcd, _⟩ := c.clsIn
  exact xisnt (od := some o1) k c (inst_of g oc od (by rw [ox]; exact ho)) (PySem.W.findObj_data (by rw [hcd]; rfl) x.ha x.hg x.ht) x.hm x.nt ⟨_, rfl, h _⟩
theorem call_isE {K : PySem.W.Frag} (hK : X.K = K) : CallR X (.builtin "isinstance") (fun xs H Q => ∃ e C D fs b, xs = [.ref e, .ref D] ∧ Exc K H e C fs ∧ ((D = C ∧ b = true) ∨ (XNot K C D ∧ b = false)) ∧ Q (.bl b) H) := by
  subst hK
  intro pins s σ H xs us Q I r h
  obtain ⟨e, C, D, fs, b, rfl, he, hb, q⟩ := h
  obtain ⟨u, v, rfl, ru, rv⟩ := vals2 r
  cases ru
  cases rv
  obtain ⟨dx, R, fI, oe, vs, o1, g, oc, ox, od, ho, c⟩ := he.obj I
  have fin : Answers (ExP X.K e C dx) (.ref e) (.ref D) b := by
    rcases hb with ⟨rfl, rfl⟩ | ⟨hn, rfl⟩
    · exact ansSame
    · exact ansNot c hn
  refine call_isinstance_of ?_ (by intro z; cases z)
  exact fin 0 _ X.prog X.w X.A (fun r s' => match r with | .ok (.ret v) => EP X pins σ Q v s' | .ok _ => False | .error e => X.xe e s') s ⟨⟨I.kIn, oe, vs, o1, g, oc, ox, od, ho⟩, fun tk => ⟨.bl b, H, I.tok _, rfl, q⟩⟩
theorem isT_nested {P : Shared → Prop} {prog : Program} {w : World} {A : Around} {E : Value → Shared → Prop} (hP : ∀ s tk, P s → P { s with toks := tk }) {e C tp : Addr} {oe ot : Obj} {n : Nat} {cs : List Value} {bs : List Bool} {tk : Tok} {s : Shared} {Q : Fin → Shared → Prop}
    (he : s.heap.get? e = some oe) (hc : oe.cls = .ref C) (ne : C ≠ tp) (ht : s.heap.get? tp = some ot) (htc : ot.cls = .type "tuple") (htd : ot.data = .seq cs.toArray n) (ha : AnswersAll P (.ref e) cs bs) (hs : P s)
    (hq : ∀ tk', Q (.done (.ret (.bool (bs.any id)))) { s with toks := tk' }) : wpAny (model prog w) A (Builtin.«isinstance.nested» ⟨[.ref e, .ref tp, .int 0 tk], []⟩) Q E s := by
  unfold Builtin.«isinstance.nested»
  refine wpAny_bind (m := typeOf (.ref e)) (wpAny_typeOf_ref he ?_)
  rw [hc]
  show wpAny _ _ (if (Value.ref C == Value.ref tp) = true then _ else _) _ _ s
  rw [if_neg (by simp [ne])]
  refine wpAny_bind (m := typeOf (.ref tp)) (wpAny_typeOf_ref ht ?_)
  rw [htc]
  show wpAny _ _ (if (Value.type "tuple" == Value.type "type") = true then _ else _) _ _ s
  rw [if_neg (by decide)]
  refine wpAny_bind ?_
  unfold Builtin.Builtins.unionMembers
  refine wpAny_bind (m := typeOf (.ref tp)) (wpAny_typeOf_ref ht ?_)
  rw [htc]
  show wpAny _ _ (if (Value.type "tuple" == Value.type "types.UnionType") = true then _ else _) _ _ s
  rw [if_neg (by decide)]
  refine wpAny_pure ?_
  refine wpAny_bind (wpAny_isInstance (T := "tuple") (b := true) ⟨ot, ht, htc⟩ F.isi_sub_tuple ?_)
  rw [if_pos rfl]
  show wpAny _ _ (if (0 : Int) ≥ Builtin.Builtins.nestingLimit then _ else _) _ _ s
  rw [if_neg (by decide)]
  refine wpAny_bind (wpAny_seqItems ht htd ?_)
  refine wpAny_bind ?_
  refine wpAny_arrayLoop ?_
  simp only [Option.getD_some, List.toList_toArray]
  refine isinstance_items (dep := 0) hP cs bs _ _ ha hs fun tk' => ?_
  cases hv : bs.any id with
  | true =>
    simp only [if_true]
    exact wpAny_pure (hv ▸ hq tk')
  | false =>
    simp only [Bool.false_eq_true, if_false]
    exact wpAny_bind (wpAny_pure (wpAny_pure (hv ▸ hq tk')))
theorem ansAll {K : PySem.W.Frag} {e C R fI dx : Addr} (c : ExCl K C R fI) : ∀ {Ds : List Addr}, (∀ D ∈ Ds, D = C ∨ XNot K C D) → AnswersAll (ExP K e C dx) (.ref e) (Ds.map Value.ref) (Ds.map fun D => decide (D = C))
  | [], _ => trivial
  | D :: Ds, h => by
    refine ⟨?_, ansAll c fun x hx => h x (List.mem_cons_of_mem _ hx)⟩
    rcases h D (List.mem_cons_self ..) with rfl | hn
    · show Answers _ _ _ (decide (D = D)); rw [decide_eq_true rfl]; exact ansSame
    · show Answers _ _ _ (decide (D = C))
      by_cases z : D = C
      · rw [z, decide_eq_true rfl]; exact ansSame
      · rw [decide_eq_false z]; exact ansNot c hn
theorem refs_vals : ∀ {Ds : List Addr} {us : List Value}, Vals (Ds.map V.ref) us → us = Ds.map Value.ref
  | [], _, .nil => rfl
  | _ :: _, _, .cons r t => by cases r; rw [refs_vals t]; rfl
/-- isinstance(e, (A, B, ..)) -/
theorem call_isTup {K : PySem.W.Frag} (hK : X.K = K) : CallR X (.builtin "isinstance") (fun xs H Q => ∃ (e C tp : Addr) (fs : List (Str × V)) (Ds : List Addr), xs = [.ref e, .ref tp] ∧ Exc K H e C fs ∧ H tp = some (.tup (Ds.map V.ref)) ∧ (∀ D ∈ Ds, D = C ∨ XNot K C D) ∧ Q (.bl ((Ds.map fun D => decide (D = C)).any id)) H) := by
  subst hK
  intro pins s σ H xs us Q I r h
  obtain ⟨e, C, tp, fs, Ds, rfl, he, ht, hD, q⟩ := h
  obtain ⟨u, v, rfl, ru, rv⟩ := vals2 r
  cases ru
  cases rv
  obtain ⟨dx, R, fI, oe, vs, o1, g, oc, ox, od, ho, c⟩ := he.obj I
  obtain ⟨_, its, rv, ot, t1, t2, n, t3⟩ := I.hok tp _ ht
  rw [refs_vals rv] at t3
  obtain ⟨nm, qn, N, bs, sn, sub, ab, col, dd, k0, k1, k2, k3, k5, mN, oI, hC, _⟩ := c.cls I.kIn
  refine call_isinstance_of ?_ (by intro z; cases z)
  refine isT_nested (P := ExP X.K e C dx) (fun s tk z => ⟨z.k, z.o⟩) g oc (fun z => ?_) t1 t2 t3 (ansAll c hD) ⟨I.kIn, oe, vs, o1, g, oc, ox, od, ho⟩ fun tk => ⟨.bl _, H, I.tok _, rfl, q⟩
  rw [← z, hC] at t1
  cases t1
  cases t3
/-- a list != [] -/
theorem op_neNil (hu : X.A.units + 64 < cLine) : OpR X (compareOp .NotEq) (fun x y H Q => ∃ (a b : Addr) (xs : List V), x = .ref a ∧ y = .ref b ∧ SqL X.K H a xs ∧ SqL X.K H b [] ∧ Q (.bl (!xs.isEmpty)) H) := by
  intro pins s σ H x y v u Q I rx ry h
  obtain ⟨a, b, xs, rfl, rfl, ha, hb, q⟩ := h
  cases rx
  cases ry
  obtain ⟨i1, r1, p1, _⟩ := I.list ha
  obtain ⟨i2, r2, p2, _⟩ := I.list hb
  cases r2
  show wpAny _ _ (richCompare .NotEq (.ref a) (.ref b)) _ _ _
  cases xs with
  | nil =>
    cases r1
    refine SeqAt.RcNeAt.lists (e := fun _ => true) p1.isList p2.isList rfl (by omega) (fun j h1 _ => absurd h1 (Nat.not_lt_zero _)) _ _ _ _ ?_
    exact ⟨.bl false, H, I, rfl, q⟩
  | cons z zs =>
    cases r1 with
    | cons rz rt =>
      refine SeqAt.RcNeAt.lists_lengths p1.isList p2.isList (by simp) (by omega) _ _ _ _ ?_
      exact ⟨.bl true, H, I, rfl, q⟩
end
/-- equal things: the same, or lists or tuples of equal things (n deep) -/
inductive EqS (K : PySem.W.Frag) (H : Hp) : Nat → V → V → Prop
  | same {n : Nat} {v : V} : SelfV v → EqS K H n v v
  | lst {n : Nat} {a b : Addr} {xs ys : List V} : SqL K H a xs → SqL K H b ys → xs.length = ys.length → (∀ (i : Nat) x y, xs[i]? = some x → ys[i]? = some y → EqS K H n x y) → EqS K H (n + 1) (.ref a) (.ref b)
  | tup {n : Nat} {a b : Addr} {xs ys : List V} : SqT K H a xs → SqT K H b ys → xs.length = ys.length → (∀ (i : Nat) x y, xs[i]? = some x → ys[i]? = some y → EqS K H n x y) → EqS K H (n + 1) (.ref a) (.ref b)
section
variable {X : Cx}
theorem all_true {n : Nat} : ((List.range n).all fun _ => true) = true := by simp
theorem arr_get {us : List Value} {j : Nat} {u : Value} (h : us[j]? = some u) (hj : j < us.toArray.size) : us.toArray[j] = u := by
  have := (List.getElem?_eq_some_iff.mp h).2
  simpa using this
theorem Inv.eqs {pins : List (Addr × Obj)} {σ : St} {H : Hp} {s : Shared} (I : Inv X pins σ H s) : ∀ {n : Nat} {x y : V}, EqS X.K H n x y → ∀ {A : Around} {u v : Value}, RelV x u → RelV y v → A.units + n < cLine → SeqAt.EqAt A s u v true := by
  intro n x y h
  induction h with
  | same hs => intro A u v ru rv _; exact eqAt_self hs ru rv
  | @lst n a b xs ys ha hb hl _ ih =>
    intro A u v ru rv hu
    cases ru
    cases rv
    by_cases hab : a = b
    · subst hab; exact SeqAt.EqAt.same _
    obtain ⟨i1, r1, p1, _⟩ := I.list ha
    obtain ⟨i2, r2, p2, _⟩ := I.list hb
    have l1 := r1.length
    have l2 := r2.length
    refine SeqAt.EqAt.of_refs hab ?_
    have := SeqAt.RcAt.lists (A := A) (e := fun _ => true) p1.isList p2.isList (by rw [List.size_toArray, List.size_toArray]; omega) (by omega) (fun j h1 h2 => by
      have hj : j < xs.length := by rw [List.size_toArray] at h1; omega
      have hj2 : j < ys.length := by omega
      obtain ⟨u1, e1, q1⟩ := r1.get (List.getElem?_eq_getElem hj)
      obtain ⟨u2, e2, q2⟩ := r2.get (List.getElem?_eq_getElem hj2)
      rw [arr_get e1, arr_get e2]
      exact ih j _ _ (List.getElem?_eq_getElem hj) (List.getElem?_eq_getElem hj2) q1 q2 (by show A.units + 1 + n < cLine; omega))
    rw [all_true] at this
    exact this
  | @tup n a b xs ys ha hb hl _ ih =>
    intro A u v ru rv hu
    cases ru
    cases rv
    by_cases hab : a = b
    · subst hab; exact SeqAt.EqAt.same _
    obtain ⟨i1, r1, p1, _⟩ := I.tuple ha
    obtain ⟨i2, r2, p2, _⟩ := I.tuple hb
    have l1 := r1.length
    have l2 := r2.length
    refine SeqAt.EqAt.of_refs hab ?_
    have := SeqAt.RcAt.tuples (A := A) (e := fun _ => true) (show s.heap.IsTuple a i1.toArray from p1) (show s.heap.IsTuple b i2.toArray from p2) (by omega) (fun j h1 h2 => by
      have hj : j < xs.length := by rw [List.size_toArray] at h1; omega
      have hj2 : j < ys.length := by omega
      obtain ⟨u1, e1, q1⟩ := r1.get (List.getElem?_eq_getElem hj)
      obtain ⟨u2, e2, q2⟩ := r2.get (List.getElem?_eq_getElem hj2)
      rw [arr_get e1, arr_get e2]
      exact ih j _ _ (List.getElem?_eq_getElem hj) (List.getElem?_eq_getElem hj2) q1 q2 (by show A.units + 1 + n < cLine; omega))
    rw [all_true, show (i1.toArray.size == i2.toArray.size) = true by rw [List.size_toArray, List.size_toArray, show i1.length = i2.length by omega]; simp] at this
    exact this
/-- a list == an equal list -/
theorem op_eqE (hu : X.A.units + 64 < cLine) : OpR X (compareOp .Eq) (fun x y H Q => ∃ (a b : Addr) (xs ys : List V), x = .ref a ∧ y = .ref b ∧ SqL X.K H a xs ∧ SqL X.K H b ys ∧ xs.length = ys.length ∧ (∀ (i : Nat) x y, xs[i]? = some x → ys[i]? = some y → EqS X.K H 8 x y) ∧ Q (.bl true) H) := by
  intro pins s σ H x y v u Q I rx ry h
  obtain ⟨a, b, xs, ys, rfl, rfl, ha, hb, hl, he, q⟩ := h
  cases rx
  cases ry
  obtain ⟨i1, r1, p1, _⟩ := I.list ha
  obtain ⟨i2, r2, p2, _⟩ := I.list hb
  have l1 := r1.length
  have l2 := r2.length
  refine SeqAt.eq_listAt (e := fun _ => true) p1.isList p2.isList (by rw [List.size_toArray, List.size_toArray]; omega) (by omega) (fun j h1 h2 => ?_) ?_
  · have hj : j < xs.length := by rw [List.size_toArray] at h1; omega
    have hj2 : j < ys.length := by omega
    obtain ⟨u1, e1, q1⟩ := r1.get (List.getElem?_eq_getElem hj)
    obtain ⟨u2, e2, q2⟩ := r2.get (List.getElem?_eq_getElem hj2)
    rw [arr_get e1, arr_get e2]
    exact I.eqs (he j _ _ (List.getElem?_eq_getElem hj) (List.getElem?_eq_getElem hj2)) q1 q2 (by show X.A.units + 1 + 8 < cLine; omega)
  · rw [all_true]
    exact ⟨.bl true, H, I, rfl, q⟩
theorem op_neE (hu : X.A.units + 64 < cLine) : OpR X (compareOp .NotEq) (fun x y H Q => ∃ (a b : Addr) (xs ys : List V), x = .ref a ∧ y = .ref b ∧ SqL X.K H a xs ∧ SqL X.K H b ys ∧ xs.length = ys.length ∧ (∀ (i : Nat) x y, xs[i]? = some x → ys[i]? = some y → EqS X.K H 8 x y) ∧ Q (.bl false) H) := by
  intro pins s σ H x y v u Q I rx ry h
  obtain ⟨a, b, xs, ys, rfl, rfl, ha, hb, hl, he, q⟩ := h
  cases rx
  cases ry
  obtain ⟨i1, r1, p1, _⟩ := I.list ha
  obtain ⟨i2, r2, p2, _⟩ := I.list hb
  have l1 := r1.length
  have l2 := r2.length
  show wpAny _ _ (richCompare .NotEq (.ref a) (.ref b)) _ _ _
  refine SeqAt.RcNeAt.lists (e := fun _ => true) p1.isList p2.isList (by rw [List.size_toArray, List.size_toArray]; omega) (by omega) (fun j h1 h2 => ?_) _ _ _ _ ?_
  · have hj : j < xs.length := by rw [List.size_toArray] at h1; omega
    have hj2 : j < ys.length := by omega
    obtain ⟨u1, e1, q1⟩ := r1.get (List.getElem?_eq_getElem hj)
    obtain ⟨u2, e2, q2⟩ := r2.get (List.getElem?_eq_getElem hj2)
    rw [arr_get e1, arr_get e2]
    exact I.eqs (he j _ _ (List.getElem?_eq_getElem hj) (List.getElem?_eq_getElem hj2)) q1 q2 (by show X.A.units + 1 + 8 < cLine; omega)
  · rw [all_true]
    exact ⟨.bl false, H, I, rfl, q⟩
end
end L2

namespace L2
open PySem
/-- small data: how heavy, how deep -/
structure Sm (d : PyData) (n m : Nat) : Prop where
  sh : d.showable = true
  ls : d.leavesShort 200 = true
  wt : d.weight ≤ n
  dp : d.depth ≤ m
  nd : d.hasDict = false
structure SmA (ds : List PyData) (n m : Nat) : Prop where
  sh : PyData.showableAll ds = true
  ls : PyData.leavesShortAll 200 ds = true
  wt : PyData.weightAll ds ≤ n
  dp : PyData.depthAll ds ≤ m
  nd : PyData.hasDictAll ds = false
end L2

/-! wrapped judgements: returns, tuples, lists, names -/
namespace L2
open PySem PySem.Spec PyProof.Rows
theorem se_name {x p} {es : List Expr} {env : Env} : starEach (.Name x p :: es) env = (false, eval (.Name x p) env) :: starEach es env := rfl
section
variable {X : Cx} {e : Expr} {es : List Expr} {te : TE} {t : TA}
theorem pex_tup {x1} {pos : Pos} (h : PAx X es t) : PEx X (.Tuple es x1 pos) (tTup t) := ⟨pe_tup h.h⟩
theorem pstx_ret {pos : Pos} (h : PEx X e te) : PStx X (.Return (some e) pos) (tRet te) := ⟨ps_ret h.h⟩
end
end L2

namespace K52
open PySem L2
/-! the text by places -/
def top (i : Nat) : Stmt := PySem.Challenge.pw_roomslaid_k52_lines_refused_and_looks.main.body.getD i (.Pass ⟨0, 0, 0, 0⟩)
def inClass : Stmt → Nat → Stmt
  | .ClassDef _ _ _ body _ _ _ _ _ _ _, j => body.getD j (.Pass ⟨0, 0, 0, 0⟩)
  | s, _ => s

theorem iteP {c A B : Prop} [Decidable c] (hc : c) (h : A) : if c then A else B := by rw [if_pos hc]; exact h
theorem iteN {c A B : Prop} [Decidable c] (hc : ¬ c) (h : B) : if c then A else B := by rw [if_neg hc]; exact h
/-- the built-in names are as they were -/
structure Blt (mg : Str → Option Value) : Prop where
  range : mg "range" = none
  len : mg "len" = none
  isinstance : mg "isinstance" = none
  int : mg "int" = none
  bool : mg "bool" = none
  list : mg "list" = none
  all : mg "all" = none
  max : mg "max" = none
  min : mg "min" = none
  reversed : mg "reversed" = none
  tuple : mg "tuple" = none
  divmod : mg "divmod" = none
  ValueError : mg "ValueError" = none
  repr : mg "repr" = none
  zip : mg "zip" = none
  enumerate : mg "enumerate" = none
/-- a def as its callers see it -/
structure Df (K : PySem.W.Frag) (mg : Str → Option Value) (x : Str) (f : Addr) (fd : FuncData) (ps : List Str) : Prop where
  m : mg x = some (.ref f)
  k : PySem.W.keepIn K (.ref f) = true
  b : Binds K fd ps []
/-- the state of the draws: a list of three ints -/
def St3 (H : Hp) (p : Addr) : Prop := ∃ a b c : Int, H p = some (.lst [.int a, .int b, .int c])
/-- the state at p has turned, new things may have come, all else is as it was -/
def Drawn (p : Addr) (H H' : Hp) : Prop := St3 H' p ∧ ∀ b o, b ≠ p → H b = some o → H' b = some o
theorem same_new {H : Hp} {p : Addr} (h : H p = none) (o : HO) : Same H (upd H p o) := fun b u q => by rw [upd_ne (ne_of_none q h)]; exact q
theorem small {n : Nat} (h : n ≤ 1000) : n ≤ sizeLine := Nat.le_of_lt (small1000 h)
theorem get_ints {ns : List Int} {i : Nat} {x : V} (h : (ns.map V.int)[i]? = some x) : ∃ c, ns[i]? = some c ∧ x = .int c := by
  rw [List.getElem?_map] at h
  cases e : ns[i]? with
  | none => rw [e] at h; cases h
  | some c => rw [e] at h; cases h; exact ⟨c, rfl, rfl⟩
theorem take_snoc {ns : List Int} {i : Nat} {c : Int} (h : ns[i]? = some c) : ns.take (i + 1) = ns.take i ++ [c] := by
  rw [List.take_add_one, h] <;> rfl
def spDraw : Sp := fun vs H Q _ => ∃ (p : Addr) (m : Int), vs = [.ref p, .int m] ∧ 0 < m ∧ m < 1073741824 ∧ St3 H p ∧ ∀ (v : Int) (H' : Hp), 0 ≤ v → v < m → Drawn p H H' → Q (.int v) H'
def spCell (K : PySem.W.Frag) : Sp := fun vs H Q _ => ∃ (a : Addr) (ns : List Int) (k : Int), vs = [.ref a, .int k] ∧ SqL K H a (ns.map V.int) ∧ 0 ≤ k ∧ k < 64 ∧ ∀ v : Int, Q (.int v) H
def spBegun : Sp := fun vs H Q _ => ∃ c : Int, vs = [.int c] ∧ ∀ (p : Addr) (H' : Hp), H p = none → Drawn p H H' → Q (.ref p) H'
def spWhole : Sp := fun vs H Q _ => ∃ i : Int, vs = [.int i] ∧ Q (.bl true) H
def spLaw (K : PySem.W.Frag) : Sp := fun vs H Q _ => ∃ (a : Addr) (ns : List Int), vs = [.ref a] ∧ SqL K H a (ns.map V.int) ∧ ns.length ≤ 63 ∧ ∀ H', Q (.bl true) H'
theorem Same.tup {K : PySem.W.Frag} {H H' : Hp} {a : Addr} {xs : List V} (e : Same H H') (h : SqT K H a xs) : SqT K H' a xs := by
  rcases h with (h | ⟨o, h⟩) | h
  · exact .inl (.inl (e _ _ h))
  · exact .inl (.inr ⟨o, e _ _ h⟩)
  · exact .inr h
structure TCls (K : PySem.W.Frag) (mg : Str → Option Value) (x : Str) (C fI : Addr) (as : List Str) : Prop where
  m : mg x = some (.ref C)
  cl : Cls K C
  ma : Mk K C fI
  na : ∀ a ∈ as, NoAttr K C a
structure DfM (K : PySem.W.Frag) (C : Addr) (m : Str) (f : Addr) (fd : FuncData) (ps : List Str) : Prop where
  me : Meth K C m f
  b : Binds K fd ps []
structure DfI (K : PySem.W.Frag) (fd : FuncData) (ps : List Str) : Prop where
  b : Binds K fd ps []
structure TX (K : PySem.W.Frag) (mg : Str → Option Value) (x : Str) (C R fI : Addr) (as : List Str) : Prop where
  m : mg x = some (.ref C)
  c : ExCl K C R fI
  x : XCls K C (.ref R :: VB)
  n : ∀ a ∈ as, PySem.W.findIn K (.ref C) a = some none
structure TXB (K : PySem.W.Frag) (mg : Str → Option Value) (C fI : Addr) : Prop where
  m : mg "RoomError" = some (.ref C)
  i : CInit K C fI
  x : XCls K C VB

/-- the module's constants -/
structure Cst (K : PySem.W.Frag) (mg : Str → Option Value) (t1 t2 t3 t4 t5 : Tok) (ts : Addr) : Prop where
  CELL_BITS : mg "CELL_BITS" = some (.int 8 t1)
  MOST_PLACE_CELLS : mg "MOST_PLACE_CELLS" = some (.int 64 t2)
  TAG_BITS : mg "TAG_BITS" = some (.int 2 t3)
  MOST_LINE_CELLS : mg "MOST_LINE_CELLS" = some (.int 64 t4)
  MOST_KEPT : mg "MOST_KEPT" = some (.int 32 t5)
  TAG_SHIFTS : mg "TAG_SHIFTS" = some (.ref ts)
  shifts : ∀ H, SqT K H ts [.int 0, .int 2, .int 4, .int 6]
/-- each number drawn is below its bound -/
def Below (vs ms : List Int) : Prop := vs.length = ms.length ∧ ∀ (i : Nat) (v m : Int), vs[i]? = some v → ms[i]? = some m → 0 ≤ v ∧ v < m
theorem Below.nil : Below [] [] := ⟨rfl, fun i v m h => by simp at h⟩
theorem Below.snoc {vs ms : List Int} {i : Nat} {v m : Int} (h : Below vs (ms.take i)) (hm : ms[i]? = some m) (h0 : 0 ≤ v) (h1 : v < m) : Below (vs ++ [v]) (ms.take (i + 1)) := by
  rw [take_snoc hm]
  refine ⟨by rw [List.length_append, List.length_append, h.1]; rfl, fun j x y hx hy => ?_⟩
  by_cases hj : j < vs.length
  · rw [List.getElem?_append_left hj] at hx
    rw [List.getElem?_append_left (by rw [← h.1]; exact hj)] at hy
    exact h.2 j x y hx hy
  · rw [List.getElem?_append_right (by omega)] at hx
    rw [List.getElem?_append_right (by rw [← h.1]; omega), ← h.1] at hy
    cases e : j - vs.length with
    | zero => rw [e] at hx hy; simp at hx hy; subst hx; subst hy; exact ⟨h0, h1⟩
    | succ n => rw [e] at hx; simp at hx
theorem Below.len {vs ms : List Int} {i : Nat} (h : Below vs (ms.take i)) : vs.length ≤ ms.length := by
  rw [h.1, List.length_take]; exact Nat.min_le_right _ _
theorem Below.all {vs ms : List Int} (h : Below vs (ms.take ms.length)) : Below vs ms := by rw [List.take_length] at h; exact h
def spDrawn (K : PySem.W.Frag) : Sp := fun vs H Q _ => ∃ (c : Int) (l : Addr) (ms : List Int), vs = [.int c, .ref l] ∧ SqL K H l (ms.map V.int) ∧ (∀ m ∈ ms, 0 < m ∧ m < 2 ^ 128) ∧ ms.length ≤ 100 ∧
  ∀ (r : Addr) (ws : List Int), H r = none → Below ws ms → Q (.ref r) (upd H r (.lst (ws.map V.int)))

/-- a place by its three numbers -/
def Ok3 (c s b : Int) : Prop := 0 ≤ c ∧ ((b = 2 ∧ (s = 0 ∨ s = 2 ∨ s = 4 ∨ s = 6)) ∨ (s = 0 ∧ ∃ n : Int, 1 ≤ n ∧ n ≤ 64 ∧ b = 8 * n))
abbrev T3 (K : PySem.W.Frag) (H : Hp) (t : Addr) (c s b : Int) : Prop := SqT K H t [.int c, .int s, .int b]
theorem Ok3.bits {c s b : Int} (h : Ok3 c s b) : 0 ≤ s ∧ s ≤ 6 ∧ 1 ≤ b ∧ b ≤ 512 := by
  obtain ⟨_, h | ⟨h, n, h1, h2, h3⟩⟩ := h <;> omega
def nCells (b : Int) : Nat := (if b / 8 > 1 then b / 8 else 1).toNat
def spPacked : Sp := fun vs H Q _ => ∃ s b : Int, vs = [.int s, .int b] ∧ ∀ k : Bool, (k = true ↔ b = 2 ∧ (s = 0 ∨ s = 2 ∨ s = 4 ∨ s = 6)) → Q (.bl k) H
def spWholeC : Sp := fun vs H Q _ => ∃ s b : Int, vs = [.int s, .int b] ∧ ∀ (k : Bool) (H' : Hp), Same H H' → (k = true ↔ s = 0 ∧ b % 8 = 0 ∧ 1 ≤ b / 8 ∧ b / 8 ≤ 64) → Q (.bl k) H'
def spIsPlace (K : PySem.W.Frag) : Sp := fun vs H Q _ => ∃ (t : Addr) (c s b : Int), vs = [.ref t] ∧ T3 K H t c s b ∧ Ok3 c s b ∧ ∀ H', Same H H' → Q (.bl true) H'
def spNeed (K : PySem.W.Frag) : Sp := fun vs H Q _ => ∃ (t : Addr) (c s b : Int), vs = [.ref t] ∧ T3 K H t c s b ∧ Ok3 c s b ∧ ∀ H', Same H H' → Q .non H'
def spCellsIn (K : PySem.W.Frag) : Sp := fun vs H Q _ => ∃ (t : Addr) (c s b : Int), vs = [.ref t] ∧ T3 K H t c s b ∧ Ok3 c s b ∧ ∀ (r : Addr) (H' : Hp), Same H H' → H r = none → H' r = some (.lst ((rangeL c (nCells b)).map V.int)) → Q (.ref r) H'
theorem inV_ints (q : Int) (ns : List Int) : inV (.int q) (ns.map V.int) = decide (q ∈ ns) := by
  rw [Bool.eq_iff_iff]
  simp only [inV, List.any_map, List.any_eq_true, Function.comp, decide_eq_true_eq, eqV, beq_iff_eq]
  constructor
  · rintro ⟨x, hx, rfl⟩; exact hx
  · intro h; exact ⟨q, h, rfl⟩
theorem nCells_pos (b : Int) : 1 ≤ nCells b := by unfold nCells; split <;> omega
theorem nCells_le {c s b : Int} (h : Ok3 c s b) : nCells b ≤ 64 := by
  obtain ⟨_, h | ⟨h, n, h1, h2, h3⟩⟩ := h
  · obtain ⟨rfl, _⟩ := h; decide
  · subst h3; unfold nCells; split <;> omega
/-- the exception at e tells of v -/
def NPx (CN : Addr) (H : Hp) (e : Addr) (v : V) : Prop := ∃ dx, H e = some (ExF e CN (some dx)) ∧ H dx = some (XD dx [("found", v)])
theorem np_fin {CN e dx : Addr} {v : V} {H H' : Hp} (g : Same H H') (he : H' e = none) (hd : upd H' e (Ex0 e CN none) dx = none) :
    Same H (upd (upd (upd (upd H' e (Ex0 e CN none)) dx (XD dx [("found", v)])) e (Ex0 e CN (some dx))) e (ExF e CN (some dx))) ∧ NPx CN (upd (upd (upd (upd H' e (Ex0 e CN none)) dx (XD dx [("found", v)])) e (Ex0 e CN (some dx))) e (ExF e CN (some dx))) e v := by
  have ne : dx ≠ e := fun z => by rw [z, upd_same] at hd; cases hd
  have hd' : H' dx = none := by rw [upd_ne ne] at hd; exact hd
  refine ⟨fun b o q => ?_, dx, upd_same, ?_⟩
  · have q' := g b o q
    have n1 : b ≠ e := ne_of_none q' he
    have n2 : b ≠ dx := ne_of_none q' hd'
    rw [upd_ne n1, upd_ne n1, upd_ne n2, upd_ne n1]; exact q'
  · rw [upd_ne ne, upd_ne ne, upd_same]
def spRE (K : PySem.W.Frag) : Sp := fun vs H Q _ => ∃ (e : Addr) (v : V) (C R fI : Addr) (dx : Option Addr), vs = [.ref e, v] ∧ H e = some (Ex0 e C dx) ∧ ExCl K C R fI ∧ Q .non H
def spNP (CN : Addr) : Sp := fun vs H Q _ => ∃ (e : Addr) (v : V), vs = [.ref e, v] ∧ H e = some (Ex0 e CN none) ∧ ∀ dx, H dx = none → Q .non (upd (upd H dx (XD dx [("found", v)])) e (Ex0 e CN (some dx)))
/-- things that are no whole numbers -/
def oddT : List String := ["bool", "NoneType", "str", "list", "tuple", "dict"]
def Odd (K : PySem.W.Frag) (H : Hp) (x : V) : Prop := ∃ t, t ∈ oddT ∧ tyM K x H t
def spIsW (K : PySem.W.Frag) : Sp := fun vs H Q _ => (∃ n : Int, vs = [.int n] ∧ Q (.bl true) H) ∨ (∃ x, vs = [x] ∧ Odd K H x ∧ Q (.bl false) H)
/-- a thing -/
structure Th (K : PySem.W.Frag) (H : Hp) (x : V) (d : PyData) : Prop where
  dat : DatF K H x d
  sh : d.showable = true
  dp : d.depth ≤ 8
  ln : d.shown.length ≤ sizeLine
theorem Th.same {K : PySem.W.Frag} {H H' : Hp} {x : V} {d : PyData} (h : Th K H x d) (g : Same H H') : Th K H' x d := ⟨h.dat.same g, h.sh, h.dp, h.ln⟩
/-- what is told of a thing: whether it is a place -/
def GoodD (d : PyData) : Prop := ∃ c s b, d = .tuple [.int c, .int s, .int b] ∧ Ok3 c s b
theorem th_tuple {K : PySem.W.Frag} {H : Hp} {x : V} {c s b : Int} (h : DatF K H x (.tuple [.int c, .int s, .int b])) : ∃ t, x = .ref t ∧ T3 K H t c s b := by
  rcases h with ⟨h, _⟩ | ⟨_, _, _, _, _, e⟩
  · cases h with
    | tup hT hs =>
      cases hs with
      | cons h0 hs =>
        cases hs with
        | cons h1 hs =>
          cases hs with
          | cons h2 hs =>
            cases hs; cases h0; cases h1; cases h2
            exact ⟨_, rfl, hT⟩
  · cases e
/-- is it an int -/
def isIntV : V → Bool
  | .int _ => true
  | _ => false
theorem odd_of {K : PySem.W.Frag} {H : Hp} {x : V} {d : PyData} (h : Dat K H x d) : (∃ n, x = .int n) ∨ (isIntV x = false ∧ Odd K H x) := by
  cases h with
  | non => exact .inr ⟨rfl, "NoneType", by decide, .inl rfl⟩
  | bl _ => exact .inr ⟨rfl, "bool", by decide, .inl rfl⟩
  | int n => exact .inl ⟨n, rfl⟩
  | str _ => exact .inr ⟨rfl, "str", by decide, .inl rfl⟩
  | lst h _ => exact .inr ⟨rfl, "list", by decide, .inl (.inl ⟨rfl, _, h⟩)⟩
  | tup h _ => exact .inr ⟨rfl, "tuple", by decide, .inl (.inr ⟨rfl, _, h⟩)⟩
theorem datAll_len {K : PySem.W.Frag} {H : Hp} : ∀ {xs : List V} {ds : List PyData}, DatAll K H xs ds → xs.length = ds.length
  | _, _, .nil => rfl
  | _, _, .cons _ t => by rw [List.length_cons, List.length_cons, datAll_len t]
theorem datAll_get {K : PySem.W.Frag} {H : Hp} : ∀ {xs : List V} {ds : List PyData} {i : Nat} {x : V}, DatAll K H xs ds → xs[i]? = some x → ∃ d, Dat K H x d
  | _, _, _, _, .nil, e => by simp at e
  | _, _, 0, _, .cons h _, e => by simp at e; subst e; exact ⟨_, h⟩
  | _, _, i + 1, _, .cons _ t, e => datAll_get (i := i) t (by simpa using e)
def spIsPG (K : PySem.W.Frag) : Sp := fun vs H Q _ => ∃ x d, vs = [x] ∧ DatF K H x d ∧ ∀ (k : Bool) (H' : Hp), Same H H' → (k = true ↔ GoodD d) → Q (.bl k) H'
def spNeedG (K : PySem.W.Frag) (CN : Addr) : Sp := fun vs H Q E => ∃ x d, vs = [x] ∧ DatF K H x d ∧ (GoodD d → ∀ H', Same H H' → Q .non H') ∧ (¬ GoodD d → ∀ e H', Same H H' → H e = none → NPx CN H' e x → E (.ref e) none H')
def spCellsG (K : PySem.W.Frag) (CN : Addr) : Sp := fun vs H Q E => ∃ x d, vs = [x] ∧ DatF K H x d ∧ (∀ c s b, d = .tuple [.int c, .int s, .int b] → Ok3 c s b → ∀ (r : Addr) (H' : Hp), Same H H' → H r = none → H' r = some (.lst ((rangeL c (nCells b)).map V.int)) → Q (.ref r) H') ∧
  (¬ GoodD d → ∀ e H', Same H H' → H e = none → NPx CN H' e x → E (.ref e) none H')
theorem made_same {x dx : Addr} {o o' : HO} {H : Hp} (hx : H x = none) (hd : H dx = none) : Same H (upd (upd H dx o) x o') := fun b u q => by
  rw [upd_ne (ne_of_none q hx), upd_ne (ne_of_none q hd)]; exact q

theorem pe_xfldK {X : Cx} {K : PySem.W.Frag} {o : Expr} {f : Str} {pos : Pos} {ta : TE} (hK : X.K = K) (he : PE X o ta) (hb : attributeBase o f X.env (eval o X.env) = eval o X.env) : PE X (.Attribute o f pos) (tXfld K ta f) := hK ▸ pe_xfld he hb
theorem call_listK {X : Cx} {K : PySem.W.Frag} (h : X.K = K) : CallR X (.type "list") (fun xs H Q => ∃ p ys, xs = [.ref p] ∧ (SqL K H p ys ∨ SqT K H p ys) ∧ ∀ l, H l = none → Q (.ref l) (upd H l (.lst ys))) := h ▸ call_list_of
def spNo : Sp := fun _ _ _ _ => False
def spCount (K : PySem.W.Frag) : Sp := fun vs H Q _ => (∃ n : Int, vs = [.int n] ∧ Q (.bl (decide (n ≥ 0))) H) ∨ (∃ x, vs = [x] ∧ Odd K H x ∧ Q (.bl false) H)
def spBtwG (K : PySem.W.Frag) : Sp := fun vs H Q _ => (∃ n lo hi : Int, vs = [.int n, .int lo, .int hi] ∧ Q (.bl (decide (lo ≤ n ∧ n ≤ hi))) H) ∨ (∃ (x : V) (lo hi : Int), vs = [x, .int lo, .int hi] ∧ Odd K H x ∧ Q (.bl false) H)
/-- a refusal of the class at CN that tells of x -/
def Refd (H : Hp) (E : XK) (CN : Addr) (x : V) : Prop := ∀ e H', Same H H' → H e = none → NPx CN H' e x → E (.ref e) none H'
theorem Refd.same {H H1 : Hp} {E : XK} {CN : Addr} {x : V} (h : Refd H E CN x) (g : Same H H1) : Refd H1 E CN x := fun e H' g' he hx => h e H' (g.trans g') (g.free he) hx
theorem Refd.fin {H H1 : Hp} {E : XK} {CN : Addr} {x : V} (q : Refd H E CN x) (g : Same H H1) : ∀ e, H1 e = none → ∀ dx, upd H1 e (Ex0 e CN none) dx = none → E (.ref e) none (upd (upd (upd (upd H1 e (Ex0 e CN none)) dx (XD dx [("found", x)])) e (Ex0 e CN (some dx))) e (ExF e CN (some dx))) := fun e he dx hd => by
  obtain ⟨g2, hx⟩ := np_fin (v := x) g he hd
  exact q e _ g2 (g.free he) hx
def BadL (K : PySem.W.Frag) (H : Hp) (x : V) : Prop := (∃ n : Int, x = .int n ∧ ¬ n ≥ 0) ∨ Odd K H x
def BadK (K : PySem.W.Frag) (lo hi : Int) (H : Hp) (x : V) : Prop := (∃ n : Int, x = .int n ∧ ¬ (lo ≤ n ∧ n ≤ hi)) ∨ Odd K H x
theorem Odd.same {K : PySem.W.Frag} {H H' : Hp} {x : V} (h : Odd K H x) (g : Same H H') : Odd K H' x := by
  obtain ⟨t, ht, h⟩ := h
  refine ⟨t, ht, ?_⟩
  rcases h with h | ⟨e, p, kvs, e2, h⟩
  · left
    cases x with
    | ref p =>
      rcases h with ⟨e, xs, h⟩ | ⟨e, xs, h⟩
      · exact .inl ⟨e, xs, g.seq h⟩
      · exact .inr ⟨e, xs, g.tp h⟩
    | _ => exact h
  · exact .inr ⟨e, p, kvs, e2, g _ _ h⟩
theorem BadL.same {K : PySem.W.Frag} {H H' : Hp} {x : V} (h : BadL K H x) (g : Same H H') : BadL K H' x := h.imp id fun z => z.same g
theorem BadK.same {K : PySem.W.Frag} {lo hi : Int} {H H' : Hp} {x : V} (h : BadK K lo hi H x) (g : Same H H') : BadK K lo hi H' x := h.imp id fun z => z.same g
def spNKG (K : PySem.W.Frag) (CN : Addr) : Sp := fun vs H Q E => (∃ B : Nat, vs = [.int B] ∧ 1 ≤ B ∧ B ≤ 32 ∧ Q .non H) ∨ (∃ x, vs = [x] ∧ BadK K 1 32 H x ∧ Refd H E CN x)
def spNLG (K : PySem.W.Frag) (CN : Addr) : Sp := fun vs H Q E => (∃ n : Int, vs = [.int n] ∧ n ≥ 0 ∧ Q .non H) ∨ (∃ x, vs = [x] ∧ BadL K H x ∧ Refd H E CN x)
def spNLsG (K : PySem.W.Frag) (CN : Addr) : Sp := fun vs H Q E => ∃ (a : Addr) (ns : List Int), vs = [.ref a] ∧ (∀ n ∈ ns, n ≥ 0) ∧ ((SqL K H a (ns.map V.int) ∧ Q .non H) ∨ ∃ x rest, SqL K H a (ns.map V.int ++ x :: rest) ∧ BadL K H x ∧ Refd H E CN x)
def spKIB (K : PySem.W.Frag) (CN : Addr) : Sp := fun vs H Q E => ∃ (a : Addr) (x : V), vs = [.ref a, x] ∧ BadK K 1 32 H x ∧ Refd H E CN x
/-- a bad line, or a bad bound behind good lines -/
def FeP (K : PySem.W.Frag) (CL CK : Addr) (H : Hp) (E : XK) (la : Addr) (m : V) : Prop := ∃ ns : List Int, (∀ n ∈ ns, n ≥ 0) ∧ ns.length ≤ 80 ∧ ((SqL K H la (ns.map V.int) ∧ BadK K 1 32 H m ∧ Refd H E CK m) ∨ ∃ x rest, SqL K H la (ns.map V.int ++ x :: rest) ∧ BadL K H x ∧ Refd H E CL x)
def spFe (K : PySem.W.Frag) (CL CK : Addr) : Sp := fun vs H _ E => ∃ la m, vs = [.ref la, m] ∧ FeP K CL CK H E la m
def spFe3 (K : PySem.W.Frag) (CL CK : Addr) : Sp := fun vs H _ E => ∃ la m y, vs = [.ref la, m, y] ∧ FeP K CL CK H E la m
def spDiG (K : PySem.W.Frag) (CL : Addr) : Sp := fun vs H Q E => ∃ (la : Addr) (ns : List Int), vs = [.ref la] ∧ (∀ n ∈ ns, n ≥ 0) ∧ ns.length ≤ 80 ∧ ((SqL K H la (ns.map V.int) ∧ ∀ r H', Same H H' → Q (.ref r) H') ∨ ∃ x rest, SqL K H la (ns.map V.int ++ x :: rest) ∧ BadL K H x ∧ Refd H E CL x)
def spPl (K : PySem.W.Frag) : Sp := fun vs H Q _ => ∃ (a : Addr) (ns : List Int) (j : Int), vs = [.ref a, .int j] ∧ SqL K H a (ns.map V.int) ∧ 0 < ns.length ∧ ns.length ≤ 100 ∧ ∀ p : Nat, p < ns.length → Q (.int p) H
/-- good places ahead of a bad one -/
def GoodPs (K : PySem.W.Frag) (H : Hp) (ps : List Addr) : Prop := ps.length ≤ 10 ∧ ∀ t ∈ ps, ∃ c s b, T3 K H t c s b ∧ Ok3 c s b
theorem GoodPs.same {K : PySem.W.Frag} {H H' : Hp} {ps : List Addr} (h : GoodPs K H ps) (g : Same H H') : GoodPs K H' ps := ⟨h.1, fun t ht => by
  obtain ⟨c, s, b, h1, h2⟩ := h.2 t ht
  exact ⟨c, s, b, g.tp h1, h2⟩⟩
def LoP (K : PySem.W.Frag) (CL CP : Addr) (H : Hp) (E : XK) (la : Addr) (m : V) : Prop := ((∃ ys, SqL K H la ys) ∧ BadK K 1 64 H m ∧ Refd H E CL m) ∨ ∃ (B : Nat) (ps : List Addr) (x : V) (d : PyData) (rest : List V), m = .int B ∧ 1 ≤ B ∧ B ≤ 64 ∧ SqL K H la (ps.map V.ref ++ x :: rest) ∧ GoodPs K H ps ∧ DatF K H x d ∧ ¬ GoodD d ∧ Refd H E CP x
def spLo (K : PySem.W.Frag) (CL CP : Addr) : Sp := fun vs H _ E => ∃ la m, vs = [.ref la, m] ∧ LoP K CL CP H E la m
/-- what is asked, and what is due: w the number of the door, x the thing, CE its refusal's class -/
inductive Ask (K : PySem.W.Frag) (CL CK CP : Addr) (H : Hp) : Nat → Addr → V → Addr → V → Prop
  | line {w : Nat} {la : Addr} {m x : V} (ns : List Int) (rest : List V) : w ∈ [0, 1, 2, 3, 5] → (∀ n ∈ ns, n ≥ 0) → ns.length ≤ 80 → SqL K H la (ns.map V.int ++ x :: rest) → BadL K H x → Ask K CL CK CP H w la m CL x
  | keep {w : Nat} {la : Addr} {x : V} (ns : List Int) : w ∈ [0, 1, 2, 3] → (∀ n ∈ ns, n ≥ 0) → ns.length ≤ 80 → SqL K H la (ns.map V.int) → BadK K 1 32 H x → Ask K CL CK CP H w la x CK x
  | kept {la : Addr} {x : V} : BadK K 1 32 H x → Ask K CL CK CP H 6 la x CK x
  | wide {la : Addr} {x : V} (ys : List V) : SqL K H la ys → BadK K 1 64 H x → Ask K CL CK CP H 4 la x CL x
  | place {la : Addr} {x : V} (B : Nat) (ps : List Addr) (d : PyData) (rest : List V) : 1 ≤ B → B ≤ 64 → SqL K H la (ps.map V.ref ++ x :: rest) → GoodPs K H ps → DatF K H x d → ¬ GoodD d → Ask K CL CK CP H 4 la (.int B) CP x
def spAsk (K : PySem.W.Frag) (CL CK CP : Addr) : Sp := fun vs H _ E => ∃ (w : Nat) (la : Addr) (m : V) (CE : Addr) (x : V), vs = [.int w, .ref la, m] ∧ Ask K CL CK CP H w la m CE x ∧ Refd H E CE x
structure XN6 (K : PySem.W.Frag) (CL CK CP : Addr) : Prop where
  lk : XNot K CL CK
  lp : XNot K CL CP
  kl : XNot K CK CL
  kp : XNot K CK CP
  pl : XNot K CP CL
  pk : XNot K CP CK
def wordOf (CL CK CP CE : Addr) (w : Str) : Prop := (CE = CL ∧ w = Str.ofString "line") ∨ (CE = CK ∧ w = Str.ofString "keep") ∨ (CE = CP ∧ w = Str.ofString "place")
def spRf (K : PySem.W.Frag) (CL CK CP : Addr) : Sp := fun vs H Q _ => ∃ (w : Nat) (la : Addr) (m : V) (word : Str) (CE : Addr) (x : V) (d : PyData), vs = [.int w, .ref la, m, .str word, x] ∧ Ask K CL CK CP H w la m CE x ∧ Th K H x d ∧ wordOf CL CK CP CE word ∧ ∀ H', Same H H' → Q (.bl true) H'
theorem same_upd {H H1 : Hp} {a : Addr} {o : HO} (g : Same H H1) (ha : H a = none) : Same H (upd H1 a o) := fun b u q => by
  rw [upd_ne (ne_of_none q ha)]; exact g _ _ q
theorem map_erase (ls : List Int) (p : Nat) : (ls.map V.int).eraseIdx p = (ls.eraseIdx p).map V.int := by
  induction ls generalizing p with
  | nil => rfl
  | cons x ls ih => cases p with
    | zero => rfl
    | succ p => show _ :: _ = _ :: _; rw [ih]
def IntVals (kvs : List (Key × V)) : Prop := ∀ k v, valV kvs k = some v → ∃ j, v = .int j
theorem IntVals.put {kvs : List (Key × V)} (h : IntVals kvs) (k : Key) (j : Int) : IntVals (putK kvs k (.int j)) := fun k' v e => by
  rw [valV_put] at e
  split at e
  · cases e; exact ⟨j, rfl⟩
  · exact h k' v e
theorem div_near {c m w : Int} (hw : 1 ≤ w) (hm : 0 ≤ m) : c / w ≤ (c + m) / w ∧ (c + m) / w ≤ c / w + m := by
  constructor
  · exact Int.ediv_le_ediv (by omega) (by omega)
  · have h1 : (c + m) / w ≤ (c + m * w) / w := Int.ediv_le_ediv (by omega) (by
      have : m * 1 ≤ m * w := Int.mul_le_mul_of_nonneg_left hw hm
      omega)
    rwa [Int.add_mul_ediv_right _ _ (by omega)] at h1
theorem Exc.same {K : PySem.W.Frag} {H H' : Hp} {e C : Addr} {fs : List (Str × V)} (h : Exc K H e C fs) (g : Same H H') : Exc K H' e C fs := by
  obtain ⟨dx, R, fI, he, hd, c⟩ := h
  exact ⟨dx, R, fI, he.imp (g _ _) (g _ _), g _ _ hd, c⟩
theorem app_line : Str.ofString "" ++ Str.ofString "line" = Str.ofString "line" := by decide +kernel
theorem app_keep : Str.ofString "" ++ Str.ofString "keep" = Str.ofString "keep" := by decide +kernel
theorem app_place : Str.ofString "" ++ Str.ofString "place" = Str.ofString "place" := by decide +kernel
def SZ17 : List Int := [8, 8, 8, 10, 7, 7, 64, 9, 100, 2000, 2000, 2000, 2000, 2000, 2000, 2000, 2000]
theorem Below.at {ws ms : List Int} {i : Nat} {m : Int} (h : Below ws ms) (hm : ms[i]? = some m) : ∃ n : Nat, atI (ws.map V.int) (i : Int) = some (.int n) ∧ (n : Int) < m := by
  have hi : i < ms.length := (List.getElem?_eq_some_iff.mp hm).1
  have hi2 : i < ws.length := by rw [h.1]; exact hi
  have hv := List.getElem?_eq_getElem hi2
  obtain ⟨h0, h1⟩ := h.2 i _ m hv hm
  refine ⟨ws[i].toNat, ?_, by omega⟩
  rw [show ((ws[i].toNat : Nat) : Int) = ws[i] by omega]
  exact atI_nat (by rw [List.getElem?_map, hv]; rfl)
/-- a thing with a bound that it breaks -/
structure BadTh (K : PySem.W.Frag) (B : Hp → V → Prop) (H : Hp) (v : V) : Prop where
  ex : ∃ d, Th K H v d
  b : B H v
def spBadD (K : PySem.W.Frag) : Sp := fun vs H Q _ => ∃ (dr : Addr) (ws : List Int), vs = [.ref dr] ∧ SqL K H dr (ws.map V.int) ∧ Below ws SZ17 ∧ ∀ t H' x1 x2 x3 x4, Same H H' → SqT K H' t [x1, x2, x3, x4] → BadTh K (BadL K) H' x1 → BadTh K (BadK K 1 32) H' x2 → BadTh K (BadK K 1 64) H' x3 → (∃ d, Th K H' x4 d ∧ ¬ GoodD d) → Q (.ref t) H'
def spHeldD (K : PySem.W.Frag) : Sp := fun vs H Q _ => ∃ (dr : Addr) (ws : List Int), vs = [.ref dr] ∧ SqL K H dr (ws.map V.int) ∧ Below ws SZ17 ∧ ∀ H', Same H H' → Q (.bl true) H'
theorem BadTh.same {K : PySem.W.Frag} {H H' : Hp} {v : V} (h : BadTh K (BadL K) H v) (g : Same H H') : BadTh K (BadL K) H' v := ⟨h.ex.imp fun d z => z.same g, h.b.same g⟩
theorem BadTh.samK {K : PySem.W.Frag} {lo hi : Int} {H H' : Hp} {v : V} (h : BadTh K (BadK K lo hi) H v) (g : Same H H') : BadTh K (BadK K lo hi) H' v := ⟨h.ex.imp fun d z => z.same g, h.b.same g⟩
theorem thP_same {K : PySem.W.Frag} {H H' : Hp} {v : V} (h : ∃ d, Th K H v d ∧ ¬ GoodD d) (g : Same H H') : ∃ d, Th K H' v d ∧ ¬ GoodD d := h.imp fun d z => ⟨z.1.same g, z.2⟩
theorem ngT {ds : List PyData} (h : ds.length ≠ 3) : ¬ GoodD (.tuple ds) := fun z => by
  obtain ⟨c', s, b, e, ho⟩ := z
  cases e
  exact h rfl
theorem ngN {d : PyData} (h : ∀ ds, d ≠ .tuple ds) : ¬ GoodD d := fun z => by
  obtain ⟨c', s, b, e, ho⟩ := z
  exact h _ e
theorem ng3 {c s b : Int} (h : ¬ Ok3 c s b) : ¬ GoodD (.tuple [.int c, .int s, .int b]) := fun z => by
  obtain ⟨c', s', b', e, ho⟩ := z
  cases e
  exact h ho
theorem not_ok {c s b : Int} (h : c < 0 ∨ ((b ≠ 2 ∨ (s ≠ 0 ∧ s ≠ 2 ∧ s ≠ 4 ∧ s ≠ 6)) ∧ (s ≠ 0 ∨ b % 8 ≠ 0 ∨ b / 8 < 1 ∨ 64 < b / 8))) : ¬ Ok3 c s b := fun z => by
  obtain ⟨h0, ⟨h1, h2⟩ | ⟨h1, n, h2, h3, h4⟩⟩ := z <;> omega
/-- a row, where its list of places lies, the places -/
abbrev Zr := Int × Addr × List V
abbrev zrI (zs : List Zr) : List V := zs.map fun z => V.int z.1
abbrev zrP (zs : List Zr) : List V := zs.map fun z => V.ref z.2.1
def selL (zs : List Zr) (f l : Int) : List V := (zs.filter fun z => decide (f ≤ z.1 ∧ z.1 ≤ l)).flatMap (·.2.2)
theorem selL_take {zs : List Zr} {i : Nat} {z : Zr} (f l : Int) (h : zs[i]? = some z) : selL (zs.take (i + 1)) f l = selL (zs.take i) f l ++ (if f ≤ z.1 ∧ z.1 ≤ l then z.2.2 else []) := by
  have e : zs.take (i + 1) = zs.take i ++ [z] := by rw [List.take_add_one, h] <;> rfl
  unfold selL
  rw [e, List.filter_append, List.flatMap_append]
  congr 1
  by_cases c : f ≤ z.1 ∧ z.1 ≤ l
  · rw [if_pos c]; simp [c]
  · rw [if_neg c, List.filter_cons_of_neg (by simp only [decide_eq_true_eq]; exact c)]; rfl
def spLB (K : PySem.W.Frag) : Sp := fun vs H Q _ => ∃ (a b : Addr) (zs : List Zr) (f l : Int), vs = [.ref a, .ref b, .int f, .int l] ∧ SqL K H a (zrI zs) ∧ SqL K H b (zrP zs) ∧ (∀ z ∈ zs, H z.2.1 = some (.lst z.2.2)) ∧ zs.length ≤ 10 ∧ (∀ z ∈ zs, z.2.2.length ≤ 9) ∧
  ∀ r H', Same H H' → H r = none → H' r = some (.lst (selL zs f l)) → Q (.ref r) H'
theorem sz_at : ∀ i : Fin 8, SZ17[9 + i.val]? = some 2000 := by decide
abbrev zrC (zs : List Zr) : List (Int × List V) := zs.map fun z => (z.1, z.2.2)
theorem zrI_snoc (zs : List Zr) (z : Zr) : zrI (zs ++ [z]) = zrI zs ++ [.int z.1] := List.map_append
theorem zrP_snoc (zs : List Zr) (z : Zr) : zrP (zs ++ [z]) = zrP zs ++ [.ref z.2.1] := List.map_append
theorem zrC_snoc (zs : List Zr) (z : Zr) : zrC (zs ++ [z]) = zrC zs ++ [(z.1, z.2.2)] := List.map_append
theorem selL_zrC (f l : Int) : ∀ {zs zs2 : List Zr}, zrC zs = zrC zs2 → selL zs f l = selL zs2 f l
  | [], [], _ => rfl
  | [], _ :: _, h => by cases h
  | _ :: _, [], h => by cases h
  | z :: zs, y :: ys, h => by
    have h1 : (z.1, z.2.2) = (y.1, y.2.2) := (List.cons.inj h).1
    have h2 : zrC zs = zrC ys := (List.cons.inj h).2
    have ih := selL_zrC f l h2
    have e1 : z.1 = y.1 := (Prod.mk.inj h1).1
    have e2 : z.2.2 = y.2.2 := (Prod.mk.inj h1).2
    unfold selL at ih ⊢
    rw [List.filter_cons, List.filter_cons, e1]
    split
    · rw [List.flatMap_cons, List.flatMap_cons, ih, e2]
    · exact ih
theorem zrI_zrC : ∀ {zs zs2 : List Zr}, zrC zs = zrC zs2 → zrI zs = zrI zs2
  | [], [], _ => rfl
  | [], _ :: _, h => by cases h
  | _ :: _, [], h => by cases h
  | z :: zs, y :: ys, h => by
    have h1 : (z.1, z.2.2) = (y.1, y.2.2) := (List.cons.inj h).1
    have e1 : z.1 = y.1 := (Prod.mk.inj h1).1
    have e2 : zrI zs = zrI ys := zrI_zrC (List.cons.inj h).2
    show V.int z.1 :: zrI zs = V.int y.1 :: zrI ys
    rw [e1, e2]
theorem zrC_get {zs zs2 : List Zr} (h : zrC zs = zrC zs2) {i : Nat} {z y : Zr} (hz : zs[i]? = some z) (hy : zs2[i]? = some y) : z.2.2 = y.2.2 := by
  have : (zrC zs)[i]? = (zrC zs2)[i]? := by rw [h]
  rw [List.getElem?_map, List.getElem?_map, hz, hy] at this
  exact (Prod.mk.inj (Option.some.inj this)).2
theorem selL_self {zs : List Zr} {f l : Int} (h : ∀ z ∈ zs, ∀ v ∈ z.2.2, SelfV v) : ∀ v ∈ selL zs f l, SelfV v := fun v hv => by
  obtain ⟨z, hz, hv⟩ := List.mem_flatMap.mp hv
  exact h z (List.mem_filter.mp hz).1 v hv
theorem selL_len {zs : List Zr} {f l : Int} (h : ∀ z ∈ zs, z.2.2.length ≤ 9) : (selL zs f l).length ≤ 9 * zs.length := by
  induction zs with
  | nil => exact Nat.zero_le _
  | cons z zs ih =>
    have h1 := ih fun y hy => h y (List.mem_cons_of_mem _ hy)
    have h2 := h z (List.mem_cons_self ..)
    unfold selL at h1 ⊢
    rw [List.filter_cons]
    split
    · rw [List.flatMap_cons, List.length_append, List.length_cons]; omega
    · rw [List.length_cons]; omega
theorem eqs_same {K : PySem.W.Frag} {H : Hp} {n : Nat} {xs ys : List V} (e : xs = ys) (h : ∀ v ∈ xs, SelfV v) : ∀ (i : Nat) x y, xs[i]? = some x → ys[i]? = some y → EqS K H n x y := fun i x y hx hy => by
  subst e
  rw [hx] at hy
  cases hy
  exact .same (h x (List.mem_of_getElem? hx))
/-- the rows and their places as they lie -/
structure Zs (H : Hp) (zs : List Zr) : Prop where
  at' : ∀ z ∈ zs, H z.2.1 = some (.lst z.2.2)
  len : ∀ z ∈ zs, z.2.2.length ≤ 9
  slf : ∀ z ∈ zs, ∀ v ∈ z.2.2, SelfV v
theorem Zs.same {H H' : Hp} {zs : List Zr} (h : Zs H zs) (g : Same H H') : Zs H' zs := ⟨fun z hz => g _ _ (h.at' z hz), h.len, h.slf⟩
theorem cut_first (xs : List V) (k : Nat) : cutV xs none (some (k : Int)) = xs.take k := by
  unfold cutV
  rw [HT.sIx_none, HT.sIx_nat, Nat.sub_zero, List.drop_zero]
  by_cases h : k ≤ xs.length
  · rw [Nat.min_eq_left h]
  · rw [Nat.min_eq_right (by omega), List.take_of_length_le (Nat.le_refl _), List.take_of_length_le (by omega)]
end K52

namespace K52
open PySem L2 PyProof.Rows
abbrev s_is_whole : Stmt := top 7
theorem sc_is_whole : FnScope ["thing"] ["thing"] (defScope s_is_whole) := ⟨rfl, rfl, rfl, by decide +kernel, rfl, by decide +kernel, by decide +kernel⟩
section
variable {P : Program} {w : World} {K : PySem.W.Frag} {mg : Str → Option Value} {base : Heap}
theorem ok_is_whole {k : Nat} {f : Addr} {fd : FuncData} (F : Fun K "is_whole" "is_whole" s_is_whole f fd) (M : Blt mg) {t1 t2 t3 t4 t5 : Tok} {ts : Addr} (C : Cst K mg t1 t2 t3 t4 t5 ts) {C_Kept f_Kept_init : Addr} (T_Kept : TCls K mg "Kept" C_Kept f_Kept_init ["bound", "held"]) {C_RoomError f_RoomError_init : Addr} (T_RoomError : TXB K mg C_RoomError f_RoomError_init) (VI : VInit K) {C_NoKeep f_NoKeep_init : Addr} (T_NoKeep : TX K mg "NoKeep" C_NoKeep C_RoomError f_NoKeep_init ["found"]) {C_NoLine f_NoLine_init : Addr} (T_NoLine : TX K mg "NoLine" C_NoLine C_RoomError f_NoLine_init ["found"]) {C_NoPlace f_NoPlace_init : Addr} (T_NoPlace : TX K mg "NoPlace" C_NoPlace C_RoomError f_NoPlace_init ["found"]) : FnOk P w K mg base CX0 (k + 2) f fd ["thing"] (spIsW K) := by
  refine F.ok sc_is_whole (fun vs H Q E h => ?_) (fun cdv A outer s0 H vs Q E hr0 h => ?_)
  · rcases h with ⟨n, rfl, _⟩ | ⟨x, rfl, _⟩ <;> rfl

  have hr := hr0.mono (Nat.le_succ _)
  refine ⟨_, (pss_one (ps_ret (pe_and (pe_callB call_isiM rfl M.isinstance boot_isinstance (pa_cons (pv 0) (pa_cons (pe_bltn (v := .ty "int") rfl M.int boot_int rfl) pa_nil))) (pe_one (pe_not (pe_callB call_isiM rfl M.isinstance boot_isinstance (pa_cons (pv 0) (pa_cons (pe_bltn (v := .ty "bool") rfl M.bool boot_bool rfl) pa_nil)))))))), ?_⟩
  rcases h with ⟨n, rfl, q⟩ | ⟨x, rfl, ⟨t, ht, hty⟩, q⟩
  · refine ⟨_, rfl, _, _, "int", rfl, by decide, .inl rfl, _, rfl, iteP (by decide) ⟨_, rfl, _, _, "int", rfl, by decide, .inl rfl, _, rfl, ?_⟩⟩
    rw [show isa "int" "bool" = false by decide]
    exact q
  · refine ⟨_, rfl, _, _, t, rfl, by decide, hty, _, rfl, ite2 (fun c => ⟨_, rfl, _, _, t, rfl, by decide, hty, _, rfl, ?_⟩) (fun c => q)⟩
    have e : isa t "bool" = true := by
      simp only [oddT, List.mem_cons, List.not_mem_nil, or_false] at ht
      rcases ht with rfl | rfl | rfl | rfl | rfl | rfl
      · decide
      all_goals exact absurd c (by decide)
    rw [e]
    exact q
end
end K52

namespace K52
open PySem L2 PyProof.Rows
abbrev s_is_count : Stmt := top 8
theorem sc_is_count : FnScope ["thing"] ["thing"] (defScope s_is_count) := ⟨rfl, rfl, rfl, by decide +kernel, rfl, by decide +kernel, by decide +kernel⟩
section
variable {P : Program} {w : World} {K : PySem.W.Frag} {mg : Str → Option Value} {base : Heap}
theorem ok_is_count {k : Nat} {f : Addr} {fd : FuncData} (F : Fun K "is_count" "is_count" s_is_count f fd) (M : Blt mg) {t1 t2 t3 t4 t5 : Tok} {ts : Addr} (C : Cst K mg t1 t2 t3 t4 t5 ts) {C_Kept f_Kept_init : Addr} (T_Kept : TCls K mg "Kept" C_Kept f_Kept_init ["bound", "held"]) {C_RoomError f_RoomError_init : Addr} (T_RoomError : TXB K mg C_RoomError f_RoomError_init) (VI : VInit K) {C_NoKeep f_NoKeep_init : Addr} (T_NoKeep : TX K mg "NoKeep" C_NoKeep C_RoomError f_NoKeep_init ["found"]) {C_NoLine f_NoLine_init : Addr} (T_NoLine : TX K mg "NoLine" C_NoLine C_RoomError f_NoLine_init ["found"]) {C_NoPlace f_NoPlace_init : Addr} (T_NoPlace : TX K mg "NoPlace" C_NoPlace C_RoomError f_NoPlace_init ["found"]) {f_is_whole : Addr} {fd_is_whole : FuncData} (D_is_whole : Df K mg "is_whole" f_is_whole fd_is_whole ["thing"]) (G_is_whole : FnOk P w K mg base CX0 k f_is_whole fd_is_whole ["thing"] (spIsW K)) : FnOk P w K mg base CX0 (k + 2) f fd ["thing"] (spCount K) := by
  refine F.ok sc_is_count (fun vs H Q E h => ?_) (fun cdv A outer s0 H vs Q E hr0 h => ?_)
  · rcases h with ⟨n, rfl, _⟩ | ⟨x, rfl, _⟩ <;> rfl

  have hr := hr0.mono (Nat.le_succ _)
  refine ⟨_, (pss_one (ps_ret (pe_and (pe_call G_is_whole hr rfl D_is_whole.m D_is_whole.k D_is_whole.b .nil pass0 (pa_cons (pv 0) pa_nil)) (pe_one (pe_cmpR op_ge (pv 0) pe_int (nomark _)))))), ?_⟩
  rcases h with ⟨n, rfl, q⟩ | ⟨x, rfl, hx, q⟩
  · exact ⟨_, rfl, .inl ⟨n, rfl, _, rfl, iteP (by decide) ⟨_, rfl, _, _, rfl, rfl, q⟩⟩⟩
  · exact ⟨_, rfl, .inr ⟨x, rfl, hx, _, rfl, iteN (by decide) q⟩⟩
end
end K52

namespace K52
open PySem L2 PyProof.Rows
abbrev s_RoomError_init : Stmt := inClass (top 2) 0
theorem sc_RoomError_init : FnScope ["self", "words"] ["self", "words"] (defScope s_RoomError_init) := ⟨rfl, rfl, rfl, by decide +kernel, rfl, by decide +kernel, by decide +kernel⟩
section
variable {P : Program} {w : World} {K : PySem.W.Frag} {mg : Str → Option Value} {base : Heap}
theorem ok_RoomError_init {k : Nat} {f : Addr} {fd : FuncData} (F : Fun K "__init__" "RoomError.__init__" s_RoomError_init f fd) (M : Blt mg) {t1 t2 t3 t4 t5 : Tok} {ts : Addr} (C : Cst K mg t1 t2 t3 t4 t5 ts) {C_Kept f_Kept_init : Addr} (T_Kept : TCls K mg "Kept" C_Kept f_Kept_init ["bound", "held"]) {C_RoomError f_RoomError_init : Addr} (T_RoomError : TXB K mg C_RoomError f_RoomError_init) (VI : VInit K) {C_NoKeep f_NoKeep_init : Addr} (T_NoKeep : TX K mg "NoKeep" C_NoKeep C_RoomError f_NoKeep_init ["found"]) {C_NoLine f_NoLine_init : Addr} (T_NoLine : TX K mg "NoLine" C_NoLine C_RoomError f_NoLine_init ["found"]) {C_NoPlace f_NoPlace_init : Addr} (T_NoPlace : TX K mg "NoPlace" C_NoPlace C_RoomError f_NoPlace_init ["found"]) : FnOk P w K mg base CX0 (k + 2) f fd ["self", "words"] (spRE K) := by
  refine F.ok sc_RoomError_init (fun vs H Q E h => ?_) (fun cdv A outer s0 H vs Q E hr0 h => ?_)
  · obtain ⟨e, v, C', R, fI, dx, rfl, _⟩ := h; rfl
  obtain ⟨e, v, C', R, fI, dx, rfl, he, cx, q⟩ := h
  have hr := hr0.mono (Nat.le_succ _)
  refine ⟨_, (pss_one (ps_expr (pe_vinit VI (pe_bltn (v := .ty "ValueError") rfl M.ValueError (show bootBuiltins "ValueError" = some (.type "ValueError") from by decide +kernel) rfl) (pa_cons (pv 0) (pa_cons (pv 1) pa_nil))))), ?_⟩
  exact ⟨_, rfl, _, rfl, e, v, C', R, fI, dx, rfl, he, cx, q⟩
end
end K52

namespace K52
open PySem L2 PyProof.Rows
abbrev s_NoPlace_init : Stmt := inClass (top 3) 0
theorem sc_NoPlace_init : FnScope ["self", "found"] ["self", "found"] (defScope s_NoPlace_init) := ⟨rfl, rfl, rfl, by decide +kernel, rfl, by decide +kernel, by decide +kernel⟩
section
variable {P : Program} {w : World} {K : PySem.W.Frag} {mg : Str → Option Value} {base : Heap}
theorem ok_NoPlace_init {k : Nat} {f : Addr} {fd : FuncData} (F : Fun K "__init__" "NoPlace.__init__" s_NoPlace_init f fd) (M : Blt mg) {t1 t2 t3 t4 t5 : Tok} {ts : Addr} (C : Cst K mg t1 t2 t3 t4 t5 ts) {C_Kept f_Kept_init : Addr} (T_Kept : TCls K mg "Kept" C_Kept f_Kept_init ["bound", "held"]) {C_RoomError f_RoomError_init : Addr} (T_RoomError : TXB K mg C_RoomError f_RoomError_init) (VI : VInit K) {C_NoKeep f_NoKeep_init : Addr} (T_NoKeep : TX K mg "NoKeep" C_NoKeep C_RoomError f_NoKeep_init ["found"]) {C_NoLine f_NoLine_init : Addr} (T_NoLine : TX K mg "NoLine" C_NoLine C_RoomError f_NoLine_init ["found"]) {C_NoPlace f_NoPlace_init : Addr} (T_NoPlace : TX K mg "NoPlace" C_NoPlace C_RoomError f_NoPlace_init ["found"]) {fd_RoomError_init : FuncData} (D_RoomError_init : DfI K fd_RoomError_init ["self", "words"]) (G_RoomError_init : FnOk P w K mg base CX0 k f_RoomError_init fd_RoomError_init ["self", "words"] (spRE K)) : FnOk P w K mg base (CXE P w) (k + 2) f fd ["self", "found"] (spNP C_NoPlace) := by
  refine F.okE sc_NoPlace_init (fun vs H Q E h => ?_) (fun cdv A outer s0 H vs Q E hr0 h => ?_)
  · obtain ⟨e, v, rfl, _⟩ := h; rfl
  obtain ⟨e, v, rfl, he, q⟩ := h
  have hr := hr0.mono (Nat.le_succ _)
  refine ⟨_, (pss_cons (ps_expr (pe_cinit T_RoomError.i (pe_glob (v := .ref C_RoomError) rfl T_RoomError.m rfl) G_RoomError_init hr D_RoomError_init.b .nil pass0 (pa_cons (pv 0) (pa_cons pe_str pa_nil))))
      (pss_one (ps_xfld (pv 0) (pv 1) rfl))), ?_⟩
  refine ⟨_, rfl, e, _, C_NoPlace, C_RoomError, f_NoPlace_init, none, rfl, he, T_NoPlace.c, ?_⟩
  exact ⟨_, rfl, _, rfl, e, C_NoPlace, C_RoomError, f_NoPlace_init, rfl, T_NoPlace.c, T_NoPlace.n _ (List.mem_singleton.mpr rfl), .inl ⟨he, fun dx hd => q dx hd⟩⟩
end
end K52

namespace K52
open PySem L2 PyProof.Rows
abbrev s_NoLine_init : Stmt := inClass (top 4) 0
theorem sc_NoLine_init : FnScope ["self", "found"] ["self", "found"] (defScope s_NoLine_init) := ⟨rfl, rfl, rfl, by decide +kernel, rfl, by decide +kernel, by decide +kernel⟩
section
variable {P : Program} {w : World} {K : PySem.W.Frag} {mg : Str → Option Value} {base : Heap}
theorem ok_NoLine_init {k : Nat} {f : Addr} {fd : FuncData} (F : Fun K "__init__" "NoLine.__init__" s_NoLine_init f fd) (M : Blt mg) {t1 t2 t3 t4 t5 : Tok} {ts : Addr} (C : Cst K mg t1 t2 t3 t4 t5 ts) {C_Kept f_Kept_init : Addr} (T_Kept : TCls K mg "Kept" C_Kept f_Kept_init ["bound", "held"]) {C_RoomError f_RoomError_init : Addr} (T_RoomError : TXB K mg C_RoomError f_RoomError_init) (VI : VInit K) {C_NoKeep f_NoKeep_init : Addr} (T_NoKeep : TX K mg "NoKeep" C_NoKeep C_RoomError f_NoKeep_init ["found"]) {C_NoLine f_NoLine_init : Addr} (T_NoLine : TX K mg "NoLine" C_NoLine C_RoomError f_NoLine_init ["found"]) {C_NoPlace f_NoPlace_init : Addr} (T_NoPlace : TX K mg "NoPlace" C_NoPlace C_RoomError f_NoPlace_init ["found"]) {fd_RoomError_init : FuncData} (D_RoomError_init : DfI K fd_RoomError_init ["self", "words"]) (G_RoomError_init : FnOk P w K mg base CX0 k f_RoomError_init fd_RoomError_init ["self", "words"] (spRE K)) : FnOk P w K mg base (CXE P w) (k + 2) f fd ["self", "found"] (spNP C_NoLine) := by
  refine F.okE sc_NoLine_init (fun vs H Q E h => ?_) (fun cdv A outer s0 H vs Q E hr0 h => ?_)
  · obtain ⟨e, v, rfl, _⟩ := h; rfl
  obtain ⟨e, v, rfl, he, q⟩ := h
  have hr := hr0.mono (Nat.le_succ _)
  refine ⟨_, (pss_cons (ps_expr (pe_cinit T_RoomError.i (pe_glob (v := .ref C_RoomError) rfl T_RoomError.m rfl) G_RoomError_init hr D_RoomError_init.b .nil pass0 (pa_cons (pv 0) (pa_cons pe_str pa_nil))))
      (pss_one (ps_xfld (pv 0) (pv 1) rfl))), ?_⟩
  refine ⟨_, rfl, e, _, C_NoLine, C_RoomError, f_NoLine_init, none, rfl, he, T_NoLine.c, ?_⟩
  exact ⟨_, rfl, _, rfl, e, C_NoLine, C_RoomError, f_NoLine_init, rfl, T_NoLine.c, T_NoLine.n _ (List.mem_singleton.mpr rfl), .inl ⟨he, fun dx hd => q dx hd⟩⟩
end
end K52

namespace K52
open PySem L2 PyProof.Rows
abbrev s_NoKeep_init : Stmt := inClass (top 5) 0
theorem sc_NoKeep_init : FnScope ["self", "found"] ["self", "found"] (defScope s_NoKeep_init) := ⟨rfl, rfl, rfl, by decide +kernel, rfl, by decide +kernel, by decide +kernel⟩
section
variable {P : Program} {w : World} {K : PySem.W.Frag} {mg : Str → Option Value} {base : Heap}
theorem ok_NoKeep_init {k : Nat} {f : Addr} {fd : FuncData} (F : Fun K "__init__" "NoKeep.__init__" s_NoKeep_init f fd) (M : Blt mg) {t1 t2 t3 t4 t5 : Tok} {ts : Addr} (C : Cst K mg t1 t2 t3 t4 t5 ts) {C_Kept f_Kept_init : Addr} (T_Kept : TCls K mg "Kept" C_Kept f_Kept_init ["bound", "held"]) {C_RoomError f_RoomError_init : Addr} (T_RoomError : TXB K mg C_RoomError f_RoomError_init) (VI : VInit K) {C_NoKeep f_NoKeep_init : Addr} (T_NoKeep : TX K mg "NoKeep" C_NoKeep C_RoomError f_NoKeep_init ["found"]) {C_NoLine f_NoLine_init : Addr} (T_NoLine : TX K mg "NoLine" C_NoLine C_RoomError f_NoLine_init ["found"]) {C_NoPlace f_NoPlace_init : Addr} (T_NoPlace : TX K mg "NoPlace" C_NoPlace C_RoomError f_NoPlace_init ["found"]) {fd_RoomError_init : FuncData} (D_RoomError_init : DfI K fd_RoomError_init ["self", "words"]) (G_RoomError_init : FnOk P w K mg base CX0 k f_RoomError_init fd_RoomError_init ["self", "words"] (spRE K)) : FnOk P w K mg base (CXE P w) (k + 2) f fd ["self", "found"] (spNP C_NoKeep) := by
  refine F.okE sc_NoKeep_init (fun vs H Q E h => ?_) (fun cdv A outer s0 H vs Q E hr0 h => ?_)
  · obtain ⟨e, v, rfl, _⟩ := h; rfl
  obtain ⟨e, v, rfl, he, q⟩ := h
  have hr := hr0.mono (Nat.le_succ _)
  refine ⟨_, (pss_cons (ps_expr (pe_cinit T_RoomError.i (pe_glob (v := .ref C_RoomError) rfl T_RoomError.m rfl) G_RoomError_init hr D_RoomError_init.b .nil pass0 (pa_cons (pv 0) (pa_cons pe_str pa_nil))))
      (pss_one (ps_xfld (pv 0) (pv 1) rfl))), ?_⟩
  refine ⟨_, rfl, e, _, C_NoKeep, C_RoomError, f_NoKeep_init, none, rfl, he, T_NoKeep.c, ?_⟩
  exact ⟨_, rfl, _, rfl, e, C_NoKeep, C_RoomError, f_NoKeep_init, rfl, T_NoKeep.c, T_NoKeep.n _ (List.mem_singleton.mpr rfl), .inl ⟨he, fun dx hd => q dx hd⟩⟩
end
end K52

namespace K52
open PySem L2 PyProof.Rows
abbrev s_is_packed : Stmt := top 18
theorem sc_is_packed : FnScope ["shift", "bits"] ["shift", "bits"] (defScope s_is_packed) := ⟨rfl, rfl, rfl, by decide +kernel, rfl, by decide +kernel, by decide +kernel⟩
section
variable {P : Program} {w : World} {K : PySem.W.Frag} {mg : Str → Option Value} {base : Heap}
theorem ok_is_packed {k : Nat} {f : Addr} {fd : FuncData} (F : Fun K "is_packed" "is_packed" s_is_packed f fd) (M : Blt mg) {t1 t2 t3 t4 t5 : Tok} {ts : Addr} (C : Cst K mg t1 t2 t3 t4 t5 ts) {C_Kept f_Kept_init : Addr} (T_Kept : TCls K mg "Kept" C_Kept f_Kept_init ["bound", "held"]) {C_RoomError f_RoomError_init : Addr} (T_RoomError : TXB K mg C_RoomError f_RoomError_init) (VI : VInit K) {C_NoKeep f_NoKeep_init : Addr} (T_NoKeep : TX K mg "NoKeep" C_NoKeep C_RoomError f_NoKeep_init ["found"]) {C_NoLine f_NoLine_init : Addr} (T_NoLine : TX K mg "NoLine" C_NoLine C_RoomError f_NoLine_init ["found"]) {C_NoPlace f_NoPlace_init : Addr} (T_NoPlace : TX K mg "NoPlace" C_NoPlace C_RoomError f_NoPlace_init ["found"]) : FnOk P w K mg base CX0 (k + 2) f fd ["shift", "bits"] spPacked := by
  refine F.ok sc_is_packed (fun vs H Q E h => ?_) (fun cdv A outer s0 H vs Q E hr0 h => ?_)
  · obtain ⟨s, b, rfl, _⟩ := h; rfl
  obtain ⟨s, b, rfl, q⟩ := h
  have hr := hr0.mono (Nat.le_succ _)
  refine ⟨_, (pss_one (ps_ret (pe_and (pe_cmpR op_eq (pv 1) (pe_glob (v := .int 2) rfl C.TAG_BITS ⟨_, rfl⟩) (nomark _)) (pe_one (pe_cmpR op_in_seq (pv 0) (pe_glob (v := .ref ts) rfl C.TAG_SHIFTS rfl) (by with_unfolding_all rfl)))))), ?_⟩
  refine ⟨_, rfl, rfl, _, rfl, ite2 (fun c => ?_) (fun c => ?_)⟩
  · have hb : b = 2 := by
      have := of_decide_eq_true c
      exact V.int.inj this
    refine ⟨_, rfl, ts, _, rfl, .inr (C.shifts _), rfl, rfl, q _ ?_⟩
    show inV (.int s) (([0, 2, 4, 6] : List Int).map V.int) = true ↔ _
    rw [inV_ints, decide_eq_true_eq]
    simp [hb]
  · refine q false ⟨fun z => (by cases z), fun z => absurd (decide_eq_true (congrArg V.int z.1)) c⟩
end
end K52

namespace K52
open PySem L2 PyProof.Rows
abbrev s_is_whole_cells : Stmt := top 19
theorem sc_is_whole_cells : FnScope ["shift", "bits", "cells", "rest"] ["shift", "bits"] (defScope s_is_whole_cells) := ⟨rfl, rfl, rfl, by decide +kernel, rfl, by decide +kernel, by decide +kernel⟩
section
variable {P : Program} {w : World} {K : PySem.W.Frag} {mg : Str → Option Value} {base : Heap}
theorem ok_is_whole_cells {k : Nat} {f : Addr} {fd : FuncData} (F : Fun K "is_whole_cells" "is_whole_cells" s_is_whole_cells f fd) (M : Blt mg) {t1 t2 t3 t4 t5 : Tok} {ts : Addr} (C : Cst K mg t1 t2 t3 t4 t5 ts) {C_Kept f_Kept_init : Addr} (T_Kept : TCls K mg "Kept" C_Kept f_Kept_init ["bound", "held"]) {C_RoomError f_RoomError_init : Addr} (T_RoomError : TXB K mg C_RoomError f_RoomError_init) (VI : VInit K) {C_NoKeep f_NoKeep_init : Addr} (T_NoKeep : TX K mg "NoKeep" C_NoKeep C_RoomError f_NoKeep_init ["found"]) {C_NoLine f_NoLine_init : Addr} (T_NoLine : TX K mg "NoLine" C_NoLine C_RoomError f_NoLine_init ["found"]) {C_NoPlace f_NoPlace_init : Addr} (T_NoPlace : TX K mg "NoPlace" C_NoPlace C_RoomError f_NoPlace_init ["found"]) : FnOk P w K mg base CX0 (k + 2) f fd ["shift", "bits"] spWholeC := by
  refine F.ok sc_is_whole_cells (fun vs H Q E h => ?_) (fun cdv A outer s0 H vs Q E hr0 h => ?_)
  · obtain ⟨s, b, rfl, _⟩ := h; rfl
  obtain ⟨s, b, rfl, q⟩ := h
  have hr := hr0.mono (Nat.le_succ _)
  refine ⟨_, (pss_cons (ps_asg (pe_callB call_divmod rfl M.divmod boot_divmod (pa_cons (pv 1) (pa_cons (pe_glob (v := .int 8) rfl C.CELL_BITS ⟨_, rfl⟩) pa_nil))) (pg_tup rfl (pgs_cons (pg_name (i := 2) sc_is_whole_cells.nd rfl (Or.inl rfl)) (pgs_cons (pg_name (i := 3) sc_is_whole_cells.nd rfl (Or.inl rfl)) pgs_nil))))
      (pss_one (ps_ret (pe_and (pe_cmpR op_eq (pv 0) pe_int (nomark _)) (pe_and (pe_cmpR op_eq (pv 3) pe_int (nomark _)) (pe_one (pe_chain op_le op_le pe_int (pv 2) (pe_glob (v := .int 64) rfl C.MOST_PLACE_CELLS ⟨_, rfl⟩)))))))), ?_⟩
  refine ⟨_, rfl, _, _, rfl, ⟨by decide, by decide⟩, fun p hp => ⟨p, _, rfl, SqT.of upd_same, rfl, _, _, rfl, _, _, rfl, rfl, ?_⟩⟩
  have g := same_new hp (.tup [.int (b / 8), .int (b % 8)])
  refine ⟨_, rfl, rfl, _, rfl, ite2 (fun c => ?_) (fun c => ?_)⟩
  · have h1 : s = 0 := V.int.inj (of_decide_eq_true c)
    refine ⟨_, rfl, rfl, _, rfl, ite2 (fun c => ?_) (fun c => ?_)⟩
    · have h2 : b % 8 = 0 := V.int.inj (of_decide_eq_true c)
      refine ⟨_, rfl, _, _, rfl, rfl, _, rfl, ite2 (fun c => ?_) (fun c => ?_)⟩
      · have h3 : 1 ≤ b / 8 := of_decide_eq_true c
        refine ⟨_, _, rfl, rfl, q _ _ g ?_⟩
        rw [decide_eq_true_eq]
        exact ⟨fun z => ⟨h1, h2, h3, z⟩, fun z => z.2.2.2⟩
      · exact q false _ g ⟨fun z => (by cases z), fun z => absurd (decide_eq_true z.2.2.1) c⟩
    · exact q false _ g ⟨fun z => (by cases z), fun z => absurd (decide_eq_true (congrArg V.int z.2.1)) c⟩
  · exact q false _ g ⟨fun z => (by cases z), fun z => absurd (decide_eq_true (congrArg V.int z.1)) c⟩
end
end K52

namespace K52
open PySem L2 PyProof.Rows
abbrev s_is_place : Stmt := top 17
theorem sc_is_place : FnScope ["thing", "cell", "shift", "bits"] ["thing"] (defScope s_is_place) := ⟨rfl, rfl, rfl, by decide +kernel, rfl, by decide +kernel, by decide +kernel⟩
section
variable {P : Program} {w : World} {K : PySem.W.Frag} {mg : Str → Option Value} {base : Heap}
theorem ok_is_place {k : Nat} {f : Addr} {fd : FuncData} (F : Fun K "is_place" "is_place" s_is_place f fd) (M : Blt mg) {t1 t2 t3 t4 t5 : Tok} {ts : Addr} (C : Cst K mg t1 t2 t3 t4 t5 ts) {C_Kept f_Kept_init : Addr} (T_Kept : TCls K mg "Kept" C_Kept f_Kept_init ["bound", "held"]) {C_RoomError f_RoomError_init : Addr} (T_RoomError : TXB K mg C_RoomError f_RoomError_init) (VI : VInit K) {C_NoKeep f_NoKeep_init : Addr} (T_NoKeep : TX K mg "NoKeep" C_NoKeep C_RoomError f_NoKeep_init ["found"]) {C_NoLine f_NoLine_init : Addr} (T_NoLine : TX K mg "NoLine" C_NoLine C_RoomError f_NoLine_init ["found"]) {C_NoPlace f_NoPlace_init : Addr} (T_NoPlace : TX K mg "NoPlace" C_NoPlace C_RoomError f_NoPlace_init ["found"]) {f_is_whole : Addr} {fd_is_whole : FuncData} (D_is_whole : Df K mg "is_whole" f_is_whole fd_is_whole ["thing"]) (G_is_whole : FnOk P w K mg base CX0 k f_is_whole fd_is_whole ["thing"] (spIsW K)) {f_is_packed : Addr} {fd_is_packed : FuncData} (D_is_packed : Df K mg "is_packed" f_is_packed fd_is_packed ["shift", "bits"]) (G_is_packed : FnOk P w K mg base CX0 k f_is_packed fd_is_packed ["shift", "bits"] spPacked) {f_is_whole_cells : Addr} {fd_is_whole_cells : FuncData} (D_is_whole_cells : Df K mg "is_whole_cells" f_is_whole_cells fd_is_whole_cells ["shift", "bits"]) (G_is_whole_cells : FnOk P w K mg base CX0 k f_is_whole_cells fd_is_whole_cells ["shift", "bits"] spWholeC) : FnOk P w K mg base CX0 (k + 2) f fd ["thing"] (spIsPG K) := by
  refine F.ok sc_is_place (fun vs H Q E h => ?_) (fun cdv A outer s0 H vs Q E hr0 h => ?_)
  · obtain ⟨x, d, rfl, _⟩ := h; rfl
  obtain ⟨x, d, rfl, hd, q⟩ := h
  have hr := hr0.mono (Nat.le_succ _)
  refine ⟨_, (pss_cons (ps_if (PW.pt (pw_or (pt_not (pt_val (pe_callB call_isiM rfl M.isinstance boot_isinstance (pa_cons (pv 0) (pa_cons (pe_bltn (v := .ty "tuple") rfl M.tuple boot_tuple rfl) pa_nil))))) (pw_or1 (pt_cmpR op_ne (pe_callB call_len_seq rfl M.len PySem.boot_len (pa_cons (pv 0) pa_nil)) pe_int (nomark _))))) (pss_one (ps_ret pe_bl)) pss_nil)
      (pss_cons (ps_if (pt_not (pt_val (pe_callB (call_all rfl) rfl M.all boot_all (pa_cons (pe_comp ["part"] [] [] rfl (pi_tup (pv 0)) rfl trivial trivial (fun _ _ _ _ => (pg_name (i := 0) (show List.Nodup (["part"] : List Str) from by decide +kernel) rfl (Or.inl rfl))) (fun _ _ _ _ => pif_nil) (fun _ _ _ _ => (pe_call G_is_whole hr rfl D_is_whole.m D_is_whole.k D_is_whole.b .nil pass0 (pa_cons (pv 0) pa_nil)))) pa_nil)))) (pss_one (ps_ret pe_bl)) pss_nil)
      (pss_cons (ps_asg (pv 0) (pg_tup rfl (pgs_cons (pg_name (i := 1) sc_is_place.nd rfl (Or.inl rfl)) (pgs_cons (pg_name (i := 2) sc_is_place.nd rfl (Or.inl rfl)) (pgs_cons (pg_name (i := 3) sc_is_place.nd rfl (Or.inl rfl)) pgs_nil)))))
      (pss_one (ps_ret (pe_and (pe_cmpR op_ge (pv 1) pe_int (nomark _)) (pe_one (pe_or (pe_call G_is_packed hr rfl D_is_packed.m D_is_packed.k D_is_packed.b .nil pass0 (pa_cons (pv 2) (pa_cons (pv 3) pa_nil))) (pe_one (pe_call G_is_whole_cells hr rfl D_is_whole_cells.m D_is_whole_cells.k D_is_whole_cells.b .nil pass0 (pa_cons (pv 2) (pa_cons (pv 3) pa_nil)))))))))))), ?_⟩
  rcases hd with ⟨hd, _⟩ | ⟨a, kvs, rfl, ha, hf, rfl⟩
  case' inr => exact ⟨_, rfl, _, _, "dict", rfl, by decide, .inr ⟨rfl, a, kvs, rfl, ha⟩, _, rfl, iteP (by decide) (iteP rfl (q false H (Same.refl _) ⟨fun z => (by cases z), fun z => (by obtain ⟨_, _, _, e, _⟩ := z; cases e)⟩))⟩
  cases hd with
  | non => exact ⟨_, rfl, _, _, "NoneType", rfl, by decide, .inl rfl, _, rfl, iteP (by decide) (iteP rfl (q false H (Same.refl _) ⟨fun z => (by cases z), fun z => (by obtain ⟨_, _, _, e, _⟩ := z; cases e)⟩))⟩
  | bl b => exact ⟨_, rfl, _, _, "bool", rfl, by decide, .inl rfl, _, rfl, iteP (by decide) (iteP rfl (q false H (Same.refl _) ⟨fun z => (by cases z), fun z => (by obtain ⟨_, _, _, e, _⟩ := z; cases e)⟩))⟩
  | int i => exact ⟨_, rfl, _, _, "int", rfl, by decide, .inl rfl, _, rfl, iteP (by decide) (iteP rfl (q false H (Same.refl _) ⟨fun z => (by cases z), fun z => (by obtain ⟨_, _, _, e, _⟩ := z; cases e)⟩))⟩
  | str s => exact ⟨_, rfl, _, _, "str", rfl, by decide, .inl rfl, _, rfl, iteP (by decide) (iteP rfl (q false H (Same.refl _) ⟨fun z => (by cases z), fun z => (by obtain ⟨_, _, _, e, _⟩ := z; cases e)⟩))⟩
  | lst hL _ => exact ⟨_, rfl, _, _, "list", rfl, by decide, .inl (.inl ⟨rfl, _, hL⟩), _, rfl, iteP (by decide) (iteP rfl (q false H (Same.refl _) ⟨fun z => (by cases z), fun z => (by obtain ⟨_, _, _, e, _⟩ := z; cases e)⟩))⟩
  | @tup t xs ds hT hds =>
    have hlen := datAll_len hds
    refine ⟨_, rfl, _, _, "tuple", rfl, by decide, .inl (.inr ⟨rfl, _, hT⟩), _, rfl, iteN (by decide) ⟨_, rfl, t, _, rfl, .inr hT, rfl, _, rfl, ite2 (fun c3 => ?_) (fun c3 => ?_)⟩⟩
    · refine q false H (Same.refl _) ⟨fun z => (by cases z), fun z => ?_⟩
      obtain ⟨c, s, b, e, _⟩ := z
      cases e
      rw [hlen] at c3
      exact absurd c3 (by simp)
    · have h3 : xs.length = 3 := by
        have : V.int (xs.length : Nat) = V.int 3 := Decidable.of_not_not fun z => c3 (by simp [z])
        have := V.int.inj this
        omega
      refine ⟨_, rfl, t, rfl, ⟨_, hT⟩, comp_tup (xs := xs) (fun i ys H' => H' = H ∧ ys = ((xs.take i).map isIntV).map V.bl) ⟨rfl, rfl⟩ (fun i ys H' hi z => ⟨z.1 ▸ hT, by rw [z.2, List.length_map, List.length_map, List.length_take]; exact Nat.min_le_left _ _⟩) (by rw [h3]; show 3 < sizeLine; decide) (fun i x ys H' hx z => ?_) (fun ys H' z p2 hp2 => ?_)⟩
      · obtain ⟨rfl, rfl⟩ := z
        have tk : xs.take (i + 1) = xs.take i ++ [x] := by rw [List.take_add_one, hx] <;> rfl
        obtain ⟨dx, hdx⟩ := datAll_get hds hx
        rcases odd_of hdx with ⟨n, rfl⟩ | ⟨hi, ho⟩
        · exact ⟨_, rfl, .inl ⟨n, rfl, ⟨rfl, by rw [tk, List.map_append, List.map_append]; rfl⟩, _, rfl⟩⟩
        · refine ⟨_, rfl, .inr ⟨x, rfl, ho, ⟨rfl, ?_⟩, _, rfl⟩⟩
          rw [tk, List.map_append, List.map_append]
          show _ = _ ++ [V.bl (isIntV x)]
          rw [hi]
      · obtain ⟨rfl, rfl⟩ := z
        rw [List.take_length]
        have g := same_new hp2 (.lst ((xs.map isIntV).map V.bl))
        have k2 : upd H' p2 (.lst ((xs.map isIntV).map V.bl)) p2 = some (.lst ((xs.map isIntV).map V.bl)) := upd_same
        generalize upd H' p2 (.lst ((xs.map isIntV).map V.bl)) = H2 at g k2 ⊢
        refine ⟨p2, xs.map isIntV, rfl, SqL.of k2, _, rfl, ite2 (fun ca => ?_) (fun ca => ?_)⟩
        · refine q false H2 g ⟨fun z => (by cases z), fun z => ?_⟩
          obtain ⟨c, s, b, e, _⟩ := z
          cases e
          cases hds with
          | cons h0 hs =>
            cases hs with
            | cons h1 hs =>
              cases hs with
              | cons h2 hs =>
                cases hs; cases h0; cases h1; cases h2
                exact absurd ca (by simp [isIntV])
        · obtain ⟨c, s, b, rfl, e⟩ : ∃ c s b, xs = [.int c, .int s, .int b] ∧ ds = [.int c, .int s, .int b] := by
            cases hds with
            | nil => simp at h3
            | cons h0 hs =>
              cases hs with
              | nil => simp at h3
              | cons h1 hs =>
                cases hs with
                | nil => simp at h3
                | cons h2 hs =>
                  cases hs with
                  | cons _ _ => simp at h3
                  | nil =>
                    cases h0 <;> cases h1 <;> cases h2 <;> first
                      | exact ⟨_, _, _, rfl, rfl⟩
                      | exact absurd (by rfl) ca
          subst e
          have gd : ∀ {c' s' b' : Int}, GoodD (.tuple [.int c', .int s', .int b']) ↔ Ok3 c' s' b' := fun {c' s' b'} => ⟨fun z => by obtain ⟨_, _, _, e, h⟩ := z; cases e; exact h, fun z => ⟨_, _, _, rfl, z⟩⟩
          refine ⟨_, rfl, t, _, rfl, Same.tup g hT, rfl, _, _, rfl, _, _, rfl, _, _, rfl, rfl, ?_⟩
          refine ⟨_, rfl, _, _, rfl, rfl, _, rfl, ite2 (fun c0 => ?_) (fun c0 => ?_)⟩
          · have c0' : 0 ≤ c := of_decide_eq_true c0
            refine ⟨_, rfl, _, rfl, s, b, rfl, fun k1 hk1 => ⟨_, rfl, ite2 (fun c1 => ?_) (fun c1 => ?_)⟩⟩
            · exact q _ _ g ⟨fun _ => gd.mpr ⟨c0', .inl (hk1.mp c1)⟩, fun _ => rfl⟩
            · refine ⟨_, rfl, _, rfl, s, b, rfl, fun k2 H3 g2 hk2 => q _ _ (g.trans g2) ⟨fun z => gd.mpr ?_, fun z => ?_⟩⟩
              · have := hk2.mp z
                exact ⟨c0', .inr ⟨this.1, b / 8, this.2.2.1, this.2.2.2, by omega⟩⟩
              · refine hk2.mpr ?_
                obtain ⟨_, h | ⟨h, n, h1, h2, h3'⟩⟩ := gd.mp z
                · exact absurd (hk1.mpr h) c1
                · subst h3'; omega
          · exact q false _ g ⟨fun z => (by cases z), fun z => absurd (decide_eq_true (gd.mp z).1) c0⟩
end
end K52

namespace K52
open PySem L2 PyProof.Rows
abbrev s_need_place : Stmt := top 20
theorem sc_need_place : FnScope ["thing"] ["thing"] (defScope s_need_place) := ⟨rfl, rfl, rfl, by decide +kernel, rfl, by decide +kernel, by decide +kernel⟩
section
variable {P : Program} {w : World} {K : PySem.W.Frag} {mg : Str → Option Value} {base : Heap}
theorem ok_need_place {k : Nat} {f : Addr} {fd : FuncData} (F : Fun K "need_place" "need_place" s_need_place f fd) (M : Blt mg) {t1 t2 t3 t4 t5 : Tok} {ts : Addr} (C : Cst K mg t1 t2 t3 t4 t5 ts) {C_Kept f_Kept_init : Addr} (T_Kept : TCls K mg "Kept" C_Kept f_Kept_init ["bound", "held"]) {C_RoomError f_RoomError_init : Addr} (T_RoomError : TXB K mg C_RoomError f_RoomError_init) (VI : VInit K) {C_NoKeep f_NoKeep_init : Addr} (T_NoKeep : TX K mg "NoKeep" C_NoKeep C_RoomError f_NoKeep_init ["found"]) {C_NoLine f_NoLine_init : Addr} (T_NoLine : TX K mg "NoLine" C_NoLine C_RoomError f_NoLine_init ["found"]) {C_NoPlace f_NoPlace_init : Addr} (T_NoPlace : TX K mg "NoPlace" C_NoPlace C_RoomError f_NoPlace_init ["found"]) {f_is_place : Addr} {fd_is_place : FuncData} (D_is_place : Df K mg "is_place" f_is_place fd_is_place ["thing"]) (G_is_place : FnOk P w K mg base CX0 k f_is_place fd_is_place ["thing"] (spIsPG K)) {fd_NoPlace_init : FuncData} (D_NoPlace_init : DfI K fd_NoPlace_init ["self", "found"]) (G_NoPlace_init : FnOk P w K mg base (CXE P w) k f_NoPlace_init fd_NoPlace_init ["self", "found"] (spNP C_NoPlace)) : FnOk P w K mg base (CXE P w) (k + 2) f fd ["thing"] (spNeedG K C_NoPlace) := by
  refine F.okE sc_need_place (fun vs H Q E h => ?_) (fun cdv A outer s0 H vs Q E hr0 h => ?_)
  · obtain ⟨x, d, rfl, _⟩ := h; rfl
  obtain ⟨x, d, rfl, hd, qo, qx⟩ := h
  have hr := hr0.mono (Nat.le_succ _)
  refine ⟨_, (pss_one (ps_if (pt_not (pt_val (pe_call G_is_place hr rfl D_is_place.m D_is_place.k D_is_place.b .nil pass0 (pa_cons (pv 0) pa_nil)))) (pss_one (ps_raise T_NoPlace.c G_NoPlace_init hr0 rfl T_NoPlace.m D_NoPlace_init.b .nil raisesE (pa_cons (pv 0) pa_nil))) pss_nil)), ?_⟩
  refine ⟨_, rfl, x, d, rfl, hd, fun k H' g hk => ⟨_, rfl, ?_⟩⟩
  cases k with
  | true => exact iteN (by decide) (qo (hk.mp rfl) H' g)
  | false =>
    have hn : ¬ GoodD d := fun z => by have := hk.mpr z; cases this
    refine iteP (by decide) ⟨True.intro, _, rfl, (by show 1 ≤ 1000; decide), fun e he => ⟨e, x, rfl, upd_same, fun dx hd => ⟨rfl, e, some dx, rfl, upd_same, ?_⟩⟩⟩
    obtain ⟨g2, hx⟩ := np_fin (v := x) g he hd
    exact qx hn e _ g2 (g.free he) hx
end
end K52

namespace K52
open PySem L2 PyProof.Rows
abbrev s_cells_in : Stmt := top 21
theorem sc_cells_in : FnScope ["place", "cell", "shift", "bits"] ["place"] (defScope s_cells_in) := ⟨rfl, rfl, rfl, by decide +kernel, rfl, by decide +kernel, by decide +kernel⟩
section
variable {P : Program} {w : World} {K : PySem.W.Frag} {mg : Str → Option Value} {base : Heap}
theorem ok_cells_in {k : Nat} {f : Addr} {fd : FuncData} (F : Fun K "cells_in" "cells_in" s_cells_in f fd) (M : Blt mg) {t1 t2 t3 t4 t5 : Tok} {ts : Addr} (C : Cst K mg t1 t2 t3 t4 t5 ts) {C_Kept f_Kept_init : Addr} (T_Kept : TCls K mg "Kept" C_Kept f_Kept_init ["bound", "held"]) {C_RoomError f_RoomError_init : Addr} (T_RoomError : TXB K mg C_RoomError f_RoomError_init) (VI : VInit K) {C_NoKeep f_NoKeep_init : Addr} (T_NoKeep : TX K mg "NoKeep" C_NoKeep C_RoomError f_NoKeep_init ["found"]) {C_NoLine f_NoLine_init : Addr} (T_NoLine : TX K mg "NoLine" C_NoLine C_RoomError f_NoLine_init ["found"]) {C_NoPlace f_NoPlace_init : Addr} (T_NoPlace : TX K mg "NoPlace" C_NoPlace C_RoomError f_NoPlace_init ["found"]) {f_need_place : Addr} {fd_need_place : FuncData} (D_need_place : Df K mg "need_place" f_need_place fd_need_place ["thing"]) (G_need_place : FnOk P w K mg base (CXE P w) k f_need_place fd_need_place ["thing"] (spNeedG K C_NoPlace)) : FnOk P w K mg base (CXE P w) (k + 2) f fd ["place"] (spCellsG K C_NoPlace) := by
  refine F.okE sc_cells_in (fun vs H Q E h => ?_) (fun cdv A outer s0 H vs Q E hr0 h => ?_)
  · obtain ⟨x, d, rfl, _⟩ := h; rfl
  obtain ⟨x, d, rfl, hd, qo, qx⟩ := h
  have hr := hr0.mono (Nat.le_succ _)
  refine ⟨_, (pss_cons (ps_expr (pe_call G_need_place hr rfl D_need_place.m D_need_place.k D_need_place.b .nil (passE fun _ _ _ z => z) (pa_cons (pv 0) pa_nil)))
      (pss_cons (ps_asg (pv 0) (pg_tup rfl (pgs_cons (pg_name (i := 1) sc_cells_in.nd rfl (Or.inl rfl)) (pgs_cons (pg_name (i := 2) sc_cells_in.nd rfl (Or.inl rfl)) (pgs_cons (pg_name (i := 3) sc_cells_in.nd rfl (Or.inl rfl)) pgs_nil)))))
      (pss_one (ps_ret (pe_callTy (call_list_rng rfl) rfl M.list boot_list (pa_cons (pe_callTy call_range2 rfl M.range boot_range (pa_cons (pv 1) (pa_cons (pe_op op_add (pv 1) (pe_callB (call_max2 rfl) rfl M.max boot_max (pa_cons pe_int (pa_cons (pe_op op_fdiv (pv 3) (pe_glob (v := .int 8) rfl C.CELL_BITS ⟨_, rfl⟩)) pa_nil)))) pa_nil))) pa_nil)))))), ?_⟩
  refine ⟨_, rfl, x, d, rfl, hd, fun ho H1 g1 => ?_, qx⟩
  obtain ⟨c, s, b, rfl, ho⟩ := ho
  obtain ⟨t, rfl, hT⟩ := th_tuple hd
  have hb := ho.bits
  have q := qo c s b rfl ho
  refine ⟨_, rfl, t, _, rfl, Same.tup g1 hT, rfl, _, _, rfl, _, _, rfl, _, _, rfl, rfl, ?_⟩
  refine ⟨_, rfl, _, rfl, _, rfl, _, _, rfl, rfl, ⟨by decide, by decide⟩, _, _, rfl, _, _, rfl, rfl, _, _, rfl, fun p hp => ?_⟩
  have g2 := g1.trans (same_new hp (.rng c (c + if b / 8 > 1 then b / 8 else 1)))
  refine ⟨p, _, _, rfl, upd_same, by split <;> omega, fun l hl => ?_⟩
  refine q l _ (g2.trans (same_new hl _)) (g2.free hl) ?_
  rw [upd_same, show (c + (if b / 8 > 1 then b / 8 else 1) - c).toNat = nCells b by unfold nCells; rw [show c + (if b / 8 > 1 then b / 8 else 1) - c = (if b / 8 > 1 then b / 8 else 1) by omega]]
end
end K52

namespace K52
open PySem L2 PyProof.Rows
abbrev s_law_drawn : Stmt := top 39
theorem sc_law_drawn : FnScope ["_law_cell", "_law_sizes", "_law_found", "_law_many", "_law_one", "_law_other"] ["_law_cell", "_law_sizes"] (defScope s_law_drawn) := ⟨rfl, rfl, rfl, by decide +kernel, rfl, by decide +kernel, by decide +kernel⟩
section
variable {P : Program} {w : World} {K : PySem.W.Frag} {mg : Str → Option Value} {base : Heap}
theorem ok_law_drawn {k : Nat} {f : Addr} {fd : FuncData} (F : Fun K "_law_drawn" "_law_drawn" s_law_drawn f fd) (M : Blt mg) {t1 t2 t3 t4 t5 : Tok} {ts : Addr} (C : Cst K mg t1 t2 t3 t4 t5 ts) {C_Kept f_Kept_init : Addr} (T_Kept : TCls K mg "Kept" C_Kept f_Kept_init ["bound", "held"]) {C_RoomError f_RoomError_init : Addr} (T_RoomError : TXB K mg C_RoomError f_RoomError_init) (VI : VInit K) {C_NoKeep f_NoKeep_init : Addr} (T_NoKeep : TX K mg "NoKeep" C_NoKeep C_RoomError f_NoKeep_init ["found"]) {C_NoLine f_NoLine_init : Addr} (T_NoLine : TX K mg "NoLine" C_NoLine C_RoomError f_NoLine_init ["found"]) {C_NoPlace f_NoPlace_init : Addr} (T_NoPlace : TX K mg "NoPlace" C_NoPlace C_RoomError f_NoPlace_init ["found"]) : FnOk P w K mg base CX0 (k + 2) f fd ["_law_cell", "_law_sizes"] (spDrawn K) := by
  refine F.ok sc_law_drawn (fun vs H Q E h => ?_) (fun cdv A outer s0 H vs Q E hr0 h => ?_)
  · obtain ⟨c, l, ms, rfl, _⟩ := h; rfl
  obtain ⟨c, l, ms, rfl, hS, hm, hl, q⟩ := h
  have hr := hr0.mono (Nat.le_succ _)
  refine ⟨_, (pss_cons (ps_set (i := 2) sc_law_drawn.nd rfl (by first | exact Or.inl rfl | exact Or.inr rfl) (pe_lst pa_nil))
      (pss_cons (ps_if (pt_cmpR op_ge (pv 0) (pe_op op_pow pe_int pe_int) (nomark _)) (pss_cons (ps_for PassesOwn.never rfl (pi_list (pv 1)) (pg_name (i := 3) sc_law_drawn.nd rfl (Or.inl rfl)) (pss_cons (ps_expr (pe_bm PySem.F.plainAttrs_list PySem.F.slot_list_append PySem.F.type_list_append mt_append (pv 2) (pa_cons (pe_op op_mod (pv 0) (pv 3)) pa_nil)))
      (pss_one (ps_set (i := 0) sc_law_drawn.nd rfl (by first | exact Or.inl rfl | exact Or.inr rfl) (pe_op op_fdivL (pv 0) (pv 3))))))
      (pss_one (ps_ret (pv 2)))) pss_nil)
      (pss_cons (ps_set (i := 4) sc_law_drawn.nd rfl (by first | exact Or.inl rfl | exact Or.inr rfl) (pe_op op_mod (pe_op op_add (pe_op op_mul (pv 0) pe_int) pe_int) pe_int))
      (pss_cons (ps_set (i := 5) sc_law_drawn.nd rfl (by first | exact Or.inl rfl | exact Or.inr rfl) (pe_op op_mod (pe_op op_add (pe_op op_mul (pv 0) pe_int) pe_int) pe_int))
      (pss_cons (ps_set (i := 4) sc_law_drawn.nd rfl (by first | exact Or.inl rfl | exact Or.inr rfl) (pe_op op_mod (pe_op op_add (pe_op op_add (pe_op op_mul (pv 4) (pv 4)) (pe_op op_mul pe_int (pv 4))) pe_int) pe_int))
      (pss_cons (ps_for PassesOwn.never rfl (pi_list (pv 1)) (pg_name (i := 3) sc_law_drawn.nd rfl (Or.inl rfl)) (pss_cons (ps_set (i := 4) sc_law_drawn.nd rfl (by first | exact Or.inl rfl | exact Or.inr rfl) (pe_op op_mod (pe_op op_add (pe_op op_add (pe_op op_mul (pv 4) (pv 4)) (pe_op op_mul pe_int (pv 4))) pe_int) pe_int))
      (pss_cons (ps_set (i := 5) sc_law_drawn.nd rfl (by first | exact Or.inl rfl | exact Or.inr rfl) (pe_op op_mod (pe_op op_add (pe_op op_add (pe_op op_mul (pv 5) pe_int) (pe_op op_mul pe_int (pe_op op_mod (pv 4) pe_int))) pe_int) pe_int))
      (pss_one (ps_expr (pe_bm PySem.F.plainAttrs_list PySem.F.slot_list_append PySem.F.type_list_append mt_append (pv 2) (pa_cons (pe_op op_mod (pe_op op_add (pe_op op_mul (pv 4) pe_int) (pv 5)) (pv 3)) pa_nil)))))))
      (pss_one (ps_ret (pv 2))))))))), ?_⟩
  refine ⟨(by show 0 ≤ sizeLine; decide), fun r hr0 => ?_⟩
  have zl : (ms.map V.int).length = ms.length := List.length_map _
  have hS1 : ∀ o, SqL K (upd H r o) l (ms.map V.int) := fun o => (same_new hr0 o).seq hS
  refine ⟨_, rfl, _, _, rfl, rfl, ⟨by decide, by decide, by decide⟩, _, _, rfl, rfl, _, rfl, ite2 (fun _ => ?_) (fun _ => ?_)⟩
  · refine ⟨_, rfl, l, rfl, ⟨_, hS1 _⟩, for_list (xs := ms.map V.int) (fun i σ H' => ∃ (cc : Int) (ws : List Int) (o3 o4 o5 : Option V), σ = [some (.int cc), some (.ref l), some (.ref r), o3, o4, o5] ∧ H' = upd H r (.lst (ws.map V.int)) ∧ Below ws (ms.take i)) ⟨c, [], _, _, _, rfl, rfl, by rw [List.take_zero]; exact Below.nil⟩ (fun i σ H' _ z => ?_) (fun i x σ H' hx z => ?_) (fun σ H' z => ?_)⟩
    · obtain ⟨cc, ws, o3, o4, o5, rfl, rfl, _⟩ := z; exact hS1 _
    · obtain ⟨cc, ws, o3, o4, o5, rfl, rfl, hb⟩ := z
      obtain ⟨m, hmi, rfl⟩ := get_ints hx
      have hm' := hm m (List.mem_of_getElem? hmi)
      have k : upd H r (.lst (ws.map V.int)) r = some (.lst (ws.map V.int)) := upd_same
      refine ⟨_, rfl, .inl ⟨rfl, _, SqL.of k⟩, _, rfl, _, rfl, _, _, rfl, rfl, hm'.1, r, _, _, rfl, rfl, k, ?_, ?_⟩
      · rw [List.length_map]; exact small1000 (by have := hb.len; omega)
      refine ⟨_, rfl, _, rfl, _, _, rfl, rfl, hm', _, ws ++ [cc % m], _, _, _, rfl, ?_, hb.snoc hmi (Int.emod_nonneg _ (by omega)) (Int.emod_lt_of_pos _ hm'.1)⟩
      rw [upd_upd, List.map_append]; rfl
    · obtain ⟨cc, ws, o3, o4, o5, rfl, rfl, hb⟩ := z
      rw [zl] at hb
      exact ⟨_, rfl, q r ws hr0 hb.all⟩
  · refine ⟨_, rfl, _, _, rfl, rfl, .inr ⟨by omega, by omega⟩, _, _, rfl, rfl, _, _, rfl, rfl, (by show (0 : Int) < _; decide), ?_⟩
    refine ⟨_, rfl, _, _, rfl, rfl, .inr ⟨by omega, by omega⟩, _, _, rfl, rfl, _, _, rfl, rfl, (by show (0 : Int) < _; decide), ?_⟩
    refine ⟨_, rfl, _, rfl, _, _, rfl, rfl, .inl ⟨by omega, by omega⟩, _, rfl, _, _, rfl, rfl, .inl ⟨by omega, by omega⟩, _, _, rfl, rfl, _, _, rfl, rfl, _, _, rfl, rfl, (by show (0 : Int) < _; decide), ?_⟩
    refine ⟨_, rfl, l, rfl, ⟨_, hS1 _⟩, for_list (xs := ms.map V.int) (fun i σ H' => ∃ (one oth : Int) (ws : List Int) (o3 : Option V), (0 ≤ one ∧ one < 2147483647) ∧ (0 ≤ oth ∧ oth < 998244353) ∧ σ = [some (.int c), some (.ref l), some (.ref r), o3, some (.int one), some (.int oth)] ∧ H' = upd H r (.lst (ws.map V.int)) ∧ Below ws (ms.take i)) ⟨_, _, [], _, ⟨by omega, by omega⟩, ⟨by omega, by omega⟩, rfl, rfl, by rw [List.take_zero]; exact Below.nil⟩ (fun i σ H' _ z => ?_) (fun i x σ H' hx z => ?_) (fun σ H' z => ?_)⟩
    · obtain ⟨one, oth, ws, o3, _, _, rfl, rfl, _⟩ := z; exact hS1 _
    · obtain ⟨one, oth, ws, o3, ho, hh, rfl, rfl, hb⟩ := z
      obtain ⟨m, hmi, rfl⟩ := get_ints hx
      have hm' := hm m (List.mem_of_getElem? hmi)
      have k : upd H r (.lst (ws.map V.int)) r = some (.lst (ws.map V.int)) := upd_same
      refine ⟨_, rfl, _, rfl, _, _, rfl, rfl, .inl ⟨by omega, by omega⟩, _, rfl, _, _, rfl, rfl, .inl ⟨by omega, by omega⟩, _, _, rfl, rfl, _, _, rfl, rfl, _, _, rfl, rfl, (by show (0 : Int) < _; decide), ?_⟩
      refine ⟨_, rfl, _, _, rfl, rfl, .inr ⟨by omega, by omega⟩, _, rfl, _, _, rfl, rfl, (by show (0 : Int) < _; decide), _, _, rfl, rfl, .inl ⟨by omega, by omega⟩, _, _, rfl, rfl, _, _, rfl, rfl, _, _, rfl, rfl, (by show (0 : Int) < _; decide), ?_⟩
      refine ⟨_, rfl, .inl ⟨rfl, _, SqL.of k⟩, _, rfl, _, _, rfl, rfl, .inr ⟨by omega, by omega⟩, _, rfl, _, _, rfl, rfl, _, rfl, _, _, rfl, rfl, hm'.1, r, _, _, rfl, rfl, k, ?_, ?_⟩
      · rw [List.length_map]; exact small1000 (by have := hb.len; omega)
      refine ⟨_, _, ws ++ [((one * one + 48271 * one + 13) % 2147483647 * 998244353 + (oth * 16807 + 48611 * ((one * one + 48271 * one + 13) % 2147483647 % 65536) + 5) % 998244353) % m], _, ⟨by omega, by omega⟩, ⟨by omega, by omega⟩, rfl, ?_, hb.snoc hmi (Int.emod_nonneg _ (by omega)) (Int.emod_lt_of_pos _ hm'.1)⟩
      rw [upd_upd, List.map_append]; rfl
    · obtain ⟨one, oth, ws, o3, _, _, rfl, rfl, hb⟩ := z
      rw [zl] at hb
      exact ⟨_, rfl, q r ws hr0 hb.all⟩
end
end K52

namespace K52
open PySem L2 PyProof.Rows
abbrev s_Kept_touch : Stmt := inClass (top 28) 1
theorem ok_Kept_touch {P : Program} {w : World} {K : PySem.W.Frag} {mg : Str → Option Value} {base : Heap} {k : Nat} {f : Addr} {fd : FuncData} (F : Fun K "touch" "Kept.touch" s_Kept_touch f fd) (M : Blt mg) {t1 t2 t3 t4 t5 : Tok} {ts : Addr} (C : Cst K mg t1 t2 t3 t4 t5 ts) {C_Kept f_Kept_init : Addr} (T_Kept : TCls K mg "Kept" C_Kept f_Kept_init ["bound", "held"]) {C_RoomError f_RoomError_init : Addr} (T_RoomError : TXB K mg C_RoomError f_RoomError_init) (VI : VInit K) {C_NoKeep f_NoKeep_init : Addr} (T_NoKeep : TX K mg "NoKeep" C_NoKeep C_RoomError f_NoKeep_init ["found"]) {C_NoLine f_NoLine_init : Addr} (T_NoLine : TX K mg "NoLine" C_NoLine C_RoomError f_NoLine_init ["found"]) {C_NoPlace f_NoPlace_init : Addr} (T_NoPlace : TX K mg "NoPlace" C_NoPlace C_RoomError f_NoPlace_init ["found"]) : FnOk P w K mg base CX0 (k + 2) f fd ["self", "line"] spNo := ⟨fun _ _ _ _ h => h.elim, fun _ _ _ _ _ _ _ _ _ _ _ _ _ h => h.elim⟩
end K52

namespace K52
open PySem L2 PyProof.Rows
abbrev s_is_alike : Stmt := top 10
theorem ok_is_alike {P : Program} {w : World} {K : PySem.W.Frag} {mg : Str → Option Value} {base : Heap} {k : Nat} {f : Addr} {fd : FuncData} (F : Fun K "is_alike" "is_alike" s_is_alike f fd) (M : Blt mg) {t1 t2 t3 t4 t5 : Tok} {ts : Addr} (C : Cst K mg t1 t2 t3 t4 t5 ts) {C_Kept f_Kept_init : Addr} (T_Kept : TCls K mg "Kept" C_Kept f_Kept_init ["bound", "held"]) {C_RoomError f_RoomError_init : Addr} (T_RoomError : TXB K mg C_RoomError f_RoomError_init) (VI : VInit K) {C_NoKeep f_NoKeep_init : Addr} (T_NoKeep : TX K mg "NoKeep" C_NoKeep C_RoomError f_NoKeep_init ["found"]) {C_NoLine f_NoLine_init : Addr} (T_NoLine : TX K mg "NoLine" C_NoLine C_RoomError f_NoLine_init ["found"]) {C_NoPlace f_NoPlace_init : Addr} (T_NoPlace : TX K mg "NoPlace" C_NoPlace C_RoomError f_NoPlace_init ["found"]) : FnOk P w K mg base CX0 (k + 2) f fd ["thing", "wanted"] spNo := ⟨fun _ _ _ _ h => h.elim, fun _ _ _ _ _ _ _ _ _ _ _ _ _ h => h.elim⟩
end K52

namespace K52
open PySem L2 PyProof.Rows
abbrev s_is_between : Stmt := top 9
theorem sc_is_between : FnScope ["thing", "low", "high"] ["thing", "low", "high"] (defScope s_is_between) := ⟨rfl, rfl, rfl, by decide +kernel, rfl, by decide +kernel, by decide +kernel⟩
section
variable {P : Program} {w : World} {K : PySem.W.Frag} {mg : Str → Option Value} {base : Heap}
theorem ok_is_between {k : Nat} {f : Addr} {fd : FuncData} (F : Fun K "is_between" "is_between" s_is_between f fd) (M : Blt mg) {t1 t2 t3 t4 t5 : Tok} {ts : Addr} (C : Cst K mg t1 t2 t3 t4 t5 ts) {C_Kept f_Kept_init : Addr} (T_Kept : TCls K mg "Kept" C_Kept f_Kept_init ["bound", "held"]) {C_RoomError f_RoomError_init : Addr} (T_RoomError : TXB K mg C_RoomError f_RoomError_init) (VI : VInit K) {C_NoKeep f_NoKeep_init : Addr} (T_NoKeep : TX K mg "NoKeep" C_NoKeep C_RoomError f_NoKeep_init ["found"]) {C_NoLine f_NoLine_init : Addr} (T_NoLine : TX K mg "NoLine" C_NoLine C_RoomError f_NoLine_init ["found"]) {C_NoPlace f_NoPlace_init : Addr} (T_NoPlace : TX K mg "NoPlace" C_NoPlace C_RoomError f_NoPlace_init ["found"]) {f_is_whole : Addr} {fd_is_whole : FuncData} (D_is_whole : Df K mg "is_whole" f_is_whole fd_is_whole ["thing"]) (G_is_whole : FnOk P w K mg base CX0 k f_is_whole fd_is_whole ["thing"] (spIsW K)) : FnOk P w K mg base CX0 (k + 2) f fd ["thing", "low", "high"] (spBtwG K) := by
  refine F.ok sc_is_between (fun vs H Q E h => ?_) (fun cdv A outer s0 H vs Q E hr0 h => ?_)
  · rcases h with ⟨n, lo, hi, rfl, _⟩ | ⟨x, lo, hi, rfl, _⟩ <;> rfl

  have hr := hr0.mono (Nat.le_succ _)
  refine ⟨_, (pss_one (ps_ret (pe_and (pe_call G_is_whole hr rfl D_is_whole.m D_is_whole.k D_is_whole.b .nil pass0 (pa_cons (pv 0) pa_nil)) (pe_one (pe_chain op_le op_le (pv 1) (pv 0) (pv 2)))))), ?_⟩
  rcases h with ⟨n, lo, hi, rfl, q⟩ | ⟨x, lo, hi, rfl, hx, q⟩
  · refine ⟨_, rfl, .inl ⟨n, rfl, _, rfl, iteP (by decide) ⟨_, rfl, _, rfl, _, _, rfl, rfl, _, rfl, ?_⟩⟩⟩
    by_cases h1 : lo ≤ n
    · refine iteP (decide_eq_true h1) ⟨_, rfl, _, _, rfl, rfl, ?_⟩
      rw [show decide (lo ≤ n ∧ n ≤ hi) = decide (n ≤ hi) by simp [h1]] at q
      exact q
    · rw [show decide (lo ≤ n ∧ n ≤ hi) = false by simp [h1]] at q
      exact iteN (by simp [h1]) q
  · exact ⟨_, rfl, .inr ⟨x, rfl, hx, _, rfl, iteN (by decide) q⟩⟩
end
end K52

namespace K52
open PySem L2 PyProof.Rows
abbrev s_need_keep : Stmt := top 29
theorem sc_need_keep : FnScope ["most"] ["most"] (defScope s_need_keep) := ⟨rfl, rfl, rfl, by decide +kernel, rfl, by decide +kernel, by decide +kernel⟩
section
variable {P : Program} {w : World} {K : PySem.W.Frag} {mg : Str → Option Value} {base : Heap}
theorem ok_need_keep {k : Nat} {f : Addr} {fd : FuncData} (F : Fun K "need_keep" "need_keep" s_need_keep f fd) (M : Blt mg) {t1 t2 t3 t4 t5 : Tok} {ts : Addr} (C : Cst K mg t1 t2 t3 t4 t5 ts) {C_Kept f_Kept_init : Addr} (T_Kept : TCls K mg "Kept" C_Kept f_Kept_init ["bound", "held"]) {C_RoomError f_RoomError_init : Addr} (T_RoomError : TXB K mg C_RoomError f_RoomError_init) (VI : VInit K) {C_NoKeep f_NoKeep_init : Addr} (T_NoKeep : TX K mg "NoKeep" C_NoKeep C_RoomError f_NoKeep_init ["found"]) {C_NoLine f_NoLine_init : Addr} (T_NoLine : TX K mg "NoLine" C_NoLine C_RoomError f_NoLine_init ["found"]) {C_NoPlace f_NoPlace_init : Addr} (T_NoPlace : TX K mg "NoPlace" C_NoPlace C_RoomError f_NoPlace_init ["found"]) {f_is_between : Addr} {fd_is_between : FuncData} (D_is_between : Df K mg "is_between" f_is_between fd_is_between ["thing", "low", "high"]) (G_is_between : FnOk P w K mg base CX0 k f_is_between fd_is_between ["thing", "low", "high"] (spBtwG K)) {fd_NoKeep_init : FuncData} (D_NoKeep_init : DfI K fd_NoKeep_init ["self", "found"]) (G_NoKeep_init : FnOk P w K mg base (CXE P w) k f_NoKeep_init fd_NoKeep_init ["self", "found"] (spNP C_NoKeep)) : FnOk P w K mg base (CXE P w) (k + 2) f fd ["most"] (spNKG K C_NoKeep) := by
  refine F.okE sc_need_keep (fun vs H Q E h => ?_) (fun cdv A outer s0 H vs Q E hr0 h => ?_)
  · rcases h with ⟨B, rfl, _⟩ | ⟨x, rfl, _⟩ <;> rfl

  have hr := hr0.mono (Nat.le_succ _)
  refine ⟨_, (pss_one (ps_if (pt_not (pt_val (pe_call G_is_between hr rfl D_is_between.m D_is_between.k D_is_between.b .nil pass0 (pa_cons (pv 0) (pa_cons pe_int (pa_cons (pe_glob (v := .int 32) rfl C.MOST_KEPT ⟨_, rfl⟩) pa_nil)))))) (pss_one (ps_raise T_NoKeep.c G_NoKeep_init hr0 rfl T_NoKeep.m D_NoKeep_init.b .nil raisesE (pa_cons (pv 0) pa_nil))) pss_nil)), ?_⟩
  rcases h with ⟨B, rfl, h1, h2, q⟩ | ⟨x, rfl, ⟨n, rfl, hn⟩ | hx, qx⟩
  · exact ⟨_, rfl, .inl ⟨B, 1, 32, rfl, _, rfl, iteN (by rw [decide_eq_true ⟨by omega, by omega⟩]; decide) q⟩⟩
  · exact ⟨_, rfl, .inl ⟨n, 1, 32, rfl, _, rfl, iteP (by rw [decide_eq_false hn]; rfl) ⟨True.intro, _, rfl, (by show 1 ≤ 1000; decide), fun e he => ⟨e, .int n, rfl, upd_same, fun dx hd => ⟨rfl, e, some dx, rfl, upd_same, qx.fin (Same.refl _) e he dx hd⟩⟩⟩⟩⟩
  · exact ⟨_, rfl, .inr ⟨x, 1, 32, rfl, hx, _, rfl, iteP rfl ⟨True.intro, _, rfl, (by show 1 ≤ 1000; decide), fun e he => ⟨e, x, rfl, upd_same, fun dx hd => ⟨rfl, e, some dx, rfl, upd_same, qx.fin (Same.refl _) e he dx hd⟩⟩⟩⟩⟩
end
end K52

namespace K52
open PySem L2 PyProof.Rows
abbrev s_need_line : Stmt := top 30
theorem sc_need_line : FnScope ["line"] ["line"] (defScope s_need_line) := ⟨rfl, rfl, rfl, by decide +kernel, rfl, by decide +kernel, by decide +kernel⟩
section
variable {P : Program} {w : World} {K : PySem.W.Frag} {mg : Str → Option Value} {base : Heap}
theorem ok_need_line {k : Nat} {f : Addr} {fd : FuncData} (F : Fun K "need_line" "need_line" s_need_line f fd) (M : Blt mg) {t1 t2 t3 t4 t5 : Tok} {ts : Addr} (C : Cst K mg t1 t2 t3 t4 t5 ts) {C_Kept f_Kept_init : Addr} (T_Kept : TCls K mg "Kept" C_Kept f_Kept_init ["bound", "held"]) {C_RoomError f_RoomError_init : Addr} (T_RoomError : TXB K mg C_RoomError f_RoomError_init) (VI : VInit K) {C_NoKeep f_NoKeep_init : Addr} (T_NoKeep : TX K mg "NoKeep" C_NoKeep C_RoomError f_NoKeep_init ["found"]) {C_NoLine f_NoLine_init : Addr} (T_NoLine : TX K mg "NoLine" C_NoLine C_RoomError f_NoLine_init ["found"]) {C_NoPlace f_NoPlace_init : Addr} (T_NoPlace : TX K mg "NoPlace" C_NoPlace C_RoomError f_NoPlace_init ["found"]) {f_is_count : Addr} {fd_is_count : FuncData} (D_is_count : Df K mg "is_count" f_is_count fd_is_count ["thing"]) (G_is_count : FnOk P w K mg base CX0 k f_is_count fd_is_count ["thing"] (spCount K)) {fd_NoLine_init : FuncData} (D_NoLine_init : DfI K fd_NoLine_init ["self", "found"]) (G_NoLine_init : FnOk P w K mg base (CXE P w) k f_NoLine_init fd_NoLine_init ["self", "found"] (spNP C_NoLine)) : FnOk P w K mg base (CXE P w) (k + 2) f fd ["line"] (spNLG K C_NoLine) := by
  refine F.okE sc_need_line (fun vs H Q E h => ?_) (fun cdv A outer s0 H vs Q E hr0 h => ?_)
  · rcases h with ⟨n, rfl, _⟩ | ⟨x, rfl, _⟩ <;> rfl

  have hr := hr0.mono (Nat.le_succ _)
  refine ⟨_, (pss_one (ps_if (pt_not (pt_val (pe_call G_is_count hr rfl D_is_count.m D_is_count.k D_is_count.b .nil pass0 (pa_cons (pv 0) pa_nil)))) (pss_one (ps_raise T_NoLine.c G_NoLine_init hr0 rfl T_NoLine.m D_NoLine_init.b .nil raisesE (pa_cons (pv 0) pa_nil))) pss_nil)), ?_⟩
  rcases h with ⟨n, rfl, hn, q⟩ | ⟨x, rfl, ⟨n, rfl, hn⟩ | hx, qx⟩
  · exact ⟨_, rfl, .inl ⟨n, rfl, _, rfl, iteN (by rw [decide_eq_true hn]; decide) q⟩⟩
  · exact ⟨_, rfl, .inl ⟨n, rfl, _, rfl, iteP (by rw [decide_eq_false hn]; rfl) ⟨True.intro, _, rfl, (by show 1 ≤ 1000; decide), fun e he => ⟨e, .int n, rfl, upd_same, fun dx hd => ⟨rfl, e, some dx, rfl, upd_same, qx.fin (Same.refl _) e he dx hd⟩⟩⟩⟩⟩
  · exact ⟨_, rfl, .inr ⟨x, rfl, hx, _, rfl, iteP rfl ⟨True.intro, _, rfl, (by show 1 ≤ 1000; decide), fun e he => ⟨e, x, rfl, upd_same, fun dx hd => ⟨rfl, e, some dx, rfl, upd_same, qx.fin (Same.refl _) e he dx hd⟩⟩⟩⟩⟩
end
end K52

namespace K52
open PySem L2 PyProof.Rows
abbrev s_need_lines : Stmt := top 31
theorem sc_need_lines : FnScope ["lines", "line"] ["lines"] (defScope s_need_lines) := ⟨rfl, rfl, rfl, by decide +kernel, rfl, by decide +kernel, by decide +kernel⟩
section
variable {P : Program} {w : World} {K : PySem.W.Frag} {mg : Str → Option Value} {base : Heap}
theorem ok_need_lines {k : Nat} {f : Addr} {fd : FuncData} (F : Fun K "need_lines" "need_lines" s_need_lines f fd) (M : Blt mg) {t1 t2 t3 t4 t5 : Tok} {ts : Addr} (C : Cst K mg t1 t2 t3 t4 t5 ts) {C_Kept f_Kept_init : Addr} (T_Kept : TCls K mg "Kept" C_Kept f_Kept_init ["bound", "held"]) {C_RoomError f_RoomError_init : Addr} (T_RoomError : TXB K mg C_RoomError f_RoomError_init) (VI : VInit K) {C_NoKeep f_NoKeep_init : Addr} (T_NoKeep : TX K mg "NoKeep" C_NoKeep C_RoomError f_NoKeep_init ["found"]) {C_NoLine f_NoLine_init : Addr} (T_NoLine : TX K mg "NoLine" C_NoLine C_RoomError f_NoLine_init ["found"]) {C_NoPlace f_NoPlace_init : Addr} (T_NoPlace : TX K mg "NoPlace" C_NoPlace C_RoomError f_NoPlace_init ["found"]) {f_need_line : Addr} {fd_need_line : FuncData} (D_need_line : Df K mg "need_line" f_need_line fd_need_line ["line"]) (G_need_line : FnOk P w K mg base (CXE P w) k f_need_line fd_need_line ["line"] (spNLG K C_NoLine)) : FnOk P w K mg base (CXE P w) (k + 2) f fd ["lines"] (spNLsG K C_NoLine) := by
  refine F.okE sc_need_lines (fun vs H Q E h => ?_) (fun cdv A outer s0 H vs Q E hr0 h => ?_)
  · obtain ⟨a, ns, rfl, _⟩ := h; rfl
  obtain ⟨a, ns, rfl, hp, h⟩ := h
  have hr := hr0.mono (Nat.le_succ _)
  refine ⟨_, (pss_one (ps_for ownE rfl (pi_list (pv 0)) (pg_name (i := 1) sc_need_lines.nd rfl (Or.inl rfl)) (pss_one (ps_expr (pe_call G_need_line hr rfl D_need_line.m D_need_line.k D_need_line.b .nil (passE fun _ _ _ z => z) (pa_cons (pv 1) pa_nil)))))), ?_⟩
  rcases h with ⟨hS, q⟩ | ⟨x, rest, hS, hb, qx⟩
  · refine ⟨_, rfl, a, rfl, ⟨_, hS⟩, for_list (xs := ns.map V.int) (fun i σ H' => (∃ o1 : Option V, σ = [some (.ref a), o1]) ∧ H' = H) ⟨⟨none, rfl⟩, rfl⟩ (fun i σ H' _ z => z.2 ▸ hS) (fun i x σ H' hx z => ?_) (fun σ H' z => ?_)⟩
    · obtain ⟨⟨o1, rfl⟩, rfl⟩ := z
      obtain ⟨n, hn, rfl⟩ := get_ints hx
      exact ⟨_, rfl, .inl ⟨n, rfl, hp n (List.mem_of_getElem? hn), ⟨_, rfl⟩, rfl⟩⟩
    · obtain ⟨_, rfl⟩ := z
      exact q
  · refine ⟨_, rfl, a, rfl, ⟨_, hS⟩, for_list (xs := ns.map V.int ++ x :: rest) (fun i σ H' => (∃ o1 : Option V, σ = [some (.ref a), o1]) ∧ H' = H ∧ i ≤ ns.length) ⟨⟨none, rfl⟩, rfl, Nat.zero_le _⟩ (fun i σ H' _ z => z.2.1 ▸ hS) (fun i y σ H' hy z => ?_) (fun σ H' z => ?_)⟩
    · obtain ⟨⟨o1, rfl⟩, rfl, hi⟩ := z
      by_cases hlt : i < ns.length
      · rw [List.getElem?_append_left (by rw [List.length_map]; exact hlt)] at hy
        obtain ⟨n, hn, rfl⟩ := get_ints hy
        exact ⟨_, rfl, .inl ⟨n, rfl, hp n (List.mem_of_getElem? hn), ⟨_, rfl⟩, rfl, hlt⟩⟩
      · have e : i = ns.length := by omega
        subst e
        rw [List.getElem?_append_right (by rw [List.length_map]; exact Nat.le_refl _), List.length_map, Nat.sub_self] at hy
        cases hy
        exact ⟨_, rfl, .inr ⟨_, rfl, hb, qx⟩⟩
    · have := z.2.2
      rw [List.length_append, List.length_map, List.length_cons] at this
      omega
end
end K52

namespace K52
open PySem L2 PyProof.Rows
abbrev s_Kept_init : Stmt := inClass (top 28) 0
theorem sc_Kept_init : FnScope ["self", "most"] ["self", "most"] (defScope s_Kept_init) := ⟨rfl, rfl, rfl, by decide +kernel, rfl, by decide +kernel, by decide +kernel⟩
section
variable {P : Program} {w : World} {K : PySem.W.Frag} {mg : Str → Option Value} {base : Heap}
theorem ok_Kept_init {k : Nat} {f : Addr} {fd : FuncData} (F : Fun K "__init__" "Kept.__init__" s_Kept_init f fd) (M : Blt mg) {t1 t2 t3 t4 t5 : Tok} {ts : Addr} (C : Cst K mg t1 t2 t3 t4 t5 ts) {C_Kept f_Kept_init : Addr} (T_Kept : TCls K mg "Kept" C_Kept f_Kept_init ["bound", "held"]) {C_RoomError f_RoomError_init : Addr} (T_RoomError : TXB K mg C_RoomError f_RoomError_init) (VI : VInit K) {C_NoKeep f_NoKeep_init : Addr} (T_NoKeep : TX K mg "NoKeep" C_NoKeep C_RoomError f_NoKeep_init ["found"]) {C_NoLine f_NoLine_init : Addr} (T_NoLine : TX K mg "NoLine" C_NoLine C_RoomError f_NoLine_init ["found"]) {C_NoPlace f_NoPlace_init : Addr} (T_NoPlace : TX K mg "NoPlace" C_NoPlace C_RoomError f_NoPlace_init ["found"]) {f_need_keep : Addr} {fd_need_keep : FuncData} (D_need_keep : Df K mg "need_keep" f_need_keep fd_need_keep ["most"]) (G_need_keep : FnOk P w K mg base (CXE P w) k f_need_keep fd_need_keep ["most"] (spNKG K C_NoKeep)) : FnOk P w K mg base (CXE P w) (k + 2) f fd ["self", "most"] (spKIB K C_NoKeep) := by
  refine F.okE sc_Kept_init (fun vs H Q E h => ?_) (fun cdv A outer s0 H vs Q E hr0 h => ?_)
  · obtain ⟨a, x, rfl, _⟩ := h; rfl
  obtain ⟨a, x, rfl, hb, qx⟩ := h
  have hr := hr0.mono (Nat.le_succ _)
  refine ⟨_, (pss_cons (ps_expr (pe_call G_need_keep hr rfl D_need_keep.m D_need_keep.k D_need_keep.b .nil (passE fun _ _ _ z => z) (pa_cons (pv 1) pa_nil)))
      (pss_cons (ps_fld (pv 0) (pv 1) rfl)
      (pss_one (ps_fld (pv 0) (pe_lst pa_nil) rfl)))), ?_⟩
  exact ⟨_, rfl, .inr ⟨x, rfl, hb, qx⟩⟩
end
end K52

namespace K52
open PySem L2 PyProof.Rows
abbrev s_fetches : Stmt := top 32
theorem sc_fetches : FnScope ["lines", "most", "kept"] ["lines", "most"] (defScope s_fetches) := ⟨rfl, rfl, rfl, by decide +kernel, rfl, by decide +kernel, by decide +kernel⟩
section
variable {P : Program} {w : World} {K : PySem.W.Frag} {mg : Str → Option Value} {base : Heap}
theorem ok_fetches {k : Nat} {f : Addr} {fd : FuncData} (F : Fun K "fetches" "fetches" s_fetches f fd) (M : Blt mg) {t1 t2 t3 t4 t5 : Tok} {ts : Addr} (C : Cst K mg t1 t2 t3 t4 t5 ts) {C_Kept f_Kept_init : Addr} (T_Kept : TCls K mg "Kept" C_Kept f_Kept_init ["bound", "held"]) {C_RoomError f_RoomError_init : Addr} (T_RoomError : TXB K mg C_RoomError f_RoomError_init) (VI : VInit K) {C_NoKeep f_NoKeep_init : Addr} (T_NoKeep : TX K mg "NoKeep" C_NoKeep C_RoomError f_NoKeep_init ["found"]) {C_NoLine f_NoLine_init : Addr} (T_NoLine : TX K mg "NoLine" C_NoLine C_RoomError f_NoLine_init ["found"]) {C_NoPlace f_NoPlace_init : Addr} (T_NoPlace : TX K mg "NoPlace" C_NoPlace C_RoomError f_NoPlace_init ["found"]) {f_need_lines : Addr} {fd_need_lines : FuncData} (D_need_lines : Df K mg "need_lines" f_need_lines fd_need_lines ["lines"]) (G_need_lines : FnOk P w K mg base (CXE P w) k f_need_lines fd_need_lines ["lines"] (spNLsG K C_NoLine)) {fd_Kept_init : FuncData} (D_Kept_init : DfI K fd_Kept_init ["self", "most"]) (G_Kept_init : FnOk P w K mg base (CXE P w) k f_Kept_init fd_Kept_init ["self", "most"] (spKIB K C_NoKeep)) {f_Kept_touch : Addr} {fd_Kept_touch : FuncData} (D_Kept_touch : DfM K C_Kept "touch" f_Kept_touch fd_Kept_touch ["self", "line"]) (G_Kept_touch : FnOk P w K mg base CX0 k f_Kept_touch fd_Kept_touch ["self", "line"] spNo) : FnOk P w K mg base (CXE P w) (k + 2) f fd ["lines", "most"] (spFe K C_NoLine C_NoKeep) := by
  refine F.okE sc_fetches (fun vs H Q E h => ?_) (fun cdv A outer s0 H vs Q E hr0 h => ?_)
  · obtain ⟨la, m, rfl, _⟩ := h; rfl
  obtain ⟨la, m, rfl, ns, hp, hl, h⟩ := h
  have hr := hr0.mono (Nat.le_succ _)
  refine ⟨_, (pss_cons (ps_expr (pe_call G_need_lines hr rfl D_need_lines.m D_need_lines.k D_need_lines.b .nil (passE fun _ _ _ z => z) (pa_cons (pv 0) pa_nil)))
      (pss_cons (ps_set (i := 2) sc_fetches.nd rfl (by first | exact Or.inl rfl | exact Or.inr rfl) (pe_make T_Kept.ma G_Kept_init hr0 rfl T_Kept.m D_Kept_init.b .nil (passE fun _ _ _ z => z) (pa_cons (pv 1) pa_nil)))
      (pss_one (ps_ret (pe_comp ["line"] ["kept"] [2] rfl (pi_list (pv 0)) rfl ⟨rfl, trivial⟩ ⟨⟨rfl, rfl, rfl, _, rfl⟩, trivial⟩ (fun _ _ _ _ => (pg_name (i := 0) (show List.Nodup (["line", "kept"] : List Str) from by decide +kernel) rfl (Or.inl rfl))) (fun _ _ _ _ => pif_nil) (fun _ _ _ _ => (pe_op (op_catTK (K := K) rfl) (pe_tup (pa_cons (pv 0) pa_nil)) (pe_meth (pv 1) T_Kept.cl D_Kept_touch.me G_Kept_touch hr D_Kept_touch.b .nil pass0 (pa_cons (pv 0) pa_nil))))))))), ?_⟩
  rcases h with ⟨hS, hb, qx⟩ | ⟨x, rest, hS, hb, qx⟩
  · refine ⟨_, rfl, la, ns, rfl, hp, .inl ⟨hS, _, rfl, fun o dx ho hd ne => ⟨o, m, rfl, hb.same (made_same ho hd), qx.same (made_same ho hd)⟩⟩⟩
  · exact ⟨_, rfl, la, ns, rfl, hp, .inr ⟨x, rest, hS, hb, qx⟩⟩
end
end K52

namespace K52
open PySem L2 PyProof.Rows
abbrev s_how_many : Stmt := top 33
theorem sc_how_many : FnScope ["lines", "most"] ["lines", "most"] (defScope s_how_many) := ⟨rfl, rfl, rfl, by decide +kernel, rfl, by decide +kernel, by decide +kernel⟩
section
variable {P : Program} {w : World} {K : PySem.W.Frag} {mg : Str → Option Value} {base : Heap}
theorem ok_how_many {k : Nat} {f : Addr} {fd : FuncData} (F : Fun K "how_many" "how_many" s_how_many f fd) (M : Blt mg) {t1 t2 t3 t4 t5 : Tok} {ts : Addr} (C : Cst K mg t1 t2 t3 t4 t5 ts) {C_Kept f_Kept_init : Addr} (T_Kept : TCls K mg "Kept" C_Kept f_Kept_init ["bound", "held"]) {C_RoomError f_RoomError_init : Addr} (T_RoomError : TXB K mg C_RoomError f_RoomError_init) (VI : VInit K) {C_NoKeep f_NoKeep_init : Addr} (T_NoKeep : TX K mg "NoKeep" C_NoKeep C_RoomError f_NoKeep_init ["found"]) {C_NoLine f_NoLine_init : Addr} (T_NoLine : TX K mg "NoLine" C_NoLine C_RoomError f_NoLine_init ["found"]) {C_NoPlace f_NoPlace_init : Addr} (T_NoPlace : TX K mg "NoPlace" C_NoPlace C_RoomError f_NoPlace_init ["found"]) {f_fetches : Addr} {fd_fetches : FuncData} (D_fetches : Df K mg "fetches" f_fetches fd_fetches ["lines", "most"]) (G_fetches : FnOk P w K mg base (CXE P w) k f_fetches fd_fetches ["lines", "most"] (spFe K C_NoLine C_NoKeep)) : FnOk P w K mg base (CXE P w) (k + 2) f fd ["lines", "most"] (spFe K C_NoLine C_NoKeep) := by
  refine F.okE sc_how_many (fun vs H Q E h => ?_) (fun cdv A outer s0 H vs Q E hr0 h => ?_)
  · obtain ⟨la, m, rfl, _⟩ := h; rfl
  obtain ⟨la, m, rfl, h⟩ := h
  have hr := hr0.mono (Nat.le_succ _)
  refine ⟨_, (pss_one (ps_ret (pe_callB call_len_seq rfl M.len PySem.boot_len (pa_cons (pe_comp ["line", "fetched", "out"] [] [] rfl (pi_list (pe_call G_fetches hr rfl D_fetches.m D_fetches.k D_fetches.b .nil (passE fun _ _ _ z => z) (pa_cons (pv 0) (pa_cons (pv 1) pa_nil)))) rfl trivial trivial (fun _ _ _ _ => ((pg_tupK (K := K) (n := 3) rfl) rfl (pgs_cons (pg_name (i := 0) (show List.Nodup (["line", "fetched", "out"] : List Str) from by decide +kernel) rfl (Or.inl rfl)) (pgs_cons (pg_name (i := 1) (show List.Nodup (["line", "fetched", "out"] : List Str) from by decide +kernel) rfl (Or.inl rfl)) (pgs_cons (pg_name (i := 2) (show List.Nodup (["line", "fetched", "out"] : List Str) from by decide +kernel) rfl (Or.inl rfl)) pgs_nil))))) (fun _ _ _ _ => (pif_one (pt_val (pv 1)))) (fun _ _ _ _ => (pv 0))) pa_nil)))), ?_⟩
  exact ⟨_, rfl, _, rfl, la, m, rfl, h⟩
end
end K52

namespace K52
open PySem L2 PyProof.Rows
abbrev s_is_fetches : Stmt := top 37
theorem sc_is_fetches : FnScope ["lines", "most", "thing"] ["lines", "most", "thing"] (defScope s_is_fetches) := ⟨rfl, rfl, rfl, by decide +kernel, rfl, by decide +kernel, by decide +kernel⟩
section
variable {P : Program} {w : World} {K : PySem.W.Frag} {mg : Str → Option Value} {base : Heap}
theorem ok_is_fetches {k : Nat} {f : Addr} {fd : FuncData} (F : Fun K "is_fetches" "is_fetches" s_is_fetches f fd) (M : Blt mg) {t1 t2 t3 t4 t5 : Tok} {ts : Addr} (C : Cst K mg t1 t2 t3 t4 t5 ts) {C_Kept f_Kept_init : Addr} (T_Kept : TCls K mg "Kept" C_Kept f_Kept_init ["bound", "held"]) {C_RoomError f_RoomError_init : Addr} (T_RoomError : TXB K mg C_RoomError f_RoomError_init) (VI : VInit K) {C_NoKeep f_NoKeep_init : Addr} (T_NoKeep : TX K mg "NoKeep" C_NoKeep C_RoomError f_NoKeep_init ["found"]) {C_NoLine f_NoLine_init : Addr} (T_NoLine : TX K mg "NoLine" C_NoLine C_RoomError f_NoLine_init ["found"]) {C_NoPlace f_NoPlace_init : Addr} (T_NoPlace : TX K mg "NoPlace" C_NoPlace C_RoomError f_NoPlace_init ["found"]) {f_is_alike : Addr} {fd_is_alike : FuncData} (D_is_alike : Df K mg "is_alike" f_is_alike fd_is_alike ["thing", "wanted"]) (G_is_alike : FnOk P w K mg base CX0 k f_is_alike fd_is_alike ["thing", "wanted"] spNo) {f_fetches : Addr} {fd_fetches : FuncData} (D_fetches : Df K mg "fetches" f_fetches fd_fetches ["lines", "most"]) (G_fetches : FnOk P w K mg base (CXE P w) k f_fetches fd_fetches ["lines", "most"] (spFe K C_NoLine C_NoKeep)) : FnOk P w K mg base (CXE P w) (k + 2) f fd ["lines", "most", "thing"] (spFe3 K C_NoLine C_NoKeep) := by
  refine F.okE sc_is_fetches (fun vs H Q E h => ?_) (fun cdv A outer s0 H vs Q E hr0 h => ?_)
  · obtain ⟨la, m, y, rfl, _⟩ := h; rfl
  obtain ⟨la, m, y, rfl, h⟩ := h
  have hr := hr0.mono (Nat.le_succ _)
  refine ⟨_, (pss_one (ps_ret (pe_call G_is_alike hr rfl D_is_alike.m D_is_alike.k D_is_alike.b .nil pass0 (pa_cons (pv 2) (pa_cons (pe_call G_fetches hr rfl D_fetches.m D_fetches.k D_fetches.b .nil (passE fun _ _ _ z => z) (pa_cons (pv 0) (pa_cons (pv 1) pa_nil))) pa_nil))))), ?_⟩
  exact ⟨_, rfl, _, rfl, _, rfl, la, m, rfl, h⟩
end
end K52

namespace K52
open PySem L2 PyProof.Rows
abbrev s_counts : Stmt := top 36
theorem sc_counts : FnScope ["lines", "most", "found"] ["lines", "most"] (defScope s_counts) := ⟨rfl, rfl, rfl, by decide +kernel, rfl, by decide +kernel, by decide +kernel⟩
section
variable {P : Program} {w : World} {K : PySem.W.Frag} {mg : Str → Option Value} {base : Heap}
theorem ok_counts {k : Nat} {f : Addr} {fd : FuncData} (F : Fun K "counts" "counts" s_counts f fd) (M : Blt mg) {t1 t2 t3 t4 t5 : Tok} {ts : Addr} (C : Cst K mg t1 t2 t3 t4 t5 ts) {C_Kept f_Kept_init : Addr} (T_Kept : TCls K mg "Kept" C_Kept f_Kept_init ["bound", "held"]) {C_RoomError f_RoomError_init : Addr} (T_RoomError : TXB K mg C_RoomError f_RoomError_init) (VI : VInit K) {C_NoKeep f_NoKeep_init : Addr} (T_NoKeep : TX K mg "NoKeep" C_NoKeep C_RoomError f_NoKeep_init ["found"]) {C_NoLine f_NoLine_init : Addr} (T_NoLine : TX K mg "NoLine" C_NoLine C_RoomError f_NoLine_init ["found"]) {C_NoPlace f_NoPlace_init : Addr} (T_NoPlace : TX K mg "NoPlace" C_NoPlace C_RoomError f_NoPlace_init ["found"]) {f_distances : Addr} {fd_distances : FuncData} (D_distances : Df K mg "distances" f_distances fd_distances ["lines"]) (G_distances : FnOk P w K mg base (CXE P w) k f_distances fd_distances ["lines"] (spDiG K C_NoLine)) {f_need_keep : Addr} {fd_need_keep : FuncData} (D_need_keep : Df K mg "need_keep" f_need_keep fd_need_keep ["most"]) (G_need_keep : FnOk P w K mg base (CXE P w) k f_need_keep fd_need_keep ["most"] (spNKG K C_NoKeep)) : FnOk P w K mg base (CXE P w) (k + 2) f fd ["lines", "most"] (spFe K C_NoLine C_NoKeep) := by
  refine F.okE sc_counts (fun vs H Q E h => ?_) (fun cdv A outer s0 H vs Q E hr0 h => ?_)
  · obtain ⟨la, m, rfl, _⟩ := h; rfl
  obtain ⟨la, m, rfl, ns, hp, hl, h⟩ := h
  have hr := hr0.mono (Nat.le_succ _)
  refine ⟨_, (pss_cons (ps_set (i := 2) sc_counts.nd rfl (by first | exact Or.inl rfl | exact Or.inr rfl) (pe_call G_distances hr rfl D_distances.m D_distances.k D_distances.b .nil (passE fun _ _ _ z => z) (pa_cons (pv 0) pa_nil)))
      (pss_cons (ps_expr (pe_call G_need_keep hr rfl D_need_keep.m D_need_keep.k D_need_keep.b .nil (passE fun _ _ _ z => z) (pa_cons (pv 1) pa_nil)))
      (pss_one (ps_ret (pe_compK ["keep"] ["found"] ["keep"] [2] rfl (pi_range2 rfl M.range (pa_cons pe_int (pa_cons (pe_op op_add (pv 1) pe_int) pa_nil))) rfl ⟨rfl, trivial⟩ ⟨⟨rfl, rfl, rfl, _, rfl⟩, trivial⟩ (by intro _; exact ⟨rfl, trivial⟩) (by intro _; exact ⟨⟨_, rfl, Nat.lt_succ_self _⟩, trivial⟩) (fun _ _ _ _ => (pg_name (i := 0) (show List.Nodup (["keep", "found"] : List Str) from by decide +kernel) rfl (Or.inr rfl))) (fun _ _ _ _ => pif_nil) (by intro _ _ _ _; exact (pe_callB (call_lenK (K := K) rfl) rfl M.len PySem.boot_len (pa_cons (pe_comp ["far"] ["keep"] [0] rfl (pi_listK (K := K) rfl (pv 1)) rfl ⟨rfl, trivial⟩ ⟨⟨rfl, rfl, rfl, _, rfl⟩, trivial⟩ (fun _ _ _ _ => (pg_name (i := 0) (show List.Nodup (["far", "keep"] : List Str) from by decide +kernel) rfl (Or.inl rfl))) (fun _ _ _ _ => (pif_one (PW.pt (pw_or (pt_cmpR op_isN (pv 0) pe_non (nomark _)) (pw_or1 (pt_cmpR op_gt (pv 0) (pv 1) (nomark _))))))) (fun _ _ _ _ => (pv 0))) pa_nil)))))))), ?_⟩
  rcases h with ⟨hS, hb, qx⟩ | ⟨x, rest, hS, hb, qx⟩
  · exact ⟨_, rfl, la, ns, rfl, hp, hl, .inl ⟨hS, fun r H' g => ⟨_, rfl, .inr ⟨m, rfl, hb.same g, qx.same g⟩⟩⟩⟩
  · exact ⟨_, rfl, la, ns, rfl, hp, hl, .inr ⟨x, rest, hS, hb, qx⟩⟩
end
end K52

namespace K52
open PySem L2 PyProof.Rows
abbrev s_place_in : Stmt := top 35
theorem sc_place_in : FnScope ["numbers", "number", "low", "high", "middle"] ["numbers", "number"] (defScope s_place_in) := ⟨rfl, rfl, rfl, by decide +kernel, rfl, by decide +kernel, by decide +kernel⟩
section
variable {P : Program} {w : World} {K : PySem.W.Frag} {mg : Str → Option Value} {base : Heap}
theorem ok_place_in {k : Nat} {f : Addr} {fd : FuncData} (F : Fun K "place_in" "place_in" s_place_in f fd) (M : Blt mg) {t1 t2 t3 t4 t5 : Tok} {ts : Addr} (C : Cst K mg t1 t2 t3 t4 t5 ts) {C_Kept f_Kept_init : Addr} (T_Kept : TCls K mg "Kept" C_Kept f_Kept_init ["bound", "held"]) {C_RoomError f_RoomError_init : Addr} (T_RoomError : TXB K mg C_RoomError f_RoomError_init) (VI : VInit K) {C_NoKeep f_NoKeep_init : Addr} (T_NoKeep : TX K mg "NoKeep" C_NoKeep C_RoomError f_NoKeep_init ["found"]) {C_NoLine f_NoLine_init : Addr} (T_NoLine : TX K mg "NoLine" C_NoLine C_RoomError f_NoLine_init ["found"]) {C_NoPlace f_NoPlace_init : Addr} (T_NoPlace : TX K mg "NoPlace" C_NoPlace C_RoomError f_NoPlace_init ["found"]) : FnOk P w K mg base CX0 (k + 2) f fd ["numbers", "number"] (spPl K) := by
  refine F.ok sc_place_in (fun vs H Q E h => ?_) (fun cdv A outer s0 H vs Q E hr0 h => ?_)
  · obtain ⟨a, ns, j, rfl, _⟩ := h; rfl
  obtain ⟨a, ns, j, rfl, hS, h0, h100, q⟩ := h
  have hr := hr0.mono (Nat.le_succ _)
  refine ⟨_, (pss_cons (ps_par (i := 2) (j := 3) rfl sc_place_in.nd rfl rfl (by decide) rfl rfl (pa_cons pe_int (pa_cons (pe_op op_sub (pe_callB call_len_seq rfl M.len PySem.boot_len (pa_cons (pv 0) pa_nil)) pe_int) pa_nil)) rfl)
      (pss_cons (ps_while PassesOwn.never (pt_cmpR op_lt (pv 2) (pv 3) (nomark _)) (pss_cons (ps_set (i := 4) sc_place_in.nd rfl (by first | exact Or.inl rfl | exact Or.inr rfl) (pe_op op_fdiv (pe_op op_add (pv 2) (pv 3)) pe_int))
      (pss_one (ps_if (pt_cmpR op_lt (pe_ix ix_list (pv 0) (pv 4) (fun _ _ => rfl)) (pv 1) (nomark _)) (pss_one (ps_set (i := 2) sc_place_in.nd rfl (by first | exact Or.inl rfl | exact Or.inr rfl) (pe_op op_add (pv 4) pe_int))) (pss_one (ps_set (i := 3) sc_place_in.nd rfl (by first | exact Or.inl rfl | exact Or.inr rfl) (pv 4)))))))
      (pss_one (ps_ret (pv 2))))), ?_⟩
  have hl : (ns.map V.int).length = ns.length := List.length_map _
  refine ⟨_, rfl, a, _, rfl, .inl hS, _, _, rfl, rfl, _, _, rfl, ?_⟩
  have e1 : (((ns.map V.int).length : Nat) : Int) - 1 = ((ns.length - 1 : Nat) : Int) := by rw [hl]; omega
  dsimp only
  rw [e1]
  refine ⟨fun m σ H' => ∃ (lo hi : Nat) (o : Option V), m = hi - lo ∧ σ = [some (.ref a), some (.int j), some (.int lo), some (.int hi), o] ∧ H' = H ∧ lo ≤ hi ∧ hi < ns.length, ⟨_, 0, ns.length - 1, none, rfl, rfl, rfl, Nat.zero_le _, by omega⟩, ?_⟩
  rintro m σ H' ⟨lo, hi, o, rfl, rfl, hH, h1, h3⟩
  subst hH
  refine ⟨_, rfl, _, rfl, _, _, rfl, rfl, _, rfl, ite2 (fun c => ?_) (fun c => ?_)⟩
  · have c' : (lo : Int) < hi := of_decide_eq_true c
    refine ⟨fun σ' H'' => ∃ (lo' hi' : Nat) (o : Option V), hi' - lo' < hi - lo ∧ σ' = [some (.ref a), some (.int j), some (.int lo'), some (.int hi'), o] ∧ H'' = H' ∧ lo' ≤ hi' ∧ hi' < ns.length, fun σ' H'' z => ?_, ?_⟩
    · obtain ⟨lo', hi', o', hm, e2, e3, z⟩ := z
      exact ⟨_, hm, lo', hi', o', rfl, e2, e3, z⟩
    refine ⟨_, rfl, _, rfl, _, _, rfl, rfl, _, _, rfl, rfl, ⟨by decide, by decide⟩, ?_⟩
    have em : ((lo : Int) + hi) / 2 = (((lo + hi) / 2 : Nat) : Int) := by omega
    dsimp only
    rw [em]
    have hmid : (lo + hi) / 2 < ns.length := by omega
    have hat : atI (ns.map V.int) (((lo + hi) / 2 : Nat) : Int) = some (.int ns[(lo + hi) / 2]) := atI_nat (by rw [List.getElem?_map, List.getElem?_eq_getElem hmid]; rfl)
    refine ⟨_, rfl, _, rfl, a, _, _, _, rfl, rfl, hS, hat, _, rfl, _, _, rfl, rfl, _, rfl, ite2 (fun c2 => ?_) (fun c2 => ?_)⟩
    · exact ⟨_, rfl, _, _, rfl, rfl, (lo + hi) / 2 + 1, hi, _, by omega, rfl, rfl, by omega, h3⟩
    · exact ⟨_, rfl, lo, (lo + hi) / 2, _, by omega, rfl, rfl, by omega, by omega⟩
  · exact ⟨_, rfl, q lo (by omega)⟩
end
end K52

namespace K52
open PySem L2 PyProof.Rows
abbrev s_distances : Stmt := top 34
theorem sc_distances : FnScope ["lines", "found", "last", "latest", "number", "line", "at"] ["lines"] (defScope s_distances) := ⟨rfl, rfl, rfl, by decide +kernel, rfl, by decide +kernel, by decide +kernel⟩
section
variable {P : Program} {w : World} {K : PySem.W.Frag} {mg : Str → Option Value} {base : Heap}
theorem ok_distances {k : Nat} {f : Addr} {fd : FuncData} (F : Fun K "distances" "distances" s_distances f fd) (M : Blt mg) {t1 t2 t3 t4 t5 : Tok} {ts : Addr} (C : Cst K mg t1 t2 t3 t4 t5 ts) {C_Kept f_Kept_init : Addr} (T_Kept : TCls K mg "Kept" C_Kept f_Kept_init ["bound", "held"]) {C_RoomError f_RoomError_init : Addr} (T_RoomError : TXB K mg C_RoomError f_RoomError_init) (VI : VInit K) {C_NoKeep f_NoKeep_init : Addr} (T_NoKeep : TX K mg "NoKeep" C_NoKeep C_RoomError f_NoKeep_init ["found"]) {C_NoLine f_NoLine_init : Addr} (T_NoLine : TX K mg "NoLine" C_NoLine C_RoomError f_NoLine_init ["found"]) {C_NoPlace f_NoPlace_init : Addr} (T_NoPlace : TX K mg "NoPlace" C_NoPlace C_RoomError f_NoPlace_init ["found"]) {f_need_lines : Addr} {fd_need_lines : FuncData} (D_need_lines : Df K mg "need_lines" f_need_lines fd_need_lines ["lines"]) (G_need_lines : FnOk P w K mg base (CXE P w) k f_need_lines fd_need_lines ["lines"] (spNLsG K C_NoLine)) {f_place_in : Addr} {fd_place_in : FuncData} (D_place_in : Df K mg "place_in" f_place_in fd_place_in ["numbers", "number"]) (G_place_in : FnOk P w K mg base CX0 k f_place_in fd_place_in ["numbers", "number"] (spPl K)) : FnOk P w K mg base (CXE P w) (k + 2) f fd ["lines"] (spDiG K C_NoLine) := by
  refine F.okE sc_distances (fun vs H Q E h => ?_) (fun cdv A outer s0 H vs Q E hr0 h => ?_)
  · obtain ⟨a, ns, rfl, _⟩ := h; rfl
  obtain ⟨a, ns, rfl, hp, h80, h⟩ := h
  have hr := hr0.mono (Nat.le_succ _)
  refine ⟨_, (pss_cons (ps_expr (pe_call G_need_lines hr rfl D_need_lines.m D_need_lines.k D_need_lines.b .nil (passE fun _ _ _ z => z) (pa_cons (pv 0) pa_nil)))
      (pss_cons (ps_set (i := 1) sc_distances.nd rfl (by first | exact Or.inl rfl | exact Or.inr rfl) (pe_lst pa_nil))
      (pss_cons (ps_set (i := 2) sc_distances.nd rfl (by first | exact Or.inl rfl | exact Or.inr rfl) pe_dnewK)
      (pss_cons (ps_set (i := 3) sc_distances.nd rfl (by first | exact Or.inl rfl | exact Or.inr rfl) (pe_lst pa_nil))
      (pss_cons (ps_for ownE rfl (pi_enum rfl M.enumerate (pa_cons (pv 0) pa_nil)) (pg_tup rfl (pgs_cons (pg_name (i := 4) sc_distances.nd rfl (Or.inl rfl)) (pgs_cons (pg_name (i := 5) sc_distances.nd rfl (Or.inl rfl)) pgs_nil))) (pss_cons (ps_if (pt_cmp (pc_din hr.units1 (pv 5) (pv 2))) (pss_cons (ps_set (i := 6) sc_distances.nd rfl (by first | exact Or.inl rfl | exact Or.inr rfl) (pe_call G_place_in hr rfl D_place_in.m D_place_in.k D_place_in.b .nil pass0 (pa_cons (pv 3) (pa_cons (pe_dget hr.units1 (pv 2) (pv 5) (fun _ _ => rfl)) pa_nil))))
      (pss_cons (ps_expr (pe_bm PySem.F.plainAttrs_list PySem.F.slot_list_append PySem.F.type_list_append mt_append (pv 1) (pa_cons (pe_op op_sub (pe_callB call_len_seq rfl M.len PySem.boot_len (pa_cons (pv 3) pa_nil)) (pv 6)) pa_nil)))
      (pss_one (ps_del (pv 3) (pv 6))))) (pss_one (ps_expr (pe_bm PySem.F.plainAttrs_list PySem.F.slot_list_append PySem.F.type_list_append mt_append (pv 1) (pa_cons pe_non pa_nil)))))
      (pss_cons (ps_dput hr.units1 (pv 2) (pv 5) (pv 4) rfl)
      (pss_one (ps_expr (pe_bm PySem.F.plainAttrs_list PySem.F.slot_list_append PySem.F.type_list_append mt_append (pv 3) (pa_cons (pv 4) pa_nil)))))))
      (pss_one (ps_ret (pv 1)))))))), ?_⟩
  rcases h with ⟨hS, q⟩ | ⟨x, rest, hS, hb, qx⟩
  case' inr => exact ⟨_, rfl, a, ns, rfl, hp, .inr ⟨x, rest, hS, hb, qx⟩⟩
  refine ⟨_, rfl, a, ns, rfl, hp, .inl ⟨hS, ?_⟩⟩
  refine ⟨(by show 0 ≤ sizeLine; decide), fun f hf0 => ?_⟩
  have g1 := same_new hf0 (.lst [])
  have k1 : upd H f (.lst []) f = some (.lst []) := upd_same
  generalize upd H f (.lst []) = H1 at g1 k1 ⊢
  refine fun dd hdd => ?_
  have g2 := same_new hdd (.dK [])
  have k2 : upd H1 dd (.dK []) dd = some (.dK []) := upd_same
  have hdd0 : H dd = none := g1.free hdd
  have nfd : f ≠ dd := ne_of_none k1 hdd
  generalize upd H1 dd (.dK []) = H2 at g2 k2 ⊢
  refine ⟨(by show 0 ≤ sizeLine; decide), fun lt hlt => ?_⟩
  have g3 := same_new hlt (.lst [])
  have k3 : upd H2 lt (.lst []) lt = some (.lst (([] : List Int).map V.int)) := upd_same
  have hlt0 : H lt = none := (g1.trans g2).free hlt
  have nfl : f ≠ lt := ne_of_none (g2 _ _ k1) hlt
  have ndl : dd ≠ lt := ne_of_none k2 hlt
  generalize upd H2 lt (.lst []) = H3 at g3 k3 ⊢
  have gH : Same H H3 := g1.trans (g2.trans g3)
  have zl : (ns.map V.int).length = ns.length := List.length_map _
  refine ⟨_, rfl, a, _, rfl, gH.seq hS, for_enum (xs := ns.map V.int) (fun i σ H' => ∃ (kvs : List (Key × V)) (ls : List Int) (fs : List V) (o4 o5 o6 : Option V), σ = [some (.ref a), some (.ref f), some (.ref dd), some (.ref lt), o4, o5, o6] ∧ Same H H' ∧ H' f = some (.lst fs) ∧ H' dd = some (.dK kvs) ∧ H' lt = some (.lst (ls.map V.int)) ∧ fs.length ≤ i ∧ kvs.length ≤ i ∧ ls.length ≤ i ∧ IntVals kvs ∧ (i = 0 → kvs = []) ∧ (0 < i → 0 < ls.length)) ⟨[], [], [], _, _, _, rfl, gH, g3 _ _ (g2 _ _ k1), g3 _ _ k2, k3, Nat.zero_le _, Nat.zero_le _, Nat.zero_le _, fun _ _ e => (by cases e), fun _ => rfl, fun z => absurd z (Nat.lt_irrefl 0)⟩ (fun i σ H' _ z => ?_) (fun i x σ H' p hxv z hp => ?_) (fun σ H' z => ?_)⟩
  · obtain ⟨kvs, ls, fs, o4, o5, o6, rfl, gs, _⟩ := z
    exact gs.seq hS
  · obtain ⟨kvs, ls, fs, o4, o5, o6, rfl, gs, kf, kd, kl, hfl, hkl, hll, hiv, h00, h0l⟩ := z
    obtain ⟨x, hx, rfl⟩ := get_ints hxv
    have hi : i < ns.length := (List.getElem?_eq_some_iff.mp hx).1
    have gp := same_new hp (.tup [.int (i : Int), .int x])
    have kp : upd H' p (.tup [.int (i : Int), .int x]) p = some (.tup [.int (i : Int), .int x]) := upd_same
    have g4 := gs.trans gp
    have kf4 := gp _ _ kf
    have kd4 := gp _ _ kd
    have kl4 := gp _ _ kl
    generalize upd H' p (.tup [.int (i : Int), .int x]) = H4 at gp kp g4 kf4 kd4 kl4 ⊢
    refine ⟨p, _, rfl, SqT.of kp, rfl, _, _, rfl, _, _, rfl, rfl, ?_⟩
    refine ⟨_, rfl, _, rfl, dd, _, rfl, DGet.k (k := .inl x) kd4, _, rfl, ?_⟩
    cases hv : valV kvs (.inl x) with
    | some v =>
      obtain ⟨j, rfl⟩ := hiv _ _ hv
      have hi0 : 0 < i := by
        rcases Nat.eq_zero_or_pos i with z | z
        · rw [h00 z] at hv; cases hv
        · exact z
      have hlp := h0l hi0
      refine iteP rfl ?_
      refine ⟨_, rfl, _, rfl, _, rfl, dd, .int j, rfl, hv ▸ DGet.k (k := .inl x) kd4, lt, ls, j, rfl, SqL.of kl4, hlp, by omega, fun pp hpp => ?_⟩
      refine ⟨_, rfl, .inl ⟨rfl, _, SqL.of kf4⟩, _, rfl, lt, _, rfl, .inl (SqL.of kl4), _, rfl, _, _, rfl, rfl, f, _, _, rfl, rfl, kf4, small1000 (by omega), ?_⟩
      have kl5 : upd H4 f (.lst (fs ++ [V.int ((((ls.map V.int).length : Nat) : Int) - (pp : Int))])) lt = _ := (upd_ne (Ne.symm nfl)).trans kl4
      have kd5 : upd H4 f (.lst (fs ++ [V.int ((((ls.map V.int).length : Nat) : Int) - (pp : Int))])) dd = _ := (upd_ne (Ne.symm nfd)).trans kd4
      have kf5 : upd H4 f (.lst (fs ++ [V.int ((((ls.map V.int).length : Nat) : Int) - (pp : Int))])) f = some (.lst (fs ++ [V.int ((((ls.map V.int).length : Nat) : Int) - (pp : Int))])) := upd_same
      have g5 : Same H (upd H4 f (.lst (fs ++ [V.int ((((ls.map V.int).length : Nat) : Int) - (pp : Int))]))) := same_upd g4 hf0
      generalize upd H4 f (.lst (fs ++ [V.int ((((ls.map V.int).length : Nat) : Int) - (pp : Int))])) = H5 at kf5 kl5 kd5 g5 ⊢
      refine ⟨_, rfl, _, rfl, lt, _, pp, rfl, rfl, kl5, (by rw [List.length_map]; exact hpp), ?_⟩
      rw [map_erase]
      have kf6 : upd H5 lt (.lst ((ls.eraseIdx pp).map V.int)) f = _ := (upd_ne nfl).trans kf5
      have kl6 : upd H5 lt (.lst ((ls.eraseIdx pp).map V.int)) lt = some (.lst ((ls.eraseIdx pp).map V.int)) := upd_same
      have kd6 : upd H5 lt (.lst ((ls.eraseIdx pp).map V.int)) dd = _ := (upd_ne ndl).trans kd5
      have g6 : Same H (upd H5 lt (.lst ((ls.eraseIdx pp).map V.int))) := same_upd g5 hlt0
      generalize upd H5 lt (.lst ((ls.eraseIdx pp).map V.int)) = H6 at kf6 kl6 kd6 g6 ⊢
      have hel : (ls.eraseIdx pp).length ≤ ls.length := List.length_eraseIdx_le _ _
      refine ⟨_, rfl, _, rfl, _, rfl, dd, _, rfl, DPut.k (k := .inl x) kd6 (Nat.lt_of_le_of_lt hkl (small1000 (by omega))), ?_⟩
      have kf7 : upd H6 dd (.dK (putK kvs (.inl x) (.int (i : Int)))) f = _ := (upd_ne nfd).trans kf6
      have kl7 : upd H6 dd (.dK (putK kvs (.inl x) (.int (i : Int)))) lt = _ := (upd_ne (Ne.symm ndl)).trans kl6
      have kd7 : upd H6 dd (.dK (putK kvs (.inl x) (.int (i : Int)))) dd = some (.dK (putK kvs (.inl x) (.int (i : Int)))) := upd_same
      have g7 : Same H (upd H6 dd (.dK (putK kvs (.inl x) (.int (i : Int))))) := same_upd g6 hdd0
      generalize upd H6 dd (.dK (putK kvs (.inl x) (.int (i : Int)))) = H7 at kf7 kl7 kd7 g7 ⊢
      refine ⟨_, rfl, .inl ⟨rfl, _, SqL.of kl7⟩, _, rfl, lt, _, _, rfl, rfl, kl7, (by rw [List.length_map]; exact small1000 (by omega)), ?_⟩
      have hpl := length_putK kvs (.inl x) (.int (i : Int))
      exact ⟨_, ls.eraseIdx pp ++ [(i : Int)], _, _, _, _, rfl, same_upd g7 hlt0, (upd_ne nfl).trans kf7, (upd_ne ndl).trans kd7, (by rw [upd_same, List.map_append]; rfl), (by rw [List.length_append, List.length_singleton]; omega), (by omega), (by rw [List.length_append, List.length_singleton]; omega), hiv.put _ _, fun z => by omega, fun _ => by rw [List.length_append, List.length_singleton]; omega⟩
    | none =>
      refine iteN (by decide) ?_
      refine ⟨_, rfl, .inl ⟨rfl, _, SqL.of kf4⟩, f, _, _, rfl, rfl, kf4, small1000 (by omega), ?_⟩
      have kf6 : upd H4 f (.lst (fs ++ [.non])) f = some (.lst (fs ++ [.non])) := upd_same
      have kl6 : upd H4 f (.lst (fs ++ [.non])) lt = _ := (upd_ne (Ne.symm nfl)).trans kl4
      have kd6 : upd H4 f (.lst (fs ++ [.non])) dd = _ := (upd_ne (Ne.symm nfd)).trans kd4
      have g6 : Same H (upd H4 f (.lst (fs ++ [.non]))) := same_upd g4 hf0
      generalize upd H4 f (.lst (fs ++ [.non])) = H6 at kf6 kl6 kd6 g6 ⊢
      refine ⟨_, rfl, _, rfl, _, rfl, dd, _, rfl, DPut.k (k := .inl x) kd6 (Nat.lt_of_le_of_lt hkl (small1000 (by omega))), ?_⟩
      have kf7 : upd H6 dd (.dK (putK kvs (.inl x) (.int (i : Int)))) f = _ := (upd_ne nfd).trans kf6
      have kl7 : upd H6 dd (.dK (putK kvs (.inl x) (.int (i : Int)))) lt = _ := (upd_ne (Ne.symm ndl)).trans kl6
      have kd7 : upd H6 dd (.dK (putK kvs (.inl x) (.int (i : Int)))) dd = some (.dK (putK kvs (.inl x) (.int (i : Int)))) := upd_same
      have g7 : Same H (upd H6 dd (.dK (putK kvs (.inl x) (.int (i : Int))))) := same_upd g6 hdd0
      generalize upd H6 dd (.dK (putK kvs (.inl x) (.int (i : Int)))) = H7 at kf7 kl7 kd7 g7 ⊢
      refine ⟨_, rfl, .inl ⟨rfl, _, SqL.of kl7⟩, _, rfl, lt, _, _, rfl, rfl, kl7, (by rw [List.length_map]; exact small1000 (by omega)), ?_⟩
      have hpl := length_putK kvs (.inl x) (.int (i : Int))
      exact ⟨_, ls ++ [(i : Int)], _, _, _, _, rfl, same_upd g7 hlt0, (upd_ne nfl).trans kf7, (upd_ne ndl).trans kd7, (by rw [upd_same, List.map_append]; rfl), (by rw [List.length_append, List.length_singleton]; omega), (by omega), (by rw [List.length_append, List.length_singleton]; omega), hiv.put _ _, fun z => by omega, fun _ => by rw [List.length_append, List.length_singleton]; omega⟩
  · obtain ⟨kvs, ls, fs, o4, o5, o6, rfl, gs, kf, _⟩ := z
    exact ⟨_, rfl, q f H' gs⟩
end
end K52

namespace K52
open PySem L2 PyProof.Rows
abbrev s_lines_of : Stmt := top 24
theorem sc_lines_of : FnScope ["places", "wide", "lines", "place", "cells"] ["places", "wide"] (defScope s_lines_of) := ⟨rfl, rfl, rfl, by decide +kernel, rfl, by decide +kernel, by decide +kernel⟩
section
variable {P : Program} {w : World} {K : PySem.W.Frag} {mg : Str → Option Value} {base : Heap}
theorem ok_lines_of {k : Nat} {f : Addr} {fd : FuncData} (F : Fun K "lines_of" "lines_of" s_lines_of f fd) (M : Blt mg) {t1 t2 t3 t4 t5 : Tok} {ts : Addr} (C : Cst K mg t1 t2 t3 t4 t5 ts) {C_Kept f_Kept_init : Addr} (T_Kept : TCls K mg "Kept" C_Kept f_Kept_init ["bound", "held"]) {C_RoomError f_RoomError_init : Addr} (T_RoomError : TXB K mg C_RoomError f_RoomError_init) (VI : VInit K) {C_NoKeep f_NoKeep_init : Addr} (T_NoKeep : TX K mg "NoKeep" C_NoKeep C_RoomError f_NoKeep_init ["found"]) {C_NoLine f_NoLine_init : Addr} (T_NoLine : TX K mg "NoLine" C_NoLine C_RoomError f_NoLine_init ["found"]) {C_NoPlace f_NoPlace_init : Addr} (T_NoPlace : TX K mg "NoPlace" C_NoPlace C_RoomError f_NoPlace_init ["found"]) {f_is_between : Addr} {fd_is_between : FuncData} (D_is_between : Df K mg "is_between" f_is_between fd_is_between ["thing", "low", "high"]) (G_is_between : FnOk P w K mg base CX0 k f_is_between fd_is_between ["thing", "low", "high"] (spBtwG K)) {f_cells_in : Addr} {fd_cells_in : FuncData} (D_cells_in : Df K mg "cells_in" f_cells_in fd_cells_in ["place"]) (G_cells_in : FnOk P w K mg base (CXE P w) k f_cells_in fd_cells_in ["place"] (spCellsG K C_NoPlace)) {fd_NoLine_init : FuncData} (D_NoLine_init : DfI K fd_NoLine_init ["self", "found"]) (G_NoLine_init : FnOk P w K mg base (CXE P w) k f_NoLine_init fd_NoLine_init ["self", "found"] (spNP C_NoLine)) : FnOk P w K mg base (CXE P w) (k + 2) f fd ["places", "wide"] (spLo K C_NoLine C_NoPlace) := by
  refine F.okE sc_lines_of (fun vs H Q E h => ?_) (fun cdv A outer s0 H vs Q E hr0 h => ?_)
  · obtain ⟨la, m, rfl, _⟩ := h; rfl
  obtain ⟨la, m, rfl, h⟩ := h
  have hr := hr0.mono (Nat.le_succ _)
  refine ⟨_, (pss_cons (ps_if (pt_not (pt_val (pe_call G_is_between hr rfl D_is_between.m D_is_between.k D_is_between.b .nil pass0 (pa_cons (pv 1) (pa_cons pe_int (pa_cons (pe_glob (v := .int 64) rfl C.MOST_LINE_CELLS ⟨_, rfl⟩) pa_nil)))))) (pss_one (ps_raise T_NoLine.c G_NoLine_init hr0 rfl T_NoLine.m D_NoLine_init.b .nil raisesE (pa_cons (pv 1) pa_nil))) pss_nil)
      (pss_cons (ps_set (i := 2) sc_lines_of.nd rfl (by first | exact Or.inl rfl | exact Or.inr rfl) (pe_lst pa_nil))
      (pss_cons (ps_for ownE rfl (pi_list (pv 0)) (pg_name (i := 3) sc_lines_of.nd rfl (Or.inl rfl)) (pss_cons (ps_set (i := 4) sc_lines_of.nd rfl (by first | exact Or.inl rfl | exact Or.inr rfl) (pe_call G_cells_in hr rfl D_cells_in.m D_cells_in.k D_cells_in.b .nil (passE fun _ _ _ z => z) (pa_cons (pv 3) pa_nil)))
      (pss_one (ps_expr (pe_bm PySem.F.plainAttrs_list PySem.F.slot_list_extend PySem.F.type_list_extend mt_extend (pv 2) (pa_cons (pe_callTy (call_list_rng rfl) rfl M.list boot_list (pa_cons (pe_callTy call_range2 rfl M.range boot_range (pa_cons (pe_op op_fdiv (pe_ix ix_list (pv 4) pe_int (fun _ _ => rfl)) (pv 1)) (pa_cons (pe_op op_add (pe_op op_fdiv (pe_ix ix_list (pv 4) (pe_un un_neg pe_int) (fun _ _ => rfl)) (pv 1)) pe_int) pa_nil))) pa_nil)) pa_nil))))))
      (pss_one (ps_ret (pv 2)))))), ?_⟩
  rcases h with ⟨⟨ys, hS⟩, hb, qx⟩ | ⟨B, ps, x, d, rest, rfl, hB1, hB2, hS, hG, hx, hn, qx⟩
  · rcases hb with ⟨n, rfl, hn⟩ | hx
    · exact ⟨_, rfl, .inl ⟨n, 1, 64, rfl, _, rfl, iteP (by rw [decide_eq_false hn]; rfl) ⟨True.intro, _, rfl, (by show 1 ≤ 1000; decide), fun e he => ⟨e, .int n, rfl, upd_same, fun dx hd => ⟨rfl, e, some dx, rfl, upd_same, qx.fin (Same.refl _) e he dx hd⟩⟩⟩⟩⟩
    · exact ⟨_, rfl, .inr ⟨m, 1, 64, rfl, hx, _, rfl, iteP rfl ⟨True.intro, _, rfl, (by show 1 ≤ 1000; decide), fun e he => ⟨e, m, rfl, upd_same, fun dx hd => ⟨rfl, e, some dx, rfl, upd_same, qx.fin (Same.refl _) e he dx hd⟩⟩⟩⟩⟩
  · refine ⟨_, rfl, .inl ⟨B, 1, 64, rfl, _, rfl, iteN (by rw [decide_eq_true ⟨by omega, by omega⟩]; decide) ?_⟩⟩
    refine ⟨(by show 0 ≤ sizeLine; decide), fun r hr0 => ?_⟩
    have g0 := same_new hr0 (.lst [])
    have k0 : upd H r (.lst []) r = some (.lst []) := upd_same
    generalize upd H r (.lst []) = H0 at g0 k0 ⊢
    refine ⟨_, rfl, la, rfl, ⟨_, g0.seq hS⟩, for_list (xs := ps.map V.ref ++ x :: rest) (fun i σ H' => ∃ (zs : List V) (o3 o4 : Option V), σ = [some (.ref la), some (.int B), some (.ref r), o3, o4] ∧ Same H H' ∧ H' r = some (.lst zs) ∧ zs.length ≤ 65 * i ∧ i ≤ ps.length) ⟨[], _, _, rfl, g0, k0, Nat.zero_le _, Nat.zero_le _⟩ (fun i σ H' _ z => ?_) (fun i y σ H' hy z => ?_) (fun σ H' z => ?_)⟩
    · obtain ⟨zs, o3, o4, rfl, g, _⟩ := z; exact g.seq hS
    · obtain ⟨zs, o3, o4, rfl, g, k, hz, hi⟩ := z
      have h10 := hG.1
      by_cases hlt : i < ps.length
      · rw [List.getElem?_append_left (by rw [List.length_map]; exact hlt), List.getElem?_map, List.getElem?_eq_getElem hlt] at hy
        cases hy
        obtain ⟨c, s, b, hT, hO⟩ := hG.2 ps[i] (List.getElem_mem hlt)
        have n1 := nCells_pos b
        have n2 := nCells_le hO
        have atl : atI ((rangeL c (nCells b)).map V.int) (-1) = some (.int (c + nCells b - 1)) := by
          obtain ⟨n, hn⟩ : ∃ n, nCells b = n + 1 := ⟨nCells b - 1, by omega⟩
          rw [hn, rangeL_succ, List.map_append]
          have e : c + ((n + 1 : Nat) : Int) - 1 = c + (n : Int) := by omega
          rw [e]
          exact atI_last _ _
        have at0 : atI ((rangeL c (nCells b)).map V.int) 0 = some (.int c) := by
          obtain ⟨n, hn⟩ : ∃ n, nCells b = n + 1 := ⟨nCells b - 1, by omega⟩
          refine atI_nat (j := 0) ?_
          rw [hn]; simp [rangeL, List.range_succ_eq_map]
        have dd : DatF K H' (.ref ps[i]) (.tuple [.int c, .int s, .int b]) := .inl ⟨.tup (g.tp hT) (.cons (.int _) (.cons (.int _) (.cons (.int _) .nil))), rfl⟩
        refine ⟨_, rfl, _, _, rfl, dd, fun c' s' b' e ho r2 H2 g2 hr2 k2 => ?_, fun hng => absurd ⟨c, s, b, rfl, hO⟩ hng⟩
        cases e
        have kr2 := g2 _ _ k
        have dv := div_near (c := c) (m := (nCells b : Int) - 1) (w := B) (by omega) (by omega)
        refine ⟨_, rfl, .inl ⟨rfl, _, SqL.of kr2⟩, _, rfl, r2, _, _, _, rfl, rfl, SqL.of k2, at0, _, rfl, _, _, rfl, rfl, ⟨by omega, by omega⟩, _, rfl, _, rfl, r2, _, _, _, rfl, rfl, SqL.of k2, atl, _, rfl, _, _, rfl, rfl, ⟨by omega, by omega⟩, _, _, rfl, rfl, _, _, rfl, ?_⟩
        rw [show c + (nCells b : Int) - 1 = c + ((nCells b : Int) - 1) by omega]
        generalize c / (B : Int) = q0 at dv ⊢
        generalize (c + ((nCells b : Int) - 1)) / (B : Int) = q1 at dv ⊢
        o_unpack p
        refine ⟨p, q0, q1 + 1, rfl, (by walk_at "hp"), by omega, ?_⟩
        o_unpack l
        have hz2 : (rangeL q0 (q1 + 1 - q0).toNat).length ≤ 65 := by rw [rangeL_length]; omega
        refine ⟨r, l, zs, _, rfl, rfl, (by walk_at "hp"), (by walk_at "hp"), (by rw [List.length_map]; exact small (by omega)), ?_⟩
        exact ⟨_, _, _, rfl, same_upd (by walk_at "hp") hr0, upd_same, (by rw [List.length_append, List.length_map]; omega), hlt⟩
      · have e : i = ps.length := by omega
        subst e
        rw [List.getElem?_append_right (by rw [List.length_map]; exact Nat.le_refl _), List.length_map, Nat.sub_self] at hy
        cases hy
        exact ⟨_, rfl, _, d, rfl, hx.same g, fun c s b e ho => absurd ⟨c, s, b, e, ho⟩ hn, fun _ => qx.same g⟩
    · obtain ⟨zs, o3, o4, rfl, g, k, hz, hi⟩ := z
      rw [List.length_append, List.length_map, List.length_cons] at hi
      omega
end
end K52

namespace K52
open PySem L2 PyProof.Rows
abbrev s_law_asked : Stmt := top 40
theorem sc_law_asked : FnScope ["_law_which", "_law_lines", "_law_most"] ["_law_which", "_law_lines", "_law_most"] (defScope s_law_asked) := ⟨rfl, rfl, rfl, by decide +kernel, rfl, by decide +kernel, by decide +kernel⟩
section
variable {P : Program} {w : World} {K : PySem.W.Frag} {mg : Str → Option Value} {base : Heap}
theorem ok_law_asked {k : Nat} {f : Addr} {fd : FuncData} (F : Fun K "_law_asked" "_law_asked" s_law_asked f fd) (M : Blt mg) {t1 t2 t3 t4 t5 : Tok} {ts : Addr} (C : Cst K mg t1 t2 t3 t4 t5 ts) {C_Kept f_Kept_init : Addr} (T_Kept : TCls K mg "Kept" C_Kept f_Kept_init ["bound", "held"]) {C_RoomError f_RoomError_init : Addr} (T_RoomError : TXB K mg C_RoomError f_RoomError_init) (VI : VInit K) {C_NoKeep f_NoKeep_init : Addr} (T_NoKeep : TX K mg "NoKeep" C_NoKeep C_RoomError f_NoKeep_init ["found"]) {C_NoLine f_NoLine_init : Addr} (T_NoLine : TX K mg "NoLine" C_NoLine C_RoomError f_NoLine_init ["found"]) {C_NoPlace f_NoPlace_init : Addr} (T_NoPlace : TX K mg "NoPlace" C_NoPlace C_RoomError f_NoPlace_init ["found"]) {f_fetches : Addr} {fd_fetches : FuncData} (D_fetches : Df K mg "fetches" f_fetches fd_fetches ["lines", "most"]) (G_fetches : FnOk P w K mg base (CXE P w) k f_fetches fd_fetches ["lines", "most"] (spFe K C_NoLine C_NoKeep)) {f_how_many : Addr} {fd_how_many : FuncData} (D_how_many : Df K mg "how_many" f_how_many fd_how_many ["lines", "most"]) (G_how_many : FnOk P w K mg base (CXE P w) k f_how_many fd_how_many ["lines", "most"] (spFe K C_NoLine C_NoKeep)) {f_counts : Addr} {fd_counts : FuncData} (D_counts : Df K mg "counts" f_counts fd_counts ["lines", "most"]) (G_counts : FnOk P w K mg base (CXE P w) k f_counts fd_counts ["lines", "most"] (spFe K C_NoLine C_NoKeep)) {f_is_fetches : Addr} {fd_is_fetches : FuncData} (D_is_fetches : Df K mg "is_fetches" f_is_fetches fd_is_fetches ["lines", "most", "thing"]) (G_is_fetches : FnOk P w K mg base (CXE P w) k f_is_fetches fd_is_fetches ["lines", "most", "thing"] (spFe3 K C_NoLine C_NoKeep)) {f_lines_of : Addr} {fd_lines_of : FuncData} (D_lines_of : Df K mg "lines_of" f_lines_of fd_lines_of ["places", "wide"]) (G_lines_of : FnOk P w K mg base (CXE P w) k f_lines_of fd_lines_of ["places", "wide"] (spLo K C_NoLine C_NoPlace)) {f_distances : Addr} {fd_distances : FuncData} (D_distances : Df K mg "distances" f_distances fd_distances ["lines"]) (G_distances : FnOk P w K mg base (CXE P w) k f_distances fd_distances ["lines"] (spDiG K C_NoLine)) {fd_Kept_init : FuncData} (D_Kept_init : DfI K fd_Kept_init ["self", "most"]) (G_Kept_init : FnOk P w K mg base (CXE P w) k f_Kept_init fd_Kept_init ["self", "most"] (spKIB K C_NoKeep)) : FnOk P w K mg base (CXE P w) (k + 2) f fd ["_law_which", "_law_lines", "_law_most"] (spAsk K C_NoLine C_NoKeep C_NoPlace) := by
  refine F.okE sc_law_asked (fun vs H Q E h => ?_) (fun cdv A outer s0 H vs Q E hr0 h => ?_)
  · obtain ⟨w', la, m, CE, x, rfl, _⟩ := h; rfl
  obtain ⟨w', la, m, CE, x, rfl, ha, qx⟩ := h
  have hr := hr0.mono (Nat.le_succ _)
  refine ⟨_, (pss_cons (ps_if (pt_cmpR op_eq (pv 0) pe_int (nomark _)) (pss_one (ps_ret (pe_call G_fetches hr rfl D_fetches.m D_fetches.k D_fetches.b .nil (passE fun _ _ _ z => z) (pa_cons (pv 1) (pa_cons (pv 2) pa_nil))))) pss_nil)
      (pss_cons (ps_if (pt_cmpR op_eq (pv 0) pe_int (nomark _)) (pss_one (ps_ret (pe_call G_how_many hr rfl D_how_many.m D_how_many.k D_how_many.b .nil (passE fun _ _ _ z => z) (pa_cons (pv 1) (pa_cons (pv 2) pa_nil))))) pss_nil)
      (pss_cons (ps_if (pt_cmpR op_eq (pv 0) pe_int (nomark _)) (pss_one (ps_ret (pe_call G_counts hr rfl D_counts.m D_counts.k D_counts.b .nil (passE fun _ _ _ z => z) (pa_cons (pv 1) (pa_cons (pv 2) pa_nil))))) pss_nil)
      (pss_cons (ps_if (pt_cmpR op_eq (pv 0) pe_int (nomark _)) (pss_one (ps_ret (pe_call G_is_fetches hr rfl D_is_fetches.m D_is_fetches.k D_is_fetches.b .nil (passE fun _ _ _ z => z) (pa_cons (pv 1) (pa_cons (pv 2) (pa_cons pe_non pa_nil)))))) pss_nil)
      (pss_cons (ps_if (pt_cmpR op_eq (pv 0) pe_int (nomark _)) (pss_one (ps_ret (pe_call G_lines_of hr rfl D_lines_of.m D_lines_of.k D_lines_of.b .nil (passE fun _ _ _ z => z) (pa_cons (pv 1) (pa_cons (pv 2) pa_nil))))) pss_nil)
      (pss_cons (ps_if (pt_cmpR op_eq (pv 0) pe_int (nomark _)) (pss_one (ps_ret (pe_call G_distances hr rfl D_distances.m D_distances.k D_distances.b .nil (passE fun _ _ _ z => z) (pa_cons (pv 1) pa_nil)))) pss_nil)
      (pss_one (ps_ret (pe_make T_Kept.ma G_Kept_init hr0 rfl T_Kept.m D_Kept_init.b .nil (passE fun _ _ _ z => z) (pa_cons (pv 2) pa_nil)))))))))), ?_⟩
  have fe : w' ≤ 3 → FeP K C_NoLine C_NoKeep H E la m := fun hw => by
    cases ha with
    | line ns rest hw' hp hl hS hb => exact ⟨ns, hp, hl, .inr ⟨x, rest, hS, hb, qx⟩⟩
    | keep ns hw' hp hl hS hb => exact ⟨ns, hp, hl, .inl ⟨hS, hb, qx⟩⟩
    | kept _ => omega
    | wide _ _ _ => omega
    | place _ _ _ _ _ _ _ _ _ _ => omega
  obtain rfl | rfl | rfl | rfl | rfl | rfl | rfl : w' = 0 ∨ w' = 1 ∨ w' = 2 ∨ w' = 3 ∨ w' = 4 ∨ w' = 5 ∨ w' = 6 := by
    cases ha with
    | line ns rest hw' _ _ _ _ => simp only [List.mem_cons, List.not_mem_nil, or_false] at hw'; omega
    | keep ns hw' _ _ _ _ => simp only [List.mem_cons, List.not_mem_nil, or_false] at hw'; omega
    | kept _ => omega
    | wide _ _ _ => omega
    | place _ _ _ _ _ _ _ _ _ _ => omega
  · exact ⟨_, rfl, rfl, _, rfl, iteP rfl ⟨_, rfl, _, rfl, la, m, rfl, fe (by omega)⟩⟩
  · exact ⟨_, rfl, rfl, _, rfl, iteN (by decide) ⟨_, rfl, rfl, _, rfl, iteP rfl ⟨_, rfl, _, rfl, la, m, rfl, fe (by omega)⟩⟩⟩
  · exact ⟨_, rfl, rfl, _, rfl, iteN (by decide) ⟨_, rfl, rfl, _, rfl, iteN (by decide) ⟨_, rfl, rfl, _, rfl, iteP rfl ⟨_, rfl, _, rfl, la, m, rfl, fe (by omega)⟩⟩⟩⟩
  · exact ⟨_, rfl, rfl, _, rfl, iteN (by decide) ⟨_, rfl, rfl, _, rfl, iteN (by decide) ⟨_, rfl, rfl, _, rfl, iteN (by decide) ⟨_, rfl, rfl, _, rfl, iteP rfl ⟨_, rfl, _, rfl, la, m, _, rfl, fe (by omega)⟩⟩⟩⟩⟩
  · refine ⟨_, rfl, rfl, _, rfl, iteN (by decide) ⟨_, rfl, rfl, _, rfl, iteN (by decide) ⟨_, rfl, rfl, _, rfl, iteN (by decide) ⟨_, rfl, rfl, _, rfl, iteN (by decide) ⟨_, rfl, rfl, _, rfl, iteP rfl ⟨_, rfl, _, rfl, la, m, rfl, ?_⟩⟩⟩⟩⟩⟩
    cases ha with
    | line ns rest hw' _ _ _ _ => exact absurd hw' (by decide)
    | keep ns hw' _ _ _ _ => exact absurd hw' (by decide)
    | wide ys hS hb => exact .inl ⟨⟨ys, hS⟩, hb, qx⟩
    | place B ps d rest h1 h2 hS hG hx hn => exact .inr ⟨B, ps, x, d, rest, rfl, h1, h2, hS, hG, hx, hn, qx⟩
  · cases ha with
    | line ns rest hw' hp hl hS hb => exact ⟨_, rfl, rfl, _, rfl, iteN (by decide) ⟨_, rfl, rfl, _, rfl, iteN (by decide) ⟨_, rfl, rfl, _, rfl, iteN (by decide) ⟨_, rfl, rfl, _, rfl, iteN (by decide) ⟨_, rfl, rfl, _, rfl, iteN (by decide) ⟨_, rfl, rfl, _, rfl, iteP rfl ⟨_, rfl, la, ns, rfl, hp, hl, .inr ⟨x, rest, hS, hb, qx⟩⟩⟩⟩⟩⟩⟩⟩
    | keep ns hw' _ _ _ _ => exact absurd hw' (by decide)
  · cases ha with
    | line ns rest hw' _ _ _ _ => exact absurd hw' (by decide)
    | keep ns hw' _ _ _ _ => exact absurd hw' (by decide)
    | kept hb => exact ⟨_, rfl, rfl, _, rfl, iteN (by decide) ⟨_, rfl, rfl, _, rfl, iteN (by decide) ⟨_, rfl, rfl, _, rfl, iteN (by decide) ⟨_, rfl, rfl, _, rfl, iteN (by decide) ⟨_, rfl, rfl, _, rfl, iteN (by decide) ⟨_, rfl, rfl, _, rfl, iteN (by decide) ⟨_, rfl, fun o dx ho hd ne => ⟨o, _, rfl, hb.same (made_same ho hd), qx.same (made_same ho hd)⟩⟩⟩⟩⟩⟩⟩⟩
end
end K52

namespace K52
open PySem L2 PyProof.Rows
abbrev s_law_refused : Stmt := top 41
theorem sc_law_refused : FnScope ["_law_which", "_law_lines", "_law_most", "_law_word", "_law_thing", "_law_found", "e"] ["_law_which", "_law_lines", "_law_most", "_law_word", "_law_thing"] (defScope s_law_refused) := ⟨rfl, rfl, rfl, by decide +kernel, rfl, by decide +kernel, by decide +kernel⟩
section
variable {P : Program} {w : World} {K : PySem.W.Frag} {mg : Str → Option Value} {base : Heap}
theorem ok_law_refused {k : Nat} {f : Addr} {fd : FuncData} (F : Fun K "_law_refused" "_law_refused" s_law_refused f fd) (M : Blt mg) {t1 t2 t3 t4 t5 : Tok} {ts : Addr} (C : Cst K mg t1 t2 t3 t4 t5 ts) {C_Kept f_Kept_init : Addr} (T_Kept : TCls K mg "Kept" C_Kept f_Kept_init ["bound", "held"]) {C_RoomError f_RoomError_init : Addr} (T_RoomError : TXB K mg C_RoomError f_RoomError_init) (VI : VInit K) {C_NoKeep f_NoKeep_init : Addr} (T_NoKeep : TX K mg "NoKeep" C_NoKeep C_RoomError f_NoKeep_init ["found"]) {C_NoLine f_NoLine_init : Addr} (T_NoLine : TX K mg "NoLine" C_NoLine C_RoomError f_NoLine_init ["found"]) {C_NoPlace f_NoPlace_init : Addr} (T_NoPlace : TX K mg "NoPlace" C_NoPlace C_RoomError f_NoPlace_init ["found"]) (XN : XN6 K C_NoLine C_NoKeep C_NoPlace) {f_law_asked : Addr} {fd_law_asked : FuncData} (D_law_asked : Df K mg "_law_asked" f_law_asked fd_law_asked ["_law_which", "_law_lines", "_law_most"]) (G_law_asked : FnOk P w K mg base (CXE P w) k f_law_asked fd_law_asked ["_law_which", "_law_lines", "_law_most"] (spAsk K C_NoLine C_NoKeep C_NoPlace)) : FnOk P w K mg base CX0 (k + 2) f fd ["_law_which", "_law_lines", "_law_most", "_law_word", "_law_thing"] (spRf K C_NoLine C_NoKeep C_NoPlace) := by
  refine F.ok sc_law_refused (fun vs H Q E h => ?_) (fun cdv A outer s0 H vs Q E hr0 h => ?_)
  · obtain ⟨w', la, m, word, CE, x, d, rfl, _⟩ := h; rfl
  obtain ⟨w', la, m, word, CE, x, d, rfl, ha, th, hw, q⟩ := h
  have hr := hr0.mono (Nat.le_succ _)
  refine ⟨_, (pss_cons (ps_set (i := 5) sc_law_refused.nd rfl (by first | exact Or.inl rfl | exact Or.inr rfl) pe_str)
      (pss_cons (ps_try (i := 6) rfl rfl rfl rfl T_RoomError.m T_RoomError.x sc_law_refused.nd rfl rfl (fun _ _ _ => (pss_one (ps_expr (pe_callS G_law_asked hr rfl D_law_asked.m D_law_asked.k D_law_asked.b .nil passT (pa_cons (pv 0) (pa_cons (pv 1) (pa_cons (pv 2) pa_nil))))))) (fun _ => (pss_cons (ps_if (pt_val (pe_callB (call_isE (K := K) rfl) rfl M.isinstance boot_isinstance (pa_cons (pv 6) (pa_cons (pe_glob (v := .ref C_NoLine) rfl T_NoLine.m rfl) pa_nil)))) (pss_one (ps_set (i := 5) sc_law_refused.nd rfl (by first | exact Or.inl rfl | exact Or.inr rfl) (pe_op op_add_str (pv 5) pe_str))) pss_nil)
      (pss_cons (ps_if (pt_val (pe_callB (call_isE (K := K) rfl) rfl M.isinstance boot_isinstance (pa_cons (pv 6) (pa_cons (pe_glob (v := .ref C_NoKeep) rfl T_NoKeep.m rfl) pa_nil)))) (pss_one (ps_set (i := 5) sc_law_refused.nd rfl (by first | exact Or.inl rfl | exact Or.inr rfl) (pe_op op_add_str (pv 5) pe_str))) pss_nil)
      (pss_cons (ps_if (pt_val (pe_callB (call_isE (K := K) rfl) rfl M.isinstance boot_isinstance (pa_cons (pv 6) (pa_cons (pe_glob (v := .ref C_NoPlace) rfl T_NoPlace.m rfl) pa_nil)))) (pss_one (ps_set (i := 5) sc_law_refused.nd rfl (by first | exact Or.inl rfl | exact Or.inr rfl) (pe_op op_add_str (pv 5) pe_str))) pss_nil)
      (pss_one (ps_if (pt_val (pe_callB (call_isTup (K := K) rfl) rfl M.isinstance boot_isinstance (pa_cons (pv 6) (pa_cons (pe_tup (pa_cons (pe_glob (v := .ref C_NoLine) rfl T_NoLine.m rfl) (pa_cons (pe_glob (v := .ref C_NoKeep) rfl T_NoKeep.m rfl) (pa_cons (pe_glob (v := .ref C_NoPlace) rfl T_NoPlace.m rfl) pa_nil)))) pa_nil)))) (pss_one (ps_ret (pe_and (pe_cmpR op_eq (pv 5) (pv 3) (nomark _)) (pe_and (pe_callB (call_isv (K := K) rfl tov_VE) rfl M.isinstance boot_isinstance (pa_cons (pv 6) (pa_cons (pe_bltn (v := .ty "ValueError") rfl M.ValueError (show bootBuiltins "ValueError" = some (.type "ValueError") from by decide +kernel) rfl) pa_nil))) (pe_one (pe_cmpR op_eq (pe_callB (call_reprF (K := K) rfl hr.gd hr.units) rfl M.repr (show bootBuiltins "repr" = some (.builtin "repr") from by decide +kernel) (pa_cons (pe_xfldK (K := K) rfl (pv 6) rfl) pa_nil)) (pe_callB (call_reprF (K := K) rfl hr.gd hr.units) rfl M.repr (show bootBuiltins "repr" = some (.builtin "repr") from by decide +kernel) (pa_cons (pv 4) pa_nil)) (nomark _))))))) pss_nil)))))))
      (pss_one (ps_ret pe_bl)))), ?_⟩
  refine ⟨fun σ => σ = [some (.int w'), some (.ref la), some m, some (.str word), some x, some (.str (Str.ofString "")), none], fun v _ H' => ∃ e, v = .ref e ∧ Same H H' ∧ H e = none ∧ NPx CE H' e x, ?_, fun σ' e H' hS hW => ?_⟩
  · exact ⟨_, rfl, _, rfl, _, rfl, rfl, w', la, m, CE, x, rfl, ha, fun e H1 g he hx => ⟨e, rfl, g, he, hx⟩⟩
  subst hS
  obtain ⟨e2, ee, g, he, dx', hE, hX⟩ := hW
  cases ee
  rcases hw with ⟨hce, hword⟩ | ⟨hce, hword⟩ | ⟨hce, hword⟩
  ·
    rw [hce] at hE
    have hEx : Exc K H' e C_NoLine _ := ⟨dx', _, _, .inl hE, hX, T_NoLine.c⟩
    refine ⟨C_NoLine, some dx', _, hE, T_NoLine.x, (by simp), ?_⟩
    refine ⟨_, rfl, e, C_NoLine, C_NoLine, _, true, rfl, hEx, .inl ⟨rfl, rfl⟩, _, rfl, iteP rfl ⟨_, rfl, _, _, rfl, rfl, (by decide), ?_⟩⟩
    refine ⟨_, rfl, e, C_NoLine, C_NoKeep, _, false, rfl, hEx, .inr ⟨XN.lk, rfl⟩, _, rfl, iteN Bool.false_ne_true ?_⟩
    refine ⟨_, rfl, e, C_NoLine, C_NoPlace, _, false, rfl, hEx, .inr ⟨XN.lp, rfl⟩, _, rfl, iteN Bool.false_ne_true ?_⟩
    refine ⟨_, rfl, (by show 3 ≤ sizeLine; decide), ?_⟩; o_unpack tp
    have hE2 := Same.at (by assumption) hE
    have hX2 := Same.at (by assumption) hX
    have th2 := Th.same (Th.same th g) (by assumption)
    have hEx2 := Exc.same hEx (by assumption)
    refine ⟨e, C_NoLine, tp, _, [C_NoLine, C_NoKeep, C_NoPlace], rfl, hEx2, (by assumption), ?_, _, rfl, iteP ?_ ?_⟩
    · intro D hD
      simp only [List.mem_cons, List.not_mem_nil, or_false] at hD
      rcases hD with rfl | rfl | rfl
      · exact .inl rfl
      · exact .inr XN.lk
      · exact .inr XN.lp
    · simp
    refine ⟨_, rfl, _, rfl, rfl, _, rfl, iteP (by rw [hword, app_line]; exact decide_eq_true rfl) ?_⟩
    refine ⟨_, rfl, e, C_NoLine, some dx', _, rfl, hE2, T_NoLine.x, (by simp [VB]), _, rfl, iteP rfl ?_⟩
    refine ⟨_, rfl, e, C_NoLine, C_RoomError, f_NoLine_init, dx', _, _, rfl, .inl hE2, hX2, T_NoLine.c, T_NoLine.n _ (List.mem_singleton.mpr rfl), rfl, x, d, rfl, th2.dat, th2.sh, th2.dp, th2.ln, _, rfl, x, d, rfl, th2.dat, th2.sh, th2.dp, th2.ln, rfl, ?_⟩
    rw [decide_eq_true rfl]
    exact q _ (by walk_at "hp")
  ·
    rw [hce] at hE
    have hEx : Exc K H' e C_NoKeep _ := ⟨dx', _, _, .inl hE, hX, T_NoKeep.c⟩
    refine ⟨C_NoKeep, some dx', _, hE, T_NoKeep.x, (by simp), ?_⟩
    refine ⟨_, rfl, e, C_NoKeep, C_NoLine, _, false, rfl, hEx, .inr ⟨XN.kl, rfl⟩, _, rfl, iteN Bool.false_ne_true ?_⟩
    refine ⟨_, rfl, e, C_NoKeep, C_NoKeep, _, true, rfl, hEx, .inl ⟨rfl, rfl⟩, _, rfl, iteP rfl ⟨_, rfl, _, _, rfl, rfl, (by decide), ?_⟩⟩
    refine ⟨_, rfl, e, C_NoKeep, C_NoPlace, _, false, rfl, hEx, .inr ⟨XN.kp, rfl⟩, _, rfl, iteN Bool.false_ne_true ?_⟩
    refine ⟨_, rfl, (by show 3 ≤ sizeLine; decide), ?_⟩; o_unpack tp
    have hE2 := Same.at (by assumption) hE
    have hX2 := Same.at (by assumption) hX
    have th2 := Th.same (Th.same th g) (by assumption)
    have hEx2 := Exc.same hEx (by assumption)
    refine ⟨e, C_NoKeep, tp, _, [C_NoLine, C_NoKeep, C_NoPlace], rfl, hEx2, (by assumption), ?_, _, rfl, iteP ?_ ?_⟩
    · intro D hD
      simp only [List.mem_cons, List.not_mem_nil, or_false] at hD
      rcases hD with rfl | rfl | rfl
      · exact .inr XN.kl
      · exact .inl rfl
      · exact .inr XN.kp
    · simp
    refine ⟨_, rfl, _, rfl, rfl, _, rfl, iteP (by rw [hword, app_keep]; exact decide_eq_true rfl) ?_⟩
    refine ⟨_, rfl, e, C_NoKeep, some dx', _, rfl, hE2, T_NoKeep.x, (by simp [VB]), _, rfl, iteP rfl ?_⟩
    refine ⟨_, rfl, e, C_NoKeep, C_RoomError, f_NoKeep_init, dx', _, _, rfl, .inl hE2, hX2, T_NoKeep.c, T_NoKeep.n _ (List.mem_singleton.mpr rfl), rfl, x, d, rfl, th2.dat, th2.sh, th2.dp, th2.ln, _, rfl, x, d, rfl, th2.dat, th2.sh, th2.dp, th2.ln, rfl, ?_⟩
    rw [decide_eq_true rfl]
    exact q _ (by walk_at "hp")
  ·
    rw [hce] at hE
    have hEx : Exc K H' e C_NoPlace _ := ⟨dx', _, _, .inl hE, hX, T_NoPlace.c⟩
    refine ⟨C_NoPlace, some dx', _, hE, T_NoPlace.x, (by simp), ?_⟩
    refine ⟨_, rfl, e, C_NoPlace, C_NoLine, _, false, rfl, hEx, .inr ⟨XN.pl, rfl⟩, _, rfl, iteN Bool.false_ne_true ?_⟩
    refine ⟨_, rfl, e, C_NoPlace, C_NoKeep, _, false, rfl, hEx, .inr ⟨XN.pk, rfl⟩, _, rfl, iteN Bool.false_ne_true ?_⟩
    refine ⟨_, rfl, e, C_NoPlace, C_NoPlace, _, true, rfl, hEx, .inl ⟨rfl, rfl⟩, _, rfl, iteP rfl ⟨_, rfl, _, _, rfl, rfl, (by decide), ?_⟩⟩
    refine ⟨_, rfl, (by show 3 ≤ sizeLine; decide), ?_⟩; o_unpack tp
    have hE2 := Same.at (by assumption) hE
    have hX2 := Same.at (by assumption) hX
    have th2 := Th.same (Th.same th g) (by assumption)
    have hEx2 := Exc.same hEx (by assumption)
    refine ⟨e, C_NoPlace, tp, _, [C_NoLine, C_NoKeep, C_NoPlace], rfl, hEx2, (by assumption), ?_, _, rfl, iteP ?_ ?_⟩
    · intro D hD
      simp only [List.mem_cons, List.not_mem_nil, or_false] at hD
      rcases hD with rfl | rfl | rfl
      · exact .inr XN.pl
      · exact .inr XN.pk
      · exact .inl rfl
    · simp
    refine ⟨_, rfl, _, rfl, rfl, _, rfl, iteP (by rw [hword, app_place]; exact decide_eq_true rfl) ?_⟩
    refine ⟨_, rfl, e, C_NoPlace, some dx', _, rfl, hE2, T_NoPlace.x, (by simp [VB]), _, rfl, iteP rfl ?_⟩
    refine ⟨_, rfl, e, C_NoPlace, C_RoomError, f_NoPlace_init, dx', _, _, rfl, .inl hE2, hX2, T_NoPlace.c, T_NoPlace.n _ (List.mem_singleton.mpr rfl), rfl, x, d, rfl, th2.dat, th2.sh, th2.dp, th2.ln, _, rfl, x, d, rfl, th2.dat, th2.sh, th2.dp, th2.ln, rfl, ?_⟩
    rw [decide_eq_true rfl]
    exact q _ (by walk_at "hp")

end
end K52

namespace K52
open PySem L2 PyProof.Rows
abbrev s_law_bad : Stmt := top 42
theorem sc_law_bad : FnScope ["_law_draws", "_law_line", "_law_bound", "_law_wide", "_law_place"] ["_law_draws"] (defScope s_law_bad) := ⟨rfl, rfl, rfl, by decide +kernel, rfl, by decide +kernel, by decide +kernel⟩
section
variable {P : Program} {w : World} {K : PySem.W.Frag} {mg : Str → Option Value} {base : Heap}
theorem ok_law_bad {k : Nat} {f : Addr} {fd : FuncData} (F : Fun K "_law_bad" "_law_bad" s_law_bad f fd) (M : Blt mg) {t1 t2 t3 t4 t5 : Tok} {ts : Addr} (C : Cst K mg t1 t2 t3 t4 t5 ts) {C_Kept f_Kept_init : Addr} (T_Kept : TCls K mg "Kept" C_Kept f_Kept_init ["bound", "held"]) {C_RoomError f_RoomError_init : Addr} (T_RoomError : TXB K mg C_RoomError f_RoomError_init) (VI : VInit K) {C_NoKeep f_NoKeep_init : Addr} (T_NoKeep : TX K mg "NoKeep" C_NoKeep C_RoomError f_NoKeep_init ["found"]) {C_NoLine f_NoLine_init : Addr} (T_NoLine : TX K mg "NoLine" C_NoLine C_RoomError f_NoLine_init ["found"]) {C_NoPlace f_NoPlace_init : Addr} (T_NoPlace : TX K mg "NoPlace" C_NoPlace C_RoomError f_NoPlace_init ["found"]) : FnOk P w K mg base CX0 (k + 2) f fd ["_law_draws"] (spBadD K) := by
  refine F.ok sc_law_bad (fun vs H Q E h => ?_) (fun cdv A outer s0 H vs Q E hr0 h => ?_)
  · obtain ⟨dr, ws, rfl, _⟩ := h; rfl
  obtain ⟨dr, ws, rfl, hS, hB, q⟩ := h
  have hr := hr0.mono (Nat.le_succ _)
  refine ⟨_, (PSx.h (psx_cons (pstx_menu (i := 1) sc_law_bad.nd rfl rfl (pex_menu (pax_cons (pex_of (pe_un un_neg pe_int)) (pax_cons (pex_of pe_bl) (pax_cons (pex_of pe_non) (pax_cons (pex_of pe_str) (pax_cons (pex_of (pe_lst (pa_cons pe_int pa_nil))) (pax_cons (pex_of (pe_tup (pa_cons pe_int pa_nil))) (pax_cons (pex_of pe_dnewK) (pax_cons (pex_of pe_bl) pax_nil se_const) se_dict) se_tuple) se_list) se_const) se_const) se_const) se_un) (pex_of (pe_ix ix_list (pv 0) pe_int (fun _ _ => rfl))) (fun _ _ => rfl)))
      (psx_cons (pstx_menu (i := 2) sc_law_bad.nd rfl rfl (pex_menu (pax_cons (pex_of pe_int) (pax_cons (pex_of pe_int) (pax_cons (pex_of (pe_un un_neg pe_int)) (pax_cons (pex_of pe_bl) (pax_cons (pex_of pe_non) (pax_cons (pex_of pe_str) (pax_cons (pex_of (pe_lst pa_nil)) (pax_cons (pex_of (pe_op op_pow pe_int pe_int)) pax_nil se_bin) se_list) se_const) se_const) se_const) se_un) se_const) se_const) (pex_of (pe_ix ix_list (pv 0) pe_int (fun _ _ => rfl))) (fun _ _ => rfl)))
      (psx_cons (pstx_menu (i := 3) sc_law_bad.nd rfl rfl (pex_menu (pax_cons (pex_of pe_int) (pax_cons (pex_of pe_int) (pax_cons (pex_of (pe_un un_neg pe_int)) (pax_cons (pex_of pe_bl) (pax_cons (pex_of pe_non) (pax_cons (pex_of pe_str) (pax_cons (pex_of (pe_tup (pa_cons pe_int pa_nil))) (pax_cons (pex_of (pe_op op_pow pe_int pe_int)) pax_nil se_bin) se_tuple) se_const) se_const) se_const) se_un) se_const) se_const) (pex_of (pe_ix ix_list (pv 0) pe_int (fun _ _ => rfl))) (fun _ _ => rfl)))
      (psx_cons (pstx_menu (i := 4) sc_law_bad.nd rfl rfl (pex_menu (pax_cons (pex_of (pe_tup (pa_cons pe_int (pa_cons pe_int (pa_cons pe_int pa_nil))))) (pax_cons (pex_of (pe_tup (pa_cons (pe_un un_neg pe_int) (pa_cons pe_int (pa_cons pe_int pa_nil))))) (pax_cons (pex_of (pe_tup (pa_cons pe_int (pa_cons pe_int (pa_cons pe_int pa_nil))))) (pax_cons (pex_of (pe_tup (pa_cons pe_int (pa_cons pe_int (pa_cons pe_int pa_nil))))) (pax_cons (pex_of (pe_tup (pa_cons pe_int (pa_cons pe_int (pa_cons pe_int pa_nil))))) (pax_cons (pex_of (pe_tup (pa_cons pe_int (pa_cons pe_int (pa_cons pe_int pa_nil))))) (pax_cons (pex_of (pe_lst (pa_cons pe_int (pa_cons pe_int (pa_cons pe_int pa_nil))))) (pax_cons (pex_of (pe_tup (pa_cons pe_int (pa_cons pe_int pa_nil)))) (pax_cons (pex_of (pe_tup (pa_cons pe_bl (pa_cons pe_int (pa_cons pe_int pa_nil))))) (pax_cons (pex_of pe_non) pax_nil se_const) se_tuple) se_tuple) se_list) se_tuple) se_tuple) se_tuple) se_tuple) se_tuple) se_tuple) (pex_of (pe_ix ix_list (pv 0) pe_int (fun _ _ => rfl))) (fun _ _ => rfl)))
      (psx_one (pstx_ret (pex_tup (pax_cons (pex_of (pv 1)) (pax_cons (pex_of (pv 2)) (pax_cons (pex_of (pv 3)) (pax_cons (pex_of (pv 4)) pax_nil se_name) se_name) se_name) se_name))))))))), ?_⟩
  obtain ⟨n0, h0, b0⟩ := hB.at (i := 0) rfl
  obtain ⟨n1, h1, b1⟩ := hB.at (i := 1) rfl
  obtain ⟨n2, h2, b2⟩ := hB.at (i := 2) rfl
  obtain ⟨n3, h3, b3⟩ := hB.at (i := 3) rfl
  dsimp only [gName]
  refine joinP (fun v H' => Same H H' ∧ BadTh K (BadL K) H' v) (fun x1 H1 z => ?_) (fun Q hQ => ?_)
  rotate_left
  · refine ⟨_, rfl, ?_⟩
    refine ⟨(by show 1 ≤ sizeLine; decide), ?_⟩; o_unpack p1
    refine ⟨(by show 1 ≤ sizeLine; decide), ?_⟩; o_unpack p2
    o_unpack p3
    refine ⟨(by show 8 ≤ sizeLine; decide), ?_⟩; o_unpack pl
    refine ⟨_, rfl, dr, ws.map V.int, _, _, rfl, rfl, (by walk_at "hp"), h0, ?_⟩
    obtain rfl | rfl | rfl | rfl | rfl | rfl | rfl | rfl : n0 = 0 ∨ n0 = 1 ∨ n0 = 2 ∨ n0 = 3 ∨ n0 = 4 ∨ n0 = 5 ∨ n0 = 6 ∨ n0 = 7 := by omega
    · exact ⟨pl, [V.int (-1), V.bl true, V.non, V.str (Str.ofString "0"), V.ref p1, V.ref p2, V.ref p3, V.bl false], _, _, rfl, rfl, (by walk_at "hp"), atI_nat (j := 0) rfl, hQ _ _ ⟨(by walk_at "hp"), ⟨.int (-1), ⟨(.inl ⟨.int _, rfl⟩), (by decide +kernel), (by decide +kernel), (by decide +kernel)⟩⟩, (.inl ⟨_, rfl, by decide⟩)⟩⟩
    · exact ⟨pl, [V.int (-1), V.bl true, V.non, V.str (Str.ofString "0"), V.ref p1, V.ref p2, V.ref p3, V.bl false], _, _, rfl, rfl, (by walk_at "hp"), atI_nat (j := 1) rfl, hQ _ _ ⟨(by walk_at "hp"), ⟨.bool true, ⟨(.inl ⟨.bl _, rfl⟩), (by decide +kernel), (by decide +kernel), (by decide +kernel)⟩⟩, (.inr ⟨"bool", by decide, .inl rfl⟩)⟩⟩
    · exact ⟨pl, [V.int (-1), V.bl true, V.non, V.str (Str.ofString "0"), V.ref p1, V.ref p2, V.ref p3, V.bl false], _, _, rfl, rfl, (by walk_at "hp"), atI_nat (j := 2) rfl, hQ _ _ ⟨(by walk_at "hp"), ⟨.none, ⟨(.inl ⟨.non, rfl⟩), (by decide +kernel), (by decide +kernel), (by decide +kernel)⟩⟩, (.inr ⟨"NoneType", by decide, .inl rfl⟩)⟩⟩
    · exact ⟨pl, [V.int (-1), V.bl true, V.non, V.str (Str.ofString "0"), V.ref p1, V.ref p2, V.ref p3, V.bl false], _, _, rfl, rfl, (by walk_at "hp"), atI_nat (j := 3) rfl, hQ _ _ ⟨(by walk_at "hp"), ⟨.str (Str.ofString "0"), ⟨(.inl ⟨.str _, rfl⟩), (by decide +kernel), (by decide +kernel), (by decide +kernel)⟩⟩, (.inr ⟨"str", by decide, .inl rfl⟩)⟩⟩
    · exact ⟨pl, [V.int (-1), V.bl true, V.non, V.str (Str.ofString "0"), V.ref p1, V.ref p2, V.ref p3, V.bl false], _, _, rfl, rfl, (by walk_at "hp"), atI_nat (j := 4) rfl, hQ _ _ ⟨(by walk_at "hp"), ⟨.list [.int (0)], ⟨(.inl ⟨.lst (xs := [V.int (0)]) (by walk_at "hp") (.cons (.int _) .nil), rfl⟩), (by decide +kernel), (by decide +kernel), (by decide +kernel)⟩⟩, (.inr ⟨"list", by decide, .inl (.inl ⟨rfl, [V.int (0)], (by walk_at "hp")⟩)⟩)⟩⟩
    · exact ⟨pl, [V.int (-1), V.bl true, V.non, V.str (Str.ofString "0"), V.ref p1, V.ref p2, V.ref p3, V.bl false], _, _, rfl, rfl, (by walk_at "hp"), atI_nat (j := 5) rfl, hQ _ _ ⟨(by walk_at "hp"), ⟨.tuple [.int (1)], ⟨(.inl ⟨.tup (xs := [V.int (1)]) (by walk_at "hp") (.cons (.int _) .nil), rfl⟩), (by decide +kernel), (by decide +kernel), (by decide +kernel)⟩⟩, (.inr ⟨"tuple", by decide, .inl (.inr ⟨rfl, [V.int (1)], (by walk_at "hp")⟩)⟩)⟩⟩
    · exact ⟨pl, [V.int (-1), V.bl true, V.non, V.str (Str.ofString "0"), V.ref p1, V.ref p2, V.ref p3, V.bl false], _, _, rfl, rfl, (by walk_at "hp"), atI_nat (j := 6) rfl, hQ _ _ ⟨(by walk_at "hp"), ⟨.dict [], ⟨(.inr ⟨p3, [], rfl, (by walk_at "hp"), (fun p hp => by simp at hp), rfl⟩), (by decide +kernel), (by decide +kernel), (by decide +kernel)⟩⟩, (.inr ⟨"dict", by decide, .inr ⟨rfl, p3, [], rfl, (by walk_at "hp")⟩⟩)⟩⟩
    · exact ⟨pl, [V.int (-1), V.bl true, V.non, V.str (Str.ofString "0"), V.ref p1, V.ref p2, V.ref p3, V.bl false], _, _, rfl, rfl, (by walk_at "hp"), atI_nat (j := 7) rfl, hQ _ _ ⟨(by walk_at "hp"), ⟨.bool false, ⟨(.inl ⟨.bl _, rfl⟩), (by decide +kernel), (by decide +kernel), (by decide +kernel)⟩⟩, (.inr ⟨"bool", by decide, .inl rfl⟩)⟩⟩
  obtain ⟨g1, t1⟩ := z
  dsimp only [gName]
  refine joinP (fun v H' => Same H1 H' ∧ BadTh K (BadK K 1 32) H' v) (fun x2 H2 z => ?_) (fun Q hQ => ?_)
  rotate_left
  · refine ⟨_, rfl, ?_⟩
    refine ⟨(by show 0 ≤ sizeLine; decide), ?_⟩; o_unpack p1
    refine ⟨_, _, rfl, rfl, ⟨by decide, by decide, by decide⟩, ?_⟩
    refine ⟨(by show 8 ≤ sizeLine; decide), ?_⟩; o_unpack pl
    refine ⟨_, rfl, dr, ws.map V.int, _, _, rfl, rfl, (by walk_at "hp"), h1, ?_⟩
    obtain rfl | rfl | rfl | rfl | rfl | rfl | rfl | rfl : n1 = 0 ∨ n1 = 1 ∨ n1 = 2 ∨ n1 = 3 ∨ n1 = 4 ∨ n1 = 5 ∨ n1 = 6 ∨ n1 = 7 := by omega
    · exact ⟨pl, [V.int (0), V.int (33), V.int (-1), V.bl true, V.non, V.str (Str.ofString "1"), V.ref p1, V.int (10 ^ (20 : Int).toNat)], _, _, rfl, rfl, (by walk_at "hp"), atI_nat (j := 0) rfl, hQ _ _ ⟨(by walk_at "hp"), ⟨.int (0), ⟨(.inl ⟨.int _, rfl⟩), (by decide +kernel), (by decide +kernel), (by decide +kernel)⟩⟩, (.inl ⟨_, rfl, by decide⟩)⟩⟩
    · exact ⟨pl, [V.int (0), V.int (33), V.int (-1), V.bl true, V.non, V.str (Str.ofString "1"), V.ref p1, V.int (10 ^ (20 : Int).toNat)], _, _, rfl, rfl, (by walk_at "hp"), atI_nat (j := 1) rfl, hQ _ _ ⟨(by walk_at "hp"), ⟨.int (33), ⟨(.inl ⟨.int _, rfl⟩), (by decide +kernel), (by decide +kernel), (by decide +kernel)⟩⟩, (.inl ⟨_, rfl, by decide⟩)⟩⟩
    · exact ⟨pl, [V.int (0), V.int (33), V.int (-1), V.bl true, V.non, V.str (Str.ofString "1"), V.ref p1, V.int (10 ^ (20 : Int).toNat)], _, _, rfl, rfl, (by walk_at "hp"), atI_nat (j := 2) rfl, hQ _ _ ⟨(by walk_at "hp"), ⟨.int (-1), ⟨(.inl ⟨.int _, rfl⟩), (by decide +kernel), (by decide +kernel), (by decide +kernel)⟩⟩, (.inl ⟨_, rfl, by decide⟩)⟩⟩
    · exact ⟨pl, [V.int (0), V.int (33), V.int (-1), V.bl true, V.non, V.str (Str.ofString "1"), V.ref p1, V.int (10 ^ (20 : Int).toNat)], _, _, rfl, rfl, (by walk_at "hp"), atI_nat (j := 3) rfl, hQ _ _ ⟨(by walk_at "hp"), ⟨.bool true, ⟨(.inl ⟨.bl _, rfl⟩), (by decide +kernel), (by decide +kernel), (by decide +kernel)⟩⟩, (.inr ⟨"bool", by decide, .inl rfl⟩)⟩⟩
    · exact ⟨pl, [V.int (0), V.int (33), V.int (-1), V.bl true, V.non, V.str (Str.ofString "1"), V.ref p1, V.int (10 ^ (20 : Int).toNat)], _, _, rfl, rfl, (by walk_at "hp"), atI_nat (j := 4) rfl, hQ _ _ ⟨(by walk_at "hp"), ⟨.none, ⟨(.inl ⟨.non, rfl⟩), (by decide +kernel), (by decide +kernel), (by decide +kernel)⟩⟩, (.inr ⟨"NoneType", by decide, .inl rfl⟩)⟩⟩
    · exact ⟨pl, [V.int (0), V.int (33), V.int (-1), V.bl true, V.non, V.str (Str.ofString "1"), V.ref p1, V.int (10 ^ (20 : Int).toNat)], _, _, rfl, rfl, (by walk_at "hp"), atI_nat (j := 5) rfl, hQ _ _ ⟨(by walk_at "hp"), ⟨.str (Str.ofString "1"), ⟨(.inl ⟨.str _, rfl⟩), (by decide +kernel), (by decide +kernel), (by decide +kernel)⟩⟩, (.inr ⟨"str", by decide, .inl rfl⟩)⟩⟩
    · exact ⟨pl, [V.int (0), V.int (33), V.int (-1), V.bl true, V.non, V.str (Str.ofString "1"), V.ref p1, V.int (10 ^ (20 : Int).toNat)], _, _, rfl, rfl, (by walk_at "hp"), atI_nat (j := 6) rfl, hQ _ _ ⟨(by walk_at "hp"), ⟨.list [], ⟨(.inl ⟨.lst (xs := []) (by walk_at "hp") .nil, rfl⟩), (by decide +kernel), (by decide +kernel), (by decide +kernel)⟩⟩, (.inr ⟨"list", by decide, .inl (.inl ⟨rfl, [], (by walk_at "hp")⟩)⟩)⟩⟩
    · exact ⟨pl, [V.int (0), V.int (33), V.int (-1), V.bl true, V.non, V.str (Str.ofString "1"), V.ref p1, V.int (10 ^ (20 : Int).toNat)], _, _, rfl, rfl, (by walk_at "hp"), atI_nat (j := 7) rfl, hQ _ _ ⟨(by walk_at "hp"), ⟨.int (10 ^ (20 : Int).toNat), ⟨(.inl ⟨.int _, rfl⟩), (by decide +kernel), (by decide +kernel), (by decide +kernel)⟩⟩, (.inl ⟨_, rfl, by decide⟩)⟩⟩
  obtain ⟨g2, t2⟩ := z
  dsimp only [gName]
  refine joinP (fun v H' => Same H2 H' ∧ BadTh K (BadK K 1 64) H' v) (fun x3 H3 z => ?_) (fun Q hQ => ?_)
  rotate_left
  · refine ⟨_, rfl, ?_⟩
    refine ⟨(by show 1 ≤ sizeLine; decide), ?_⟩; o_unpack p1
    refine ⟨_, _, rfl, rfl, ⟨by decide, by decide, by decide⟩, ?_⟩
    refine ⟨(by show 8 ≤ sizeLine; decide), ?_⟩; o_unpack pl
    refine ⟨_, rfl, dr, ws.map V.int, _, _, rfl, rfl, (by walk_at "hp"), h2, ?_⟩
    obtain rfl | rfl | rfl | rfl | rfl | rfl | rfl | rfl : n2 = 0 ∨ n2 = 1 ∨ n2 = 2 ∨ n2 = 3 ∨ n2 = 4 ∨ n2 = 5 ∨ n2 = 6 ∨ n2 = 7 := by omega
    · exact ⟨pl, [V.int (0), V.int (65), V.int (-4), V.bl true, V.non, V.str (Str.ofString "4"), V.ref p1, V.int (10 ^ (20 : Int).toNat)], _, _, rfl, rfl, (by walk_at "hp"), atI_nat (j := 0) rfl, hQ _ _ ⟨(by walk_at "hp"), ⟨.int (0), ⟨(.inl ⟨.int _, rfl⟩), (by decide +kernel), (by decide +kernel), (by decide +kernel)⟩⟩, (.inl ⟨_, rfl, by decide⟩)⟩⟩
    · exact ⟨pl, [V.int (0), V.int (65), V.int (-4), V.bl true, V.non, V.str (Str.ofString "4"), V.ref p1, V.int (10 ^ (20 : Int).toNat)], _, _, rfl, rfl, (by walk_at "hp"), atI_nat (j := 1) rfl, hQ _ _ ⟨(by walk_at "hp"), ⟨.int (65), ⟨(.inl ⟨.int _, rfl⟩), (by decide +kernel), (by decide +kernel), (by decide +kernel)⟩⟩, (.inl ⟨_, rfl, by decide⟩)⟩⟩
    · exact ⟨pl, [V.int (0), V.int (65), V.int (-4), V.bl true, V.non, V.str (Str.ofString "4"), V.ref p1, V.int (10 ^ (20 : Int).toNat)], _, _, rfl, rfl, (by walk_at "hp"), atI_nat (j := 2) rfl, hQ _ _ ⟨(by walk_at "hp"), ⟨.int (-4), ⟨(.inl ⟨.int _, rfl⟩), (by decide +kernel), (by decide +kernel), (by decide +kernel)⟩⟩, (.inl ⟨_, rfl, by decide⟩)⟩⟩
    · exact ⟨pl, [V.int (0), V.int (65), V.int (-4), V.bl true, V.non, V.str (Str.ofString "4"), V.ref p1, V.int (10 ^ (20 : Int).toNat)], _, _, rfl, rfl, (by walk_at "hp"), atI_nat (j := 3) rfl, hQ _ _ ⟨(by walk_at "hp"), ⟨.bool true, ⟨(.inl ⟨.bl _, rfl⟩), (by decide +kernel), (by decide +kernel), (by decide +kernel)⟩⟩, (.inr ⟨"bool", by decide, .inl rfl⟩)⟩⟩
    · exact ⟨pl, [V.int (0), V.int (65), V.int (-4), V.bl true, V.non, V.str (Str.ofString "4"), V.ref p1, V.int (10 ^ (20 : Int).toNat)], _, _, rfl, rfl, (by walk_at "hp"), atI_nat (j := 4) rfl, hQ _ _ ⟨(by walk_at "hp"), ⟨.none, ⟨(.inl ⟨.non, rfl⟩), (by decide +kernel), (by decide +kernel), (by decide +kernel)⟩⟩, (.inr ⟨"NoneType", by decide, .inl rfl⟩)⟩⟩
    · exact ⟨pl, [V.int (0), V.int (65), V.int (-4), V.bl true, V.non, V.str (Str.ofString "4"), V.ref p1, V.int (10 ^ (20 : Int).toNat)], _, _, rfl, rfl, (by walk_at "hp"), atI_nat (j := 5) rfl, hQ _ _ ⟨(by walk_at "hp"), ⟨.str (Str.ofString "4"), ⟨(.inl ⟨.str _, rfl⟩), (by decide +kernel), (by decide +kernel), (by decide +kernel)⟩⟩, (.inr ⟨"str", by decide, .inl rfl⟩)⟩⟩
    · exact ⟨pl, [V.int (0), V.int (65), V.int (-4), V.bl true, V.non, V.str (Str.ofString "4"), V.ref p1, V.int (10 ^ (20 : Int).toNat)], _, _, rfl, rfl, (by walk_at "hp"), atI_nat (j := 6) rfl, hQ _ _ ⟨(by walk_at "hp"), ⟨.tuple [.int (8)], ⟨(.inl ⟨.tup (xs := [V.int (8)]) (by walk_at "hp") (.cons (.int _) .nil), rfl⟩), (by decide +kernel), (by decide +kernel), (by decide +kernel)⟩⟩, (.inr ⟨"tuple", by decide, .inl (.inr ⟨rfl, [V.int (8)], (by walk_at "hp")⟩)⟩)⟩⟩
    · exact ⟨pl, [V.int (0), V.int (65), V.int (-4), V.bl true, V.non, V.str (Str.ofString "4"), V.ref p1, V.int (10 ^ (20 : Int).toNat)], _, _, rfl, rfl, (by walk_at "hp"), atI_nat (j := 7) rfl, hQ _ _ ⟨(by walk_at "hp"), ⟨.int (10 ^ (20 : Int).toNat), ⟨(.inl ⟨.int _, rfl⟩), (by decide +kernel), (by decide +kernel), (by decide +kernel)⟩⟩, (.inl ⟨_, rfl, by decide⟩)⟩⟩
  obtain ⟨g3, t3⟩ := z
  dsimp only [gName]
  refine joinP (fun v H' => Same H3 H' ∧ ∃ d, Th K H' v d ∧ ¬ GoodD d) (fun x4 H4 z => ?_) (fun Q hQ => ?_)
  rotate_left
  · refine ⟨(by show 3 ≤ sizeLine; decide), ?_⟩; o_unpack p0
    refine ⟨_, rfl, ?_⟩
    refine ⟨(by show 3 ≤ sizeLine; decide), ?_⟩; o_unpack p1
    refine ⟨(by show 3 ≤ sizeLine; decide), ?_⟩; o_unpack p2
    refine ⟨(by show 3 ≤ sizeLine; decide), ?_⟩; o_unpack p3
    refine ⟨(by show 3 ≤ sizeLine; decide), ?_⟩; o_unpack p4
    refine ⟨(by show 3 ≤ sizeLine; decide), ?_⟩; o_unpack p5
    refine ⟨(by show 3 ≤ sizeLine; decide), ?_⟩; o_unpack p6
    refine ⟨(by show 2 ≤ sizeLine; decide), ?_⟩; o_unpack p7
    refine ⟨(by show 3 ≤ sizeLine; decide), ?_⟩; o_unpack p8
    refine ⟨(by show 10 ≤ sizeLine; decide), ?_⟩; o_unpack pl
    refine ⟨_, rfl, dr, ws.map V.int, _, _, rfl, rfl, (by walk_at "hp"), h3, ?_⟩
    obtain rfl | rfl | rfl | rfl | rfl | rfl | rfl | rfl | rfl | rfl : n3 = 0 ∨ n3 = 1 ∨ n3 = 2 ∨ n3 = 3 ∨ n3 = 4 ∨ n3 = 5 ∨ n3 = 6 ∨ n3 = 7 ∨ n3 = 8 ∨ n3 = 9 := by omega
    · exact ⟨pl, [V.ref p0, V.ref p1, V.ref p2, V.ref p3, V.ref p4, V.ref p5, V.ref p6, V.ref p7, V.ref p8, V.non], _, _, rfl, rfl, (by walk_at "hp"), atI_nat (j := 0) rfl, hQ _ _ ⟨(by walk_at "hp"), .tuple [.int (0), .int (0), .int (0)], ⟨(.inl ⟨.tup (xs := [V.int (0), V.int (0), V.int (0)]) (by walk_at "hp") (.cons (.int _) (.cons (.int _) (.cons (.int _) .nil))), rfl⟩), (by decide +kernel), (by decide +kernel), (by decide +kernel)⟩, (ng3 (not_ok (by decide)))⟩⟩
    · exact ⟨pl, [V.ref p0, V.ref p1, V.ref p2, V.ref p3, V.ref p4, V.ref p5, V.ref p6, V.ref p7, V.ref p8, V.non], _, _, rfl, rfl, (by walk_at "hp"), atI_nat (j := 1) rfl, hQ _ _ ⟨(by walk_at "hp"), .tuple [.int (-1), .int (0), .int (8)], ⟨(.inl ⟨.tup (xs := [V.int (-1), V.int (0), V.int (8)]) (by walk_at "hp") (.cons (.int _) (.cons (.int _) (.cons (.int _) .nil))), rfl⟩), (by decide +kernel), (by decide +kernel), (by decide +kernel)⟩, (ng3 (not_ok (by decide)))⟩⟩
    · exact ⟨pl, [V.ref p0, V.ref p1, V.ref p2, V.ref p3, V.ref p4, V.ref p5, V.ref p6, V.ref p7, V.ref p8, V.non], _, _, rfl, rfl, (by walk_at "hp"), atI_nat (j := 2) rfl, hQ _ _ ⟨(by walk_at "hp"), .tuple [.int (0), .int (1), .int (2)], ⟨(.inl ⟨.tup (xs := [V.int (0), V.int (1), V.int (2)]) (by walk_at "hp") (.cons (.int _) (.cons (.int _) (.cons (.int _) .nil))), rfl⟩), (by decide +kernel), (by decide +kernel), (by decide +kernel)⟩, (ng3 (not_ok (by decide)))⟩⟩
    · exact ⟨pl, [V.ref p0, V.ref p1, V.ref p2, V.ref p3, V.ref p4, V.ref p5, V.ref p6, V.ref p7, V.ref p8, V.non], _, _, rfl, rfl, (by walk_at "hp"), atI_nat (j := 3) rfl, hQ _ _ ⟨(by walk_at "hp"), .tuple [.int (0), .int (2), .int (8)], ⟨(.inl ⟨.tup (xs := [V.int (0), V.int (2), V.int (8)]) (by walk_at "hp") (.cons (.int _) (.cons (.int _) (.cons (.int _) .nil))), rfl⟩), (by decide +kernel), (by decide +kernel), (by decide +kernel)⟩, (ng3 (not_ok (by decide)))⟩⟩
    · exact ⟨pl, [V.ref p0, V.ref p1, V.ref p2, V.ref p3, V.ref p4, V.ref p5, V.ref p6, V.ref p7, V.ref p8, V.non], _, _, rfl, rfl, (by walk_at "hp"), atI_nat (j := 4) rfl, hQ _ _ ⟨(by walk_at "hp"), .tuple [.int (0), .int (0), .int (520)], ⟨(.inl ⟨.tup (xs := [V.int (0), V.int (0), V.int (520)]) (by walk_at "hp") (.cons (.int _) (.cons (.int _) (.cons (.int _) .nil))), rfl⟩), (by decide +kernel), (by decide +kernel), (by decide +kernel)⟩, (ng3 (not_ok (by decide)))⟩⟩
    · exact ⟨pl, [V.ref p0, V.ref p1, V.ref p2, V.ref p3, V.ref p4, V.ref p5, V.ref p6, V.ref p7, V.ref p8, V.non], _, _, rfl, rfl, (by walk_at "hp"), atI_nat (j := 5) rfl, hQ _ _ ⟨(by walk_at "hp"), .tuple [.int (0), .int (0), .int (12)], ⟨(.inl ⟨.tup (xs := [V.int (0), V.int (0), V.int (12)]) (by walk_at "hp") (.cons (.int _) (.cons (.int _) (.cons (.int _) .nil))), rfl⟩), (by decide +kernel), (by decide +kernel), (by decide +kernel)⟩, (ng3 (not_ok (by decide)))⟩⟩
    · exact ⟨pl, [V.ref p0, V.ref p1, V.ref p2, V.ref p3, V.ref p4, V.ref p5, V.ref p6, V.ref p7, V.ref p8, V.non], _, _, rfl, rfl, (by walk_at "hp"), atI_nat (j := 6) rfl, hQ _ _ ⟨(by walk_at "hp"), .list [.int (0), .int (0), .int (8)], ⟨(.inl ⟨.lst (xs := [V.int (0), V.int (0), V.int (8)]) (by walk_at "hp") (.cons (.int _) (.cons (.int _) (.cons (.int _) .nil))), rfl⟩), (by decide +kernel), (by decide +kernel), (by decide +kernel)⟩, (ngN (fun ds e => by cases e))⟩⟩
    · exact ⟨pl, [V.ref p0, V.ref p1, V.ref p2, V.ref p3, V.ref p4, V.ref p5, V.ref p6, V.ref p7, V.ref p8, V.non], _, _, rfl, rfl, (by walk_at "hp"), atI_nat (j := 7) rfl, hQ _ _ ⟨(by walk_at "hp"), .tuple [.int (0), .int (0)], ⟨(.inl ⟨.tup (xs := [V.int (0), V.int (0)]) (by walk_at "hp") (.cons (.int _) (.cons (.int _) .nil)), rfl⟩), (by decide +kernel), (by decide +kernel), (by decide +kernel)⟩, (ngT (by decide))⟩⟩
    · exact ⟨pl, [V.ref p0, V.ref p1, V.ref p2, V.ref p3, V.ref p4, V.ref p5, V.ref p6, V.ref p7, V.ref p8, V.non], _, _, rfl, rfl, (by walk_at "hp"), atI_nat (j := 8) rfl, hQ _ _ ⟨(by walk_at "hp"), .tuple [.bool true, .int (0), .int (8)], ⟨(.inl ⟨.tup (xs := [V.bl true, V.int (0), V.int (8)]) (by walk_at "hp") (.cons (.bl _) (.cons (.int _) (.cons (.int _) .nil))), rfl⟩), (by decide +kernel), (by decide +kernel), (by decide +kernel)⟩, (fun z => by obtain ⟨_, _, _, e, _⟩ := z; cases e)⟩⟩
    · exact ⟨pl, [V.ref p0, V.ref p1, V.ref p2, V.ref p3, V.ref p4, V.ref p5, V.ref p6, V.ref p7, V.ref p8, V.non], _, _, rfl, rfl, (by walk_at "hp"), atI_nat (j := 9) rfl, hQ _ _ ⟨(by walk_at "hp"), .none, ⟨(.inl ⟨.non, rfl⟩), (by decide +kernel), (by decide +kernel), (by decide +kernel)⟩, (ngN (fun ds e => by cases e))⟩⟩
  obtain ⟨g4, t4⟩ := z
  refine ⟨_, rfl, _, rfl, _, rfl, _, rfl, (by show 4 ≤ sizeLine; decide), ?_⟩; o_unpack t
  exact q t _ x1 x2 x3 x4 (by walk_at "hp") (by walk_at "hp") (t1.same (by walk_at "hp")) (t2.samK (by walk_at "hp")) (t3.samK (by walk_at "hp")) (thP_same t4 (by walk_at "hp"))
end
end K52

namespace K52
open PySem L2 PyProof.Rows
abbrev s_law_held : Stmt := top 43
theorem sc_law_held : FnScope ["_law_draws", "_law_line", "_law_bound", "_law_wide", "_law_place", "_law_lines", "_law_bad_here", "_law_which", "_law_good", "_law_rows"] ["_law_draws"] (defScope s_law_held) := ⟨rfl, rfl, rfl, by decide +kernel, rfl, by decide +kernel, by decide +kernel⟩
section
variable {P : Program} {w : World} {K : PySem.W.Frag} {mg : Str → Option Value} {base : Heap}
theorem ok_law_held {k : Nat} {f : Addr} {fd : FuncData} (F : Fun K "_law_held" "_law_held" s_law_held f fd) (M : Blt mg) {t1 t2 t3 t4 t5 : Tok} {ts : Addr} (C : Cst K mg t1 t2 t3 t4 t5 ts) {C_Kept f_Kept_init : Addr} (T_Kept : TCls K mg "Kept" C_Kept f_Kept_init ["bound", "held"]) {C_RoomError f_RoomError_init : Addr} (T_RoomError : TXB K mg C_RoomError f_RoomError_init) (VI : VInit K) {C_NoKeep f_NoKeep_init : Addr} (T_NoKeep : TX K mg "NoKeep" C_NoKeep C_RoomError f_NoKeep_init ["found"]) {C_NoLine f_NoLine_init : Addr} (T_NoLine : TX K mg "NoLine" C_NoLine C_RoomError f_NoLine_init ["found"]) {C_NoPlace f_NoPlace_init : Addr} (T_NoPlace : TX K mg "NoPlace" C_NoPlace C_RoomError f_NoPlace_init ["found"]) {f_law_bad : Addr} {fd_law_bad : FuncData} (D_law_bad : Df K mg "_law_bad" f_law_bad fd_law_bad ["_law_draws"]) (G_law_bad : FnOk P w K mg base CX0 k f_law_bad fd_law_bad ["_law_draws"] (spBadD K)) {f_law_refused : Addr} {fd_law_refused : FuncData} (D_law_refused : Df K mg "_law_refused" f_law_refused fd_law_refused ["_law_which", "_law_lines", "_law_most", "_law_word", "_law_thing"]) (G_law_refused : FnOk P w K mg base CX0 k f_law_refused fd_law_refused ["_law_which", "_law_lines", "_law_most", "_law_word", "_law_thing"] (spRf K C_NoLine C_NoKeep C_NoPlace)) : FnOk P w K mg base CX0 (k + 2) f fd ["_law_draws"] (spHeldD K) := by
  refine F.ok sc_law_held (fun vs H Q E h => ?_) (fun cdv A outer s0 H vs Q E hr0 h => ?_)
  · obtain ⟨dr, ws, rfl, _⟩ := h; rfl
  obtain ⟨dr, ws, rfl, hS, hB, q⟩ := h
  have hr := hr0.mono (Nat.le_succ _)
  refine ⟨_, (pss_cons (ps_asg (pe_call G_law_bad hr rfl D_law_bad.m D_law_bad.k D_law_bad.b .nil pass0 (pa_cons (pv 0) pa_nil)) (pg_tup rfl (pgs_cons (pg_name (i := 1) sc_law_held.nd rfl (Or.inl rfl)) (pgs_cons (pg_name (i := 2) sc_law_held.nd rfl (Or.inl rfl)) (pgs_cons (pg_name (i := 3) sc_law_held.nd rfl (Or.inl rfl)) (pgs_cons (pg_name (i := 4) sc_law_held.nd rfl (Or.inl rfl)) pgs_nil))))))
      (pss_cons (ps_setC (i := 5) ["_law_k"] [] [] sc_law_held.nd rfl rfl rfl (pi_range1 rfl M.range (pa_cons (pe_ix ix_list (pv 0) pe_int (fun _ _ => rfl)) pa_nil)) rfl trivial trivial (fun _ _ _ _ => (pg_name (i := 0) (show List.Nodup (["_law_k"] : List Str) from by decide +kernel) rfl (Or.inl rfl))) (fun _ _ _ _ => pif_nil) (fun _ _ _ _ => (pe_op op_mod (pv 0) pe_int)))
      (pss_cons (ps_set (i := 6) sc_law_held.nd rfl (by first | exact Or.inl rfl | exact Or.inr rfl) (pe_op op_catS (pe_op op_catS (pe_op op_catS (pv 5) (pe_lst (pa_cons (pv 1) pa_nil))) (pe_slice sl_list (pv 5) po_none (po_some (pe_ix ix_list (pv 0) pe_int (fun _ _ => rfl))))) (pe_lst (pa_cons pe_non pa_nil))))
      (pss_cons (ps_for PassesOwn.never rfl (pi_range1 rfl M.range (pa_cons pe_int pa_nil)) (pg_name (i := 7) sc_law_held.nd rfl (Or.inl rfl)) (pss_cons (ps_if (PW.pt (pw_or (pt_not (pt_val (pe_call G_law_refused hr rfl D_law_refused.m D_law_refused.k D_law_refused.b .nil pass0 (pa_cons (pv 7) (pa_cons (pv 6) (pa_cons (pv 2) (pa_cons pe_str (pa_cons (pv 1) pa_nil se_name) se_const) se_name) se_name) se_name)))) (pw_or1 (pt_not (pt_val (pe_call G_law_refused hr rfl D_law_refused.m D_law_refused.k D_law_refused.b .nil pass0 (pa_cons (pv 7) (pa_cons (pv 6) (pa_cons pe_int (pa_cons pe_str (pa_cons (pv 1) pa_nil se_name) se_const) se_const) se_name) se_name))))))) (pss_one (ps_ret pe_bl)) pss_nil)
      (pss_one (ps_if (PW.pt (pw_or (pt_not (pt_val (pe_call G_law_refused hr rfl D_law_refused.m D_law_refused.k D_law_refused.b .nil pass0 (pa_cons (pv 7) (pa_cons (pv 5) (pa_cons (pv 2) (pa_cons pe_str (pa_cons (pv 2) pa_nil se_name) se_const) se_name) se_name) se_name)))) (pw_or1 (pt_not (pt_val (pe_call G_law_refused hr rfl D_law_refused.m D_law_refused.k D_law_refused.b .nil pass0 (pa_cons (pv 7) (pa_cons (pe_lst pa_nil) (pa_cons (pv 2) (pa_cons pe_str (pa_cons (pv 2) pa_nil se_name) se_const) se_name) se_list) se_name))))))) (pss_one (ps_ret pe_bl)) pss_nil))))
      (pss_cons (ps_if (PW.pt (pw_or (pt_not (pt_val (pe_call G_law_refused hr rfl D_law_refused.m D_law_refused.k D_law_refused.b .nil pass0 (pa_cons pe_int (pa_cons (pv 6) (pa_cons pe_int (pa_cons pe_str (pa_cons (pv 1) pa_nil se_name) se_const) se_const) se_name) se_const)))) (pw_or1 (pt_not (pt_val (pe_call G_law_refused hr rfl D_law_refused.m D_law_refused.k D_law_refused.b .nil pass0 (pa_cons pe_int (pa_cons (pe_lst pa_nil) (pa_cons (pv 2) (pa_cons pe_str (pa_cons (pv 2) pa_nil se_name) se_const) se_name) se_list) se_const))))))) (pss_one (ps_ret pe_bl)) pss_nil)
      (pss_cons (ps_setC (i := 8) ["_law_k"] [] [] sc_law_held.nd rfl rfl rfl (pi_range1 rfl M.range (pa_cons (pe_ix ix_list (pv 0) pe_int (fun _ _ => rfl)) pa_nil)) rfl trivial trivial (fun _ _ _ _ => (pg_name (i := 0) (show List.Nodup (["_law_k"] : List Str) from by decide +kernel) rfl (Or.inl rfl))) (fun _ _ _ _ => pif_nil) (fun _ _ _ _ => (pe_tup (pa_cons (pv 0) (pa_cons pe_int (pa_cons (pe_op op_add (pe_op op_mul pe_int (pv 0)) pe_int) pa_nil))))))
      (pss_cons (ps_for PassesOwn.never rfl (pi_list (pe_lst (pa_cons (pe_op op_catS (pv 8) (pe_lst (pa_cons (pv 4) (pa_cons pe_non pa_nil)))) (pa_cons (pe_lst (pa_cons (pv 4) pa_nil)) (pa_cons (pe_lst pa_nil) pa_nil))))) (pg_name (i := 9) sc_law_held.nd rfl (Or.inl rfl)) (pss_cons (ps_if (pt_not (pt_val (pe_call G_law_refused hr rfl D_law_refused.m D_law_refused.k D_law_refused.b .nil pass0 (pa_cons pe_int (pa_cons (pv 9) (pa_cons (pv 3) (pa_cons pe_str (pa_cons (pv 3) pa_nil se_name) se_const) se_name) se_name) se_const)))) (pss_one (ps_ret pe_bl)) pss_nil)
      (pss_one (ps_if (PW.pt (pw_and (pt_cmpR (op_neNil hr.units) (pv 9) (pe_lst pa_nil) (nomark _)) (pw_and1 (pt_not (pt_val (pe_call G_law_refused hr rfl D_law_refused.m D_law_refused.k D_law_refused.b .nil pass0 (pa_cons pe_int (pa_cons (pv 9) (pa_cons (pe_op op_add pe_int (pe_ix ix_list (pv 0) pe_int (fun _ _ => rfl))) (pa_cons pe_str (pa_cons (pv 4) pa_nil se_name) se_const) se_bin) se_name) se_const))))))) (pss_one (ps_ret pe_bl)) pss_nil))))
      (pss_one (ps_ret pe_bl))))))))), ?_⟩
  obtain ⟨n4, h4, b4⟩ := hB.at (i := 4) rfl
  obtain ⟨n5, h5, b5⟩ := hB.at (i := 5) rfl
  obtain ⟨n6, h6, b6⟩ := hB.at (i := 6) rfl
  refine ⟨_, rfl, dr, ws, rfl, hS, hB, fun t H1 x1 x2 x3 x4 g1 hT t1 t2 t3 t4 => ?_⟩
  refine ⟨t, _, rfl, hT, rfl, _, _, rfl, _, _, rfl, _, _, rfl, _, _, rfl, rfl, ?_⟩
  refine ⟨_, rfl, dr, ws.map V.int, _, _, rfl, rfl, (by walk_at "hp"), h4, n4, rfl, by omega, by omega, ?_⟩
  rw [Int.toNat_natCast]
  refine comp_range (fun i ys H' => H' = H1 ∧ ys = (((List.range i).map fun k : Nat => (k : Int) % 3).map V.int)) ⟨rfl, rfl⟩ (fun i ys H' _ z => by rw [z.2, List.length_map, List.length_map, List.length_range]; exact Nat.le_refl _) (small1000 (by omega)) (fun i ys H' hi z => ?_) (fun ys H' z ll hll => ?_)
  · obtain ⟨rfl, rfl⟩ := z
    refine ⟨_, rfl, _, _, rfl, rfl, (by show (0 : Int) < 3; decide), ⟨rfl, ?_⟩, _, rfl⟩
    rw [List.range_succ, List.map_append, List.map_append, Int.zero_add]; rfl
  obtain ⟨e0, rfl⟩ := z
  have e1 := e0.symm
  subst e1
  obtain ⟨d1, th1⟩ := t1.ex
  obtain ⟨d2, th2⟩ := t2.ex
  obtain ⟨d3, th3⟩ := t3.ex
  have bl1 := t1.b
  have bk2 := t2.b
  have bw3 := t3.b
  obtain ⟨d4, th4, ng4⟩ := t4
  clear t1 t2 t3 e0
  have lpos : ∀ n ∈ (List.range n4).map (fun k : Nat => (k : Int) % 3), n ≥ 0 := fun n hn => by
    obtain ⟨k, _, rfl⟩ := List.mem_map.mp hn
    omega
  have llen : ((List.range n4).map fun k : Nat => (k : Int) % 3).length = n4 := by rw [List.length_map, List.length_range]
  generalize (List.range n4).map (fun k : Nat => (k : Int) % 3) = ls at lpos llen ⊢
  generalize eX : upd _ ll _ = H2
  obtain ⟨g2, k2⟩ := new_facts eX hll
  clear eX
  refine ⟨_, rfl, _, rfl, (by show 1 ≤ sizeLine; decide), ?_⟩; o_unpack p1
  refine ⟨ll, p1, ls.map V.int, [x1], rfl, rfl, (by walk_at "hp"), (by walk_at "hp"), (by rw [List.length_map]; exact small (by simp only [List.length_singleton]; omega)), ?_⟩; o_unpack p2
  refine ⟨_, rfl, _, rfl, dr, ws.map V.int, _, _, rfl, rfl, (by walk_at "hp"), h5, _, rfl, ll, ls.map V.int, rfl, (by walk_at "hp"), ?_⟩
  have cl : (cutV (ls.map V.int) none (some (n5 : Int))).length ≤ 7 := by
    unfold cutV
    rw [List.length_take, List.length_drop, List.length_map]; omega
  generalize cutV (ls.map V.int) none (some (n5 : Int)) = cs at cl ⊢
  o_unpack p3
  refine ⟨p2, p3, ls.map V.int ++ [x1], cs, rfl, rfl, (by walk_at "hp"), (by walk_at "hp"), (by rw [List.length_append, List.length_map]; exact small (by simp only [List.length_singleton]; omega)), ?_⟩; o_unpack p4
  refine ⟨(by show 1 ≤ sizeLine; decide), ?_⟩; o_unpack p5
  refine ⟨p4, p5, ls.map V.int ++ [x1] ++ cs, [.non], rfl, rfl, (by walk_at "hp"), (by walk_at "hp"), (by rw [List.length_append, List.length_append, List.length_map]; exact small (by simp only [List.length_singleton]; omega)), fun bd hbd => ?_⟩
  rw [show ls.map V.int ++ [x1] ++ cs ++ [V.non] = ls.map V.int ++ x1 :: (cs ++ [V.non]) by simp]
  generalize eX : upd _ bd _ = H3
  obtain ⟨g3, k3⟩ := new_facts eX hbd
  clear eX
  have k2' : H3 ll = some (.lst (ls.map V.int)) := by walk_at "hp"
  have gA : Same H1 H3 := by walk_at "hp"
  clear g3
  refine ⟨4, rfl, by decide, by decide, for_range (n := 4) (fun i σ H' => ∃ o8 o9 o10 : Option V, σ = [some (.ref dr), some x1, some x2, some x3, some x4, some (.ref ll), some (.ref bd), o8, o9, o10] ∧ Same H3 H') ⟨_, _, _, rfl, Same.refl _⟩ (fun i σ H' hi z => ?_) (fun σ H' z => ?_)⟩
  · obtain ⟨o8, o9, o10, rfl, g10⟩ := z
    rw [Int.zero_add]
    refine ⟨_, rfl, _, rfl, _, rfl, _, rfl, i, bd, x2, Str.ofString "line", C_NoLine, x1, d1, rfl, (.line ls (cs ++ [.non]) (by simp only [List.mem_cons, List.not_mem_nil, or_false]; omega) lpos (by omega) (by walk_at "hp") (bl1.same (by walk_at "hp"))), th1.same (by walk_at "hp"), .inl ⟨rfl, rfl⟩, fun HZ gZ => ⟨_, rfl, iteN (by decide) ?_⟩⟩
    refine ⟨_, rfl, _, rfl, _, rfl, i, bd, .int 3, Str.ofString "line", C_NoLine, x1, d1, rfl, (.line ls (cs ++ [.non]) (by simp only [List.mem_cons, List.not_mem_nil, or_false]; omega) lpos (by omega) (by walk_at "hp") (bl1.same (by walk_at "hp"))), th1.same (by walk_at "hp"), .inl ⟨rfl, rfl⟩, fun HZ gZ => ⟨_, rfl, iteN (by decide) ?_⟩⟩
    refine ⟨_, rfl, _, rfl, _, rfl, _, rfl, i, ll, x2, Str.ofString "keep", C_NoKeep, x2, d2, rfl, (.keep ls (by simp only [List.mem_cons, List.not_mem_nil, or_false]; omega) lpos (by omega) (by walk_at "hp") (bk2.same (by walk_at "hp"))), th2.same (by walk_at "hp"), .inr (.inl ⟨rfl, rfl⟩), fun HZ gZ => ⟨_, rfl, iteN (by decide) ?_⟩⟩
    refine ⟨_, rfl, (by show 0 ≤ sizeLine; decide), ?_⟩; o_unpack e0
    refine ⟨_, rfl, _, rfl, i, e0, x2, Str.ofString "keep", C_NoKeep, x2, d2, rfl, (.keep [] (by simp only [List.mem_cons, List.not_mem_nil, or_false]; omega) (fun n hn => by simp at hn) (by decide) (show SqL K _ _ [] from (by walk_at "hp")) (bk2.same (by walk_at "hp"))), th2.same (by walk_at "hp"), .inr (.inl ⟨rfl, rfl⟩), fun HZ gZ => ⟨_, rfl, iteN (by decide) ?_⟩⟩
    exact ⟨_, _, _, rfl, (by walk_at "hp")⟩
  · obtain ⟨o8, o9, o10, rfl, g10⟩ := z
    refine ⟨_, rfl, _, rfl, 5, bd, .int 1, Str.ofString "line", C_NoLine, x1, d1, rfl, (.line ls (cs ++ [.non]) (by decide) lpos (by omega) (by walk_at "hp") (bl1.same (by walk_at "hp"))), th1.same (by walk_at "hp"), .inl ⟨rfl, rfl⟩, fun HZ gZ => ⟨_, rfl, iteN (by decide) ?_⟩⟩
    refine ⟨(by show 0 ≤ sizeLine; decide), ?_⟩; o_unpack e0
    refine ⟨_, rfl, _, rfl, 6, e0, x2, Str.ofString "keep", C_NoKeep, x2, d2, rfl, (.kept (bk2.same (by walk_at "hp"))), th2.same (by walk_at "hp"), .inr (.inl ⟨rfl, rfl⟩), fun HZ gZ => ⟨_, rfl, iteN (by decide) ?_⟩⟩
    have gB : Same H1 HZ := by walk_at "hp"
    clear gZ
    refine ⟨_, rfl, dr, ws.map V.int, _, _, rfl, rfl, (by walk_at "hp"), h4, n4, rfl, by omega, by omega, ?_⟩
    rw [Int.toNat_natCast]
    refine comp_range (fun i ys H' => Same HZ H' ∧ ∃ ps : List Addr, ys = ps.map V.ref ∧ ps.length = i ∧ ∀ t ∈ ps, ∃ c s b, T3 K H' t c s b ∧ Ok3 c s b) ⟨Same.refl _, [], rfl, rfl, fun t ht => by simp at ht⟩ (fun i ys H' _ z => by obtain ⟨_, ps, rfl, hl, _⟩ := z; rw [List.length_map, hl]; exact Nat.le_refl _) (small1000 (by omega)) (fun i ys H' hi z => ?_) (fun ys H' z gd hgd => ?_)
    · obtain ⟨g, ps, rfl, hl, hps⟩ := z
      rw [Int.zero_add]
      refine ⟨_, rfl, _, rfl, _, _, rfl, rfl, .inl ⟨by decide, by decide⟩, _, _, rfl, rfl, (by show 3 ≤ sizeLine; decide), ?_⟩; o_unpack tp
      refine ⟨⟨(by walk_at "hp"), ps ++ [tp], (by rw [List.map_append]; rfl), (by rw [List.length_append, hl]; rfl), fun t ht => ?_⟩, _, rfl⟩
      rcases List.mem_append.mp ht with ht | ht
      · obtain ⟨c, s, b, h1, h2⟩ := hps t ht
        exact ⟨c, s, b, Same.tp (by assumption) h1, h2⟩
      · rw [List.mem_singleton.mp ht]
        exact ⟨i, 0, 8 * i + 8, (by walk_at "hp"), by omega, .inr ⟨rfl, i + 1, by omega, by omega, by omega⟩⟩
    obtain ⟨g, ps, rfl, hl, hps⟩ := z
    have hG : GoodPs K H' ps := ⟨by omega, hps⟩
    clear hps
    generalize eX : upd _ gd _ = H5
    obtain ⟨g5, k5⟩ := new_facts eX hgd
    clear eX
    have hG5 := hG.same g5
    refine ⟨_, rfl, _, rfl, (by show 2 ≤ sizeLine; decide), ?_⟩; o_unpack q1
    refine ⟨gd, q1, ps.map V.ref, [x4, .non], rfl, rfl, (by walk_at "hp"), (by walk_at "hp"), (by rw [List.length_map]; exact small (by simp only [List.length_cons, List.length_nil]; omega)), ?_⟩; o_unpack q2
    refine ⟨_, rfl, (by show 1 ≤ sizeLine; decide), ?_⟩; o_unpack q3
    refine ⟨(by show 0 ≤ sizeLine; decide), ?_⟩; o_unpack q4
    refine ⟨(by show 3 ≤ sizeLine; decide), fun q5 hq5 => ?_⟩
    generalize eX : upd _ q5 _ = H6
    obtain ⟨g6, k6⟩ := new_facts eX hq5
    clear eX
    have kq2 : H6 q2 = some (.lst (ps.map V.ref ++ [x4, .non])) := by walk_at "hp"
    have kq3 : H6 q3 = some (.lst [x4]) := by walk_at "hp"
    have kq4 : H6 q4 = some (.lst []) := by walk_at "hp"
    have gC : Same H5 H6 := by walk_at "hp"
    clear g6
    have hG6 := hG5.same gC
    refine ⟨q5, rfl, ⟨_, SqL.of k6⟩, for_list (xs := [.ref q2, .ref q3, .ref q4]) (fun i σ H' => ∃ o8 o10 : Option V, σ = [some (.ref dr), some x1, some x2, some x3, some x4, some (.ref ll), some (.ref bd), o8, some (.ref gd), o10] ∧ Same H6 H') ⟨_, _, rfl, Same.refl _⟩ (fun i σ H' _ z => ?_) (fun i y σ H' hy z => ?_) (fun σ H' z => ?_)⟩
    · obtain ⟨o8, o10, rfl, g7⟩ := z; exact SqL.of (g7 _ _ k6)
    · obtain ⟨o8, o10, rfl, g7⟩ := z
      have h13 := th4.dat
      obtain ⟨rp, xs, rfl, hrp, hxs⟩ : ∃ (rp : Addr) (xs : List V), y = .ref rp ∧ H6 rp = some (.lst xs) ∧ (xs ≠ [] → ∃ (qs : List Addr) (rest : List V), xs = qs.map V.ref ++ x4 :: rest ∧ GoodPs K H6 qs) := by
        match i, hy with
        | 0, e => cases e; exact ⟨q2, _, rfl, kq2, fun _ => ⟨ps, [.non], rfl, hG6⟩⟩
        | 1, e => cases e; exact ⟨q3, _, rfl, kq3, fun _ => ⟨[], [], rfl, (by show 0 ≤ 10; decide), fun t ht => by simp at ht⟩⟩
        | 2, e => cases e; exact ⟨q4, _, rfl, kq4, fun z => absurd rfl z⟩
        | n + 3, e => simp at e
      refine ⟨_, rfl, _, rfl, _, rfl, 4, rp, x3, Str.ofString "line", C_NoLine, x3, d3, rfl, (.wide xs (by walk_at "hp") (bw3.same (by walk_at "hp"))), th3.same (by walk_at "hp"), .inl ⟨rfl, rfl⟩, fun HZ gZ => ⟨_, rfl, iteN (by decide) ?_⟩⟩
      refine ⟨_, rfl, (by show 0 ≤ sizeLine; decide), ?_⟩; o_unpack e1
      refine ⟨rp, e1, xs, rfl, rfl, (by walk_at "hp"), (by walk_at "hp"), _, rfl, ?_⟩
      cases xs with
      | nil => exact iteN (by decide) (iteF ⟨_, _, rfl, (by walk_at "hp")⟩)
      | cons z zs =>
        obtain ⟨qs, rest, hx, hq⟩ := hxs (by simp)
        refine iteP rfl ?_
        refine ⟨_, rfl, _, rfl, dr, ws.map V.int, _, _, rfl, rfl, (by walk_at "hp"), h6, _, _, rfl, rfl, _, rfl, ?_⟩
        dsimp only
        rw [show (1 : Int) + (n6 : Int) = ((1 + n6 : Nat) : Int) by omega]
        refine ⟨4, rp, .int ((1 + n6 : Nat) : Int), Str.ofString "place", C_NoPlace, x4, d4, rfl, (.place (1 + n6) qs d4 rest (by omega) (by omega) (hx ▸ (show SqL K _ rp (z :: zs) from (by walk_at "hp"))) (hq.same (by walk_at "hp")) (th4.dat.same (by walk_at "hp")) ng4), th4.same (by walk_at "hp"), .inr (.inr ⟨rfl, rfl⟩), fun HZ gZ => ⟨_, rfl, iteN (by decide) ?_⟩⟩
        exact ⟨_, _, rfl, (by walk_at "hp")⟩
    · obtain ⟨o8, o10, rfl, g7⟩ := z
      exact q _ (by walk_at "hp")
end
end K52

namespace K52
open PySem L2 PyProof.Rows
abbrev s_looks_between : Stmt := top 25
theorem sc_looks_between : FnScope ["rows", "places", "first", "last", "found", "line", "touched"] ["rows", "places", "first", "last"] (defScope s_looks_between) := ⟨rfl, rfl, rfl, by decide +kernel, rfl, by decide +kernel, by decide +kernel⟩
section
variable {P : Program} {w : World} {K : PySem.W.Frag} {mg : Str → Option Value} {base : Heap}
theorem ok_looks_between {k : Nat} {f : Addr} {fd : FuncData} (F : Fun K "looks_between" "looks_between" s_looks_between f fd) (M : Blt mg) {t1 t2 t3 t4 t5 : Tok} {ts : Addr} (C : Cst K mg t1 t2 t3 t4 t5 ts) {C_Kept f_Kept_init : Addr} (T_Kept : TCls K mg "Kept" C_Kept f_Kept_init ["bound", "held"]) {C_RoomError f_RoomError_init : Addr} (T_RoomError : TXB K mg C_RoomError f_RoomError_init) (VI : VInit K) {C_NoKeep f_NoKeep_init : Addr} (T_NoKeep : TX K mg "NoKeep" C_NoKeep C_RoomError f_NoKeep_init ["found"]) {C_NoLine f_NoLine_init : Addr} (T_NoLine : TX K mg "NoLine" C_NoLine C_RoomError f_NoLine_init ["found"]) {C_NoPlace f_NoPlace_init : Addr} (T_NoPlace : TX K mg "NoPlace" C_NoPlace C_RoomError f_NoPlace_init ["found"]) : FnOk P w K mg base CX0 (k + 2) f fd ["rows", "places", "first", "last"] (spLB K) := by
  refine F.ok sc_looks_between (fun vs H Q E h => ?_) (fun cdv A outer s0 H vs Q E hr0 h => ?_)
  · obtain ⟨a, b, zs, f', l', rfl, _⟩ := h; rfl
  obtain ⟨a, b, zs, f', l', rfl, ha, hb, hz, h10, h9, q⟩ := h
  have hr := hr0.mono (Nat.le_succ _)
  refine ⟨_, (pss_cons (ps_set (i := 4) sc_looks_between.nd rfl (by first | exact Or.inl rfl | exact Or.inr rfl) (pe_lst pa_nil))
      (pss_cons (ps_for PassesOwn.never rfl (pi_zip rfl M.zip (pa_cons (pv 0) (pa_cons (pv 1) pa_nil))) (pg_tup rfl (pgs_cons (pg_name (i := 5) sc_looks_between.nd rfl (Or.inl rfl)) (pgs_cons (pg_name (i := 6) sc_looks_between.nd rfl (Or.inl rfl)) pgs_nil))) (pss_one (ps_if (pt_chain op_le op_le (pv 2) (pv 5) (pv 3)) (pss_one (ps_expr (pe_bm PySem.F.plainAttrs_list PySem.F.slot_list_extend PySem.F.type_list_extend mt_extend (pv 4) (pa_cons (pv 6) pa_nil)))) pss_nil)))
      (pss_one (ps_ret (pv 4))))), ?_⟩
  refine ⟨(by show 0 ≤ sizeLine; decide), fun r hr => ?_⟩
  generalize eX : upd _ r _ = H1
  obtain ⟨g1, k1⟩ := new_facts eX hr
  clear eX
  refine ⟨false, _, rfl, _, rfl, a, b, zrI zs, zrP zs, rfl, g1.seq ha, g1.seq hb, for_zip (b := false) (xs := zrI zs) (ys := zrP zs) (fun i σ H' => ∃ o5 o6 : Option V, σ = [some (.ref a), some (.ref b), some (.int f'), some (.int l'), some (.ref r), o5, o6] ∧ Same H H' ∧ H' r = some (.lst (selL (zs.take i) f' l')) ∧ (selL (zs.take i) f' l').length ≤ 10 * i) (by rw [List.length_map, List.length_map]) ⟨_, _, rfl, g1, k1, Nat.zero_le _⟩ (fun i σ H' _ z => ?_) (fun i x y σ H' p hx hy z hp => ?_) (fun σ H' z => ?_)⟩
  · obtain ⟨o5, o6, rfl, g, _⟩ := z
    exact ⟨g.seq ha, g.seq hb⟩
  · obtain ⟨o5, o6, rfl, g, k, hl⟩ := z
    have hi : i < zs.length := by have := (List.getElem?_eq_some_iff.mp hx).1; rw [List.length_map] at this; exact this
    have hzi := List.getElem?_eq_getElem hi
    rw [List.getElem?_map, hzi] at hx hy
    cases hx
    cases hy
    have hzm := List.getElem_mem hi
    have e := selL_take f' l' hzi
    generalize zs[i] = z at hzi hzm e ⊢
    have kz := g _ _ (hz z hzm)
    have nzr : z.2.1 ≠ r := ne_of_none (hz z hzm) hr
    generalize eX : upd _ p _ = H2
    obtain ⟨g2, k2⟩ := new_facts eX hp
    clear eX
    have lz := h9 z hzm
    refine ⟨p, _, rfl, SqT.of k2, rfl, _, _, rfl, _, _, rfl, rfl, ?_⟩
    refine ⟨_, rfl, _, rfl, _, _, rfl, rfl, _, rfl, ?_⟩
    by_cases c1 : f' ≤ z.1
    · refine iteP (decide_eq_true c1) ⟨_, rfl, _, _, rfl, rfl, _, rfl, ?_⟩
      by_cases c2 : z.1 ≤ l'
      · rw [if_pos ⟨c1, c2⟩] at e
        refine iteP (decide_eq_true c2) ⟨_, rfl, .inl ⟨rfl, _, SqL.of (g2 _ _ k)⟩, _, rfl, r, z.2.1, _, _, rfl, rfl, g2 _ _ k, g2 _ _ kz, small (by omega), ?_⟩
        rw [← e]
        refine ⟨_, _, rfl, same_upd (g.trans g2) hr, upd_same, ?_⟩
        rw [e, List.length_append]; omega
      · rw [if_neg (fun z => c2 z.2), List.append_nil] at e
        refine iteN (by simp [c2]) ⟨_, _, rfl, g.trans g2, ?_, ?_⟩
        · rw [e]; exact g2 _ _ k
        · rw [e]; omega
    · rw [if_neg (fun z => c1 z.1), List.append_nil] at e
      refine iteN (by simp [c1]) ⟨_, rfl, iteN (by simp [c1]) ⟨_, _, rfl, g.trans g2, ?_, ?_⟩⟩
      · rw [e]; exact g2 _ _ k
      · rw [e]; omega
  · obtain ⟨o5, o6, rfl, g, k, hl⟩ := z
    rw [List.length_map, List.take_length] at k
    exact ⟨_, rfl, q r H' g hr k⟩
end
end K52

namespace K52
open PySem L2 PyProof.Rows
abbrev s_law_looks : Stmt := top 44
theorem sc_law_looks : FnScope ["_law_draws", "_law_rows", "_law_places", "_law_k", "_law_number", "_law_first", "_law_last", "_law_due", "_law_handed", "_law_told"] ["_law_draws"] (defScope s_law_looks) := ⟨rfl, rfl, rfl, by decide +kernel, rfl, by decide +kernel, by decide +kernel⟩
section
variable {P : Program} {w : World} {K : PySem.W.Frag} {mg : Str → Option Value} {base : Heap}
theorem ok_law_looks {k : Nat} {f : Addr} {fd : FuncData} (F : Fun K "_law_looks" "_law_looks" s_law_looks f fd) (M : Blt mg) {t1 t2 t3 t4 t5 : Tok} {ts : Addr} (C : Cst K mg t1 t2 t3 t4 t5 ts) {C_Kept f_Kept_init : Addr} (T_Kept : TCls K mg "Kept" C_Kept f_Kept_init ["bound", "held"]) {C_RoomError f_RoomError_init : Addr} (T_RoomError : TXB K mg C_RoomError f_RoomError_init) (VI : VInit K) {C_NoKeep f_NoKeep_init : Addr} (T_NoKeep : TX K mg "NoKeep" C_NoKeep C_RoomError f_NoKeep_init ["found"]) {C_NoLine f_NoLine_init : Addr} (T_NoLine : TX K mg "NoLine" C_NoLine C_RoomError f_NoLine_init ["found"]) {C_NoPlace f_NoPlace_init : Addr} (T_NoPlace : TX K mg "NoPlace" C_NoPlace C_RoomError f_NoPlace_init ["found"]) {f_looks_between : Addr} {fd_looks_between : FuncData} (D_looks_between : Df K mg "looks_between" f_looks_between fd_looks_between ["rows", "places", "first", "last"]) (G_looks_between : FnOk P w K mg base CX0 k f_looks_between fd_looks_between ["rows", "places", "first", "last"] (spLB K)) : FnOk P w K mg base CX0 (k + 2) f fd ["_law_draws"] (spHeldD K) := by
  refine F.ok sc_law_looks (fun vs H Q E h => ?_) (fun cdv A outer s0 H vs Q E hr0 h => ?_)
  · obtain ⟨dr, ws, rfl, _⟩ := h; rfl
  obtain ⟨dr, ws, rfl, hS, hB, q⟩ := h
  have hr := hr0.mono (Nat.le_succ _)
  refine ⟨_, (pss_cons (ps_set (i := 1) sc_law_looks.nd rfl (by first | exact Or.inl rfl | exact Or.inr rfl) (pe_lst pa_nil))
      (pss_cons (ps_set (i := 2) sc_law_looks.nd rfl (by first | exact Or.inl rfl | exact Or.inr rfl) (pe_lst pa_nil))
      (pss_cons (ps_for PassesOwn.never rfl (pi_range1 rfl M.range (pa_cons (pe_ix ix_list (pv 0) pe_int (fun _ _ => rfl)) pa_nil)) (pg_name (i := 3) sc_law_looks.nd rfl (Or.inl rfl)) (pss_cons (ps_set (i := 4) sc_law_looks.nd rfl (by first | exact Or.inl rfl | exact Or.inr rfl) (pe_ix ix_list (pv 0) (pe_op op_add pe_int (pv 3)) (fun _ _ => rfl)))
      (pss_cons (ps_expr (pe_bm PySem.F.plainAttrs_list PySem.F.slot_list_append PySem.F.type_list_append mt_append (pv 1) (pa_cons (pe_op op_mod (pv 4) pe_int) pa_nil)))
      (pss_one (ps_expr (pe_bm PySem.F.plainAttrs_list PySem.F.slot_list_append PySem.F.type_list_append mt_append (pv 2) (pa_cons (pe_comp ["_law_j"] ["_law_number"] [4] rfl (pi_range1 rfl M.range (pa_cons (pe_op op_mod (pe_op op_fdiv (pv 4) pe_int) pe_int) pa_nil)) rfl ⟨rfl, trivial⟩ ⟨⟨rfl, rfl, rfl, _, rfl⟩, trivial⟩ (fun _ _ _ _ => (pg_name (i := 0) (show List.Nodup (["_law_j", "_law_number"] : List Str) from by decide +kernel) rfl (Or.inl rfl))) (fun _ _ _ _ => pif_nil) (fun _ _ _ _ => (pe_tup (pa_cons (pe_op op_add (pe_op op_mod (pe_op op_fdiv (pv 1) pe_int) pe_int) (pv 0)) (pa_cons pe_int (pa_cons pe_int pa_nil)))))) pa_nil)))))))
      (pss_cons (ps_set (i := 5) sc_law_looks.nd rfl (by first | exact Or.inl rfl | exact Or.inr rfl) (pe_op op_mod (pe_ix ix_list (pv 0) pe_int (fun _ _ => rfl)) pe_int))
      (pss_cons (ps_set (i := 6) sc_law_looks.nd rfl (by first | exact Or.inl rfl | exact Or.inr rfl) (pe_op op_fdiv (pe_ix ix_list (pv 0) pe_int (fun _ _ => rfl)) pe_int))
      (pss_cons (ps_set (i := 7) sc_law_looks.nd rfl (by first | exact Or.inl rfl | exact Or.inr rfl) (pe_lst pa_nil))
      (pss_cons (ps_for PassesOwn.never rfl (pi_range1 rfl M.range (pa_cons (pe_callB call_len_seq rfl M.len PySem.boot_len (pa_cons (pv 1) pa_nil)) pa_nil)) (pg_name (i := 3) sc_law_looks.nd rfl (Or.inl rfl)) (pss_one (ps_if (PW.pt (pw_and (pt_cmpR op_ge (pe_ix ix_list (pv 1) (pv 3) (fun _ _ => rfl)) (pv 5) (nomark _)) (pw_and1 (pt_cmpR op_le (pe_ix ix_list (pv 1) (pv 3) (fun _ _ => rfl)) (pv 6) (nomark _))))) (pss_one (ps_set (i := 7) sc_law_looks.nd rfl (by first | exact Or.inl rfl | exact Or.inr rfl) (pe_op op_catS (pv 7) (pe_ix ix_list (pv 2) (pv 3) (fun _ _ => rfl))))) pss_nil)))
      (pss_cons (ps_setC (i := 8) ["_law_some"] [] [] sc_law_looks.nd rfl rfl rfl (pi_list (pv 2)) rfl trivial trivial (fun _ _ _ _ => (pg_name (i := 0) (show List.Nodup (["_law_some"] : List Str) from by decide +kernel) rfl (Or.inl rfl))) (fun _ _ _ _ => pif_nil) (fun _ _ _ _ => (pe_callTy (call_listK (K := K) rfl) rfl M.list boot_list (pa_cons (pv 0) pa_nil))))
      (pss_cons (ps_set (i := 9) sc_law_looks.nd rfl (by first | exact Or.inl rfl | exact Or.inr rfl) (pe_call G_looks_between hr rfl D_looks_between.m D_looks_between.k D_looks_between.b .nil pass0 (pa_cons (pe_callTy call_list_of rfl M.list boot_list (pa_cons (pv 1) pa_nil)) (pa_cons (pv 8) (pa_cons (pv 5) (pa_cons (pv 6) pa_nil))))))
      (pss_cons (ps_if (PW.pt (pw_or (pt_not (pt_val (pe_callB call_isi rfl M.isinstance boot_isinstance (pa_cons (pv 9) (pa_cons (pe_bltn (v := .ty "list") rfl M.list boot_list rfl) pa_nil))))) (pw_or1 (pt_cmpR (op_neE hr.units) (pv 9) (pv 7) (nomark _))))) (pss_one (ps_ret pe_bl)) pss_nil)
      (pss_cons (ps_expr (pe_bm PySem.F.plainAttrs_list PySem.F.slot_list_append PySem.F.type_list_append mt_append (pv 9) (pa_cons (pe_tup (pa_cons pe_int (pa_cons pe_int (pa_cons pe_int pa_nil)))) pa_nil)))
      (pss_one (ps_ret (pe_and (pe_cmpR (op_eqE hr.units) (pv 8) (pv 2) (nomark _)) (pe_one (pe_cmpR (op_eqE hr.units) (pe_call G_looks_between hr rfl D_looks_between.m D_looks_between.k D_looks_between.b .nil pass0 (pa_cons (pv 1) (pa_cons (pv 8) (pa_cons (pv 5) (pa_cons (pv 6) pa_nil))))) (pv 7) (nomark _))))))))))))))))), ?_⟩
  obtain ⟨n7, h7, b7⟩ := hB.at (i := 7) rfl
  obtain ⟨n8, h8, b8⟩ := hB.at (i := 8) rfl
  refine ⟨(by show 0 ≤ sizeLine; decide), fun ra hra => ?_⟩
  generalize eX : upd _ ra _ = H1
  obtain ⟨g1, k1⟩ := new_facts eX hra
  clear eX
  refine ⟨(by show 0 ≤ sizeLine; decide), fun pa hpa => ?_⟩
  generalize eX : upd _ pa _ = H2
  obtain ⟨g2, k2⟩ := new_facts eX hpa
  clear eX
  have hpa0 : H pa = none := g1.free hpa
  have nrp : ra ≠ pa := ne_of_none k1 hpa
  refine ⟨_, rfl, dr, ws.map V.int, _, _, rfl, rfl, (by walk_at "hp"), h7, n7, rfl, by omega, by omega, ?_⟩
  rw [Int.toNat_natCast]
  refine for_range (n := n7) (fun i σ H' => ∃ (zs : List Zr) (o3 o4 : Option V), σ = [some (.ref dr), some (.ref ra), some (.ref pa), o3, o4, none, none, none, none, none] ∧ Same H H' ∧ H' ra = some (.lst (zrI zs)) ∧ H' pa = some (.lst (zrP zs)) ∧ zs.length = i ∧ Zs H' zs ∧ ∀ z ∈ zs, z.2.1 ≠ ra ∧ z.2.1 ≠ pa) ⟨[], _, _, rfl, g1.trans g2, g2 _ _ k1, k2, rfl, ⟨fun z hz => by simp at hz, fun z hz => by simp at hz, fun z hz => by simp at hz⟩, fun z hz => by simp at hz⟩ (fun i σ H' hi z => ?_) (fun σ H' z => ?_)
  · obtain ⟨zs, o3, o4, rfl, g, kr, kp, hl, hz, hn⟩ := z
    rw [Int.zero_add]
    obtain ⟨nn, hnn, bn⟩ := hB.at (i := 9 + i) (sz_at ⟨i, by omega⟩)
    refine ⟨_, rfl, _, rfl, _, _, rfl, rfl, dr, ws.map V.int, _, _, rfl, rfl, g.seq hS, (by rw [show (9 : Int) + (i : Int) = ((9 + i : Nat) : Int) by omega]; exact hnn), ?_⟩
    refine ⟨_, rfl, .inl ⟨rfl, _, SqL.of kr⟩, _, rfl, _, _, rfl, rfl, (by show (0 : Int) < 10; decide), ra, _, _, rfl, rfl, kr, (by rw [List.length_map]; exact small1000 (by omega)), ?_⟩
    have kr3 : upd H' ra (.lst (zrI zs ++ [.int ((nn : Int) % 10)])) ra = some (.lst (zrI zs ++ [.int ((nn : Int) % 10)])) := upd_same
    have kp3 : upd H' ra (.lst (zrI zs ++ [.int ((nn : Int) % 10)])) pa = some (.lst (zrP zs)) := (upd_ne (Ne.symm nrp)).trans kp
    have g3 : Same H (upd H' ra (.lst (zrI zs ++ [.int ((nn : Int) % 10)]))) := same_upd g hra
    have hz3 : ∀ z ∈ zs, upd H' ra (.lst (zrI zs ++ [.int ((nn : Int) % 10)])) z.2.1 = some (.lst z.2.2) := fun z hz' => (upd_ne (hn z hz').1).trans (hz.at' z hz')
    generalize upd H' ra (.lst (zrI zs ++ [.int ((nn : Int) % 10)])) = H3 at kr3 kp3 g3 hz3 ⊢
    refine ⟨_, rfl, .inl ⟨rfl, _, SqL.of kp3⟩, _, rfl, _, _, rfl, rfl, ⟨by decide, by decide⟩, _, _, rfl, rfl, (by show (0 : Int) < 4; decide), _, rfl, by omega, by omega, ?_⟩
    refine comp_range (fun j ys H4 => Same H3 H4 ∧ ys.length = j ∧ ∀ v ∈ ys, SelfV v) ⟨Same.refl _, rfl, fun v hv => by simp at hv⟩ (fun j ys H4 _ z => Nat.le_of_eq z.2.1) (small1000 (by omega)) (fun j ys H4 hj z => ?_) (fun ys H4 z lz hlz => ?_)
    · obtain ⟨g4, hl4, hs4⟩ := z
      refine ⟨_, rfl, _, _, rfl, rfl, ⟨by decide, by decide⟩, _, _, rfl, rfl, (by show (0 : Int) < 50; decide), _, rfl, _, _, rfl, rfl, (by show 3 ≤ sizeLine; decide), ?_⟩; o_unpack tt
      refine ⟨⟨(by walk_at "hp"), (by rw [List.length_append, hl4]; rfl), fun v hv => ?_⟩, _, rfl⟩
      rcases List.mem_append.mp hv with hv | hv
      · exact hs4 v hv
      · rw [List.mem_singleton.mp hv]; exact .inr ⟨_, rfl⟩
    obtain ⟨g4, hl4, hs4⟩ := z
    generalize eX : upd _ lz _ = H5
    obtain ⟨g5, k5⟩ := new_facts eX hlz
    clear eX
    have gS := g4.trans g5
    have nlp : lz ≠ pa := Ne.symm (ne_of_none (g4 _ _ kp3) hlz)
    have nlr : lz ≠ ra := Ne.symm (ne_of_none (g4 _ _ kr3) hlz)
    refine ⟨pa, _, _, rfl, rfl, gS _ _ kp3, (by rw [List.length_map]; exact small1000 (by omega)), ?_⟩
    refine ⟨zs ++ [((nn : Int) % 10, lz, ys)], _, _, rfl, same_upd (g3.trans gS) hpa0, ?_, ?_, ?_, ⟨fun z hz' => ?_, fun z hz' => ?_, fun z hz' => ?_⟩, fun z hz' => ?_⟩
    · rw [upd_ne nrp, gS _ _ kr3, zrI_snoc]
    · rw [upd_same, zrP_snoc]
    · rw [List.length_append, hl]; rfl
    · rcases List.mem_append.mp hz' with hz' | hz'
      · rw [upd_ne (hn z hz').2]; exact gS _ _ (hz3 z hz')
      · rw [List.mem_singleton.mp hz', upd_ne nlp]; exact k5
    · rcases List.mem_append.mp hz' with hz' | hz'
      · exact hz.len z hz'
      · rw [List.mem_singleton.mp hz']; show ys.length ≤ 9; omega
    · rcases List.mem_append.mp hz' with hz' | hz'
      · exact hz.slf z hz'
      · rw [List.mem_singleton.mp hz']; exact hs4
    · rcases List.mem_append.mp hz' with hz' | hz'
      · exact hn z hz'
      · rw [List.mem_singleton.mp hz']; exact ⟨nlr, nlp⟩
  obtain ⟨zs, o3, o4, rfl, g, kr, kp, hl, hz, _⟩ := z
  clear g2 k1 k2
  refine ⟨_, rfl, dr, ws.map V.int, _, _, rfl, rfl, (by walk_at "hp"), h8, _, _, rfl, rfl, (by show (0 : Int) < 10; decide), ?_⟩
  refine ⟨_, rfl, dr, ws.map V.int, _, _, rfl, rfl, (by walk_at "hp"), h8, _, _, rfl, rfl, ⟨by decide, by decide⟩, ?_⟩
  dsimp only
  generalize (n8 : Int) % 10 = fi
  generalize (n8 : Int) / 10 = la
  refine ⟨(by show 0 ≤ sizeLine; decide), fun du0 hdu => ?_⟩
  generalize eX : upd _ du0 _ = H3
  obtain ⟨g3, k3⟩ := new_facts eX hdu
  clear eX
  have hz3 := hz.same g3
  have zl : (zrI zs).length = n7 := by rw [List.length_map, hl]
  refine ⟨_, rfl, ra, zrI zs, rfl, .inl (by walk_at "hp"), n7, (by rw [zl]), by omega, by omega, ?_⟩
  rw [Int.toNat_natCast]
  refine for_range (n := n7) (fun i σ H' => ∃ (du : Addr) (o3 : Option V), σ = [some (.ref dr), some (.ref ra), some (.ref pa), o3, o4, some (.int fi), some (.int la), some (.ref du), none, none] ∧ Same H3 H' ∧ H' du = some (.lst (selL (zs.take i) fi la))) ⟨du0, _, rfl, Same.refl _, k3⟩ (fun i σ H4 hi z => ?_) (fun σ H4 z => ?_)
  · obtain ⟨du, o3, rfl, g4, k4⟩ := z
    rw [Int.zero_add]
    have hzi := List.getElem?_eq_getElem (show i < zs.length by omega)
    have hzm := List.getElem_mem (show i < zs.length by omega)
    have e := selL_take fi la hzi
    have lsel : (selL (zs.take i) fi la).length ≤ 90 := Nat.le_trans (selL_len fun z hz' => hz3.len z (List.mem_of_mem_take hz')) (by rw [List.length_take]; omega)
    have hat : atI (zrI zs) (i : Int) = some (.int zs[i].1) := atI_nat (by rw [List.getElem?_map, hzi]; rfl)
    have hat2 : atI (zrP zs) (i : Int) = some (.ref zs[i].2.1) := atI_nat (by rw [List.getElem?_map, hzi]; rfl)
    have kz := g4 _ _ (hz3.at' _ hzm)
    have lz := hz3.len _ hzm
    generalize zs[i] = z at hzi hzm e hat hat2 kz lz
    refine ⟨_, rfl, _, rfl, ra, zrI zs, _, _, rfl, rfl, (by walk_at "hp"), hat, _, rfl, _, _, rfl, rfl, _, rfl, ?_⟩
    by_cases c1 : fi ≤ z.1
    · refine iteP (decide_eq_true c1) ⟨_, rfl, _, rfl, ra, zrI zs, _, _, rfl, rfl, (by walk_at "hp"), hat, _, rfl, _, _, rfl, rfl, _, rfl, ?_⟩
      by_cases c2 : z.1 ≤ la
      · rw [if_pos ⟨c1, c2⟩] at e
        refine iteP (decide_eq_true c2) ⟨_, rfl, _, rfl, _, rfl, pa, zrP zs, _, _, rfl, rfl, (by walk_at "hp"), hat2, du, z.2.1, _, _, rfl, rfl, SqL.of k4, SqL.of kz, small (by omega), ?_⟩
        rw [← e]
        o_unpack d2
        exact ⟨d2, _, rfl, (by walk_at "hp"), (by walk_at "hp")⟩
      · rw [if_neg (fun z => c2 z.2), List.append_nil] at e
        exact iteN (by simp [c2]) ⟨du, _, rfl, g4, (by rw [e]; exact k4)⟩
    · rw [if_neg (fun z => c1 z.1), List.append_nil] at e
      exact iteN (by simp [c1]) (iteF ⟨du, _, rfl, g4, (by rw [e]; exact k4)⟩)
  obtain ⟨du, o3, rfl, g4, k4⟩ := z
  rw [← hl, List.take_length] at k4
  have hz4 := hz3.same g4
  have kp4 : H4 pa = some (.lst (zrP zs)) := by walk_at "hp"
  refine ⟨_, rfl, pa, rfl, ⟨_, SqL.of kp4⟩, comp_list (xs := zrP zs) (fun i ys H' => Same H4 H' ∧ ∃ zs2 : List Zr, ys = zrP zs2 ∧ zrC zs2 = zrC (zs.take i) ∧ ∀ z ∈ zs2, H' z.2.1 = some (.lst z.2.2)) ⟨Same.refl _, [], rfl, rfl, fun z hz => by simp at hz⟩ (fun i ys H' hi z => ?_) (by rw [List.length_map]; exact small1000 (by omega)) (fun i x ys H' hx z => ?_) (fun ys H' z hd hhd => ?_)⟩
  · obtain ⟨g5, zs2, rfl, hc, _⟩ := z
    have := congrArg List.length hc
    rw [List.length_map, List.length_map, List.length_take] at this
    exact ⟨SqL.of (g5 _ _ kp4), by rw [List.length_map]; omega⟩
  · obtain ⟨g5, zs2, rfl, hc, hz2⟩ := z
    have hi : i < zs.length := by have := (List.getElem?_eq_some_iff.mp hx).1; rw [List.length_map] at this; exact this
    have hzi := List.getElem?_eq_getElem hi
    rw [List.getElem?_map, hzi] at hx
    cases hx
    have kz := g5 _ _ (hz4.at' _ (List.getElem_mem hi))
    refine ⟨_, rfl, zs[i].2.1, zs[i].2.2, rfl, .inl (SqL.of kz), ?_⟩; o_unpack nl
    refine ⟨⟨(by walk_at "hp"), zs2 ++ [(zs[i].1, nl, zs[i].2.2)], (zrP_snoc zs2 (zs[i].1, nl, zs[i].2.2)).symm, ?_, fun z hz' => ?_⟩, _, rfl⟩
    · rw [zrC_snoc, hc, show zs.take (i + 1) = zs.take i ++ [zs[i]] by rw [List.take_add_one, hzi] <;> rfl, zrC_snoc]
    · rcases List.mem_append.mp hz' with hz' | hz'
      · exact Same.at (by assumption) (hz2 z hz')
      · rw [List.mem_singleton.mp hz']; assumption
  obtain ⟨g5, zs2, rfl, hc, hz2⟩ := z
  rw [List.length_map, List.take_length] at hc
  have hcl := congrArg List.length hc
  rw [List.length_map, List.length_map] at hcl
  generalize eX : upd _ hd _ = H6
  obtain ⟨g6, k6⟩ := new_facts eX hhd
  clear eX
  have e12 : ∀ z ∈ zs2, ∃ y ∈ zs, z.2.2 = y.2.2 := fun z hz' => by
    obtain ⟨i, hi, rfl⟩ := List.mem_iff_getElem.mp hz'
    exact ⟨zs[i], List.getElem_mem _, zrC_get hc (List.getElem?_eq_getElem hi) (List.getElem?_eq_getElem (by omega))⟩
  have Z2 : Zs H6 zs2 := ⟨fun z hz' => g6 _ _ (hz2 z hz'), fun z hz' => by obtain ⟨y, hy, e⟩ := e12 z hz'; rw [e]; exact hz4.len y hy, fun z hz' => by obtain ⟨y, hy, e⟩ := e12 z hz'; rw [e]; exact hz4.slf y hy⟩
  have eS : selL zs2 fi la = selL zs fi la := selL_zrC fi la hc
  have eI : zrI zs2 = zrI zs := zrI_zrC hc
  have sS := selL_self (f := fi) (l := la) hz4.slf
  refine ⟨_, rfl, ra, zrI zs, rfl, .inl (by walk_at "hp"), fun rl hrl => ?_⟩
  generalize eX : upd _ rl _ = H7
  obtain ⟨g7, k7⟩ := new_facts eX hrl
  clear eX
  refine ⟨_, rfl, _, rfl, _, rfl, rl, hd, zs2, fi, la, rfl, (by rw [eI]; exact SqL.of k7), SqL.of (g7 _ _ k6), (Z2.same g7).at', by omega, Z2.len, fun tl H8 g8 htl k8 => ?_⟩
  have kd7 : H7 du = some (.lst (selL zs fi la)) := by walk_at "hp"
  have kp7 : H7 pa = some (.lst (zrP zs)) := by walk_at "hp"
  have kr7 : H7 ra = some (.lst (zrI zs)) := by walk_at "hp"
  have kh7 : H7 hd = some (.lst (zrP zs2)) := by walk_at "hp"
  have gH7 : Same H H7 := by walk_at "hp"
  have hz7 := ((hz4.same g5).same g6).same g7
  have Z7 := Z2.same g7
  refine ⟨_, rfl, _, _, "list", rfl, by decide, .inl ⟨rfl, _, SqL.of k8⟩, _, rfl, iteN (by decide) ?_⟩
  refine ⟨_, rfl, _, rfl, tl, du, _, _, rfl, rfl, SqL.of k8, SqL.of (g8 _ _ kd7), (by rw [eS]), eqs_same eS (by rw [eS]; exact sS), _, rfl, iteN (by decide) ?_⟩
  refine ⟨_, rfl, .inl ⟨rfl, _, SqL.of k8⟩, (by show 3 ≤ sizeLine; decide), fun tt htt => ?_⟩
  generalize eX : upd _ tt _ = H9
  obtain ⟨g9, k9⟩ := new_facts eX htt
  clear eX
  have lsel : (selL zs2 fi la).length ≤ 90 := Nat.le_trans (selL_len Z2.len) (by omega)
  refine ⟨tl, _, _, rfl, rfl, g9 _ _ k8, small1000 (by omega), ?_⟩
  have gT : Same H7 (upd H9 tl (.lst (selL zs2 fi la ++ [.ref tt]))) := same_upd (g8.trans g9) htl
  generalize upd H9 tl (.lst (selL zs2 fi la ++ [.ref tt])) = HT at gT ⊢
  clear g9 g8 k9 k8
  have hzT := hz7.same gT
  have ZT := Z7.same gT
  refine ⟨_, rfl, _, rfl, hd, pa, zrP zs2, zrP zs, rfl, rfl, SqL.of (gT _ _ kh7), SqL.of (gT _ _ kp7), (by rw [List.length_map, List.length_map]; exact hcl), ?_, _, rfl, iteP rfl ?_⟩
  · intro i x y hx hy
    have hi : i < zs2.length := by have := (List.getElem?_eq_some_iff.mp hx).1; rw [List.length_map] at this; exact this
    have hi1 : i < zs.length := by omega
    have h1 := List.getElem?_eq_getElem hi
    have h2 := List.getElem?_eq_getElem hi1
    rw [List.getElem?_map, h1] at hx
    rw [List.getElem?_map, h2] at hy
    cases hx
    cases hy
    have e := zrC_get hc h1 h2
    exact .lst (SqL.of (ZT.at' _ (List.getElem_mem hi))) (SqL.of (hzT.at' _ (List.getElem_mem hi1))) (by rw [e]) (eqs_same e (ZT.slf _ (List.getElem_mem hi)))
  refine ⟨_, rfl, _, rfl, _, rfl, _, rfl, ra, hd, zs2, fi, la, rfl, (by rw [eI]; exact SqL.of (gT _ _ kr7)), SqL.of (gT _ _ kh7), ZT.at', by omega, Z2.len, fun t2 HA gA ht2 kA => ?_⟩
  refine ⟨_, rfl, t2, du, _, _, rfl, rfl, SqL.of kA, SqL.of (gA _ _ (gT _ _ kd7)), (by rw [eS]), eqs_same eS (by rw [eS]; exact sS), ?_⟩
  exact q _ (by walk_at "hp")
end
end K52

namespace K52
open PySem L2 PyProof.Rows
abbrev s_law : Stmt := top 45
theorem sc_law : FnScope ["_law_script", "_law_cell", "_law_draws"] ["_law_script"] (defScope s_law) := ⟨rfl, rfl, rfl, by decide +kernel, rfl, by decide +kernel, by decide +kernel⟩
section
variable {P : Program} {w : World} {K : PySem.W.Frag} {mg : Str → Option Value} {base : Heap}
theorem ok_law {k : Nat} {f : Addr} {fd : FuncData} (F : Fun K "law" "law" s_law f fd) (M : Blt mg) {t1 t2 t3 t4 t5 : Tok} {ts : Addr} (C : Cst K mg t1 t2 t3 t4 t5 ts) {C_Kept f_Kept_init : Addr} (T_Kept : TCls K mg "Kept" C_Kept f_Kept_init ["bound", "held"]) {C_RoomError f_RoomError_init : Addr} (T_RoomError : TXB K mg C_RoomError f_RoomError_init) (VI : VInit K) {C_NoKeep f_NoKeep_init : Addr} (T_NoKeep : TX K mg "NoKeep" C_NoKeep C_RoomError f_NoKeep_init ["found"]) {C_NoLine f_NoLine_init : Addr} (T_NoLine : TX K mg "NoLine" C_NoLine C_RoomError f_NoLine_init ["found"]) {C_NoPlace f_NoPlace_init : Addr} (T_NoPlace : TX K mg "NoPlace" C_NoPlace C_RoomError f_NoPlace_init ["found"]) {f_law_drawn : Addr} {fd_law_drawn : FuncData} (D_law_drawn : Df K mg "_law_drawn" f_law_drawn fd_law_drawn ["_law_cell", "_law_sizes"]) (G_law_drawn : FnOk P w K mg base CX0 k f_law_drawn fd_law_drawn ["_law_cell", "_law_sizes"] (spDrawn K)) {f_law_held : Addr} {fd_law_held : FuncData} (D_law_held : Df K mg "_law_held" f_law_held fd_law_held ["_law_draws"]) (G_law_held : FnOk P w K mg base CX0 k f_law_held fd_law_held ["_law_draws"] (spHeldD K)) {f_law_looks : Addr} {fd_law_looks : FuncData} (D_law_looks : Df K mg "_law_looks" f_law_looks fd_law_looks ["_law_draws"]) (G_law_looks : FnOk P w K mg base CX0 k f_law_looks fd_law_looks ["_law_draws"] (spHeldD K)) : FnOk P w K mg base CX0 (k + 2) f fd ["_law_script"] (spLaw K) := by
  refine F.ok sc_law (fun vs H Q E h => ?_) (fun cdv A outer s0 H vs Q E hr0 h => ?_)
  · obtain ⟨a, ns, rfl, _⟩ := h; rfl
  obtain ⟨a, ns, rfl, hS, h63, q⟩ := h
  have hr := hr0.mono (Nat.le_succ _)
  refine ⟨_, (pss_cons (ps_for PassesOwn.never rfl (pi_list (pe_op op_cat (pe_slice sl_list (pv 0) po_none (po_some pe_int)) (pe_lst (pa_cons (pe_callB call_len_seq rfl M.len PySem.boot_len (pa_cons (pv 0) pa_nil)) pa_nil)))) (pg_name (i := 1) sc_law.nd rfl (Or.inl rfl)) (pss_cons (ps_set (i := 2) sc_law.nd rfl (by first | exact Or.inl rfl | exact Or.inr rfl) (pe_call G_law_drawn hr rfl D_law_drawn.m D_law_drawn.k D_law_drawn.b .nil pass0 (pa_cons (pv 1) (pa_cons (pe_op op_cat (pe_lst (pa_cons pe_int (pa_cons pe_int (pa_cons pe_int (pa_cons pe_int (pa_cons pe_int (pa_cons pe_int (pa_cons pe_int (pa_cons pe_int (pa_cons pe_int pa_nil se_const) se_const) se_const) se_const) se_const) se_const) se_const) se_const) se_const)) (pe_op op_rep (pe_lst (pa_cons pe_int pa_nil)) pe_int)) pa_nil))))
      (pss_one (ps_if (PW.pt (pw_or (pt_not (pt_val (pe_call G_law_held hr rfl D_law_held.m D_law_held.k D_law_held.b .nil pass0 (pa_cons (pv 2) pa_nil)))) (pw_or1 (pt_not (pt_val (pe_call G_law_looks hr rfl D_law_looks.m D_law_looks.k D_law_looks.b .nil pass0 (pa_cons (pv 2) pa_nil))))))) (pss_one (ps_ret pe_bl)) pss_nil))))
      (pss_one (ps_ret pe_bl))), ?_⟩
  refine ⟨_, rfl, _, rfl, a, _, rfl, hS, fun p1 hp1 => ?_⟩
  have cut : cutV (ns.map V.int) none (some 4) = (ns.take 4).map V.int := by
    rw [List.map_take]; exact cut_first _ 4
  rw [cut]
  generalize eX : upd _ p1 _ = H1
  obtain ⟨g1, k1⟩ := new_facts eX hp1
  clear eX
  refine ⟨_, rfl, a, _, rfl, .inl (g1.seq hS), (by show 1 ≤ sizeLine; decide), ?_⟩; o_unpack p2
  refine ⟨p1, p2, _, _, rfl, rfl, (by walk_at "hp"), (by assumption), (by rw [List.length_map, List.length_take]; exact small (by simp only [List.length_singleton]; omega)), fun p3 hp3 => ?_⟩
  obtain ⟨xs, ex, hxs⟩ : ∃ xs : List Int, (ns.take 4).map V.int ++ [V.int ((ns.map V.int).length : Nat)] = xs.map V.int ∧ xs.length ≤ 5 := by
    refine ⟨ns.take 4 ++ [(((ns.map V.int).length : Nat) : Int)], by rw [List.map_append]; rfl, ?_⟩
    rw [List.length_append, List.length_singleton, List.length_take]; omega
  rw [ex]
  generalize eX : upd _ p3 _ = H3
  obtain ⟨g3, k3⟩ := new_facts eX hp3
  clear eX
  refine ⟨p3, rfl, ⟨_, SqL.of k3⟩, for_list (xs := xs.map V.int) (fun i σ H' => (∃ o1 o2 : Option V, σ = [some (.ref a), o1, o2]) ∧ Same H3 H') ⟨⟨_, _, rfl⟩, Same.refl _⟩ (fun i σ H' _ z => SqL.of (z.2 _ _ k3)) (fun i x σ H' hx z => ?_) (fun σ H' z => q _)⟩
  obtain ⟨⟨o1, o2, rfl⟩, g4⟩ := z
  obtain ⟨c, hc, rfl⟩ := get_ints hx
  refine ⟨_, rfl, (by show 9 ≤ sizeLine; decide), ?_⟩; o_unpack q1
  refine ⟨(by show 1 ≤ sizeLine; decide), ?_⟩; o_unpack q2
  refine ⟨q2, 8, [.int 2000], rfl, rfl, (by assumption), by decide, by decide, (by show 1 * 8 ≤ sizeLine; decide), ?_⟩; o_unpack q3
  refine ⟨q1, q3, _, _, rfl, rfl, (by walk_at "hp"), (by assumption), (by show 9 + 8 ≤ sizeLine; decide), ?_⟩; o_unpack q4
  refine ⟨c, q4, SZ17, rfl, (show SqL K _ q4 (SZ17.map V.int) from by walk_at "hp"), ?_, (by decide), fun dr ws hd0 hB => ?_⟩
  · decide
  generalize eX : upd _ dr _ = H5
  obtain ⟨g5, k5⟩ := new_facts eX hd0
  clear eX
  refine ⟨_, rfl, dr, ws, rfl, SqL.of k5, hB, fun H6 g6 => ⟨_, rfl, iteN (by decide) ?_⟩⟩
  exact ⟨_, rfl, dr, ws, rfl, SqL.of (g6 _ _ k5), hB, fun H7 g7 => ⟨_, rfl, iteN (by decide) ⟨⟨_, _, rfl⟩, (by walk_at "hp")⟩⟩⟩
end
end K52

namespace K52
open PySem L2 PyProof.Rows
theorem all_mk {l : PySem.W.OpenLaw} {w : World} {K : PySem.W.Frag} {h : Heap} {mg : Str → Option Value} {fa f0 f1 f2 f3 f4 f5 f6 f7 f8 f9 f10 f11 f12 f13 f14 f15 f16 f17 f18 f19 f20 f21 f22 f23 f24 f25 f26 f27 f28 f29 f30 f31 f32 C_Kept C_RoomError C_NoKeep C_NoLine C_NoPlace : Addr} (X : K.In h) (G : h.Ns mainGlobals mg) (hfa : mg "law" = some (.ref fa))
    {od0 an0 od1 an1 od2 an2 od3 an3 od4 an4 od5 an5 od6 an6 od7 an7 od8 an8 od9 an9 od10 an10 od11 an11 od12 an12 od13 an13 od14 an14 od15 an15 od16 an16 od17 an17 od18 an18 od19 an19 od20 an20 od21 an21 od22 an22 od23 an23 od24 an24 od25 an25 od26 an26 od27 an27 od28 an28 od29 an29 od30 an30 od31 an31 od32 an32 : Option Addr} {sl0 sl1 sl2 sl3 sl4 sl5 sl6 sl7 sl8 sl9 sl10 sl11 sl12 sl13 sl14 sl15 sl16 sl17 sl18 sl19 sl20 sl21 sl22 sl23 sl24 sl25 sl26 sl27 sl28 sl29 sl30 sl31 sl32 : Array (Option Value)} {oc0 kV0 dc0 pm0 cd0 ct0 oc1 kV1 dc1 pm1 cd1 ct1 oc2 kV2 dc2 pm2 cd2 ct2 oc3 kV3 dc3 pm3 cd3 ct3 oc4 kV4 dc4 pm4 cd4 ct4 oc5 kV5 dc5 pm5 cd5 ct5 oc6 kV6 dc6 pm6 cd6 ct6 oc7 kV7 dc7 pm7 cd7 ct7 oc8 kV8 dc8 pm8 cd8 ct8 oc9 kV9 dc9 pm9 cd9 ct9 oc10 kV10 dc10 pm10 cd10 ct10 oc11 kV11 dc11 pm11 cd11 ct11 oc12 kV12 dc12 pm12 cd12 ct12 oc13 kV13 dc13 pm13 cd13 ct13 oc14 kV14 dc14 pm14 cd14 ct14 oc15 kV15 dc15 pm15 cd15 ct15 oc16 kV16 dc16 pm16 cd16 ct16 oc17 kV17 dc17 pm17 cd17 ct17 oc18 kV18 dc18 pm18 cd18 ct18 oc19 kV19 dc19 pm19 cd19 ct19 oc20 kV20 dc20 pm20 cd20 ct20 oc21 kV21 dc21 pm21 cd21 ct21 oc22 kV22 dc22 pm22 cd22 ct22 oc23 kV23 dc23 pm23 cd23 ct23 oc24 kV24 dc24 pm24 cd24 ct24 oc25 kV25 dc25 pm25 cd25 ct25 oc26 kV26 dc26 pm26 cd26 ct26 oc27 kV27 dc27 pm27 cd27 ct27 oc28 kV28 dc28 pm28 cd28 ct28 oc29 kV29 dc29 pm29 cd29 ct29 oc30 kV30 dc30 pm30 cd30 ct30 oc31 kV31 dc31 pm31 cd31 ct31 oc32 kV32 dc32 pm32 cd32 ct32 : Value} {t1 t2 t3 t4 t5 u0 u1 u2 u3 : Tok} {ts : Addr} {odt : Option Addr} {nt : Nat} {slt : Array (Option Value)} {xn0 xq0 : Str} {xN0 : Addr} {xb0 xs0 : List Value} {xl0 : List Str} {xa0 : Bool} {xc0 : Option Bool} {xd0 : Option Addr} {x00 x10 x20 x30 x50 : Option Value} {xn1 xq1 : Str} {xN1 : Addr} {xb1 xs1 : List Value} {xl1 : List Str} {xa1 : Bool} {xc1 : Option Bool} {xd1 : Option Addr} {x01 x11 x21 x31 x51 : Option Value} {xn2 xq2 : Str} {xN2 : Addr} {xb2 xs2 : List Value} {xl2 : List Str} {xa2 : Bool} {xc2 : Option Bool} {xd2 : Option Addr} {x02 x12 x22 x32 x52 : Option Value} {xn3 xq3 : Str} {xN3 : Addr} {xb3 xs3 : List Value} {xl3 : List Str} {xa3 : Bool} {xc3 : Option Bool} {xd3 : Option Addr} {x03 x13 x23 x33 x53 : Option Value}
    (g_Kept : PySem.W.nsIn K mainGlobals "Kept" = some (some (.ref C_Kept)))
    (g_RoomError : PySem.W.nsIn K mainGlobals "RoomError" = some (some (.ref C_RoomError)))
    (g_NoKeep : PySem.W.nsIn K mainGlobals "NoKeep" = some (some (.ref C_NoKeep)))
    (g_NoLine : PySem.W.nsIn K mainGlobals "NoLine" = some (some (.ref C_NoLine)))
    (g_NoPlace : PySem.W.nsIn K mainGlobals "NoPlace" = some (some (.ref C_NoPlace)))
    (a0 : PySem.W.findIn K (.ref C_RoomError) "__init__" = some (some (.ref f0)))
    (i0 : PySem.W.isFn K (.ref f0) = true)
    (l0 : K.lookup f0 = some ⟨oc0, od0, .func (PySem.W.fnOf "__init__" "RoomError.__init__" (defArgs s_RoomError_init) (defBody s_RoomError_init) (defScope s_RoomError_init) .none kV0 dc0 pm0 an0 cd0 ct0), sl0⟩)
    (c0 : PySem.W.codeIn K cd0 "RoomError.__init__" = true)
    (k0 : PySem.W.keepIn K (.ref f0) = true)
    (a1 : PySem.W.findIn K (.ref C_NoPlace) "__init__" = some (some (.ref f1)))
    (i1 : PySem.W.isFn K (.ref f1) = true)
    (l1 : K.lookup f1 = some ⟨oc1, od1, .func (PySem.W.fnOf "__init__" "NoPlace.__init__" (defArgs s_NoPlace_init) (defBody s_NoPlace_init) (defScope s_NoPlace_init) .none kV1 dc1 pm1 an1 cd1 ct1), sl1⟩)
    (c1 : PySem.W.codeIn K cd1 "NoPlace.__init__" = true)
    (k1 : PySem.W.keepIn K (.ref f1) = true)
    (a2 : PySem.W.findIn K (.ref C_NoLine) "__init__" = some (some (.ref f2)))
    (i2 : PySem.W.isFn K (.ref f2) = true)
    (l2 : K.lookup f2 = some ⟨oc2, od2, .func (PySem.W.fnOf "__init__" "NoLine.__init__" (defArgs s_NoLine_init) (defBody s_NoLine_init) (defScope s_NoLine_init) .none kV2 dc2 pm2 an2 cd2 ct2), sl2⟩)
    (c2 : PySem.W.codeIn K cd2 "NoLine.__init__" = true)
    (k2 : PySem.W.keepIn K (.ref f2) = true)
    (a3 : PySem.W.findIn K (.ref C_NoKeep) "__init__" = some (some (.ref f3)))
    (i3 : PySem.W.isFn K (.ref f3) = true)
    (l3 : K.lookup f3 = some ⟨oc3, od3, .func (PySem.W.fnOf "__init__" "NoKeep.__init__" (defArgs s_NoKeep_init) (defBody s_NoKeep_init) (defScope s_NoKeep_init) .none kV3 dc3 pm3 an3 cd3 ct3), sl3⟩)
    (c3 : PySem.W.codeIn K cd3 "NoKeep.__init__" = true)
    (k3 : PySem.W.keepIn K (.ref f3) = true)
    (a4 : PySem.W.nsIn K mainGlobals "is_whole" = some (some (.ref f4)))
    (l4 : K.lookup f4 = some ⟨oc4, od4, .func (PySem.W.fnOf "is_whole" "is_whole" (defArgs s_is_whole) (defBody s_is_whole) (defScope s_is_whole) .none kV4 dc4 pm4 an4 cd4 ct4), sl4⟩)
    (c4 : PySem.W.codeIn K cd4 "is_whole" = true)
    (k4 : PySem.W.keepIn K (.ref f4) = true)
    (a5 : PySem.W.nsIn K mainGlobals "is_count" = some (some (.ref f5)))
    (l5 : K.lookup f5 = some ⟨oc5, od5, .func (PySem.W.fnOf "is_count" "is_count" (defArgs s_is_count) (defBody s_is_count) (defScope s_is_count) .none kV5 dc5 pm5 an5 cd5 ct5), sl5⟩)
    (c5 : PySem.W.codeIn K cd5 "is_count" = true)
    (k5 : PySem.W.keepIn K (.ref f5) = true)
    (a6 : PySem.W.nsIn K mainGlobals "is_between" = some (some (.ref f6)))
    (l6 : K.lookup f6 = some ⟨oc6, od6, .func (PySem.W.fnOf "is_between" "is_between" (defArgs s_is_between) (defBody s_is_between) (defScope s_is_between) .none kV6 dc6 pm6 an6 cd6 ct6), sl6⟩)
    (c6 : PySem.W.codeIn K cd6 "is_between" = true)
    (k6 : PySem.W.keepIn K (.ref f6) = true)
    (a7 : PySem.W.nsIn K mainGlobals "is_alike" = some (some (.ref f7)))
    (l7 : K.lookup f7 = some ⟨oc7, od7, .func (PySem.W.fnOf "is_alike" "is_alike" (defArgs s_is_alike) (defBody s_is_alike) (defScope s_is_alike) .none kV7 dc7 pm7 an7 cd7 ct7), sl7⟩)
    (c7 : PySem.W.codeIn K cd7 "is_alike" = true)
    (k7 : PySem.W.keepIn K (.ref f7) = true)
    (a8 : PySem.W.nsIn K mainGlobals "is_place" = some (some (.ref f8)))
    (l8 : K.lookup f8 = some ⟨oc8, od8, .func (PySem.W.fnOf "is_place" "is_place" (defArgs s_is_place) (defBody s_is_place) (defScope s_is_place) .none kV8 dc8 pm8 an8 cd8 ct8), sl8⟩)
    (c8 : PySem.W.codeIn K cd8 "is_place" = true)
    (k8 : PySem.W.keepIn K (.ref f8) = true)
    (a9 : PySem.W.nsIn K mainGlobals "is_packed" = some (some (.ref f9)))
    (l9 : K.lookup f9 = some ⟨oc9, od9, .func (PySem.W.fnOf "is_packed" "is_packed" (defArgs s_is_packed) (defBody s_is_packed) (defScope s_is_packed) .none kV9 dc9 pm9 an9 cd9 ct9), sl9⟩)
    (c9 : PySem.W.codeIn K cd9 "is_packed" = true)
    (k9 : PySem.W.keepIn K (.ref f9) = true)
    (a10 : PySem.W.nsIn K mainGlobals "is_whole_cells" = some (some (.ref f10)))
    (l10 : K.lookup f10 = some ⟨oc10, od10, .func (PySem.W.fnOf "is_whole_cells" "is_whole_cells" (defArgs s_is_whole_cells) (defBody s_is_whole_cells) (defScope s_is_whole_cells) .none kV10 dc10 pm10 an10 cd10 ct10), sl10⟩)
    (c10 : PySem.W.codeIn K cd10 "is_whole_cells" = true)
    (k10 : PySem.W.keepIn K (.ref f10) = true)
    (a11 : PySem.W.nsIn K mainGlobals "need_place" = some (some (.ref f11)))
    (l11 : K.lookup f11 = some ⟨oc11, od11, .func (PySem.W.fnOf "need_place" "need_place" (defArgs s_need_place) (defBody s_need_place) (defScope s_need_place) .none kV11 dc11 pm11 an11 cd11 ct11), sl11⟩)
    (c11 : PySem.W.codeIn K cd11 "need_place" = true)
    (k11 : PySem.W.keepIn K (.ref f11) = true)
    (a12 : PySem.W.nsIn K mainGlobals "cells_in" = some (some (.ref f12)))
    (l12 : K.lookup f12 = some ⟨oc12, od12, .func (PySem.W.fnOf "cells_in" "cells_in" (defArgs s_cells_in) (defBody s_cells_in) (defScope s_cells_in) .none kV12 dc12 pm12 an12 cd12 ct12), sl12⟩)
    (c12 : PySem.W.codeIn K cd12 "cells_in" = true)
    (k12 : PySem.W.keepIn K (.ref f12) = true)
    (a13 : PySem.W.nsIn K mainGlobals "lines_of" = some (some (.ref f13)))
    (l13 : K.lookup f13 = some ⟨oc13, od13, .func (PySem.W.fnOf "lines_of" "lines_of" (defArgs s_lines_of) (defBody s_lines_of) (defScope s_lines_of) .none kV13 dc13 pm13 an13 cd13 ct13), sl13⟩)
    (c13 : PySem.W.codeIn K cd13 "lines_of" = true)
    (k13 : PySem.W.keepIn K (.ref f13) = true)
    (a14 : PySem.W.nsIn K mainGlobals "looks_between" = some (some (.ref f14)))
    (l14 : K.lookup f14 = some ⟨oc14, od14, .func (PySem.W.fnOf "looks_between" "looks_between" (defArgs s_looks_between) (defBody s_looks_between) (defScope s_looks_between) .none kV14 dc14 pm14 an14 cd14 ct14), sl14⟩)
    (c14 : PySem.W.codeIn K cd14 "looks_between" = true)
    (k14 : PySem.W.keepIn K (.ref f14) = true)
    (a15 : PySem.W.findIn K (.ref C_Kept) "__init__" = some (some (.ref f15)))
    (i15 : PySem.W.isFn K (.ref f15) = true)
    (l15 : K.lookup f15 = some ⟨oc15, od15, .func (PySem.W.fnOf "__init__" "Kept.__init__" (defArgs s_Kept_init) (defBody s_Kept_init) (defScope s_Kept_init) .none kV15 dc15 pm15 an15 cd15 ct15), sl15⟩)
    (c15 : PySem.W.codeIn K cd15 "Kept.__init__" = true)
    (k15 : PySem.W.keepIn K (.ref f15) = true)
    (a16 : PySem.W.findIn K (.ref C_Kept) "touch" = some (some (.ref f16)))
    (i16 : PySem.W.isFn K (.ref f16) = true)
    (l16 : K.lookup f16 = some ⟨oc16, od16, .func (PySem.W.fnOf "touch" "Kept.touch" (defArgs s_Kept_touch) (defBody s_Kept_touch) (defScope s_Kept_touch) .none kV16 dc16 pm16 an16 cd16 ct16), sl16⟩)
    (c16 : PySem.W.codeIn K cd16 "Kept.touch" = true)
    (k16 : PySem.W.keepIn K (.ref f16) = true)
    (a17 : PySem.W.nsIn K mainGlobals "need_keep" = some (some (.ref f17)))
    (l17 : K.lookup f17 = some ⟨oc17, od17, .func (PySem.W.fnOf "need_keep" "need_keep" (defArgs s_need_keep) (defBody s_need_keep) (defScope s_need_keep) .none kV17 dc17 pm17 an17 cd17 ct17), sl17⟩)
    (c17 : PySem.W.codeIn K cd17 "need_keep" = true)
    (k17 : PySem.W.keepIn K (.ref f17) = true)
    (a18 : PySem.W.nsIn K mainGlobals "need_line" = some (some (.ref f18)))
    (l18 : K.lookup f18 = some ⟨oc18, od18, .func (PySem.W.fnOf "need_line" "need_line" (defArgs s_need_line) (defBody s_need_line) (defScope s_need_line) .none kV18 dc18 pm18 an18 cd18 ct18), sl18⟩)
    (c18 : PySem.W.codeIn K cd18 "need_line" = true)
    (k18 : PySem.W.keepIn K (.ref f18) = true)
    (a19 : PySem.W.nsIn K mainGlobals "need_lines" = some (some (.ref f19)))
    (l19 : K.lookup f19 = some ⟨oc19, od19, .func (PySem.W.fnOf "need_lines" "need_lines" (defArgs s_need_lines) (defBody s_need_lines) (defScope s_need_lines) .none kV19 dc19 pm19 an19 cd19 ct19), sl19⟩)
    (c19 : PySem.W.codeIn K cd19 "need_lines" = true)
    (k19 : PySem.W.keepIn K (.ref f19) = true)
    (a20 : PySem.W.nsIn K mainGlobals "fetches" = some (some (.ref f20)))
    (l20 : K.lookup f20 = some ⟨oc20, od20, .func (PySem.W.fnOf "fetches" "fetches" (defArgs s_fetches) (defBody s_fetches) (defScope s_fetches) .none kV20 dc20 pm20 an20 cd20 ct20), sl20⟩)
    (c20 : PySem.W.codeIn K cd20 "fetches" = true)
    (k20 : PySem.W.keepIn K (.ref f20) = true)
    (a21 : PySem.W.nsIn K mainGlobals "how_many" = some (some (.ref f21)))
    (l21 : K.lookup f21 = some ⟨oc21, od21, .func (PySem.W.fnOf "how_many" "how_many" (defArgs s_how_many) (defBody s_how_many) (defScope s_how_many) .none kV21 dc21 pm21 an21 cd21 ct21), sl21⟩)
    (c21 : PySem.W.codeIn K cd21 "how_many" = true)
    (k21 : PySem.W.keepIn K (.ref f21) = true)
    (a22 : PySem.W.nsIn K mainGlobals "distances" = some (some (.ref f22)))
    (l22 : K.lookup f22 = some ⟨oc22, od22, .func (PySem.W.fnOf "distances" "distances" (defArgs s_distances) (defBody s_distances) (defScope s_distances) .none kV22 dc22 pm22 an22 cd22 ct22), sl22⟩)
    (c22 : PySem.W.codeIn K cd22 "distances" = true)
    (k22 : PySem.W.keepIn K (.ref f22) = true)
    (a23 : PySem.W.nsIn K mainGlobals "place_in" = some (some (.ref f23)))
    (l23 : K.lookup f23 = some ⟨oc23, od23, .func (PySem.W.fnOf "place_in" "place_in" (defArgs s_place_in) (defBody s_place_in) (defScope s_place_in) .none kV23 dc23 pm23 an23 cd23 ct23), sl23⟩)
    (c23 : PySem.W.codeIn K cd23 "place_in" = true)
    (k23 : PySem.W.keepIn K (.ref f23) = true)
    (a24 : PySem.W.nsIn K mainGlobals "counts" = some (some (.ref f24)))
    (l24 : K.lookup f24 = some ⟨oc24, od24, .func (PySem.W.fnOf "counts" "counts" (defArgs s_counts) (defBody s_counts) (defScope s_counts) .none kV24 dc24 pm24 an24 cd24 ct24), sl24⟩)
    (c24 : PySem.W.codeIn K cd24 "counts" = true)
    (k24 : PySem.W.keepIn K (.ref f24) = true)
    (a25 : PySem.W.nsIn K mainGlobals "is_fetches" = some (some (.ref f25)))
    (l25 : K.lookup f25 = some ⟨oc25, od25, .func (PySem.W.fnOf "is_fetches" "is_fetches" (defArgs s_is_fetches) (defBody s_is_fetches) (defScope s_is_fetches) .none kV25 dc25 pm25 an25 cd25 ct25), sl25⟩)
    (c25 : PySem.W.codeIn K cd25 "is_fetches" = true)
    (k25 : PySem.W.keepIn K (.ref f25) = true)
    (a26 : PySem.W.nsIn K mainGlobals "_law_drawn" = some (some (.ref f26)))
    (l26 : K.lookup f26 = some ⟨oc26, od26, .func (PySem.W.fnOf "_law_drawn" "_law_drawn" (defArgs s_law_drawn) (defBody s_law_drawn) (defScope s_law_drawn) .none kV26 dc26 pm26 an26 cd26 ct26), sl26⟩)
    (c26 : PySem.W.codeIn K cd26 "_law_drawn" = true)
    (k26 : PySem.W.keepIn K (.ref f26) = true)
    (a27 : PySem.W.nsIn K mainGlobals "_law_asked" = some (some (.ref f27)))
    (l27 : K.lookup f27 = some ⟨oc27, od27, .func (PySem.W.fnOf "_law_asked" "_law_asked" (defArgs s_law_asked) (defBody s_law_asked) (defScope s_law_asked) .none kV27 dc27 pm27 an27 cd27 ct27), sl27⟩)
    (c27 : PySem.W.codeIn K cd27 "_law_asked" = true)
    (k27 : PySem.W.keepIn K (.ref f27) = true)
    (a28 : PySem.W.nsIn K mainGlobals "_law_refused" = some (some (.ref f28)))
    (l28 : K.lookup f28 = some ⟨oc28, od28, .func (PySem.W.fnOf "_law_refused" "_law_refused" (defArgs s_law_refused) (defBody s_law_refused) (defScope s_law_refused) .none kV28 dc28 pm28 an28 cd28 ct28), sl28⟩)
    (c28 : PySem.W.codeIn K cd28 "_law_refused" = true)
    (k28 : PySem.W.keepIn K (.ref f28) = true)
    (a29 : PySem.W.nsIn K mainGlobals "_law_bad" = some (some (.ref f29)))
    (l29 : K.lookup f29 = some ⟨oc29, od29, .func (PySem.W.fnOf "_law_bad" "_law_bad" (defArgs s_law_bad) (defBody s_law_bad) (defScope s_law_bad) .none kV29 dc29 pm29 an29 cd29 ct29), sl29⟩)
    (c29 : PySem.W.codeIn K cd29 "_law_bad" = true)
    (k29 : PySem.W.keepIn K (.ref f29) = true)
    (a30 : PySem.W.nsIn K mainGlobals "_law_held" = some (some (.ref f30)))
    (l30 : K.lookup f30 = some ⟨oc30, od30, .func (PySem.W.fnOf "_law_held" "_law_held" (defArgs s_law_held) (defBody s_law_held) (defScope s_law_held) .none kV30 dc30 pm30 an30 cd30 ct30), sl30⟩)
    (c30 : PySem.W.codeIn K cd30 "_law_held" = true)
    (k30 : PySem.W.keepIn K (.ref f30) = true)
    (a31 : PySem.W.nsIn K mainGlobals "_law_looks" = some (some (.ref f31)))
    (l31 : K.lookup f31 = some ⟨oc31, od31, .func (PySem.W.fnOf "_law_looks" "_law_looks" (defArgs s_law_looks) (defBody s_law_looks) (defScope s_law_looks) .none kV31 dc31 pm31 an31 cd31 ct31), sl31⟩)
    (c31 : PySem.W.codeIn K cd31 "_law_looks" = true)
    (k31 : PySem.W.keepIn K (.ref f31) = true)
    (a32 : PySem.W.nsIn K mainGlobals "law" = some (some (.ref f32)))
    (l32 : K.lookup f32 = some ⟨oc32, od32, .func (PySem.W.fnOf "law" "law" (defArgs s_law) (defBody s_law) (defScope s_law) .none kV32 dc32 pm32 an32 cd32 ct32), sl32⟩)
    (c32 : PySem.W.codeIn K cd32 "law" = true)
    (k32 : PySem.W.keepIn K (.ref f32) = true)
    (pg_Kept : PySem.W.plainGet K C_Kept Str.empty = true)
    (hd_Kept : PySem.W.hasDictIn K C_Kept = true)
    (po_Kept : PySem.W.plainOver K C_Kept = true)
    (sa_Kept : PySem.W.findIn K (.ref C_Kept) "__setattr__" = some (some (.builtin "object.__setattr__")))
    (mk_Kept : PySem.W.makesIn K C_Kept = true)
    (kc_Kept : PySem.W.keepIn K (.ref C_Kept) = true)
    (n_Kept_bound : PySem.W.findIn K (.ref C_Kept) "bound" = some none)
    (n_Kept_held : PySem.W.findIn K (.ref C_Kept) "held" = some none)
    (xo_RoomError : K.lookup C_RoomError = some (xcls xn0 xq0 C_RoomError xN0 xb0 VB true xl0 xs0 xa0 xc0 xd0 x00 x10 x20 x30 x50))
    (xk_RoomError : PySem.W.keepIn K (.ref C_RoomError) = true)
    (xr : PySem.W.readsIn K C_RoomError (.type "type") = true)
    (xf : PySem.W.findCls K (.ref C_RoomError) (.type "type") "__init__" = some (.val (.ref f0)))
    (xp : PySem.W.specialIn K (.ref C_RoomError) "__getattribute__" = some (some (.builtin "type.__getattribute__")))
    (xo_NoKeep : K.lookup C_NoKeep = some (xcls xn1 xq1 C_NoKeep xN1 xb1 (.ref C_RoomError :: VB) true xl1 xs1 xa1 xc1 xd1 x01 x11 x21 x31 x51))
    (xk_NoKeep : PySem.W.keepIn K (.ref C_NoKeep) = true)
    (xn_NoKeep : PySem.W.nsOkIn K xN1 = true)
    (xi_NoKeep : PySem.W.nsIn K xN1 "__init__" = some (some (.ref f3)))
    (xs_NoKeep : PySem.W.findIn K (.ref C_NoKeep) "__setattr__" = some (some (.builtin "object.__setattr__")))
    (xg_NoKeep : PySem.W.findIn K (.ref C_NoKeep) "__getattribute__" = some (some (.builtin "BaseException.__getattribute__")))
    (xh_NoKeep : PySem.W.findIn K (.ref C_NoKeep) "__getattr__" = some none)
    (n_NoKeep_found : PySem.W.findIn K (.ref C_NoKeep) "found" = some none)
    (xo_NoLine : K.lookup C_NoLine = some (xcls xn2 xq2 C_NoLine xN2 xb2 (.ref C_RoomError :: VB) true xl2 xs2 xa2 xc2 xd2 x02 x12 x22 x32 x52))
    (xk_NoLine : PySem.W.keepIn K (.ref C_NoLine) = true)
    (xn_NoLine : PySem.W.nsOkIn K xN2 = true)
    (xi_NoLine : PySem.W.nsIn K xN2 "__init__" = some (some (.ref f2)))
    (xs_NoLine : PySem.W.findIn K (.ref C_NoLine) "__setattr__" = some (some (.builtin "object.__setattr__")))
    (xg_NoLine : PySem.W.findIn K (.ref C_NoLine) "__getattribute__" = some (some (.builtin "BaseException.__getattribute__")))
    (xh_NoLine : PySem.W.findIn K (.ref C_NoLine) "__getattr__" = some none)
    (n_NoLine_found : PySem.W.findIn K (.ref C_NoLine) "found" = some none)
    (xo_NoPlace : K.lookup C_NoPlace = some (xcls xn3 xq3 C_NoPlace xN3 xb3 (.ref C_RoomError :: VB) true xl3 xs3 xa3 xc3 xd3 x03 x13 x23 x33 x53))
    (xk_NoPlace : PySem.W.keepIn K (.ref C_NoPlace) = true)
    (xn_NoPlace : PySem.W.nsOkIn K xN3 = true)
    (xi_NoPlace : PySem.W.nsIn K xN3 "__init__" = some (some (.ref f1)))
    (xs_NoPlace : PySem.W.findIn K (.ref C_NoPlace) "__setattr__" = some (some (.builtin "object.__setattr__")))
    (xg_NoPlace : PySem.W.findIn K (.ref C_NoPlace) "__getattribute__" = some (some (.builtin "BaseException.__getattribute__")))
    (xh_NoPlace : PySem.W.findIn K (.ref C_NoPlace) "__getattr__" = some none)
    (n_NoPlace_found : PySem.W.findIn K (.ref C_NoPlace) "found" = some none)
    (vi1 : PySem.W.findIn K (.type "type") "__getattribute__" = some (some (.builtin "type.__getattribute__")))
    (vi2 : PySem.W.subIn K (.type "type") (.type "type") = some true)
    (vi3 : PySem.W.findCls K (.type "ValueError") (.type "type") "__init__" = some (.val (.builtin "ValueError.__init__")))
    (z0 : PySem.W.nsIn K mainGlobals "range" = some none)
    (z1 : PySem.W.nsIn K mainGlobals "len" = some none)
    (z2 : PySem.W.nsIn K mainGlobals "isinstance" = some none)
    (z3 : PySem.W.nsIn K mainGlobals "int" = some none)
    (z4 : PySem.W.nsIn K mainGlobals "bool" = some none)
    (z5 : PySem.W.nsIn K mainGlobals "list" = some none)
    (z6 : PySem.W.nsIn K mainGlobals "all" = some none)
    (z7 : PySem.W.nsIn K mainGlobals "max" = some none)
    (z8 : PySem.W.nsIn K mainGlobals "min" = some none)
    (z9 : PySem.W.nsIn K mainGlobals "reversed" = some none)
    (z10 : PySem.W.nsIn K mainGlobals "tuple" = some none)
    (z11 : PySem.W.nsIn K mainGlobals "divmod" = some none)
    (z12 : PySem.W.nsIn K mainGlobals "ValueError" = some none)
    (z13 : PySem.W.nsIn K mainGlobals "repr" = some none)
    (z14 : PySem.W.nsIn K mainGlobals "zip" = some none)
    (z15 : PySem.W.nsIn K mainGlobals "enumerate" = some none)
    (v1 : PySem.W.nsIn K mainGlobals "CELL_BITS" = some (some (.int 8 t1))) (v2 : PySem.W.nsIn K mainGlobals "MOST_PLACE_CELLS" = some (some (.int 64 t2))) (v3 : PySem.W.nsIn K mainGlobals "TAG_BITS" = some (some (.int 2 t3))) (v4 : PySem.W.nsIn K mainGlobals "MOST_LINE_CELLS" = some (some (.int 64 t4))) (v5 : PySem.W.nsIn K mainGlobals "MOST_KEPT" = some (some (.int 32 t5)))
    (v6 : PySem.W.nsIn K mainGlobals "TAG_SHIFTS" = some (some (.ref ts))) (v7 : K.lookup ts = some ⟨.type "tuple", odt, .seq #[.int 0 u0, .int 2 u1, .int 4 u2, .int 6 u3] nt, slt⟩)
    (yb : PySem.W.specialIn K (.builtin "object.__class__") "__get__" = some (some (.builtin "getset_descriptor.__get__"))) (yc : PySem.W.takesIn K (.builtin "object.__class__") = some true)
    (ya_NoLine : PySem.W.findIn K (.ref C_NoLine) "__class__" = some (some (.builtin "object.__class__"))) (yd_NoLine : PySem.W.mroIn K C_NoLine (.type "object") = some true) (xn_p_NoLine_NoKeep : PySem.W.kin_not K C_NoLine C_NoKeep = true) (xn_p_NoLine_NoPlace : PySem.W.kin_not K C_NoLine C_NoPlace = true)
    (ya_NoKeep : PySem.W.findIn K (.ref C_NoKeep) "__class__" = some (some (.builtin "object.__class__"))) (yd_NoKeep : PySem.W.mroIn K C_NoKeep (.type "object") = some true) (xn_p_NoKeep_NoLine : PySem.W.kin_not K C_NoKeep C_NoLine = true) (xn_p_NoKeep_NoPlace : PySem.W.kin_not K C_NoKeep C_NoPlace = true)
    (ya_NoPlace : PySem.W.findIn K (.ref C_NoPlace) "__class__" = some (some (.builtin "object.__class__"))) (yd_NoPlace : PySem.W.mroIn K C_NoPlace (.type "object") = some true) (xn_p_NoPlace_NoLine : PySem.W.kin_not K C_NoPlace C_NoLine = true) (xn_p_NoPlace_NoKeep : PySem.W.kin_not K C_NoPlace C_NoKeep = true) :
    ∃ fd : FuncData, (∀ (s : Shared) (v : Value), BindsTo s fd ⟨[v], []⟩ [("_law_script", v)]) ∧ ∀ base : Heap, K.In base → base.Ns mainGlobals mg → FnOk l.prog w K mg base CX0 20 fa fd ["_law_script"] (spLaw K) := by
  have e := hfa.symm.trans (PySem.W.mg_of X G a32)
  cases e
  have F0 := fun_mk (st := s_RoomError_init) l0 c0 k0
  have D0 : DfI K _ ["self", "words"] := ⟨F0.binds (ps := ["self", "words"]) fun _ _ _ _ _ _ us hl => match us, hl with | [_, _], _ => rfl⟩
  have F1 := fun_mk (st := s_NoPlace_init) l1 c1 k1
  have D1 : DfI K _ ["self", "found"] := ⟨F1.binds (ps := ["self", "found"]) fun _ _ _ _ _ _ us hl => match us, hl with | [_, _], _ => rfl⟩
  have F2 := fun_mk (st := s_NoLine_init) l2 c2 k2
  have D2 : DfI K _ ["self", "found"] := ⟨F2.binds (ps := ["self", "found"]) fun _ _ _ _ _ _ us hl => match us, hl with | [_, _], _ => rfl⟩
  have F3 := fun_mk (st := s_NoKeep_init) l3 c3 k3
  have D3 : DfI K _ ["self", "found"] := ⟨F3.binds (ps := ["self", "found"]) fun _ _ _ _ _ _ us hl => match us, hl with | [_, _], _ => rfl⟩
  have F4 := fun_mk (st := s_is_whole) l4 c4 k4
  have D4 : Df K mg "is_whole" f4 _ ["thing"] := ⟨PySem.W.mg_of X G a4, k4, F4.binds (ps := ["thing"]) fun _ _ _ _ _ _ us hl => match us, hl with | [_], _ => rfl⟩
  have F5 := fun_mk (st := s_is_count) l5 c5 k5
  have D5 : Df K mg "is_count" f5 _ ["thing"] := ⟨PySem.W.mg_of X G a5, k5, F5.binds (ps := ["thing"]) fun _ _ _ _ _ _ us hl => match us, hl with | [_], _ => rfl⟩
  have F6 := fun_mk (st := s_is_between) l6 c6 k6
  have D6 : Df K mg "is_between" f6 _ ["thing", "low", "high"] := ⟨PySem.W.mg_of X G a6, k6, F6.binds (ps := ["thing", "low", "high"]) fun _ _ _ _ _ _ us hl => match us, hl with | [_, _, _], _ => rfl⟩
  have F7 := fun_mk (st := s_is_alike) l7 c7 k7
  have D7 : Df K mg "is_alike" f7 _ ["thing", "wanted"] := ⟨PySem.W.mg_of X G a7, k7, F7.binds (ps := ["thing", "wanted"]) fun _ _ _ _ _ _ us hl => match us, hl with | [_, _], _ => rfl⟩
  have F8 := fun_mk (st := s_is_place) l8 c8 k8
  have D8 : Df K mg "is_place" f8 _ ["thing"] := ⟨PySem.W.mg_of X G a8, k8, F8.binds (ps := ["thing"]) fun _ _ _ _ _ _ us hl => match us, hl with | [_], _ => rfl⟩
  have F9 := fun_mk (st := s_is_packed) l9 c9 k9
  have D9 : Df K mg "is_packed" f9 _ ["shift", "bits"] := ⟨PySem.W.mg_of X G a9, k9, F9.binds (ps := ["shift", "bits"]) fun _ _ _ _ _ _ us hl => match us, hl with | [_, _], _ => rfl⟩
  have F10 := fun_mk (st := s_is_whole_cells) l10 c10 k10
  have D10 : Df K mg "is_whole_cells" f10 _ ["shift", "bits"] := ⟨PySem.W.mg_of X G a10, k10, F10.binds (ps := ["shift", "bits"]) fun _ _ _ _ _ _ us hl => match us, hl with | [_, _], _ => rfl⟩
  have F11 := fun_mk (st := s_need_place) l11 c11 k11
  have D11 : Df K mg "need_place" f11 _ ["thing"] := ⟨PySem.W.mg_of X G a11, k11, F11.binds (ps := ["thing"]) fun _ _ _ _ _ _ us hl => match us, hl with | [_], _ => rfl⟩
  have F12 := fun_mk (st := s_cells_in) l12 c12 k12
  have D12 : Df K mg "cells_in" f12 _ ["place"] := ⟨PySem.W.mg_of X G a12, k12, F12.binds (ps := ["place"]) fun _ _ _ _ _ _ us hl => match us, hl with | [_], _ => rfl⟩
  have F13 := fun_mk (st := s_lines_of) l13 c13 k13
  have D13 : Df K mg "lines_of" f13 _ ["places", "wide"] := ⟨PySem.W.mg_of X G a13, k13, F13.binds (ps := ["places", "wide"]) fun _ _ _ _ _ _ us hl => match us, hl with | [_, _], _ => rfl⟩
  have F14 := fun_mk (st := s_looks_between) l14 c14 k14
  have D14 : Df K mg "looks_between" f14 _ ["rows", "places", "first", "last"] := ⟨PySem.W.mg_of X G a14, k14, F14.binds (ps := ["rows", "places", "first", "last"]) fun _ _ _ _ _ _ us hl => match us, hl with | [_, _, _, _], _ => rfl⟩
  have F15 := fun_mk (st := s_Kept_init) l15 c15 k15
  have D15 : DfI K _ ["self", "most"] := ⟨F15.binds (ps := ["self", "most"]) fun _ _ _ _ _ _ us hl => match us, hl with | [_, _], _ => rfl⟩
  have F16 := fun_mk (st := s_Kept_touch) l16 c16 k16
  have D16 : DfM K C_Kept "touch" f16 _ ["self", "line"] := ⟨⟨a16, i16, k16⟩, F16.binds (ps := ["self", "line"]) fun _ _ _ _ _ _ us hl => match us, hl with | [_, _], _ => rfl⟩
  have F17 := fun_mk (st := s_need_keep) l17 c17 k17
  have D17 : Df K mg "need_keep" f17 _ ["most"] := ⟨PySem.W.mg_of X G a17, k17, F17.binds (ps := ["most"]) fun _ _ _ _ _ _ us hl => match us, hl with | [_], _ => rfl⟩
  have F18 := fun_mk (st := s_need_line) l18 c18 k18
  have D18 : Df K mg "need_line" f18 _ ["line"] := ⟨PySem.W.mg_of X G a18, k18, F18.binds (ps := ["line"]) fun _ _ _ _ _ _ us hl => match us, hl with | [_], _ => rfl⟩
  have F19 := fun_mk (st := s_need_lines) l19 c19 k19
  have D19 : Df K mg "need_lines" f19 _ ["lines"] := ⟨PySem.W.mg_of X G a19, k19, F19.binds (ps := ["lines"]) fun _ _ _ _ _ _ us hl => match us, hl with | [_], _ => rfl⟩
  have F20 := fun_mk (st := s_fetches) l20 c20 k20
  have D20 : Df K mg "fetches" f20 _ ["lines", "most"] := ⟨PySem.W.mg_of X G a20, k20, F20.binds (ps := ["lines", "most"]) fun _ _ _ _ _ _ us hl => match us, hl with | [_, _], _ => rfl⟩
  have F21 := fun_mk (st := s_how_many) l21 c21 k21
  have D21 : Df K mg "how_many" f21 _ ["lines", "most"] := ⟨PySem.W.mg_of X G a21, k21, F21.binds (ps := ["lines", "most"]) fun _ _ _ _ _ _ us hl => match us, hl with | [_, _], _ => rfl⟩
  have F22 := fun_mk (st := s_distances) l22 c22 k22
  have D22 : Df K mg "distances" f22 _ ["lines"] := ⟨PySem.W.mg_of X G a22, k22, F22.binds (ps := ["lines"]) fun _ _ _ _ _ _ us hl => match us, hl with | [_], _ => rfl⟩
  have F23 := fun_mk (st := s_place_in) l23 c23 k23
  have D23 : Df K mg "place_in" f23 _ ["numbers", "number"] := ⟨PySem.W.mg_of X G a23, k23, F23.binds (ps := ["numbers", "number"]) fun _ _ _ _ _ _ us hl => match us, hl with | [_, _], _ => rfl⟩
  have F24 := fun_mk (st := s_counts) l24 c24 k24
  have D24 : Df K mg "counts" f24 _ ["lines", "most"] := ⟨PySem.W.mg_of X G a24, k24, F24.binds (ps := ["lines", "most"]) fun _ _ _ _ _ _ us hl => match us, hl with | [_, _], _ => rfl⟩
  have F25 := fun_mk (st := s_is_fetches) l25 c25 k25
  have D25 : Df K mg "is_fetches" f25 _ ["lines", "most", "thing"] := ⟨PySem.W.mg_of X G a25, k25, F25.binds (ps := ["lines", "most", "thing"]) fun _ _ _ _ _ _ us hl => match us, hl with | [_, _, _], _ => rfl⟩
  have F26 := fun_mk (st := s_law_drawn) l26 c26 k26
  have D26 : Df K mg "_law_drawn" f26 _ ["_law_cell", "_law_sizes"] := ⟨PySem.W.mg_of X G a26, k26, F26.binds (ps := ["_law_cell", "_law_sizes"]) fun _ _ _ _ _ _ us hl => match us, hl with | [_, _], _ => rfl⟩
  have F27 := fun_mk (st := s_law_asked) l27 c27 k27
  have D27 : Df K mg "_law_asked" f27 _ ["_law_which", "_law_lines", "_law_most"] := ⟨PySem.W.mg_of X G a27, k27, F27.binds (ps := ["_law_which", "_law_lines", "_law_most"]) fun _ _ _ _ _ _ us hl => match us, hl with | [_, _, _], _ => rfl⟩
  have F28 := fun_mk (st := s_law_refused) l28 c28 k28
  have D28 : Df K mg "_law_refused" f28 _ ["_law_which", "_law_lines", "_law_most", "_law_word", "_law_thing"] := ⟨PySem.W.mg_of X G a28, k28, F28.binds (ps := ["_law_which", "_law_lines", "_law_most", "_law_word", "_law_thing"]) fun _ _ _ _ _ _ us hl => match us, hl with | [_, _, _, _, _], _ => rfl⟩
  have F29 := fun_mk (st := s_law_bad) l29 c29 k29
  have D29 : Df K mg "_law_bad" f29 _ ["_law_draws"] := ⟨PySem.W.mg_of X G a29, k29, F29.binds (ps := ["_law_draws"]) fun _ _ _ _ _ _ us hl => match us, hl with | [_], _ => rfl⟩
  have F30 := fun_mk (st := s_law_held) l30 c30 k30
  have D30 : Df K mg "_law_held" f30 _ ["_law_draws"] := ⟨PySem.W.mg_of X G a30, k30, F30.binds (ps := ["_law_draws"]) fun _ _ _ _ _ _ us hl => match us, hl with | [_], _ => rfl⟩
  have F31 := fun_mk (st := s_law_looks) l31 c31 k31
  have D31 : Df K mg "_law_looks" f31 _ ["_law_draws"] := ⟨PySem.W.mg_of X G a31, k31, F31.binds (ps := ["_law_draws"]) fun _ _ _ _ _ _ us hl => match us, hl with | [_], _ => rfl⟩
  have F32 := fun_mk (st := s_law) l32 c32 k32
  have T_Kept : TCls K mg "Kept" C_Kept f15 ["bound", "held"] := ⟨PySem.W.mg_of X G g_Kept, ⟨pg_Kept, hd_Kept, po_Kept, sa_Kept⟩, ⟨mk_Kept, a15, i15, kc_Kept⟩, fun a ha => by
      simp only [List.mem_cons, List.not_mem_nil, or_false] at ha
      rcases ha with rfl | rfl
      · exact n_Kept_bound
      · exact n_Kept_held⟩
  have T_RoomError : TXB K mg C_RoomError f0 := ⟨PySem.W.mg_of X G g_RoomError, ⟨xr, xf, xp, k0⟩, ⟨⟨_, _, _, _, _, _, _, _, _, _, _, _, _, _, _, _, xo_RoomError⟩, rfl⟩⟩
  have VI : VInit K := ⟨vi1, vi2, vi3⟩
  have T_NoKeep : TX K mg "NoKeep" C_NoKeep C_RoomError f3 ["found"] := ⟨PySem.W.mg_of X G g_NoKeep, ⟨⟨_, _, _, _, _, _, _, _, _, _, _, _, _, _, xo_NoKeep, xn_NoKeep, xi_NoKeep⟩, i3, xk_NoKeep, xs_NoKeep, xg_NoKeep, xh_NoKeep⟩, ⟨⟨_, _, _, _, _, _, _, _, _, _, _, _, _, _, _, _, xo_NoKeep⟩, rfl⟩, fun a ha => by
      rw [List.mem_singleton.mp ha]; exact n_NoKeep_found⟩
  have T_NoLine : TX K mg "NoLine" C_NoLine C_RoomError f2 ["found"] := ⟨PySem.W.mg_of X G g_NoLine, ⟨⟨_, _, _, _, _, _, _, _, _, _, _, _, _, _, xo_NoLine, xn_NoLine, xi_NoLine⟩, i2, xk_NoLine, xs_NoLine, xg_NoLine, xh_NoLine⟩, ⟨⟨_, _, _, _, _, _, _, _, _, _, _, _, _, _, _, _, xo_NoLine⟩, rfl⟩, fun a ha => by
      rw [List.mem_singleton.mp ha]; exact n_NoLine_found⟩
  have T_NoPlace : TX K mg "NoPlace" C_NoPlace C_RoomError f1 ["found"] := ⟨PySem.W.mg_of X G g_NoPlace, ⟨⟨_, _, _, _, _, _, _, _, _, _, _, _, _, _, xo_NoPlace, xn_NoPlace, xi_NoPlace⟩, i1, xk_NoPlace, xs_NoPlace, xg_NoPlace, xh_NoPlace⟩, ⟨⟨_, _, _, _, _, _, _, _, _, _, _, _, _, _, _, _, xo_NoPlace⟩, rfl⟩, fun a ha => by
      rw [List.mem_singleton.mp ha]; exact n_NoPlace_found⟩
  have M : Blt mg := ⟨PySem.W.mg_none_of X G z0, PySem.W.mg_none_of X G z1, PySem.W.mg_none_of X G z2, PySem.W.mg_none_of X G z3, PySem.W.mg_none_of X G z4, PySem.W.mg_none_of X G z5, PySem.W.mg_none_of X G z6, PySem.W.mg_none_of X G z7, PySem.W.mg_none_of X G z8, PySem.W.mg_none_of X G z9, PySem.W.mg_none_of X G z10, PySem.W.mg_none_of X G z11, PySem.W.mg_none_of X G z12, PySem.W.mg_none_of X G z13, PySem.W.mg_none_of X G z14, PySem.W.mg_none_of X G z15⟩
  have C : Cst K mg t1 t2 t3 t4 t5 ts := ⟨PySem.W.mg_of X G v1, PySem.W.mg_of X G v2, PySem.W.mg_of X G v3, PySem.W.mg_of X G v4, PySem.W.mg_of X G v5, PySem.W.mg_of X G v6, fun H => .inr ⟨_, _, _, v7, rfl, rfl, (by show 4 ≤ sizeLine; decide), .cons ⟨_, rfl⟩ (.cons ⟨_, rfl⟩ (.cons ⟨_, rfl⟩ (.cons ⟨_, rfl⟩ .nil)))⟩⟩
  have XN : XN6 K C_NoLine C_NoKeep C_NoPlace := ⟨⟨ya_NoLine, yb, yc, yd_NoLine, xn_p_NoLine_NoKeep⟩, ⟨ya_NoLine, yb, yc, yd_NoLine, xn_p_NoLine_NoPlace⟩, ⟨ya_NoKeep, yb, yc, yd_NoKeep, xn_p_NoKeep_NoLine⟩, ⟨ya_NoKeep, yb, yc, yd_NoKeep, xn_p_NoKeep_NoPlace⟩, ⟨ya_NoPlace, yb, yc, yd_NoPlace, xn_p_NoPlace_NoLine⟩, ⟨ya_NoPlace, yb, yc, yd_NoPlace, xn_p_NoPlace_NoKeep⟩⟩
  refine ⟨PySem.W.fnOf "law" "law" (defArgs s_law) (defBody s_law) (defScope s_law) .none kV32 dc32 pm32 an32 cd32 ct32, fun s v => .of_eq rfl, fun base _ _ => ?_⟩
  have G0 := ok_RoomError_init (P := l.prog) (w := w) (base := base) (k := 0) F0 M C T_Kept T_RoomError VI T_NoKeep T_NoLine T_NoPlace 
  have G4 := ok_is_whole (P := l.prog) (w := w) (base := base) (k := 0) F4 M C T_Kept T_RoomError VI T_NoKeep T_NoLine T_NoPlace 
  have G7 := ok_is_alike (P := l.prog) (w := w) (base := base) (k := 0) F7 M C T_Kept T_RoomError VI T_NoKeep T_NoLine T_NoPlace 
  have G9 := ok_is_packed (P := l.prog) (w := w) (base := base) (k := 0) F9 M C T_Kept T_RoomError VI T_NoKeep T_NoLine T_NoPlace 
  have G10 := ok_is_whole_cells (P := l.prog) (w := w) (base := base) (k := 0) F10 M C T_Kept T_RoomError VI T_NoKeep T_NoLine T_NoPlace 
  have G14 := ok_looks_between (P := l.prog) (w := w) (base := base) (k := 0) F14 M C T_Kept T_RoomError VI T_NoKeep T_NoLine T_NoPlace 
  have G16 := ok_Kept_touch (P := l.prog) (w := w) (base := base) (k := 0) F16 M C T_Kept T_RoomError VI T_NoKeep T_NoLine T_NoPlace 
  have G23 := ok_place_in (P := l.prog) (w := w) (base := base) (k := 0) F23 M C T_Kept T_RoomError VI T_NoKeep T_NoLine T_NoPlace 
  have G26 := ok_law_drawn (P := l.prog) (w := w) (base := base) (k := 0) F26 M C T_Kept T_RoomError VI T_NoKeep T_NoLine T_NoPlace 
  have G29 := ok_law_bad (P := l.prog) (w := w) (base := base) (k := 0) F29 M C T_Kept T_RoomError VI T_NoKeep T_NoLine T_NoPlace 
  have G1 := ok_NoPlace_init (P := l.prog) (w := w) (base := base) (k := 2) F1 M C T_Kept T_RoomError VI T_NoKeep T_NoLine T_NoPlace D0 (G0.mono (by decide))
  have G2 := ok_NoLine_init (P := l.prog) (w := w) (base := base) (k := 2) F2 M C T_Kept T_RoomError VI T_NoKeep T_NoLine T_NoPlace D0 (G0.mono (by decide))
  have G3 := ok_NoKeep_init (P := l.prog) (w := w) (base := base) (k := 2) F3 M C T_Kept T_RoomError VI T_NoKeep T_NoLine T_NoPlace D0 (G0.mono (by decide))
  have G5 := ok_is_count (P := l.prog) (w := w) (base := base) (k := 2) F5 M C T_Kept T_RoomError VI T_NoKeep T_NoLine T_NoPlace D4 (G4.mono (by decide))
  have G6 := ok_is_between (P := l.prog) (w := w) (base := base) (k := 2) F6 M C T_Kept T_RoomError VI T_NoKeep T_NoLine T_NoPlace D4 (G4.mono (by decide))
  have G8 := ok_is_place (P := l.prog) (w := w) (base := base) (k := 2) F8 M C T_Kept T_RoomError VI T_NoKeep T_NoLine T_NoPlace D4 (G4.mono (by decide)) D9 (G9.mono (by decide)) D10 (G10.mono (by decide))
  have G31 := ok_law_looks (P := l.prog) (w := w) (base := base) (k := 2) F31 M C T_Kept T_RoomError VI T_NoKeep T_NoLine T_NoPlace D14 (G14.mono (by decide))
  have G11 := ok_need_place (P := l.prog) (w := w) (base := base) (k := 4) F11 M C T_Kept T_RoomError VI T_NoKeep T_NoLine T_NoPlace D8 (G8.mono (by decide)) D1 (G1.mono (by decide))
  have G17 := ok_need_keep (P := l.prog) (w := w) (base := base) (k := 4) F17 M C T_Kept T_RoomError VI T_NoKeep T_NoLine T_NoPlace D6 (G6.mono (by decide)) D3 (G3.mono (by decide))
  have G18 := ok_need_line (P := l.prog) (w := w) (base := base) (k := 4) F18 M C T_Kept T_RoomError VI T_NoKeep T_NoLine T_NoPlace D5 (G5.mono (by decide)) D2 (G2.mono (by decide))
  have G12 := ok_cells_in (P := l.prog) (w := w) (base := base) (k := 6) F12 M C T_Kept T_RoomError VI T_NoKeep T_NoLine T_NoPlace D11 (G11.mono (by decide))
  have G15 := ok_Kept_init (P := l.prog) (w := w) (base := base) (k := 6) F15 M C T_Kept T_RoomError VI T_NoKeep T_NoLine T_NoPlace D17 (G17.mono (by decide))
  have G19 := ok_need_lines (P := l.prog) (w := w) (base := base) (k := 6) F19 M C T_Kept T_RoomError VI T_NoKeep T_NoLine T_NoPlace D18 (G18.mono (by decide))
  have G13 := ok_lines_of (P := l.prog) (w := w) (base := base) (k := 8) F13 M C T_Kept T_RoomError VI T_NoKeep T_NoLine T_NoPlace D6 (G6.mono (by decide)) D12 (G12.mono (by decide)) D2 (G2.mono (by decide))
  have G20 := ok_fetches (P := l.prog) (w := w) (base := base) (k := 8) F20 M C T_Kept T_RoomError VI T_NoKeep T_NoLine T_NoPlace D19 (G19.mono (by decide)) D15 (G15.mono (by decide)) D16 (G16.mono (by decide))
  have G22 := ok_distances (P := l.prog) (w := w) (base := base) (k := 8) F22 M C T_Kept T_RoomError VI T_NoKeep T_NoLine T_NoPlace D19 (G19.mono (by decide)) D23 (G23.mono (by decide))
  have G21 := ok_how_many (P := l.prog) (w := w) (base := base) (k := 10) F21 M C T_Kept T_RoomError VI T_NoKeep T_NoLine T_NoPlace D20 (G20.mono (by decide))
  have G24 := ok_counts (P := l.prog) (w := w) (base := base) (k := 10) F24 M C T_Kept T_RoomError VI T_NoKeep T_NoLine T_NoPlace D22 (G22.mono (by decide)) D17 (G17.mono (by decide))
  have G25 := ok_is_fetches (P := l.prog) (w := w) (base := base) (k := 10) F25 M C T_Kept T_RoomError VI T_NoKeep T_NoLine T_NoPlace D7 (G7.mono (by decide)) D20 (G20.mono (by decide))
  have G27 := ok_law_asked (P := l.prog) (w := w) (base := base) (k := 12) F27 M C T_Kept T_RoomError VI T_NoKeep T_NoLine T_NoPlace D20 (G20.mono (by decide)) D21 (G21.mono (by decide)) D24 (G24.mono (by decide)) D25 (G25.mono (by decide)) D13 (G13.mono (by decide)) D22 (G22.mono (by decide)) D15 (G15.mono (by decide))
  have G28 := ok_law_refused (P := l.prog) (w := w) (base := base) (k := 14) F28 M C T_Kept T_RoomError VI T_NoKeep T_NoLine T_NoPlace XN D27 (G27.mono (by decide))
  have G30 := ok_law_held (P := l.prog) (w := w) (base := base) (k := 16) F30 M C T_Kept T_RoomError VI T_NoKeep T_NoLine T_NoPlace D29 (G29.mono (by decide)) D28 (G28.mono (by decide))
  have G32 := ok_law (P := l.prog) (w := w) (base := base) (k := 18) F32 M C T_Kept T_RoomError VI T_NoKeep T_NoLine T_NoPlace D26 (G26.mono (by decide)) D30 (G30.mono (by decide)) D31 (G31.mono (by decide))
  exact G32
theorem walk {l : PySem.W.OpenLaw} {q : Program} {loose : List Str} {XP : (Str → Option Value) → Heap → Prop} {YP : World → Heap → Prop} {d : DefRec} {K : Params → PySem.W.Frag} (hn : l.most = some 63) (hdf : d.params.defaults = [])
    (hY : ∀ (w : World) (h : Heap), YP w h → (K w.params).In h)
    (F : ∀ (w : World) (mg : Str → Option Value) (fa : Addr) (h : Heap), (K w.params).In h → h.Ns mainGlobals mg → mg d.name = some (.ref fa) →
      ∃ fd : FuncData, (∀ (s : Shared) (u : Value), BindsTo s fd ⟨[u], []⟩ [("_law_script", u)]) ∧ ∀ base : Heap, (K w.params).In base → base.Ns mainGlobals mg → FnOk l.prog w (K w.params) mg base CX0 20 fa fd ["_law_script"] (spLaw (K w.params))) :
    PySem.W.WalkO q loose XP YP l.row.toRowW d [] (fun f vs => PySem.call f vs) :=
  L2.walk_of (n := 63) (k := 20) (x := "_law_script") (CX := fun _ => CX0) (sp := fun w => spLaw (K w.params)) hn (by decide) hdf ⟨rfl, by decide, by decide, rfl⟩ hY F (fun _ _ a ns hl _ hS => ⟨a, ns, rfl, hS, hl, fun _ => rfl⟩) fun _ _ _ _ _ z => z
end K52
def PySem.W.Fast.tw10009953590907661739 : Unit := ()
def PySem.W.Fast.tw12752489692520878482 : Unit := ()
def PySem.W.Fast.tw6668995818066735182 : Unit := ()
def PySem.W.Fast.tw2239675546590339170 : Unit := ()
def PySem.W.Fast.tw14912082793708447255 : Unit := ()
def PySem.W.Fast.tw16357314504977494084 : Unit := ()
def PySem.W.Fast.tw17991398924723498464 : Unit := ()
def PySem.W.Fast.tw5412244441711335059 : Unit := ()
def PySem.W.Fast.tw13596295867844766485 : Unit := ()
def PySem.W.Fast.tw7537886557780926917 : Unit := ()
open PySem PySem.W PyProof.Rows
set_option maxRecDepth 100000 in
set_option maxHeartbeats 0 in
theorem PySem.Challenge.cw_roomslaid_k52_lines_refused_and_looks_holds : PySem.Challenge.rw_roomslaid_k52_lines_refused_and_looks.Holds := by
  w_on; o_law; k_head; (case hw => w_witness2)
  k_fill
  refine K52.walk (l := PySem.Challenge.rw_roomslaid_k52_lines_refused_and_looks) rfl rfl (fun w h Y => PySem.W.kIn_of Y) ?F
  case F =>
    intro w mg fa h KX G hmg
    refine' K52.all_mk KX G hmg ?g_Kept ?g_RoomError ?g_NoKeep ?g_NoLine ?g_NoPlace ?a0 ?i0 ?l0 ?c0 ?k0 ?a1 ?i1 ?l1 ?c1 ?k1 ?a2 ?i2 ?l2 ?c2 ?k2 ?a3 ?i3 ?l3 ?c3 ?k3 ?a4 ?l4 ?c4 ?k4 ?a5 ?l5 ?c5 ?k5 ?a6 ?l6 ?c6 ?k6 ?a7 ?l7 ?c7 ?k7 ?a8 ?l8 ?c8 ?k8 ?a9 ?l9 ?c9 ?k9 ?a10 ?l10 ?c10 ?k10 ?a11 ?l11 ?c11 ?k11 ?a12 ?l12 ?c12 ?k12 ?a13 ?l13 ?c13 ?k13 ?a14 ?l14 ?c14 ?k14 ?a15 ?i15 ?l15 ?c15 ?k15 ?a16 ?i16 ?l16 ?c16 ?k16 ?a17 ?l17 ?c17 ?k17 ?a18 ?l18 ?c18 ?k18 ?a19 ?l19 ?c19 ?k19 ?a20 ?l20 ?c20 ?k20 ?a21 ?l21 ?c21 ?k21 ?a22 ?l22 ?c22 ?k22 ?a23 ?l23 ?c23 ?k23 ?a24 ?l24 ?c24 ?k24 ?a25 ?l25 ?c25 ?k25 ?a26 ?l26 ?c26 ?k26 ?a27 ?l27 ?c27 ?k27 ?a28 ?l28 ?c28 ?k28 ?a29 ?l29 ?c29 ?k29 ?a30 ?l30 ?c30 ?k30 ?a31 ?l31 ?c31 ?k31 ?a32 ?l32 ?c32 ?k32 ?pg_Kept ?hd_Kept ?po_Kept ?sa_Kept ?mk_Kept ?kc_Kept ?n_Kept_bound ?n_Kept_held ?xo_RoomError ?xk_RoomError ?xr ?xf ?xp ?xo_NoKeep ?xk_NoKeep ?xn_NoKeep ?xi_NoKeep ?xs_NoKeep ?xg_NoKeep ?xh_NoKeep ?n_NoKeep_found ?xo_NoLine ?xk_NoLine ?xn_NoLine ?xi_NoLine ?xs_NoLine ?xg_NoLine ?xh_NoLine ?n_NoLine_found ?xo_NoPlace ?xk_NoPlace ?xn_NoPlace ?xi_NoPlace ?xs_NoPlace ?xg_NoPlace ?xh_NoPlace ?n_NoPlace_found ?vi1 ?vi2 ?vi3 ?z0 ?z1 ?z2 ?z3 ?z4 ?z5 ?z6 ?z7 ?z8 ?z9 ?z10 ?z11 ?z12 ?z13 ?z14 ?z15 ?v1 ?v2 ?v3 ?v4 ?v5 ?v6 ?v7 ?yb ?yc ?ya_NoLine ?yd_NoLine ?xn_p_NoLine_NoKeep ?xn_p_NoLine_NoPlace ?ya_NoKeep ?yd_NoKeep ?xn_p_NoKeep_NoLine ?xn_p_NoKeep_NoPlace ?ya_NoPlace ?yd_NoPlace ?xn_p_NoPlace_NoLine ?xn_p_NoPlace_NoKeep
    (case g_Kept => k_is)
    (case g_RoomError => k_is)
    (case g_NoKeep => k_is)
    (case g_NoLine => k_is)
    (case g_NoPlace => k_is)
    (case a0 => k_is)
    (case i0 => k_is)
    (case l0 => k_is)
    (case c0 => k_is)
    (case k0 => k_is)
    (case a1 => k_is)
    (case i1 => k_is)
    (case l1 => k_is)
    (case c1 => k_is)
    (case k1 => k_is)
    (case a2 => k_is)
    (case i2 => k_is)
    (case l2 => k_is)
    (case c2 => k_is)
    (case k2 => k_is)
    (case a3 => k_is)
    (case i3 => k_is)
    (case l3 => k_is)
    (case c3 => k_is)
    (case k3 => k_is)
    (case a4 => k_is)
    (case l4 => k_is)
    (case c4 => k_is)
    (case k4 => k_is)
    (case a5 => k_is)
    (case l5 => k_is)
    (case c5 => k_is)
    (case k5 => k_is)
    (case a6 => k_is)
    (case l6 => k_is)
    (case c6 => k_is)
    (case k6 => k_is)
    (case a7 => k_is)
    (case l7 => k_is)
    (case c7 => k_is)
    (case k7 => k_is)
    (case a8 => k_is)
    (case l8 => k_is)
    (case c8 => k_is)
    (case k8 => k_is)
    (case a9 => k_is)
    (case l9 => k_is)
    (case c9 => k_is)
    (case k9 => k_is)
    (case a10 => k_is)
    (case l10 => k_is)
    (case c10 => k_is)
    (case k10 => k_is)
    (case a11 => k_is)
    (case l11 => k_is)
    (case c11 => k_is)
    (case k11 => k_is)
    (case a12 => k_is)
    (case l12 => k_is)
    (case c12 => k_is)
    (case k12 => k_is)
    (case a13 => k_is)
    (case l13 => k_is)
    (case c13 => k_is)
    (case k13 => k_is)
    (case a14 => k_is)
    (case l14 => k_is)
    (case c14 => k_is)
    (case k14 => k_is)
    (case a15 => k_is)
    (case i15 => k_is)
    (case l15 => k_is)
    (case c15 => k_is)
    (case k15 => k_is)
    (case a16 => k_is)
    (case i16 => k_is)
    (case l16 => k_is)
    (case c16 => k_is)
    (case k16 => k_is)
    (case a17 => k_is)
    (case l17 => k_is)
    (case c17 => k_is)
    (case k17 => k_is)
    (case a18 => k_is)
    (case l18 => k_is)
    (case c18 => k_is)
    (case k18 => k_is)
    (case a19 => k_is)
    (case l19 => k_is)
    (case c19 => k_is)
    (case k19 => k_is)
    (case a20 => k_is)
    (case l20 => k_is)
    (case c20 => k_is)
    (case k20 => k_is)
    (case a21 => k_is)
    (case l21 => k_is)
    (case c21 => k_is)
    (case k21 => k_is)
    (case a22 => k_is)
    (case l22 => k_is)
    (case c22 => k_is)
    (case k22 => k_is)
    (case a23 => k_is)
    (case l23 => k_is)
    (case c23 => k_is)
    (case k23 => k_is)
    (case a24 => k_is)
    (case l24 => k_is)
    (case c24 => k_is)
    (case k24 => k_is)
    (case a25 => k_is)
    (case l25 => k_is)
    (case c25 => k_is)
    (case k25 => k_is)
    (case a26 => k_is)
    (case l26 => k_is)
    (case c26 => k_is)
    (case k26 => k_is)
    (case a27 => k_is)
    (case l27 => k_is)
    (case c27 => k_is)
    (case k27 => k_is)
    (case a28 => k_is)
    (case l28 => k_is)
    (case c28 => k_is)
    (case k28 => k_is)
    (case a29 => k_is)
    (case l29 => k_is)
    (case c29 => k_is)
    (case k29 => k_is)
    (case a30 => k_is)
    (case l30 => k_is)
    (case c30 => k_is)
    (case k30 => k_is)
    (case a31 => k_is)
    (case l31 => k_is)
    (case c31 => k_is)
    (case k31 => k_is)
    (case a32 => k_is)
    (case l32 => k_is)
    (case c32 => k_is)
    (case k32 => k_is)
    (case pg_Kept => k_is)
    (case hd_Kept => k_is)
    (case po_Kept => k_is)
    (case sa_Kept => k_is)
    (case mk_Kept => k_is)
    (case kc_Kept => k_is)
    (case n_Kept_bound => k_is)
    (case n_Kept_held => k_is)
    (case xo_RoomError => k_is)
    (case xk_RoomError => k_is)
    (case xr => k_is)
    (case xf => k_is)
    (case xp => k_is)
    (case xo_NoKeep => k_is)
    (case xk_NoKeep => k_is)
    (case xn_NoKeep => first | exact Eq.refl true | kernel_rfl | decide +kernel)
    (case xi_NoKeep => k_is)
    (case xs_NoKeep => k_is)
    (case xg_NoKeep => k_is)
    (case xh_NoKeep => k_is)
    (case n_NoKeep_found => k_is)
    (case xo_NoLine => k_is)
    (case xk_NoLine => k_is)
    (case xn_NoLine => first | exact Eq.refl true | kernel_rfl | decide +kernel)
    (case xi_NoLine => k_is)
    (case xs_NoLine => k_is)
    (case xg_NoLine => k_is)
    (case xh_NoLine => k_is)
    (case n_NoLine_found => k_is)
    (case xo_NoPlace => k_is)
    (case xk_NoPlace => k_is)
    (case xn_NoPlace => first | exact Eq.refl true | kernel_rfl | decide +kernel)
    (case xi_NoPlace => k_is)
    (case xs_NoPlace => k_is)
    (case xg_NoPlace => k_is)
    (case xh_NoPlace => k_is)
    (case n_NoPlace_found => k_is)
    (case vi1 => k_is)
    (case vi2 => k_is)
    (case vi3 => k_is)
    (case z0 => k_is)
    (case z1 => k_is)
    (case z2 => k_is)
    (case z3 => k_is)
    (case z4 => k_is)
    (case z5 => k_is)
    (case z6 => k_is)
    (case z7 => k_is)
    (case z8 => k_is)
    (case z9 => k_is)
    (case z10 => k_is)
    (case z11 => k_is)
    (case z12 => k_is)
    (case z13 => k_is)
    (case z14 => k_is)
    (case z15 => k_is)
    (case v1 => k_is)
    (case v2 => k_is)
    (case v3 => k_is)
    (case v4 => k_is)
    (case v5 => k_is)
    (case v6 => k_is)
    (case v7 => k_is)
    (case yb => k_is)
    (case yc => k_is)
    (case ya_NoLine => k_is)
    (case yd_NoLine => k_is)
    (case xn_p_NoLine_NoKeep => first | exact Eq.refl true | kernel_rfl | decide +kernel)
    (case xn_p_NoLine_NoPlace => first | exact Eq.refl true | kernel_rfl | decide +kernel)
    (case ya_NoKeep => k_is)
    (case yd_NoKeep => k_is)
    (case xn_p_NoKeep_NoLine => first | exact Eq.refl true | kernel_rfl | decide +kernel)
    (case xn_p_NoKeep_NoPlace => first | exact Eq.refl true | kernel_rfl | decide +kernel)
    (case ya_NoPlace => k_is)
    (case yd_NoPlace => k_is)
    (case xn_p_NoPlace_NoLine => first | exact Eq.refl true | kernel_rfl | decide +kernel)
    (case xn_p_NoPlace_NoKeep => first | exact Eq.refl true | kernel_rfl | decide +kernel)

