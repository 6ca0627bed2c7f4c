import PyProof.Rows.All
import Wide.All
import OpenK.AllK
import Wide.FinOn
import Lean
import PyProof.EqAt
import PyProof.EqKinds
import PyProof.TupleCall
import PyProof.LongRange
import PyProof.ListRange
import PyProof.RaisesMany
import PyProof.ExcBaseAll.ValueError
import PyProof.ExcArgs
import PyProof.InstStoreFacts
import PyProof.ExcAttrAll.ValueError
import PyProof.RulesAs
import PyProof.RulesDel
import PyProof.ReprRoads
import PyProof.CallFns
import PyProof.InstSpecial
import PyProof.Rows.RuleN_isinstance
import KE.KIsNot
import PyProof.ReprLen
import PyProof.EnumMake
import PyProof.EnumFor
import PyProof.EnumStmt
import PyProof.Rows.EnumRows
import PyProof.RulesDelMore
import PyProof.Rows.SetFrom
import PyProof.ZipIter
import PyProof.IsRules
import PyProof.Conv_int_bool
import PyProof.IsiTuple
import PyProof.NeKinds
import KE.KEqDict
import PySem.Challenge.RW_roomslaid_k05_refusals_apart
set_option Elab.async false
set_option linter.all false
set_option maxRecDepth 100000
/-! THE HAND LAYER, for ints, bools, texts, own classes, LISTS and tuples (index, slices, in, append, pop ..), calls, loops. Paste it whole ahead of your own text; what your proof does not reach may be deleted. -/
namespace L2
open PySem PySem.Spec PyProof.Rows

/-- a key: an int or a str -/
abbrev Key := Sum Int Str
def keyIs : Key → Value → Bool
  | .inl k, v => Value.isInt k v
  | .inr x, v => Value.isStrOf x v
def keyH (w : World) : Key → Int
  | .inl k => hashInt k
  | .inr x => hashStr w x
theorem keyIs_shape : ∀ {k : Key} {v : Value}, keyIs k v = true → (∃ i t, k = Sum.inl i ∧ v = Value.int i t) ∨ (∃ x t, k = Sum.inr x ∧ v = Value.str x t)
  | .inl i, v, h => by
    obtain ⟨t, e⟩ := Value.isInt_shape (k := i) (v := v) h
    exact .inl ⟨i, t, rfl, e⟩
  | .inr x, v, h => by
    obtain ⟨t, e⟩ := Value.isStrOf_shape (x := x) (v := v) h
    exact .inr ⟨x, t, rfl, e⟩
theorem keyIs_int (i : Int) (t : Tok) : keyIs (.inl i) (.int i t) = true := by simp [keyIs, Value.isInt]
theorem keyIs_str (x : Str) (t : Tok) : keyIs (.inr x) (.str x t) = true := by simp [keyIs, Value.isStrOf]
theorem key_ll (a b : Int) : decide ((Sum.inl a : Key) = Sum.inl b) = (a == b) := by
  by_cases e : a = b
  · subst e; simp
  · have h : ¬ (Sum.inl a : Key) = Sum.inl b := fun q => e (Sum.inl.inj q)
    rw [decide_eq_false h]
    exact (beq_eq_false_iff_ne.mpr e).symm
theorem key_rr (a b : Str) : decide ((Sum.inr a : Key) = Sum.inr b) = decide (a = b) := by
  by_cases e : a = b
  · subst e; simp
  · have h : ¬ (Sum.inr a : Key) = Sum.inr b := fun q => e (Sum.inr.inj q)
    rw [decide_eq_false h, decide_eq_false e]
theorem key_lr (a : Int) (b : Str) : decide ((Sum.inl a : Key) = Sum.inr b) = false := decide_eq_false (fun q => nomatch q)
theorem key_rl (a : Str) (b : Int) : decide ((Sum.inr a : Key) = Sum.inl b) = false := decide_eq_false (fun q => nomatch q)

def mixKind (prog : Program) (w : World) : PySem.KeyKind prog w Key where
  is := keyIs
  hash := keyH w
  inj := fun v a b ha hb => by
    rcases keyIs_shape ha with ⟨i, t, rfl, rfl⟩ | ⟨x, t, rfl, rfl⟩
    · rcases keyIs_shape hb with ⟨j, u, rfl, e⟩ | ⟨y, u, rfl, e⟩
      · injection e with e1 _; rw [e1]
      · exact nomatch e
    · rcases keyIs_shape hb with ⟨j, u, rfl, e⟩ | ⟨y, u, rfl, e⟩
      · exact nomatch e
      · injection e with e1 _; rw [e1]
  byValue := fun k v h => by
    rcases keyIs_shape h with ⟨i, t, rfl, rfl⟩ | ⟨x, t, rfl, rfl⟩ <;> rfl
  pyHash := fun hv h => by
    rcases keyIs_shape hv with ⟨i, t, rfl, rfl⟩ | ⟨x, t, rfl, rfl⟩
    · exact wpAny_pyHash_int h
    · exact wpAny_pyHash_str h
  eqBool := fun hu hv h => by
    rcases keyIs_shape hu with ⟨i, t, rfl, rfl⟩ | ⟨x, t, rfl, rfl⟩
    · rcases keyIs_shape hv with ⟨j, u, rfl, rfl⟩ | ⟨y, u, rfl, rfl⟩
      · rw [key_ll] at h; exact wpAny_eqBool_int h
      · rw [key_lr] at h; exact SeqAt.EqAt.int_str i t y u _ _ _ _ h
    · rcases keyIs_shape hv with ⟨j, u, rfl, rfl⟩ | ⟨y, u, rfl, rfl⟩
      · rw [key_rl] at h; exact SeqAt.EqAt.str_int x t j u _ _ _ _ h
      · rw [key_rr] at h; exact wpAny_eqBool_str h
  «strs» := fun k x t v h => by
    rcases keyIs_shape h with ⟨i, u, rfl, e⟩ | ⟨y, u, rfl, e⟩
    · exact nomatch e
    · injection e with e1 _
      subst e1
      cases v <;> rfl

theorem mixKind_int (prog : Program) (w : World) (i : Int) (t : Tok) : (mixKind prog w).is (.inl i) (.int i t) = true := keyIs_int i t
theorem mixKind_str (prog : Program) (w : World) (x : Str) (t : Tok) : (mixKind prog w).is (.inr x) (.str x t) = true := keyIs_str x t
end L2

namespace L2
open PySem PySem.Spec PyProof.Rows

/-- a value, without the heap -/
inductive V where
  | non | bl (b : Bool) | int (i : Int) | str (x : Str) | byt (b : Array UInt8) | flt (b : UInt64) | ref (a : Addr) | ty (n : String)
  deriving DecidableEq

def RelV : V → Value → Prop
  | .non, u => u = Value.none
  | .bl b, u => u = Value.bool b
  | .int i, u => ∃ t, u = Value.int i t
  | .str x, u => ∃ t, u = Value.str x t
  | .byt b, u => ∃ t, u = Value.bytes b t
  | .flt b, u => ∃ t, u = Value.float b t
  | .ref a, u => u = Value.ref a
  | .ty n, u => u = Value.type n

abbrev Vals : List V → List Value → Prop := Paired RelV
theorem Vals.length {xs : List V} {us : List Value} (r : Vals xs us) : xs.length = us.length := Paired.length r
theorem Vals.get : ∀ {xs : List V} {us : List Value} {i : Nat} {x : V}, Vals xs us → xs[i]? = some x → ∃ u, us[i]? = some u ∧ RelV x u
  | _, _, _, _, .nil, e => by simp at e
  | _, _, 0, _, .cons r _, e => by simp at e; subst e; exact ⟨_, rfl, r⟩
  | _, _, i + 1, x, .cons _ t, e => by
    obtain ⟨u, h1, h2⟩ := Vals.get (i := i) (x := x) t (by simpa using e)
    exact ⟨u, by simpa using h1, h2⟩
theorem Vals.set {x : V} {u : Value} (r : RelV x u) : ∀ {xs : List V} {us : List Value} (i : Nat), Vals xs us → Vals (xs.set i x) (us.set i u)
  | _, _, _, .nil => .nil
  | _, _, 0, .cons _ t => .cons r t
  | _, _, i + 1, .cons q t => .cons q (Vals.set r i t)
theorem Vals.append : ∀ {xs ys : List V} {us ws : List Value}, Vals xs us → Vals ys ws → Vals (xs ++ ys) (us ++ ws)
  | _, _, _, _, .nil, s => s
  | _, _, _, _, .cons r t, s => .cons r (Vals.append t s)
theorem Vals.take : ∀ {xs : List V} {us : List Value} (n : Nat), Vals xs us → Vals (xs.take n) (us.take n)
  | _, _, 0, _ => .nil
  | _, _, _ + 1, .nil => .nil
  | _, _, n + 1, .cons r t => .cons r (Vals.take n t)
theorem Vals.drop : ∀ {xs : List V} {us : List Value} (n : Nat), Vals xs us → Vals (xs.drop n) (us.drop n)
  | _, _, 0, r => r
  | _, _, _ + 1, .nil => .nil
  | _, _, n + 1, .cons _ t => Vals.drop n t
def RelO : Option V → Option Value → Prop
  | some v, some u => RelV v u
  | none, none => True
  | _, _ => False
def KV {κ : Type} : List (κ × V) → List (κ × Value) → Prop := Paired fun (p : κ × V) (q : κ × Value) => p.1 = q.1 ∧ RelV p.2 q.2

/-- a key of a dict (00_mix): an int or a text -/
def kV : Key → V
  | .inl i => .int i
  | .inr x => .str x

/-- what stands at a tracked address -/
inductive HO where
  /-- a list -/
  | lst (xs : List V)
  /-- a tuple (never changes) -/
  | tup (xs : List V)
  /-- a dict whose keys are ints and texts; one whose keys are tuples of ints and texts (the empty one is both) -/
  | dK (kvs : List (Key × V)) | dT (kvs : List (List Key × V))
  /-- a set of ints: its members, its size -/
  | set (S : Int → Bool) (n : Nat)
  /-- an instance of the class at C, its dict at dx, its attributes -/
  | ins (C dx : Addr) (fs : List (Str × V))
  /-- the dict of the instance at x -/
  | own (x : Addr)
  /-- the dict of an exception -/
  | xd (fs : List (Str × V))
  /-- a bound method, f of x -/
  | met (f x : Addr)
  /-- a range object lo, lo + 1, .. below hi -/
  | rng (lo hi : Int)
  /-- a thing that is known to the object (the script; a dict while a loop walks it): read, never written while it is so -/
  | frz (o : Obj) (u : HO)
  /-- a code object's table -/
  | tbl (ps : Array Value)
  /-- any other thing, by what is true of its one object (a def of one's own: SetO a S n := HO.ext fun h => ..) -/
  | ext (φ : Heap → Prop)

abbrev Hp := Addr → Option HO
def upd (H : Hp) (a : Addr) (o : HO) : Hp := fun b => if b = a then some o else H b
theorem upd_same {H : Hp} {a : Addr} {o : HO} : upd H a o a = some o := by unfold upd; rw [if_pos rfl]
theorem upd_ne {H : Hp} {a b : Addr} {o : HO} (h : b ≠ a) : upd H a o b = H b := by unfold upd; rw [if_neg h]
theorem upd_upd {H : Hp} {a : Addr} {o u : HO} : upd (upd H a o) a u = upd H a u := by
  funext b; unfold upd; split <;> rfl
theorem ne_of_none {H : Hp} {a b : Addr} {o : HO} (h : H a = some o) (h' : H b = none) : a ≠ b := by
  intro e; subst e; rw [h] at h'; cases h'

section
variable (P : Program) (w : World)
def ObjOk (H : Hp) (h : Heap) (a : Addr) : HO → Prop
  | .lst xs => xs.length ≤ sizeLine ∧ ∃ (its : List Value) (n : Nat), Vals xs its ∧ h.get? a = some { cls := .type "list", data := .seq its.toArray n }
  | .tup xs => xs.length ≤ sizeLine ∧ ∃ its : List Value, Vals xs its ∧ IsTup h a its.toArray
  | .dK kvs => kvs.length ≤ sizeLine ∧ (a == sysModules) = false ∧ ∃ vs, KV kvs vs ∧ h.DictOf (mixKind P w) a vs
  | .dT kvs => kvs.length ≤ sizeLine ∧ (a == sysModules) = false ∧ ∃ xs : List (List Key × Addr × Value),
      Paired (fun (p : List Key × V) (q : List Key × Addr × Value) => p.1 = q.1 ∧ H q.2.1 = some (.tup (p.1.map kV)) ∧ RelV p.2 q.2.2) kvs xs ∧
      ∃ o es ep, h.get? a = some o ∧ o.ExactDict ∧ o.data = .dict es ep ∧ es.toList = xs.map (entryOfKey (tupleKind (mixKind P w))) ∧ (xs.map (·.1)).Nodup
  | .set S n => h.SetOf (intKind P w) a S n
  | .ins C dx fs => H dx = some (.own a) ∧ fs.length ≤ 1000 ∧ dx ≠ a ∧ h.get? a = some (PySem.W.instObj C dx) ∧
      ∃ mA, h.Ns1 dx mA ∧ (∀ f, RelO (fs.lookup f) (mA f)) ∧ PySem.Within mA (fs.map (·.1))
  | .own _ => ∃ o, h.get? a = some o
  | .xd fs => ∃ mA, h.Ns1 a mA ∧ ∀ f, RelO (fs.lookup f) (mA f)
  | .rng lo hi => ∃ t u v, h.get? a = some { cls := .type "range", data := .fields #[.int lo t, .int hi u, .int 1 v] }
  | .frz o u => h.get? a = some o ∧ ObjOk H h a u
  | .tbl ps => h.get? a = some { cls := .none, data := .fields ps }
  | .met f x => h.get? a = some (PySem.W.methodObj (.ref f) (.ref x))
  | .ext φ => φ h ∧ (∃ o, h.get? a = some o) ∧ ∀ h1 h2 : Heap, φ h1 → (∀ o, h1.get? a = some o → h2.get? a = some o) → φ h2
/-- the abstract heap is held -/
def HOk (H : Hp) (h : Heap) : Prop := ∀ a o, H a = some o → ObjOk P w H h a o
end

section
variable {P : Program} {w : World} {H H' : Hp} {h h' : Heap} {a : Addr} {o : HO}
theorem ObjOk.lt (x : ObjOk P w H h a o) : a < h.objs.size := by
  cases o with
  | lst xs => obtain ⟨_, _, _, _, e⟩ := x; exact Heap.lt_size e
  | tup xs => obtain ⟨_, _, _, p⟩ := x; exact p.lt
  | dK kvs => obtain ⟨_, _, _, _, o, _, _, e, _⟩ := x; exact Heap.lt_size e
  | dT kvs => obtain ⟨_, _, _, _, o, _, _, e, _⟩ := x; exact Heap.lt_size e
  | set S n => obtain ⟨o, _, _, _, e, _⟩ := x; exact Heap.lt_size e
  | ins C dx fs => obtain ⟨_, _, _, e, _⟩ := x; exact Heap.lt_size e
  | own y => obtain ⟨_, e⟩ := x; exact Heap.lt_size e
  | xd fs => obtain ⟨_, ⟨_, _, _, e, _⟩, _⟩ := x; exact Heap.lt_size e
  | rng lo hi => obtain ⟨_, _, _, e⟩ := x; exact Heap.lt_size e
  | frz ob u => obtain ⟨e, _⟩ := x; exact Heap.lt_size e
  | tbl ps => exact Heap.lt_size (show h.get? a = some _ from x)
  | met f y => exact Heap.lt_size (show h.get? a = some _ from x)
  | ext φ => obtain ⟨_, ⟨_, e⟩, _⟩ := x; exact Heap.lt_size e
theorem Paired.mapP {α β : Type} {F G : α → β → Prop} : ∀ {l₁ : List α} {l₂ : List β}, Paired F l₁ l₂ → (∀ a b, F a b → G a b) → Paired G l₁ l₂
  | _, _, .nil, _ => .nil
  | _, _, .cons r t, f => .cons (f _ _ r) (Paired.mapP t f)
/-- what an object's description leans on: its own object, its own dict, the tuples -/
theorem ObjOk.stay (x : ObjOk P w H h a o) (k : ∀ b u, (b = a ∨ H b = some (.own a)) → h.get? b = some u → h'.get? b = some u)
    (ho : ∀ b, H b = some (.own a) → H' b = some (.own a)) (ht : ∀ b xs, H b = some (.tup xs) → H' b = some (.tup xs)) : ObjOk P w H' h' a o := by
  induction o with
  | lst xs => obtain ⟨z, its, n, r, e⟩ := x; exact ⟨z, its, n, r, k _ _ (.inl rfl) e⟩
  | tup xs => obtain ⟨z, its, r, ob, e, c⟩ := x; exact ⟨z, its, r, ob, k _ _ (.inl rfl) e, c⟩
  | dK kvs => obtain ⟨z, y, vs, r, ob, es, ep, e, c⟩ := x; exact ⟨z, y, vs, r, ob, es, ep, k _ _ (.inl rfl) e, c⟩
  | dT kvs =>
    obtain ⟨z, y, xs, r, ob, es, ep, e, c⟩ := x
    exact ⟨z, y, xs, Paired.mapP r fun p q z => ⟨z.1, ht _ _ z.2.1, z.2.2⟩, ob, es, ep, k _ _ (.inl rfl) e, c⟩
  | set S n => obtain ⟨ob, es, ep, t, e, c⟩ := x; exact ⟨ob, es, ep, t, k _ _ (.inl rfl) e, c⟩
  | ins C dx fs =>
    obtain ⟨d, z, ne, e, mA, ⟨od, es, ep, e2, c⟩, r⟩ := x
    exact ⟨ho _ d, z, ne, k _ _ (.inl rfl) e, mA, ⟨od, es, ep, k _ _ (.inr d) e2, c⟩, r⟩
  | own y => obtain ⟨ob, e⟩ := x; exact ⟨ob, k _ _ (.inl rfl) e⟩
  | xd fs => obtain ⟨mA, ⟨od, es, ep, e, c⟩, r⟩ := x; exact ⟨mA, ⟨od, es, ep, k _ _ (.inl rfl) e, c⟩, r⟩
  | rng lo hi => obtain ⟨t, u, v, e⟩ := x; exact ⟨t, u, v, k _ _ (.inl rfl) e⟩
  | frz ob u ih => obtain ⟨e, q⟩ := x; exact ⟨k _ _ (.inl rfl) e, ih q⟩
  | tbl ps =>
    have e : h.get? a = some { cls := .none, data := .fields ps } := x
    show h'.get? a = some { cls := .none, data := .fields ps }
    exact k a _ (.inl rfl) e
  | met f y =>
    have e : h.get? a = some (PySem.W.methodObj (.ref f) (.ref y)) := x
    show h'.get? a = some (PySem.W.methodObj (.ref f) (.ref y))
    exact k a _ (.inl rfl) e
  | ext φ => obtain ⟨p, ⟨o, e⟩, st⟩ := x; exact ⟨st _ _ p fun o q => k _ _ (.inl rfl) q, ⟨o, k _ _ (.inl rfl) e⟩, st⟩
theorem HOk.lt (x : HOk P w H h) (e : H a = some o) : a < h.objs.size := (x a o e).lt
theorem HOk.fresh (x : HOk P w H h) (e : h.objs.size ≤ a) : H a = none := by
  cases q : H a with
  | none => rfl
  | some u => exact absurd (Nat.lt_of_lt_of_le (x.lt q) e) (Nat.lt_irrefl _)
/-- every object of the heap is kept -/
theorem HOk.kept (x : HOk P w H h) (k : ∀ b u, h.get? b = some u → h'.get? b = some u) : HOk P w H h' := fun a o e =>
  (x a o e).stay (fun b u _ q => k b u q) (fun _ q => q) fun _ _ q => q
/-- a new object is laid and tracked -/
theorem HOk.laid (x : HOk P w H h) (k : ∀ b u, h.get? b = some u → h'.get? b = some u) (hp : h.objs.size ≤ a) (new : ObjOk P w (upd H a o) h' a o) : HOk P w (upd H a o) h' := fun b u e => by
  have hn := x.fresh hp
  by_cases hb : b = a
  · subst hb; rw [upd_same] at e; cases e; exact new
  · rw [upd_ne hb] at e
    exact (x b u e).stay (fun c v _ q => k c v q) (fun c q => by rw [upd_ne (ne_of_none q hn)]; exact q) fun c xs q => by rw [upd_ne (ne_of_none q hn)]; exact q
end

/-- what may be read as u: it is u, or a known u -/
def Rd (H : Hp) (a : Addr) (u : HO) : Prop := H a = some u ∨ ∃ o, H a = some (.frz o u)
theorem Rd.ok {P : Program} {w : World} {H : Hp} {h : Heap} {a : Addr} {u : HO} (r : Rd H a u) (x : HOk P w H h) : ObjOk P w H h a u := by
  rcases r with r | ⟨o, r⟩
  · exact x a u r
  · obtain ⟨_, q⟩ := x a _ r
    exact q
/-- what may be written -/
def Mut : Option HO → Prop
  | some (.lst _) => True
  | some (.dK _) => True
  | some (.dT _) => True
  | some (.set _ _) => True
  | some (.ins _ _ _) => True
  | some (.ext _) => True
  | _ => False
section
variable {P : Program} {w : World} {H : Hp} {h h' : Heap} {x e : Addr} {o' : HO}
/-- the object at e is changed: x itself, or the dict of the instance x -/
theorem HOk.write (ok : HOk P w H h) (mu : Mut (H x)) (he : e = x ∨ H e = some (.own x)) (k : ∀ b u, b ≠ e → h.get? b = some u → h'.get? b = some u) (heo : ∃ u, h'.get? e = some u)
    (new : ObjOk P w (upd H x o') h' x o') : HOk P w (upd H x o') h' := fun b u q => by
  have nown : ∀ c y, H c = some (.own y) → c ≠ x := fun c y r z => by subst z; rw [r] at mu; exact mu
  have ntup : ∀ c xs, H c = some (.tup xs) → c ≠ x := fun c xs r z => by subst z; rw [r] at mu; exact mu
  by_cases hb : b = x
  · subst hb; rw [upd_same] at q; cases q; exact new
  · rw [upd_ne hb] at q
    by_cases hbe : b = e
    · have q' : H b = some (.own x) := by
        rcases he with z | z
        · exact absurd (hbe.trans z) hb
        · rw [hbe]; exact z
      rw [q] at q'; cases q'
      obtain ⟨v, hv⟩ := heo
      exact ⟨v, by rw [hbe]; exact hv⟩
    · refine (ok b u q).stay (fun c v hc r => k c v ?_ r) (fun c r => by rw [upd_ne (nown c b r)]; exact r) fun c xs r => by rw [upd_ne (ntup c xs r)]; exact r
      rcases hc with rfl | hc
      · exact hbe
      · rintro rfl
        rcases he with z | z
        · exact nown c b hc z
        · rw [hc] at z; cases z; exact hb rfl
end

/-! ### kept unless tracked; of the frames at fs (the callers') the slots may change (an exception that passes writes there); of the records at ex (iterators) nothing is said -/
structure Un (fs ex : List Addr) (H H' : Hp) (h h' : Heap) : Prop where
  keep : ∀ b o, h.get? b = some o → H b = none → b ∉ fs → b ∉ ex → h'.get? b = some o
  slot : ∀ b o, h.get? b = some o → H b = none → b ∈ fs → b ∉ ex → ∃ sl, h'.get? b = some { o with slots := sl }
  free : ∀ b o, h.get? b = some o → H b = none → b ∉ ex → H' b = none
  there : ∀ b o, h.get? b = some o → b ∉ ex → ∃ o', h'.get? b = some o'
  tups : ∀ b xs, H b = some (.tup xs) → H' b = some (.tup xs)
  frzs : ∀ b o u, H b = some (.frz o u) → H' b = some (.frz o u)
  tbls : ∀ b ps, H b = some (.tbl ps) → ∃ more, H' b = some (.tbl (ps ++ more))
section
variable {fs fs' ex ex' : List Addr} {H H1 H2 : Hp} {h h1 h2 h' : Heap} {a x e : Addr} {o : HO}
theorem Un.any (u : Un fs ex H H1 h h1) {b : Addr} {ob : Obj} (q : h.get? b = some ob) (n : H b = none) (hx : b ∉ ex) : ∃ sl, h1.get? b = some { ob with slots := sl } := by
  by_cases hb : b ∈ fs
  · exact u.slot b ob q n hb hx
  · exact ⟨ob.slots, u.keep b ob q n hb hx⟩
theorem Un.kept (k : ∀ b u, h.get? b = some u → h'.get? b = some u) : Un fs ex H H h h' :=
  ⟨fun b ob q _ _ _ => k b ob q, fun b ob q _ _ _ => ⟨ob.slots, k b ob q⟩, fun _ _ _ n _ => n, fun b ob q _ => ⟨ob, k b ob q⟩, fun _ _ q => q, fun _ _ _ q => q, fun _ ps q => ⟨#[], by rw [q]; simp⟩⟩
theorem Un.refl : Un fs ex H H h h := Un.kept fun _ _ q => q
theorem Un.laid (k : ∀ b u, h.get? b = some u → h'.get? b = some u) (hp : h.objs.size ≤ a) (hn : H a = none) : Un fs ex H (upd H a o) h h' where
  keep := fun b u q _ _ _ => k b u q
  slot := fun b u q _ _ _ => ⟨u.slots, k b u q⟩
  free := fun b u q n _ => by rw [upd_ne (Nat.ne_of_lt (Nat.lt_of_lt_of_le (Heap.lt_size q) hp))]; exact n
  there := fun b u q _ => ⟨u, k b u q⟩
  tups := fun b xs q => by rw [upd_ne (ne_of_none q hn)]; exact q
  frzs := fun b u xs q => by rw [upd_ne (ne_of_none q hn)]; exact q
  tbls := fun b ps q => ⟨#[], by rw [upd_ne (ne_of_none q hn), q]; simp⟩
theorem Un.write (mu : Mut (H x)) (he : e = x ∨ H e = some (.own x)) (k : ∀ b u, b ≠ e → h.get? b = some u → h'.get? b = some u) (heo : ∃ u, h'.get? e = some u) : Un fs ex H (upd H x o) h h' := by
  have hx : ∀ b, H b = none → b ≠ x := fun b n z => by subst z; rw [n] at mu; exact mu
  have hb : ∀ b, H b = none → b ≠ e := fun b n z => by
    subst z
    rcases he with r | r
    · exact hx b n r
    · rw [n] at r; cases r
  have hm : ∀ b u, H b = some u → ¬ Mut (some u) → b ≠ x := fun b u q nm z => by subst z; rw [q] at mu; exact nm mu
  refine ⟨fun b u q n _ _ => k b u (hb b n) q, fun b u q n _ _ => ⟨u.slots, k b u (hb b n) q⟩, fun b u q n _ => by rw [upd_ne (hx b n)]; exact n, fun b u q _ => ?_,
    fun b xs q => by rw [upd_ne (hm b _ q fun z => z)]; exact q, fun b u xs q => by rw [upd_ne (hm b _ q fun z => z)]; exact q, fun b ps q => ⟨#[], by rw [upd_ne (hm b _ q fun z => z), q]; simp⟩⟩
  by_cases hbe : b = e
  · subst hbe; exact heo
  · exact ⟨u, k b u hbe q⟩
end

/-! ### the heap without what is tracked -/
def trk (h : Heap) (H : Hp) : List Addr := (List.range h.objs.size).filter fun a => (H a).isSome
def hidT (h : Heap) (H : Hp) : Heap := PySem.W.hideAll h (trk h H)
theorem hidT_size (h : Heap) (H : Hp) : (hidT h H).objs.size = h.objs.size := PySem.W.hideAll_size _ _
theorem hidT_get {h : Heap} {H : Hp} {b : Addr} {o : Obj} (e : h.get? b = some o) (n : H b = none) : (hidT h H).get? b = some o :=
  PySem.W.hideAll_get _ e fun hm => by
    have q : (H b).isSome = true := (List.mem_filter.mp hm).2
    rw [n] at q; simp at q
theorem of_hidT {h : Heap} {H : Hp} {b : Addr} {o : Obj} (e : (hidT h H).get? b = some o) : h.get? b = some o ∧ H b = none := by
  have e' : h.get? b = some o := PySem.W.of_hideAll (trk h H) e
  refine ⟨e', ?_⟩
  cases q : H b with
  | none => rfl
  | some x =>
    have hm : b ∈ trk h H := List.mem_filter.mpr ⟨List.mem_range.mpr (Heap.lt_size e'), by simp [q]⟩
    have z : (hidT h H).get? b = none := PySem.W.hideAll_none (trk h H) hm
    rw [z] at e; cases e

/-! ### OpenK's ledger, filled with every new object but one -/
def allNews (g h : Heap) (L : Addr) : List (Addr × Obj) := (List.range h.objs.size).filterMap fun a => if a = L ∨ (g.get? a).isSome = true then none else (h.get? a).map fun o => (a, o)
def rest (g h : Heap) (L d : Addr) : List (Addr × Obj) := (allNews g h L).filter fun p => decide (p.1 ≠ d)
end L2

namespace L2
open PySem PySem.Spec PyProof.Rows

/-- the module's facts, over the base: the heap at the law's entry without what is tracked there -/
structure Mod (K : PySem.W.Frag) (mg : Str → Option Value) (base : Heap) : Prop where
  kin : K.In base
  glob : base.Ns mainGlobals mg
  blt : ∃ mb, base.Ns builtinsNs mb ∧ ∀ x : Str, x ≠ "__name__" → mb x = bootBuiltins x
  nolimit : base.NoLimit

/-- the context: a def's body (or a comprehension's block) running. base: fixed through the whole law; s₀, H₀: the entry; outer: the frames whose slots others may change (a def's callers); stack: all frames that run;
   ex: iterators that were made ahead of the entry and are walked here (a comprehension's); fn: the names whose cells were made at the entry (a def: all; a comprehension's block: its own); calm: not within an except suite; pn: pins that every state bears; xe: what is wanted of an exception that leaves the code -/
structure Cx where
  prog : Program
  w : World
  K : PySem.W.Frag
  mg : Str → Option Value
  base : Heap
  A : Around
  N : List Str
  s₀ : Shared
  H₀ : Hp
  env : Env
  outer : List Env
  stack : List Env
  ex : List Addr
  fn : Str → Bool
  calm : Bool
  pn : List (Addr × Obj)
  xe : Value → Shared → Prop
/-- the callers' frames -/
def frs (l : List Env) : List Addr := l.filterMap (·.frame)
abbrev Cx.fs (X : Cx) : List Addr := frs X.outer

def Vis (sc : Scope) (x : Str) : Prop := sc.names.lookup x = some .local ∨ sc.names.lookup x = some .cell ∨ sc.names.lookup x = some .free
def Loc (sc : Scope) (x : Str) : Prop := sc.names.lookup x = some .local ∨ sc.names.lookup x = some .cell
def Look (env : Env) (h : Heap) (m : Str → Option Value) (x : Str) (u : Value) : Prop :=
  (env.kindOf x = some .local ∧ m x = some u) ∨ ((env.kindOf x = some .cell ∨ env.kindOf x = some .free) ∧ ∃ c, env.cells.lookup x = some c ∧ h.IsCell c (some u))

structure Cx.Ok (X : Cx) : Prop where
  mod : Mod X.K X.mg X.base
  kind : X.env.scope.kind = .function
  glob : X.env.globals = mainGlobals
  blt : X.env.builtins = builtinsNs
  above : X.s₀.heap.objs.size ≤ X.env.locals
  inj : ∀ x y c, X.env.cells.lookup x = some c → X.env.cells.lookup y = some c → x = y
  has : ∀ x, (X.env.kindOf x = some .cell ∨ X.env.kindOf x = some .free) → ∃ c, X.env.cells.lookup x = some c
  cab : ∀ x c, X.fn x = true → X.env.cells.lookup x = some c → X.s₀.heap.objs.size ≤ c
  hd : X.calm = true → X.A.handled = none
  frames : X.A.frames = some X.stack
  stk : X.stack = X.outer ∨ (X.stack = X.env :: X.outer ∧ X.env.frame = some X.env.locals)
  exf : ∀ b ∈ X.ex, b ≠ X.env.locals ∧ ∀ x c, X.env.cells.lookup x = some c → c ≠ b
  bs : ∀ b o, X.base.get? b = some o → X.s₀.heap.get? b = some o ∧ X.H₀ b = none
  bsz : X.base.objs.size ≤ X.s₀.heap.objs.size
  noex : ∀ b o, X.base.get? b = some o → b ∉ X.ex
  exfs : ∀ b ∈ X.ex, b ∉ X.fs
  funs : X.s₀.heap.FunFrames X.base X.outer
  frf : ∀ b ∈ X.fs, X.H₀ b = none

structure Inv (X : Cx) (pins : List (Addr × Obj)) (σ : List (Option V)) (H : Hp) (s : Shared) : Prop where
  ok : X.Ok
  os : s.os = X.s₀.os
  bare : AllBare s.gens
  base : Un X.fs X.ex X.H₀ H X.s₀.heap s.heap
  loc : ∃ m, s.heap.Ns X.env.locals m ∧ ∀ (i : Nat) (x : Str) (v : V), X.N[i]? = some x → σ[i]? = some (some v) → Vis X.env.scope x → ∃ u, RelV v u ∧ Look X.env s.heap m x u
  cell : ∀ x c, X.env.cells.lookup x = some c → ∃ v, s.heap.IsCell c v
  free : H X.env.locals = none
  freeC : ∀ x c, X.env.cells.lookup x = some c → H c = none
  pin : ∀ p ∈ X.pn ++ pins, s.heap.get? p.1 = some p.2 ∧ H p.1 = none ∧ p.1 ≠ X.env.locals ∧ p.1 ∉ X.fs ∧ ∀ v, p.2.data ≠ .cell v
  hok : HOk X.prog X.w H s.heap
  len : σ.length = X.N.length

section
variable {X : Cx} {pins : List (Addr × Obj)} {σ : List (Option V)} {H H' : Hp} {s : Shared} {h' : Heap}

theorem Cx.Ok.nofr (ok : X.Ok) {b : Addr} {o : Obj} (e : X.base.get? b = some o) : b ∉ X.fs := fun hb => by
  have := (ok.funs.mem hb).1
  rw [e] at this; cases this
theorem Inv.bs (I : Inv X pins σ H s) : ∀ b o, X.base.get? b = some o → s.heap.get? b = some o ∧ H b = none := fun b o e =>
  ⟨I.base.keep b o (I.ok.bs b o e).1 (I.ok.bs b o e).2 (I.ok.nofr e) (I.ok.noex b o e), I.base.free b o (I.ok.bs b o e).1 (I.ok.bs b o e).2 (I.ok.noex b o e)⟩
theorem Inv.bk (I : Inv X pins σ H s) : ∀ b o, X.base.get? b = some o → s.heap.get? b = some o := fun b o e => (I.bs b o e).1
theorem Inv.mod (I : Inv X pins σ H s) : Mod X.K X.mg X.base := I.ok.mod
theorem Inv.kIn (I : Inv X pins σ H s) : X.K.In s.heap := I.ok.mod.kin.keeps I.bk
theorem Inv.lt (I : Inv X pins σ H s) : X.env.locals < s.heap.objs.size := let ⟨_, hn, _⟩ := I.loc; hn.lt
theorem Inv.sz (I : Inv X pins σ H s) : X.s₀.heap.objs.size ≤ s.heap.objs.size := Nat.le_trans I.ok.above (Nat.le_of_lt I.lt)
theorem Inv.nofs (I : Inv X pins σ H s) {a : Addr} (h : s.heap.objs.size ≤ a) : a ∉ X.fs := fun hb => by
  obtain ⟨_, o, ho, _⟩ := I.ok.funs.mem hb
  exact absurd (Nat.lt_of_lt_of_le (Heap.lt_size ho) (Nat.le_trans I.sz h)) (Nat.lt_irrefl _)
theorem Inv.cne (I : Inv X pins σ H s) : ∀ x c, X.env.cells.lookup x = some c → c ≠ X.env.locals := fun x c e z => by
  obtain ⟨v, o, ho, hd⟩ := I.cell x c e
  obtain ⟨m, ⟨o', es, ep, ho', hd', _⟩, _⟩ := I.loc
  rw [z, ho'] at ho; cases ho; rw [hd'] at hd; cases hd
theorem Inv.funs (I : Inv X pins σ H s) : s.heap.FunFrames X.base X.outer := by
  have all : ∀ (l : List Env), (∀ b ∈ frs l, b ∈ X.fs) → X.s₀.heap.FunFrames X.base l → s.heap.FunFrames X.base l := by
    intro l
    induction l with
    | nil => intro _ _; trivial
    | cons env r ih =>
      intro hs hl
      obtain ⟨hk, ⟨L, o, hf, hn, ho, hd⟩, hr⟩ := hl
      have hL : L ∈ X.fs := hs L (by unfold frs; rw [List.filterMap_cons, hf]; exact List.mem_cons_self)
      obtain ⟨sl, e⟩ := I.base.slot L o ho (I.ok.frf L hL) hL fun z => I.ok.exfs L z hL
      exact ⟨hk, ⟨L, _, hf, hn, e, hd⟩, ih (fun b hb => hs b (by unfold frs; rw [List.filterMap_cons, hf]; exact List.mem_cons_of_mem _ hb)) hr⟩
  exact all X.outer (fun _ hb => hb) I.ok.funs

/-- the frames that run, for a call -/
theorem Inv.stack (I : Inv X pins σ H s) : s.heap.FunFrames X.base X.stack := by
  rcases I.ok.stk with e | ⟨e, hf⟩
  · rw [e]; exact I.funs
  · rw [e]
    obtain ⟨m, hn, _⟩ := I.loc
    refine .cons (by rw [I.ok.kind]; decide) hf hn ?_ I.funs
    exact Heap.get?_none_of_le (Nat.le_trans I.ok.bsz I.ok.above)
theorem Inv.stkSub (I : Inv X pins σ H s) : ∀ b ∈ frs X.stack, b ∈ X.env.locals :: X.fs := fun b hb => by
  rcases I.ok.stk with e | ⟨e, hf⟩
  · rw [e] at hb; exact List.mem_cons_of_mem _ hb
  · rw [e] at hb
    unfold frs at hb
    rw [List.filterMap_cons, hf] at hb
    exact hb
theorem Inv.stkFree (I : Inv X pins σ H s) : ∀ b ∈ frs X.stack, H b = none := fun b hb => by
  rcases List.mem_cons.mp (I.stkSub b hb) with e | hb
  · rw [e]; exact I.free
  · obtain ⟨_, o, ho, _⟩ := I.ok.funs.mem hb
    exact I.base.free b o ho (I.ok.frf b hb) fun z => I.ok.exfs b z hb

/-- THE STEP: the untracked objects but the frame and the records at ch are kept (the callers' frames up to slots), the frame's map is kept, the new abstract heap is held -/
theorem Inv.step {g' : Array GenState} {t' : Nat} {d' : Drawn} {ch : List Addr} (I : Inv X pins σ H s)
    (hch : ∀ b ∈ ch, (b ∈ X.ex ∨ X.s₀.heap.objs.size ≤ b) ∧ b ≠ X.env.locals ∧ (∀ x c, X.env.cells.lookup x = some c → c ≠ b) ∧ ∀ p ∈ X.pn ++ pins, p.1 ≠ b)
    (keep : ∀ b o, b ≠ X.env.locals → b ∉ X.fs → b ∉ ch → s.heap.get? b = some o → H b = none → h'.get? b = some o)
    (slot : ∀ b o, b ≠ X.env.locals → b ∈ X.fs → b ∉ ch → s.heap.get? b = some o → H b = none → ∃ sl, h'.get? b = some { o with slots := sl }) (free : ∀ b o, b ∉ ch → s.heap.get? b = some o → H b = none → H' b = none)
    (there : ∀ b o, b ∉ ch → s.heap.get? b = some o → ∃ o', h'.get? b = some o')
    (tups : ∀ b xs, H b = some (.tup xs) → H' b = some (.tup xs)) (frzs : ∀ b o u, H b = some (.frz o u) → H' b = some (.frz o u)) (tbls : ∀ b ps, H b = some (.tbl ps) → ∃ more, H' b = some (.tbl (ps ++ more)))
    (ns : ∀ m, s.heap.Ns X.env.locals m → h'.Ns X.env.locals m) (hok : HOk X.prog X.w H' h') (hg : AllBare g') :
    Inv X pins σ H' { s with heap := h', gens := g', drawn := d', toks := t' } := by
  have neL : ∀ b o, X.s₀.heap.get? b = some o → b ≠ X.env.locals := fun b o e => Nat.ne_of_lt (Nat.lt_of_lt_of_le (Heap.lt_size e) I.ok.above)
  have neC : ∀ b o, X.s₀.heap.get? b = some o → b ∉ X.ex → b ∉ ch := fun b o e hx hb => by
    rcases (hch b hb).1 with z | z
    · exact hx z
    · exact absurd (Nat.lt_of_lt_of_le (Heap.lt_size e) z) (Nat.lt_irrefl _)
  have cellK : ∀ x c, X.env.cells.lookup x = some c → ∀ v, s.heap.IsCell c v → h'.IsCell c v := fun x c e v ⟨o, ho, hd⟩ => by
    have nch : c ∉ ch := fun z => (hch c z).2.2.1 x c e rfl
    by_cases hc : c ∈ X.fs
    · obtain ⟨sl, q⟩ := slot c o (I.cne x c e) hc nch ho (I.freeC x c e)
      exact ⟨_, q, hd⟩
    · exact ⟨o, keep c o (I.cne x c e) hc nch ho (I.freeC x c e), hd⟩
  refine ⟨I.ok, I.os, hg, ⟨fun b o e n hb hx => ?_, fun b o e n hb hx => ?_, fun b o e n hx => ?_, fun b o e hx => ?_, fun b xs e => tups b xs (I.base.tups b xs e), fun b o xs e => frzs b o xs (I.base.frzs b o xs e), fun b ps e => ?_⟩, ?_, fun x c e => ?_, ?_, fun x c e => ?_, fun p hp => ?_, hok, I.len⟩
  · exact keep b o (neL b o e) hb (neC b o e hx) (I.base.keep b o e n hb hx) (I.base.free b o e n hx)
  · obtain ⟨sl, e1⟩ := I.base.slot b o e n hb hx
    obtain ⟨sl', e2⟩ := slot b _ (neL b o e) hb (neC b o e hx) e1 (I.base.free b o e n hx)
    exact ⟨sl', e2⟩
  · obtain ⟨o', e1⟩ := I.base.there b o e hx
    exact free b o' (neC b o e hx) e1 (I.base.free b o e n hx)
  · obtain ⟨o', e1⟩ := I.base.there b o e hx
    exact there b o' (neC b o e hx) e1
  · obtain ⟨m1, e1⟩ := I.base.tbls b ps e
    obtain ⟨m2, e2⟩ := tbls b _ e1
    exact ⟨m1 ++ m2, by rw [e2, Array.append_assoc]⟩
  · obtain ⟨m, hn, hl⟩ := I.loc
    refine ⟨m, ns m hn, fun i x v e1 e2 e3 => ?_⟩
    obtain ⟨u, r, l⟩ := hl i x v e1 e2 e3
    refine ⟨u, r, ?_⟩
    rcases l with l | ⟨k, c, e, z⟩
    · exact .inl l
    · exact .inr ⟨k, c, e, cellK x c e _ z⟩
  · obtain ⟨v, z⟩ := I.cell x c e
    exact ⟨v, cellK x c e v z⟩
  · obtain ⟨m, ⟨o, _, _, ho, _⟩, _⟩ := I.loc
    exact free _ o (fun z => (hch _ z).2.1 rfl) ho I.free
  · obtain ⟨v, o, ho, hd⟩ := I.cell x c e
    exact free c o (fun z => (hch c z).2.2.1 x c e rfl) ho (I.freeC x c e)
  · obtain ⟨e, n, ne, nf, d⟩ := I.pin p hp
    have nch : p.1 ∉ ch := fun z => (hch p.1 z).2.2.2 p hp rfl
    exact ⟨keep p.1 p.2 ne nf nch e n, free p.1 p.2 nch e n, ne, nf, d⟩
/-- .. where the frame's own object is kept too -/
theorem Inv.un {t' : Nat} (I : Inv X pins σ H s) (u : Un X.fs [] H H' s.heap h') (hok : HOk X.prog X.w H' h') : Inv X pins σ H' { s with heap := h', toks := t' } := by
  obtain ⟨m, ⟨o, es, ep, ho, r⟩, _⟩ := id I.loc
  obtain ⟨sl, hL⟩ := u.any ho I.free (by simp)
  exact I.step (g' := s.gens) (d' := s.drawn) (ch := []) (fun _ z => nomatch z) (fun b o _ hb _ e n => u.keep b o e n hb (by simp)) (fun b o _ hb _ e n => u.slot b o e n hb (by simp)) (fun b o _ e n => u.free b o e n (by simp)) (fun b o _ e => u.there b o e (by simp)) u.tups u.frzs u.tbls (fun m' hm => by
    obtain ⟨o', es', ep', ho', r'⟩ := hm
    rw [ho] at ho'; cases ho'
    exact ⟨_, es', ep', hL, r'⟩) hok I.bare
/-- behind a call (or a comprehension's block): the slots of this frame may have changed too, the records at ch may have turned -/
theorem Inv.call {g' : Array GenState} {t' : Nat} {d' : Drawn} {ch : List Addr} (I : Inv X pins σ H s) (u : Un (frs X.stack) ch H H' s.heap h') (hok : HOk X.prog X.w H' h') (hg : AllBare g')
    (hch : ∀ b ∈ ch, (b ∈ X.ex ∨ X.s₀.heap.objs.size ≤ b) ∧ b ≠ X.env.locals ∧ (∀ x c, X.env.cells.lookup x = some c → c ≠ b) ∧ ∀ p ∈ X.pn ++ pins, p.1 ≠ b) :
    Inv X pins σ H' { s with heap := h', gens := g', drawn := d', toks := t' } := by
  obtain ⟨m, ⟨o, es, ep, ho, r⟩, _⟩ := id I.loc
  obtain ⟨sl, hL⟩ := u.any ho I.free fun z => (hch _ z).2.1 rfl
  exact I.step (ch := ch) hch (fun b o hL hb hc e n => u.keep b o e n (fun z => (List.mem_cons.mp (I.stkSub b z)).elim hL hb) hc) (fun b o _ _ hc e n => u.any e n hc) (fun b o hc e n => u.free b o e n hc) (fun b o hc e => u.there b o e hc) u.tups u.frzs u.tbls (fun m' hm => by
    obtain ⟨o', es', ep', ho', r'⟩ := hm
    rw [ho] at ho'; cases ho'
    exact ⟨_, es', ep', hL, r'⟩) hok hg
/-- an untracked record of ours (an iterator) has turned -/
theorem Inv.turned {t' : Nat} {it : Addr} (I : Inv X pins σ H s) (k : ∀ b o, b ≠ it → s.heap.get? b = some o → h'.get? b = some o) (hn : H it = none) (hL : it ≠ X.env.locals)
    (h1 : it ∈ X.ex ∨ X.s₀.heap.objs.size ≤ it) (h2 : ∀ x c, X.env.cells.lookup x = some c → c ≠ it) (h3 : ∀ p ∈ X.pn ++ pins, p.1 ≠ it) : Inv X pins σ H { s with heap := h', toks := t' } := by
  have nit : ∀ b u, H b = some u → b ≠ it := fun b u e z => by rw [z, hn] at e; cases e
  refine I.step (g' := s.gens) (d' := s.drawn) (ch := [it]) (fun b hb => ?_) (fun b o _ _ hc e _ => k b o (fun z => hc (by simp [z])) e) (fun b o _ _ hc e _ => ⟨o.slots, k b o (fun z => hc (by simp [z])) e⟩) (fun _ _ _ _ n => n)
    (fun b o hc e => ⟨o, k b o (fun z => hc (by simp [z])) e⟩) (fun _ _ e => e) (fun _ _ _ e => e) (fun b ps e => ⟨#[], by rw [e]; simp⟩) (fun m hm => ?_) (fun b u e => ?_) I.bare
  · have e : b = it := by simpa using hb
    subst e
    exact ⟨h1, hL, h2, h3⟩
  · obtain ⟨o, es, ep, ho, r⟩ := hm
    exact ⟨o, es, ep, k _ o (Ne.symm hL) ho, r⟩
  · refine (I.hok b u e).stay (fun c v hc q => k c v ?_ q) (fun _ q => q) fun _ _ q => q
    rcases hc with z | z
    · rw [z]; exact nit b u e
    · exact nit c _ z
theorem Inv.tok (I : Inv X pins σ H s) (t : Nat) : Inv X pins σ H { s with toks := t } := I.un (h' := s.heap) (t' := t) Un.refl I.hok
/-- all objects kept -/
theorem Inv.kept {t' : Nat} (I : Inv X pins σ H s) (k : ∀ b u, s.heap.get? b = some u → h'.get? b = some u) : Inv X pins σ H { s with heap := h', toks := t' } := I.un (Un.kept k) (I.hok.kept k)
/-- a new object laid and tracked -/
theorem Inv.laid {a : Addr} {o : HO} {t' : Nat} (I : Inv X pins σ H s) (k : ∀ b u, s.heap.get? b = some u → h'.get? b = some u) (hp : s.heap.objs.size ≤ a) (new : ObjOk X.prog X.w (upd H a o) h' a o) :
    Inv X pins σ (upd H a o) { s with heap := h', toks := t' } := I.un (Un.laid k hp (I.hok.fresh hp)) (I.hok.laid k hp new)
/-- an object written -/
theorem Inv.write {x e : Addr} {o : HO} {t' : Nat} (I : Inv X pins σ H s) (mu : Mut (H x)) (he : e = x ∨ H e = some (.own x)) (k : ∀ b u, b ≠ e → s.heap.get? b = some u → h'.get? b = some u) (heo : ∃ u, h'.get? e = some u)
    (new : ObjOk X.prog X.w (upd H x o) h' x o) : Inv X pins σ (upd H x o) { s with heap := h', toks := t' } := I.un (Un.write mu he k heo) (I.hok.write mu he k heo new)
theorem Inv.pins_of {pins' : List (Addr × Obj)} (I : Inv X pins σ H s) (h : ∀ p ∈ pins', s.heap.get? p.1 = some p.2 ∧ H p.1 = none ∧ p.1 ≠ X.env.locals ∧ p.1 ∉ X.fs ∧ ∀ v, p.2.data ≠ .cell v) : Inv X pins' σ H s :=
  ⟨I.ok, I.os, I.bare, I.base, I.loc, I.cell, I.free, I.freeC, fun p hp => (List.mem_append.mp hp).elim (fun z => I.pin p (List.mem_append_left _ z)) (h p), I.hok, I.len⟩

theorem nodup_ix {N : List Str} (hN : N.Nodup) {i j : Nat} {x : Str} (a : N[i]? = some x) (b : N[j]? = some x) : i = j := by
  obtain ⟨h1, e1⟩ := List.getElem?_eq_some_iff.mp a
  obtain ⟨h2, e2⟩ := List.getElem?_eq_some_iff.mp b
  exact (List.getElem_inj hN).mp (e1.trans e2.symm)

/-- a name is stored; what changed -/
theorem store_ok2 {M : Model} {A : Around} {E : Value → Shared → Prop} {i : Nat} {x : Str} {v : V} {u : Value} {Q : Unit → Shared → Prop} (I : Inv X pins σ H s) (hN : X.N.Nodup) (hi : X.N[i]? = some x) (hx : Loc X.env.scope x) (r : RelV v u)
    (h : ∀ s', Inv X pins (σ.set i (some v)) H s' → (∃ a, Heap.SameBut a s.heap s'.heap ∧ (a = X.env.locals ∨ X.env.cells.lookup x = some a)) → Q () s') (hf : X.fn x = true ∨ X.env.scope.names.lookup x = some .local := by first | exact .inl rfl | exact .inr rfl | assumption) : wpAny M A (storeName X.env x u) Q E s := by
  obtain ⟨m, hn, hl⟩ := id I.loc
  have hcls : (X.env.scope.kind == .class || (X.env.scope.kind == .module && X.env.locals != X.env.globals)) = false := by rw [I.ok.kind]; rfl
  have hiσ : i < σ.length := by rw [I.len]; exact (List.getElem?_eq_some_iff.mp hi).1
  have cne := I.cne
  have tracked : ∀ {a : Addr} {h' : Heap}, (∃ o, s.heap.get? a = some o ∧ H a = none) → Heap.SameBut a s.heap h' → HOk X.prog X.w H h' := fun {a h'} ha hs b ob e => by
    obtain ⟨_, _, hfree⟩ := ha
    refine (I.hok b ob e).stay (fun c w' hc q => (hs.2 c ?_).trans q) (fun _ q => q) fun _ _ q => q
    rintro rfl
    rcases hc with rfl | hc
    · rw [hfree] at e; cases e
    · rw [hfree] at hc; cases hc
  rcases hx with hk | hk
  · refine wpAny_storeName_local hk hn (fun h' hn' hs => ?_) hcls
    obtain ⟨oL, _, _, hoL, _⟩ := id hn
    refine h _ ⟨I.ok, I.os, I.bare, ⟨fun b o e n hb hx => ?_, fun b o e n hb hx => ?_, I.base.free, fun b o e hx => ?_, I.base.tups, I.base.frzs, I.base.tbls⟩, ⟨_, hn', fun j y v' e1 e2 e3 => ?_⟩, fun y c e => ?_, I.free, I.freeC, fun p hp => ?_, tracked ⟨oL, hoL, I.free⟩ hs, by simpa using I.len⟩ ⟨_, hs, .inl rfl⟩
    · exact (hs.2 b (Nat.ne_of_lt (Nat.lt_of_lt_of_le (Heap.lt_size e) I.ok.above))).trans (I.base.keep b o e n hb hx)
    · obtain ⟨sl, e1⟩ := I.base.slot b o e n hb hx
      exact ⟨sl, (hs.2 b (Nat.ne_of_lt (Nat.lt_of_lt_of_le (Heap.lt_size e) I.ok.above))).trans e1⟩
    · obtain ⟨o', e1⟩ := I.base.there b o e hx
      exact ⟨o', (hs.2 b (Nat.ne_of_lt (Nat.lt_of_lt_of_le (Heap.lt_size e) I.ok.above))).trans e1⟩
    · by_cases hj : j = i
      · subst hj
        rw [hi] at e1; cases e1
        rw [List.getElem?_set_self hiσ] at e2
        cases e2
        exact ⟨u, r, .inl ⟨hk, by simp⟩⟩
      · rw [List.getElem?_set_ne (Ne.symm hj)] at e2
        obtain ⟨u', r', q⟩ := hl j y v' e1 e2 e3
        refine ⟨u', r', ?_⟩
        rcases q with ⟨k, e⟩ | ⟨k, c, e, z⟩
        · refine .inl ⟨k, ?_⟩
          have : y ≠ x := fun e => hj (nodup_ix hN e1 (e ▸ hi))
          simp [this, e]
        · exact .inr ⟨k, c, e, z.sameBut hs (cne y c e)⟩
    · obtain ⟨w', z⟩ := I.cell y c e
      exact ⟨w', z.sameBut hs (cne y c e)⟩
    · obtain ⟨e, n, ne, nf, d⟩ := I.pin p hp
      exact ⟨(hs.2 p.1 ne).trans e, n, ne, nf, d⟩
  · have hfn : X.fn x = true := by
      rcases hf with z | z
      · exact z
      · rw [z] at hk; cases hk
    obtain ⟨c, hc⟩ := I.ok.has x (.inl hk)
    obtain ⟨w', z⟩ := I.cell x c hc
    refine wpAny_storeName_cell I.ok.kind hk hc z (fun h' hc' hs => ?_)
    obtain ⟨oc, hoc, hocd⟩ := id z
    refine h { s with heap := h' } ⟨I.ok, I.os, I.bare, ⟨fun b o e n hb hx => ?_, fun b o e n hb hx => ?_, I.base.free, fun b o e hx => ?_, I.base.tups, I.base.frzs, I.base.tbls⟩, ⟨m, hn.sameBut hs (Ne.symm (cne x c hc)), fun j y v' e1 e2 e3 => ?_⟩, fun y c' e => ?_, I.free, I.freeC, fun p hp => ?_, tracked ⟨oc, hoc, I.freeC x c hc⟩ hs, by simpa using I.len⟩ ⟨c, hs, .inr hc⟩
    · exact (hs.2 b (Nat.ne_of_lt (Nat.lt_of_lt_of_le (Heap.lt_size e) (I.ok.cab x c hfn hc)))).trans (I.base.keep b o e n hb hx)
    · obtain ⟨sl, e1⟩ := I.base.slot b o e n hb hx
      exact ⟨sl, (hs.2 b (Nat.ne_of_lt (Nat.lt_of_lt_of_le (Heap.lt_size e) (I.ok.cab x c hfn hc)))).trans e1⟩
    · obtain ⟨o', e1⟩ := I.base.there b o e hx
      exact ⟨o', (hs.2 b (Nat.ne_of_lt (Nat.lt_of_lt_of_le (Heap.lt_size e) (I.ok.cab x c hfn hc)))).trans e1⟩
    · by_cases hj : j = i
      · subst hj
        rw [hi] at e1; cases e1
        rw [List.getElem?_set_self hiσ] at e2
        cases e2
        exact ⟨u, r, .inr ⟨.inl hk, c, hc, hc'⟩⟩
      · rw [List.getElem?_set_ne (Ne.symm hj)] at e2
        obtain ⟨u', r', q⟩ := hl j y v' e1 e2 e3
        refine ⟨u', r', ?_⟩
        rcases q with q | ⟨k, c', e, z'⟩
        · exact .inl q
        · refine .inr ⟨k, c', e, z'.sameBut hs ?_⟩
          rintro rfl
          exact hj (nodup_ix hN e1 (I.ok.inj _ _ _ e hc ▸ hi))
    · by_cases hcc : c' = c
      · subst hcc; exact ⟨_, hc'⟩
      · obtain ⟨w2, z2⟩ := I.cell y c' e
        exact ⟨w2, z2.sameBut hs hcc⟩
    · obtain ⟨e, n, ne, nf, d⟩ := I.pin p hp
      refine ⟨(hs.2 p.1 ?_).trans e, n, ne, nf, d⟩
      intro q
      rw [q, hoc] at e
      have q' : oc = p.2 := Option.some.inj e
      exact d w' (by rw [← q']; exact hocd)
theorem store_ok {M : Model} {A : Around} {E : Value → Shared → Prop} {i : Nat} {x : Str} {v : V} {u : Value} {Q : Unit → Shared → Prop} (I : Inv X pins σ H s) (hN : X.N.Nodup) (hi : X.N[i]? = some x) (hx : Loc X.env.scope x) (r : RelV v u)
    (h : ∀ s', Inv X pins (σ.set i (some v)) H s' → Q () s') (hf : X.fn x = true ∨ X.env.scope.names.lookup x = some .local := by first | exact .inl rfl | exact .inr rfl | assumption) : wpAny M A (storeName X.env x u) Q E s :=
  store_ok2 I hN hi hx r (fun s' I' _ => h s' I') hf
end

/-! ### the judgements -/
/-- an exception: its class, its own dict's address (where it has one), the abstract heap behind it -/
abbrev XK := Value → Option Addr → Hp → Prop
abbrev St := List (Option V)
abbrev VK := V → Hp → Prop
/-- an expression's reading; a test's; an argument list's -/
abbrev TE := St → Hp → VK → Prop
abbrev TT := St → Hp → (Bool → Hp → Prop) → Prop
abbrev TA := St → Hp → (List V → Hp → Prop) → Prop
/-- what is wanted behind a statement -/
structure Ends where
  nx : St → Hp → Prop
  rt : VK
  bk : St → Hp → Prop := fun _ _ => False
  ct : St → Hp → Prop := fun _ _ => False
abbrev TS := Ends → St → Hp → Prop

def EP (X : Cx) (pins : List (Addr × Obj)) (σ : St) (Q : VK) (u : Value) (s' : Shared) : Prop := ∃ v H', Inv X pins σ H' s' ∧ RelV v u ∧ Q v H'
def TP (X : Cx) (pins : List (Addr × Obj)) (σ : St) (Q : Bool → Hp → Prop) (b : Bool) (s' : Shared) : Prop := ∃ H', Inv X pins σ H' s' ∧ Q b H'
def AP (X : Cx) (pins : List (Addr × Obj)) (σ : St) (Q : List V → Hp → Prop) (us : List Value) (s' : Shared) : Prop := ∃ vs H', Inv X pins σ H' s' ∧ Vals vs us ∧ Q vs H'
def SP (X : Cx) (pins : List (Addr × Obj)) (D : Ends) (f : Flow) (s' : Shared) : Prop :=
  match f with
  | .next => ∃ σ' H', Inv X pins σ' H' s' ∧ D.nx σ' H'
  | .brk => ∃ σ' H', Inv X pins σ' H' s' ∧ D.bk σ' H'
  | .cont => ∃ σ' H', Inv X pins σ' H' s' ∧ D.ct σ' H'
  | .ret u => ∃ v σ' H', Inv X pins σ' H' s' ∧ RelV v u ∧ D.rt v H'

def PE (X : Cx) (e : Expr) (t : TE) : Prop :=
  ∀ (pins : List (Addr × Obj)) (s : Shared) (σ : St) (H : Hp) (Q : VK), Inv X pins σ H s → t σ H Q → wpAny (model X.prog X.w) X.A (eval e X.env) (EP X pins σ Q) X.xe s
def PT (X : Cx) (e : Expr) (t : TT) : Prop :=
  ∀ (pins : List (Addr × Obj)) (s : Shared) (σ : St) (H : Hp) (Q : Bool → Hp → Prop), Inv X pins σ H s → t σ H Q → wpAny (model X.prog X.w) X.A (isTrue e X.env (eval e X.env)) (TP X pins σ Q) X.xe s
/-- a test whatever its 'whole' is (and, or) -/
def PW (X : Cx) (e : Expr) (t : TT) : Prop :=
  ∀ (whole : Sem Value) (pins : List (Addr × Obj)) (s : Shared) (σ : St) (H : Hp) (Q : Bool → Hp → Prop), Inv X pins σ H s → t σ H Q → wpAny (model X.prog X.w) X.A (isTrue e X.env whole) (TP X pins σ Q) X.xe s
theorem PW.pt {X : Cx} {e : Expr} {t : TT} (h : PW X e t) : PT X e t := h _
/-- an argument list (no star), from the left -/
def PA (X : Cx) (es : List Expr) (t : TA) : Prop :=
  ∀ (pos : Pos) (pins : List (Addr × Obj)) (s : Shared) (σ : St) (H : Hp) (Q : List V → Hp → Prop), Inv X pins σ H s → t σ H Q → wpAny (model X.prog X.w) X.A (spliced (backTo pos (starEach es X.env))) (AP X pins σ Q) X.xe s
def PS (X : Cx) (st : Stmt) (t : TS) : Prop :=
  ∀ (pins : List (Addr × Obj)) (s : Shared) (σ : St) (H : Hp) (D : Ends), Inv X pins σ H s → t D σ H → wpAny (model X.prog X.w) X.A (exec st X.env) (SP X pins D) X.xe s
def PSs (X : Cx) (st : List Stmt) (t : TS) : Prop :=
  ∀ (pins : List (Addr × Obj)) (s : Shared) (σ : St) (H : Hp) (D : Ends), Inv X pins σ H s → t D σ H → wpAny (model X.prog X.w) X.A (execs st X.env) (SP X pins D) X.xe s
/-- weaken the end -/
theorem thn {α : Type} {t : Sem α} {Q Q' : α → Shared → Prop} {M : Model} {A : Around} {E : Value → Shared → Prop} {s : Shared} (h : wpAny M A t Q E s) (hQ : ∀ a s, Q a s → Q' a s) : wpAny M A t Q' E s := wpAny_mono h hQ fun _ _ x => x
end L2

namespace L2
open PySem PySem.Spec PyProof.Rows
section
variable {X : Cx}

/-! ### names and constants -/
def tVar (i : Nat) : TE := fun σ H Q => ∃ v, σ[i]? = some (some v) ∧ Q v H
def tC (v : V) : TE := fun _ H Q => Q v H
theorem pe_var {i : Nat} {x : Str} {pos : Pos} (hN : X.N[i]? = some x) (hv : Vis X.env.scope x) (hd : (x == ("__debug__" : Str)) = false := by decide) (hcd : (x == ("__classdict__" : Str)) = false := by decide) : PE X (.Name x pos) (tVar i) := by
  intro pins s σ H Q I h
  obtain ⟨v, e, h⟩ := h
  obtain ⟨m, hn, hl⟩ := I.loc
  obtain ⟨u, r, l⟩ := hl i x v hN e hv
  have fin : EP X pins σ Q u s := ⟨v, H, I, r, h⟩
  rcases l with ⟨hk, hm⟩ | ⟨hk, c, hc, hcell⟩
  · exact wpAny_Name (wpAny_loadName_local I.ok.kind hk hn hm fin) hd
  · rcases hk with hk | hk
    · exact wpAny_Name (wpAny_loadName_cell I.ok.kind hk hc hcell fin) hd
    · exact wpAny_Name (wpAny_loadName_free I.ok.kind hk hc hcell fin hcd) hd
theorem pe_int {i j pos} : PE X (.Constant (.int i) j pos) (tC (.int i)) := fun _ _ _ H _ I h => wpAny_Constant_int ⟨.int i, H, I.tok _, ⟨_, rfl⟩, h⟩
theorem pe_bl {b j pos} : PE X (.Constant (.bool b) j pos) (tC (.bl b)) := fun _ _ _ H _ I h => Constant_bool ⟨.bl b, H, I, rfl, h⟩
theorem pe_non {j pos} : PE X (.Constant .none j pos) (tC .non) := fun _ _ _ H _ I h => Constant_none ⟨.non, H, I, rfl, h⟩
theorem pe_str {x j pos} : PE X (.Constant (.str x) j pos) (tC (.str x)) := fun _ _ _ H _ I h => Calls.Constant_str ⟨.str x, H, I.tok _, ⟨_, rfl⟩, h⟩

/-- a global name of the def -/
def Gl (X : Cx) (x : Str) : Prop := X.env.kindOf x = some .globalImplicit
theorem ld_glob {E : Value → Shared → Prop} {pins : List (Addr × Obj)} {s : Shared} {σ : St} {H : Hp} {x : Str} {u : Value} {pos : Pos} {Q : Value → Shared → Prop} (I : Inv X pins σ H s) (hg : Gl X x) (hm : X.mg x = some u) (h : Q u s)
    (hd : (x == ("__debug__" : Str)) = false := by decide) : wpAny (model X.prog X.w) X.A (eval (.Name x pos) X.env) Q E s :=
  Calls.Name_function_global I.ok.kind hg (Calls.loadGlobal_global (by rw [I.ok.glob]; exact I.mod.glob.keeps I.bk) hm h) hd
theorem ld_blt {E : Value → Shared → Prop} {pins : List (Addr × Obj)} {s : Shared} {σ : St} {H : Hp} {x : Str} {u : Value} {pos : Pos} {Q : Value → Shared → Prop} (I : Inv X pins σ H s) (hg : Gl X x) (hm : X.mg x = none) (hv : bootBuiltins x = some u) (h : Q u s)
    (hn : x ≠ "__name__" := by decide) (hd : (x == ("__debug__" : Str)) = false := by decide) : wpAny (model X.prog X.w) X.A (eval (.Name x pos) X.env) Q E s := by
  obtain ⟨mb, h1, h2⟩ := I.mod.blt
  exact Calls.Name_function_global I.ok.kind hg (Calls.loadGlobal_builtin (by rw [I.ok.glob]; exact I.mod.glob.keeps I.bk) hm (by rw [I.ok.blt]; exact h1.keeps I.bk) ((h2 x hn).trans hv) h) hd
/-- a module's constant, a class, a function, as a value -/
theorem pe_glob {x : Str} {v : V} {u : Value} {pos : Pos} (hg : Gl X x) (hm : X.mg x = some u) (r : RelV v u) (hd : (x == ("__debug__" : Str)) = false := by decide) : PE X (.Name x pos) (tC v) :=
  fun _ _ _ H _ I h => ld_glob I hg hm ⟨v, H, I, r, h⟩ hd
theorem pe_bltn {x : Str} {v : V} {u : Value} {pos : Pos} (hg : Gl X x) (hm : X.mg x = none) (hv : bootBuiltins x = some u) (r : RelV v u) (hn : x ≠ "__name__" := by decide) (hd : (x == ("__debug__" : Str)) = false := by decide) : PE X (.Name x pos) (tC v) :=
  fun _ _ _ H _ I h => ld_blt I hg hm hv ⟨v, H, I, r, h⟩ hn hd

/-! ### arithmetic -/
/-- two ints -/
def t2I (ta tb : TE) (k : Int → Int → Hp → Prop) : St → Hp → Prop := fun σ H => ta σ H fun x H1 => tb σ H1 fun y H2 => ∃ i j, x = .int i ∧ y = .int j ∧ k i j H2
def tAdd (ta tb : TE) : TE := fun σ H Q => t2I ta tb (fun i j H2 => Q (.int (i + j)) H2) σ H
def tSub (ta tb : TE) : TE := fun σ H Q => t2I ta tb (fun i j H2 => Q (.int (i - j)) H2) σ H
/-- the left factor below 2^64 -/
def tMul (ta tb : TE) : TE := fun σ H Q => t2I ta tb (fun i j H2 => (-(2 ^ 64) < i ∧ i < 2 ^ 64) ∧ Q (.int (i * j)) H2) σ H
variable {a b : Expr} {ta tb : TE} {pos : Pos}
/-! ### comparisons -/
def PC (X : Cx) (op : CmpOp) (a b : Expr) (t : TE) : Prop :=
  ∀ (pins : List (Addr × Obj)) (s : Shared) (σ : St) (H : Hp) (Q : VK), Inv X pins σ H s → t σ H Q →
    wpAny (model X.prog X.w) X.A (eval a X.env) (fun v s₁ => wpAny (model X.prog X.w) X.A (eval b X.env) (fun u s₂ => wpAny (model X.prog X.w) X.A (compareOp op v u) (EP X pins σ Q) X.xe s₂) X.xe s₁) X.xe s
def tCmp (p : Int → Int → Bool) (ta tb : TE) : TE := fun σ H Q => t2I ta tb (fun i j H2 => Q (.bl (p i j)) H2) σ H
abbrev tLt : TE → TE → TE := tCmp fun i j => decide (i < j)
abbrev tLe : TE → TE → TE := tCmp fun i j => decide (i ≤ j)
abbrev tGt : TE → TE → TE := tCmp fun i j => decide (j < i)
abbrev tGe : TE → TE → TE := tCmp fun i j => decide (j ≤ i)
abbrev tEqI : TE → TE → TE := tCmp fun i j => decide (i = j)
abbrev tNeI : TE → TE → TE := tCmp fun i j => !decide (i = j)
/-- is None -/
def tIsN (ta : TE) : TE := fun σ H Q => ta σ H fun x H1 => Q (.bl (decide (x = .non))) H1
def tNotN (ta : TE) : TE := fun σ H Q => ta σ H fun x H1 => Q (.bl (!decide (x = .non))) H1
/-- a comparison as a value, as a test -/
def tB (t : TE) : TT := fun σ H Q => t σ H fun x H1 => ∃ c, x = .bl c ∧ Q c H1
/-- an expression whose value is a bool, as a test -/
theorem pt_val {e : Expr} {t : TE} (h : PE X e t) (he : ∀ whole, isTrue e X.env whole = (do let v ← whole; standAt e.pos; holding [v] (truthy v)) := by intro _; rfl) : PT X e (tB t) := by
  intro pins s σ H Q I hw
  refine isTrue_plain (thn (h pins s σ H _ I hw) fun v s1 ⟨x, H1, I1, r1, q1⟩ => ?_) (he _)
  obtain ⟨d, rfl, q⟩ := q1
  cases r1
  exact wpAny_truthy_bool ⟨H1, I1, q⟩

/-! ### and, or, not -/
variable {tA tB' : TT} {rest : List Expr}
def tAnd (t u : TT) : TT := fun σ H Q => t σ H fun c H1 => if c = true then u σ H1 Q else Q false H1
def tOr (t u : TT) : TT := fun σ H Q => t σ H fun c H1 => if c = true then Q true H1 else u σ H1 Q
def tNot (t : TT) : TT := fun σ H Q => t σ H fun c H1 => Q (!c) H1
theorem pw_or1 (ha : PT X a tA) : PW X (.BoolOp .Or [a] pos) tA := by
  intro wh pins s σ H Q I h
  refine isTrue_or (thn (ha pins s σ H Q I h) fun c s1 e => ?_)
  cases c with
  | false => exact isTrue_or_nil e
  | true => exact e
theorem pw_or (ha : PT X a tA) (hb : PW X (.BoolOp .Or (b :: rest) pos) tB') : PW X (.BoolOp .Or (a :: b :: rest) pos) (tOr tA tB') := by
  intro wh pins s σ H Q I h
  refine isTrue_or (thn (ha pins s σ H _ I h) fun c s1 ⟨H1, I1, q1⟩ => ?_)
  cases c with
  | true => exact ⟨H1, I1, q1⟩
  | false => exact hb wh pins s1 σ H1 Q I1 q1
theorem pt_not (ha : PT X a tA) : PT X (.UnaryOp .Not a pos) (tNot tA) := by
  intro pins s σ H Q I h
  exact isTrue_not (ha pins s σ H (fun c H1 => Q (!c) H1) I h)
/-- .. as values (bools) -/
def tAndV (ta tb : TE) : TE := fun σ H Q => ta σ H fun x H1 => ∃ c, x = .bl c ∧ if c = true then tb σ H1 Q else Q (.bl false) H1
def tOrV (ta tb : TE) : TE := fun σ H Q => ta σ H fun x H1 => ∃ c, x = .bl c ∧ if c = true then Q (.bl true) H1 else tb σ H1 Q
def tNotV (ta : TE) : TE := fun σ H Q => ta σ H fun x H1 => ∃ c, x = .bl c ∧ Q (.bl (!c)) H1
theorem pe_one {op} {t : TE} (h : PE X a t) : PE X (.BoolOp op [a] pos) t := fun pins s σ H Q I hw => BoolOp_one (h pins s σ H Q I hw)
theorem pe_and (ha : PE X a ta) (hb : PE X (.BoolOp .And (b :: rest) pos) tb) : PE X (.BoolOp .And (a :: b :: rest) pos) (tAndV ta tb) := by
  intro pins s σ H Q I h
  refine BoolOp_and (thn (ha pins s σ H _ I h) fun v s1 ⟨x, H1, I1, r1, q1⟩ => ?_)
  obtain ⟨c, rfl, q1⟩ := q1
  cases r1
  refine wpAny_truthy_bool ?_
  cases c with
  | true => exact hb pins s1 σ H1 Q I1 q1
  | false => exact ⟨.bl false, H1, I1, rfl, q1⟩
/-- a if t else b -/
def tIf (t : TT) (ta tb : TE) : TE := fun σ H Q => t σ H fun c H1 => if c = true then ta σ H1 Q else tb σ H1 Q
end
end L2

namespace L2
open PySem PySem.Spec PyProof.Rows

/-! ### a list, a tuple that is read: tracked, frozen, or an object of the module -/
def SqL (K : PySem.W.Frag) (H : Hp) (a : Addr) (xs : List V) : Prop :=
  Rd H a (.lst xs) ∨
    ∃ (o : Obj) (its : Array Value) (n : Nat), K.lookup a = some o ∧ o.cls = .type "list" ∧ o.dict = none ∧ o.data = .seq its n ∧ its.size ≤ sizeLine ∧ Vals xs its.toList
def SqT (K : PySem.W.Frag) (H : Hp) (a : Addr) (xs : List V) : Prop :=
  Rd H a (.tup xs) ∨
    ∃ (o : Obj) (its : Array Value) (n : Nat), K.lookup a = some o ∧ o.cls = .type "tuple" ∧ o.data = .seq its n ∧ its.size ≤ sizeLine ∧ Vals xs its.toList
def absV : Value → Option V
  | .none => some .non
  | .bool b => some (.bl b)
  | .int i _ => some (.int i)
  | .str x _ => some (.str x)
  | .bytes b _ => some (.byt b)
  | .float b _ => some (.flt b)
  | .ref a => some (.ref a)
  | .type n => some (.ty n)
  | _ => none
section
variable {X : Cx} {pins : List (Addr × Obj)} {σ : St} {H : Hp} {s : Shared} {a : Addr} {xs ys : List V}
theorem SqL.of {K : PySem.W.Frag} (h : H a = some (.lst xs)) : SqL K H a xs := .inl (.inl h)
theorem SqT.of {K : PySem.W.Frag} (h : H a = some (.tup xs)) : SqT K H a xs := .inl (.inl h)
theorem Inv.list (I : Inv X pins σ H s) (h : SqL X.K H a xs) : ∃ its : List Value, Vals xs its ∧ PlainL s.heap a its.toArray ∧ xs.length ≤ sizeLine := by
  rcases h with h | ⟨o, its, n, hk, hc, hd, hs, hz, r⟩
  · obtain ⟨z, its, n, r, e⟩ := h.ok I.hok
    exact ⟨its, r, ⟨_, n, e, rfl, rfl, rfl⟩, z⟩
  · refine ⟨its.toList, r, ⟨o, n, I.kIn a o hk, hc, hd, by simpa using hs⟩, ?_⟩
    have e := r.length
    simp only [Array.length_toList] at e
    omega
theorem Inv.tuple (I : Inv X pins σ H s) (h : SqT X.K H a xs) : ∃ its : List Value, Vals xs its ∧ IsTup s.heap a its.toArray ∧ xs.length ≤ sizeLine := by
  rcases h with h | ⟨o, its, n, hk, hc, hs, hz, r⟩
  · obtain ⟨z, its, r, p⟩ := h.ok I.hok
    exact ⟨its, r, p, z⟩
  · refine ⟨its.toList, r, ⟨o, I.kIn a o hk, hc, n, by simpa using hs⟩, ?_⟩
    have e := r.length
    simp only [Array.length_toList] at e
    omega
end

/-! ### another wish about exceptions -/
abbrev Cx.wish (X : Cx) (E : Value → Shared → Prop) : Cx := { X with xe := E }
/-- no exception leaves -/
abbrev Cx.nox (X : Cx) : Cx := X.wish fun _ _ => False
theorem Cx.Ok.wish {X : Cx} (ok : X.Ok) (E : Value → Shared → Prop) : (X.wish E).Ok :=
  ⟨ok.mod, ok.kind, ok.glob, ok.blt, ok.above, ok.inj, ok.has, ok.cab, ok.hd, ok.frames, ok.stk, ok.exf, ok.bs, ok.bsz, ok.noex, ok.exfs, ok.funs, ok.frf⟩
theorem Cx.Ok.unwish {X : Cx} {E : Value → Shared → Prop} (ok : (X.wish E).Ok) : X.Ok :=
  ⟨ok.mod, ok.kind, ok.glob, ok.blt, ok.above, ok.inj, ok.has, ok.cab, ok.hd, ok.frames, ok.stk, ok.exf, ok.bs, ok.bsz, ok.noex, ok.exfs, ok.funs, ok.frf⟩
section
variable {X : Cx} {pins : List (Addr × Obj)} {σ : St} {H : Hp} {s : Shared} {E : Value → Shared → Prop}
theorem Inv.wish (I : Inv X pins σ H s) (E : Value → Shared → Prop) : Inv (X.wish E) pins σ H s := ⟨I.ok.wish E, I.os, I.bare, I.base, I.loc, I.cell, I.free, I.freeC, I.pin, I.hok, I.len⟩
theorem Inv.unwish (I : Inv (X.wish E) pins σ H s) : Inv X pins σ H s := ⟨I.ok.unwish, I.os, I.bare, I.base, I.loc, I.cell, I.free, I.freeC, I.pin, I.hok, I.len⟩
theorem SP.unwish {D : Ends} {f : Flow} {s' : Shared} (h : SP (X.wish E) pins D f s') : SP X pins D f s' := by
  cases f with
  | next => obtain ⟨σ', H', I, q⟩ := h; exact ⟨σ', H', I.unwish, q⟩
  | brk => obtain ⟨σ', H', I, q⟩ := h; exact ⟨σ', H', I.unwish, q⟩
  | cont => obtain ⟨σ', H', I, q⟩ := h; exact ⟨σ', H', I.unwish, q⟩
  | ret u => obtain ⟨v, σ', H', I, r, q⟩ := h; exact ⟨v, σ', H', I.unwish, r, q⟩
theorem PSs.nox {st : List Stmt} {t : TS} (h : PSs X.nox st t) : PSs X st t := fun pins s σ H D I hw =>
  wpAny_mono (h pins s σ H D (I.wish _) hw) (fun _ _ q => q.unwish) fun _ _ z => False.elim z
end

/-! ### blocks and small statements -/
section
variable {X : Cx} {st : Stmt} {rest : List Stmt} {t u : TS} {e : Expr} {te : TE} {pos : Pos}
def tNext : TS := fun D σ H => D.nx σ H
def tSeq (t u : TS) : TS := fun D σ H => t { D with nx := u D } σ H
theorem pss_nil : PSs X [] tNext := fun _ _ σ H _ I h => wpAny_execs_nil ⟨σ, H, I, h⟩
theorem pss_cons (h1 : PS X st t) (h2 : PSs X rest u) : PSs X (st :: rest) (tSeq t u) := by
  intro pins s σ H D I h
  refine wpAny_execs_cons (thn (h1 pins s σ H { D with nx := u D } I h) fun f s1 q => ?_)
  cases f with
  | next =>
    obtain ⟨σ', H', I', q⟩ := q
    exact h2 pins s1 σ' H' D I' q
  | ret v => exact q
  | brk => exact q
  | cont => exact q
theorem pss_one (h1 : PS X st t) : PSs X [st] t := by
  intro pins s σ H D I h
  refine wpAny_execs_cons (thn (h1 pins s σ H D I h) fun f s1 q => ?_)
  cases f with
  | next => exact wpAny_execs_nil q
  | ret v => exact q
  | brk => exact q
  | cont => exact q
def tBreak : TS := fun D σ H => D.bk σ H
def tCont : TS := fun D σ H => D.ct σ H
/-- in a def's body nothing is shown -/
theorem Inv.quiet {pins : List (Addr × Obj)} {σ : St} {H : Hp} {s : Shared} (I : Inv X pins σ H s) : interactive X.env = false := by simp [interactive, I.ok.kind]
/-- an expression whose value is dropped -/
def tDrop (te : TE) : TS := fun D σ H => te σ H fun _ H1 => D.nx σ H1
theorem ps_expr (he : PE X e te) (hs : swapsWith e none pos.line X.env = pure false := by rfl) : PS X (.Expr e pos) (tDrop te) := by
  intro pins s σ H D I h
  exact wpAny_Expr_any (thn (he pins s σ H _ I h) fun v s1 ⟨x, H1, I1, r1, q1⟩ => ⟨σ, H1, I1, q1⟩) I.quiet hs
def tRet (te : TE) : TS := fun D σ H => te σ H D.rt
theorem ps_ret (he : PE X e te) : PS X (.Return (some e) pos) (tRet te) := by
  intro pins s σ H D I h
  exact wpAny_Return_some (thn (he pins s σ H _ I h) fun v s1 ⟨x, H1, I1, r1, q1⟩ => ⟨x, σ, H1, I1, r1, q1⟩)
def tRetN : TS := fun D _ H => D.rt .non H
def tIfS (c : TT) (t u : TS) : TS := fun D σ H => c σ H fun b H1 => if b = true then t D σ H1 else u D σ H1
theorem ps_if {c : Expr} {a b : List Stmt} {tc : TT} (hc : PT X c tc) (ha : PSs X a t) (hb : PSs X b u) : PS X (.If c a b pos) (tIfS tc t u) := by
  intro pins s σ H D I h
  refine wpAny_If (thn (hc pins s σ H _ I h) fun d s1 ⟨H1, I1, q1⟩ => ?_)
  cases d with
  | true => exact ha pins s1 σ H1 D I1 q1
  | false => exact hb pins s1 σ H1 D I1 q1
/-- code that the proof never comes to -/
def tNever : TS := fun _ _ _ => False
end

/-! ### targets -/
abbrev TG := V → St → Hp → (St → Hp → Prop) → Prop
abbrev TGs := List V → St → Hp → (St → Hp → Prop) → Prop
def PG (X : Cx) (target : Expr) (t : TG) : Prop :=
  ∀ (pins : List (Addr × Obj)) (s : Shared) (σ : St) (H : Hp) (v : V) (u : Value) (Q : St → Hp → Prop), Inv X pins σ H s → RelV v u → t v σ H Q →
    wpAny (model X.prog X.w) X.A (assign target X.env u) (fun _ s' => ∃ σ' H', Inv X pins σ' H' s' ∧ Q σ' H') X.xe s
/-- several targets, one after another -/
def PGs (X : Cx) (ts : List Expr) (t : TGs) : Prop :=
  ∀ (pins : List (Addr × Obj)) (s : Shared) (σ : St) (H : Hp) (vs : List V) (us : List Value) (Q : St → Hp → Prop), Inv X pins σ H s → Vals vs us → t vs σ H Q →
    wpAny (model X.prog X.w) X.A (assignInOrder ((assignEach ts X.env).map (·.2)) us) (fun _ s' => ∃ σ' H', Inv X pins σ' H' s' ∧ Q σ' H') X.xe s
/-- o[i] = v, by values -/
abbrev TSet := V → V → V → Hp → (Hp → Prop) → Prop
def PSet (X : Cx) (t : TSet) : Prop :=
  ∀ (pins : List (Addr × Obj)) (s : Shared) (σ : St) (H : Hp) (o i v : V) (ov iv u : Value) (Q : Hp → Prop), Inv X pins σ H s → RelV o ov → RelV i iv → RelV v u → t o i v H Q →
    wpAny (model X.prog X.w) X.A (setItem ov iv u) (fun _ s' => ∃ H', Inv X pins σ H' s' ∧ Q H') X.xe s
/-- a op= b, by values -/
abbrev TIp := V → V → Hp → VK → Prop
def PIp (X : Cx) (op : Operator) (t : TIp) : Prop :=
  ∀ (pins : List (Addr × Obj)) (s : Shared) (σ : St) (H : Hp) (x y : V) (v u : Value) (Q : VK), Inv X pins σ H s → RelV x v → RelV y u → t x y H Q →
    wpAny (model X.prog X.w) X.A (inplaceOp op v u) (EP X pins σ Q) X.xe s
section
variable {X : Cx} {pos : Pos}
def gName (i : Nat) : TG := fun v σ H Q => Q (σ.set i (some v)) H
theorem pg_name {i : Nat} {x : Str} (hN : X.N.Nodup) (hi : X.N[i]? = some x) (hx : Loc X.env.scope x) (hf : X.fn x = true ∨ X.env.scope.names.lookup x = some .local := by first | exact .inl rfl | exact .inr rfl | assumption) : PG X (.Name x pos) (gName i) := by
  intro pins s σ H v u Q I r h
  exact wpAny_assign_Name (store_ok I hN hi hx r (fun s' I' => ⟨_, H, I', h⟩) hf)
def gNil : TGs := fun vs σ H Q => vs = [] ∧ Q σ H
def gCons (t : TG) (u : TGs) : TGs := fun vs σ H Q => ∃ v r, vs = v :: r ∧ t v σ H fun σ' H' => u r σ' H' Q
/-- (a, b, ..) = a tuple of that length -/
def gTup (K : PySem.W.Frag) (n : Nat) (t : TGs) : TG := fun v σ H Q => ∃ a xs, v = .ref a ∧ SqT K H a xs ∧ xs.length = n ∧ t xs σ H Q
/-- o[i] = .. -/
def gSub (to ti : TE) (t : TSet) : TG := fun v σ H Q => to σ H fun o H1 => ti σ H1 fun i H2 => t o i v H2 fun H3 => Q σ H3
theorem pg_sub {o i : Expr} {to ti : TE} {t : TSet} (ho : PE X o to) (hi : PE X i ti) (hs : PSet X t)
    (ha : ∀ v, assign (.Subscript o i pos) X.env v = (do
      let ov ← holding [v] (eval o X.env)
      let iv ← holding [v, ov] (eval i X.env)
      standAt pos
      holding [v, ov, iv] (setItem ov iv v)
      release [v, ov, iv] []) := by intro _; rfl) : PG X (.Subscript o i pos) (gSub to ti t) := by
  intro pins s σ H v u Q I r h
  rw [ha]
  refine wpAny_bind (wpAny_holding (thn (ho pins s σ H _ I h) fun ov s1 ⟨x, H1, I1, r1, q1⟩ => ?_))
  refine wpAny_bind (wpAny_holding (thn (hi pins s1 σ H1 _ I1 q1) fun iv s2 ⟨y, H2, I2, r2, q2⟩ => ?_))
  refine wpAny_bind (wpAny_standAt (wpAny_bind (wpAny_holding (thn (hs pins s2 σ H2 x y v ov iv u _ I2 r1 r2 r q2) fun _ s3 ⟨H3, I3, q3⟩ => ?_))))
  exact wpAny_release ⟨σ, H3, I3, q3⟩
/-- target = value -/
def tAsg (te : TE) (g : TG) : TS := fun D σ H => te σ H fun x H1 => g x σ H1 D.nx
theorem ps_asg {tg e : Expr} {te : TE} {g : TG} (he : PE X e te) (hg : PG X tg g) (hs : swapsWithSole [tg] e pos.line X.env = pure false := by rfl) (hw : swappedStores [tg] e X.env = pure none := by rfl)
    (h1 : (assignEach [tg] X.env).map (·.2) = [assign tg X.env] := by rfl) : PS X (.Assign [tg] e pos) (tAsg te g) := by
  intro pins s σ H D I h
  refine wpAny_Assign_stores (thn (he pins s σ H _ I h) fun v s1 ⟨x, H1, I1, r1, q1⟩ => ?_) hs hw
  rw [h1]
  exact thn (hg pins s1 σ H1 x v _ I1 r1 q1) fun _ s2 q => q
/-- name = value -/
theorem ps_set {i : Nat} {x : Str} {e : Expr} {te : TE} {pos' : Pos} (hN : X.N.Nodup) (hi : X.N[i]? = some x) (hx : Loc X.env.scope x) (he : PE X e te) (hs : swapsWith e (some (.Name x pos')) pos.line X.env = pure false := by rfl) (hf : X.fn x = true ∨ X.env.scope.names.lookup x = some .local := by first | exact .inl rfl | exact .inr rfl | assumption) :
    PS X (.Assign [.Name x pos'] e pos) (tAsg te (gName i)) := by
  intro pins s σ H D I h
  refine wpAny_Assign_Name (thn (he pins s σ H _ I h) fun v s1 ⟨y, H1, I1, r1, q1⟩ => ?_) hs
  exact store_ok I1 hN hi hx r1 (fun s2 I2 => ⟨_, H1, I2, q1⟩) hf
/-- a, b = x, y with plain local names: stored from the right; the pair itself is not tracked (the opening rows as in PyProof/Rows/TupAssign.lean:23) -/
def tPar (i j : Nat) (ta : TA) : TS := fun D σ H => ta σ H fun vs H1 => ∃ v w, vs = [v, w] ∧ D.nx ((σ.set i (some v)).set j (some w)) H1
/-- name op= e -/
def tAug (i : Nat) (te : TE) (ti : TIp) : TS := fun D σ H => ∃ x, σ[i]? = some (some x) ∧ te σ H fun y H1 => ti x y H1 fun z H2 => D.nx (σ.set i (some z)) H2
/-- o[i] op= e -/
def tAugS (to ti te : TE) (tget : V → V → Hp → VK → Prop) (tip : TIp) (tset : TSet) : TS := fun D σ H => to σ H fun o H1 => ti σ H1 fun i H2 => tget o i H2 fun x H3 => te σ H3 fun y H4 => tip x y H4 fun z H5 => tset o i z H5 fun H6 => D.nx σ H6
/-- o[i], by values -/
def PGet (X : Cx) (t : V → V → Hp → VK → Prop) : Prop :=
  ∀ (pins : List (Addr × Obj)) (s : Shared) (σ : St) (H : Hp) (o i : V) (ov iv : Value) (Q : VK), Inv X pins σ H s → RelV o ov → RelV i iv → t o i H Q →
    wpAny (model X.prog X.w) X.A (getItem ov iv) (EP X pins σ Q) X.xe s
/-- ints -/
def ipI (f : Int → Int → Int) : TIp := fun x y H Q => ∃ i j, x = .int i ∧ y = .int j ∧ Q (.int (f i j)) H
end

/-! ### while -/
section
variable {X : Cx} {pos : Pos}
/-- the invariant W with its measure -/
def tWhile (c : TT) (tb : TS) : TS := fun D σ H => ∃ W : Nat → St → Hp → Prop, (∃ m, W m σ H) ∧ ∀ m σ H, W m σ H →
  c σ H fun b H1 => if b = true then ∃ N : St → Hp → Prop, (∀ σ' H', N σ' H' → ∃ m', m' < m ∧ W m' σ' H') ∧ tb { D with nx := N, ct := N, bk := D.nx } σ H1 else D.nx σ H1
end

/-! ### what a loop or a comprehension walks -/
/-- at turn i: it yields x (the heap may grow), or it stops -/
structure It where
  go : Nat → Hp → Prop
  yld : Nat → Hp → V → Hp → Prop
  stop : Nat → Hp → Prop
/-- the iterator's own objects may turn: they are not the frame's, not pinned, younger than the entry (or a comprehension's own) -/
def FpOk (X : Cx) (pins : List (Addr × Obj)) (H : Hp) (b : Addr) : Prop :=
  H b = none ∧ b ≠ X.env.locals ∧ b ∉ X.fs ∧ (b ∈ X.ex ∨ X.s₀.heap.objs.size ≤ b) ∧ (∀ x c, X.env.cells.lookup x = some c → c ≠ b) ∧ ∀ p ∈ X.pn ++ pins, p.1 ≠ b
theorem Inv.fpOk {X : Cx} {pins : List (Addr × Obj)} {σ : St} {H H' : Hp} {s : Shared} {b : Addr} (I : Inv X pins σ H s) (hb : s.heap.objs.size ≤ b) (hn : H' b = none) : FpOk X pins H' b := by
  refine ⟨hn, Nat.ne_of_gt (Nat.lt_of_lt_of_le I.lt hb), I.nofs hb, .inr (Nat.le_trans I.sz hb), fun x c e z => ?_, fun p hp z => ?_⟩
  · obtain ⟨v, q⟩ := I.cell x c e
    exact absurd (Nat.lt_of_lt_of_le q.lt (by rw [z]; exact hb)) (Nat.lt_irrefl _)
  · exact absurd (Nat.lt_of_lt_of_le (Heap.lt_size (I.pin p hp).1) (by rw [z]; exact hb)) (Nat.lt_irrefl _)
structure Turn (P : Program) (w : World) (K : PySem.W.Frag) (tg : Expr) (J : It) (fp : List Addr) (it : Addr) (tn : Nat → Heap → Prop) : Prop where
  mem : it ∈ fp
  obj : ∀ i h, tn i h → ∀ b ∈ fp, ∃ o, h.get? b = some o ∧ ∀ v, o.data ≠ .cell v
  keep : ∀ i h h', tn i h → (∀ b ∈ fp, ∀ o, h.get? b = some o → h'.get? b = some o) → tn i h'
  item : ∀ (X : Cx), X.prog = P → X.w = w → X.K = K → X.calm = true → ∀ (i : Nat) (pins : List (Addr × Obj)) (s : Shared) (σ : St) (H : Hp) (E : Value → Shared → Prop), Inv X pins σ H s → (∀ b ∈ fp, FpOk X pins H b) → tn i s.heap → J.go i H →
    wpAny (model P w) X.A (pyNext (.ref it)) (fun r s1 => ∃ u, r = some u ∧
      wpAny (model P w) X.A (letOwnedTupleGo tg (.ref it) u) (fun _ s2 => ∃ x H', Inv X pins σ H' s2 ∧ RelV x u ∧ J.yld i H x H' ∧ tn (i + 1) s2.heap ∧ ∀ b ∈ fp, H' b = none) E s1) E s
  done : ∀ (X : Cx), X.prog = P → X.w = w → X.K = K → X.calm = true → ∀ (i : Nat) (pins : List (Addr × Obj)) (s : Shared) (σ : St) (H : Hp) (E : Value → Shared → Prop), Inv X pins σ H s → (∀ b ∈ fp, FpOk X pins H b) → tn i s.heap → J.stop i H →
    wpAny (model P w) X.A (pyNext (.ref it)) (fun r s1 => r = none ∧ Inv X pins σ H s1) E s
  self : ∀ (A : Around) (i : Nat) (s : Shared) (Q : Value → Shared → Prop) (E : Value → Shared → Prop), tn i s.heap → Q (.ref it) s → wpAny (model P w) A (pyIter (.ref it)) Q E s
abbrev TI := St → Hp → (It → Hp → Prop) → Prop
/-- an iterator has come -/
def PIE (X : Cx) (pins : List (Addr × Obj)) (σ : St) (tg : Expr) (R : It → Hp → Prop) (itv : Value) (s2 : Shared) : Prop :=
  ∃ (it : Addr) (fp : List Addr) (tn : Nat → Heap → Prop) (J : It) (H' : Hp), itv = .ref it ∧ Inv X pins σ H' s2 ∧ Turn X.prog X.w X.K tg J fp it tn ∧ tn 0 s2.heap ∧ (∀ b ∈ fp, FpOk X pins H' b) ∧ R J H'
def PI (X : Cx) (tg iter : Expr) (wi : TI) : Prop :=
  ∀ (pins : List (Addr × Obj)) (s : Shared) (σ : St) (H : Hp) (R : It → Hp → Prop), Inv X pins σ H s → wi σ H R →
    wpAny (model X.prog X.w) X.A (eval iter X.env) (fun v s1 => wpAny (model X.prog X.w) X.A (pyIter v) (PIE X pins σ tg R) X.xe s1) X.xe s

/-- the step ahead of the store is nothing for an iterator that keeps no tuple -/
theorem go_of {M : Model} {A : Around} {E : Value → Shared → Prop} {s : Shared} {tg : Expr} {it : Addr} {u : Value} {o : Obj} {n : String} {vs : Array Value} {Q : Unit → Shared → Prop} (ho : s.heap.get? it = some o) (hc : o.cls = .type n) (hd : o.data = .fields vs)
    (hn : ["enumerate", "zip", "dict_itemiterator", "dict_reverseitemiterator", "odict_iterator", "itertools.zip_longest", "itertools.pairwise"].contains n = false) (hQ : Q () s) : wpAny M A (letOwnedTupleGo tg (.ref it) u) Q E s := by
  unfold letOwnedTupleGo
  cases tg <;> first
    | exact wpAny_pure hQ
    | (cases u <;> first
        | exact wpAny_pure hQ
        | (refine wpAny_bind (wpAny_load ho ?_)
           rw [hc, hd]
           show wpAny M A (if (["enumerate", "zip", "dict_itemiterator", "dict_reverseitemiterator", "odict_iterator", "itertools.zip_longest", "itertools.pairwise"].contains n && vs[0]? == some (rawInt _)) = true then _ else _) Q E s
           rw [if_neg (by intro h; rw [hn, Bool.false_and] at h; cases h)]
           exact wpAny_pure hQ))

/-- the list at a, as it stands at each turn (a loop may append to it) -/
def Itl (K : PySem.W.Frag) (a : Addr) : It :=
  ⟨fun i H => ∃ xs x, SqL K H a xs ∧ xs[i]? = some x, fun i H x H' => H' = H ∧ ∀ xs, SqL K H a xs → xs[i]? = some x, fun i H => ∃ xs, SqL K H a xs ∧ xs.length ≤ i⟩
def Itt (K : PySem.W.Frag) (a : Addr) : It :=
  ⟨fun i H => ∃ xs x, SqT K H a xs ∧ xs[i]? = some x, fun i H x H' => H' = H ∧ ∀ xs, SqT K H a xs → xs[i]? = some x, fun i H => ∃ xs, SqT K H a xs ∧ xs.length ≤ i⟩
/-- lo, lo + 1, .. (n of them) -/
def Itr (lo : Int) (n : Nat) : It := ⟨fun i _ => i < n, fun i H x H' => H' = H ∧ x = .int (lo + i), fun i _ => n ≤ i⟩
theorem turn_range {P : Program} {w : World} {K : PySem.W.Frag} {tg : Expr} (it : Addr) (lo : Int) (n : Nat) : Turn P w K tg (Itr lo n) [it] it (fun i h => IsRangeIter h it (lo + (i : Nat) * 1) ((n : Int) - (i : Nat)) 1) where
  mem := by simp
  obj := fun i h st b hb => by
    have e : b = it := by simpa using hb
    subst e
    exact ⟨_, st, fun v z => by
      have z' : Data.fields _ = Data.cell v := z
      cases z'⟩
  keep := fun i h h' st k => k it (by simp) _ st
  item := by
    intro X hP hw hK hc i pins s σ H E I hf st hg
    subst hP hw hK
    obtain ⟨f0, f1, f2, f3, f4, f5⟩ := hf it (by simp)
    have W := Walks.range (prog := X.prog) (w := X.w) (I.ok.hd hc) it lo 1 n
    refine W.item i s _ _ hg st fun v h' tk hv st' kk => ?_
    obtain ⟨t, rfl⟩ := hv
    have I1 : Inv X pins σ H { s with heap := h', toks := tk } := I.turned (fun b o hb e => kk b o (by simpa using hb) e) f0 f1 f3 f4 f5
    refine ⟨_, rfl, go_of (s := { s with heap := h', toks := tk }) (n := "range_iterator") st' rfl rfl (by decide) ⟨.int (lo + i), H, I1, ⟨t, ?_⟩, ⟨rfl, rfl⟩, st', fun b hb => (hf b hb).1⟩⟩
    rw [Int.mul_one]
  done := by
    intro X hP hw hK hc i pins s σ H E I hf st hg
    subst hP hw hK
    obtain ⟨f0, f1, f2, f3, f4, f5⟩ := hf it (by simp)
    exact wpAny_pyNext_range_end (I.ok.hd hc) st (by have : n ≤ i := hg; omega) fun h' eb => ⟨rfl, I.turned (t' := s.toks) (fun b o hb e => eb b o hb e) f0 f1 f3 f4 f5⟩
  self := fun _ _ _ _ _ st h => wpAny_pyIter_rangeiter st h
end L2

namespace L2
open PySem PySem.Spec PyProof.Rows
section
variable {X : Cx} {tg : Expr}
def iList (K : PySem.W.Frag) (tl : TE) : TI := fun σ H R => tl σ H fun x H1 => ∃ a, x = .ref a ∧ (∃ xs, SqL K H1 a xs) ∧ R (Itl K a) H1
def iTup (K : PySem.W.Frag) (tl : TE) : TI := fun σ H R => tl σ H fun x H1 => ∃ a, x = .ref a ∧ (∃ xs, SqT K H1 a xs) ∧ R (Itt K a) H1
/-- a range object just made, walked -/
theorem range_it {pins : List (Addr × Obj)} {σ : St} {H : Hp} {s : Shared} {R : It → Hp → Prop} {E : Value → Shared → Prop} {lo hi : Int} {t u v : Tok} {tk : Nat} (I : Inv X pins σ H s) (h1 : -(2 ^ 62) ≤ lo) (h2 : lo < 2 ^ 62) (h3 : -(2 ^ 62) ≤ hi) (h4 : hi < 2 ^ 62)
    (q : R (Itr lo (hi - lo).toNat) H) : wpAny (model X.prog X.w) X.A (pyIter (.ref s.heap.objs.size)) (PIE X pins σ tg R) E { s with heap := s.heap.push { cls := .type "range", data := .fields #[.int lo t, .int hi u, .int 1 v] }, toks := tk } := by
  refine wpAny_pyIter_range (IsRange.new ..) (small_one h1 h2 h3 h4) ?_
  have I1 : Inv X pins σ H { s with heap := s.heap.push { cls := .type "range", data := .fields #[.int lo t, .int hi u, .int 1 v] }, toks := tk } := I.kept fun b o e => Heap.get?_push_of_some _ e
  refine ⟨(s.heap.push { cls := .type "range", data := .fields #[.int lo t, .int hi u, .int 1 v] }).objs.size, [(s.heap.push { cls := .type "range", data := .fields #[.int lo t, .int hi u, .int 1 v] }).objs.size], _, _, H, rfl,
    I1.kept (t' := tk) fun b o e => Heap.get?_push_of_some _ e, turn_range _ lo (hi - lo).toNat, ?_, fun b hb => ?_, q⟩
  · have e1 : lo + ((0 : Nat) : Int) * 1 = lo := by simp
    have e2 : (((hi - lo).toNat : Nat) : Int) - ((0 : Nat) : Int) = Builtin.Range.rangeSize lo hi 1 := by rw [rangeSize_one]; split <;> omega
    show IsRangeIter _ _ (lo + ((0 : Nat) : Int) * 1) ((((hi - lo).toNat : Nat) : Int) - ((0 : Nat) : Int)) 1
    rw [e1, e2]
    exact Heap.get?_push_size _ rfl
  · have e : b = (s.heap.push { cls := .type "range", data := .fields #[.int lo t, .int hi u, .int 1 v] }).objs.size := by simpa using hb
    subst e
    exact I1.fpOk (Nat.le_refl _) (I1.hok.fresh (Nat.le_refl _))
def iRng1 (ta : TA) : TI := fun σ H R => ta σ H fun vs H1 => ∃ j : Int, vs = [.int j] ∧ -(2 ^ 62) ≤ j ∧ j < 2 ^ 62 ∧ R (Itr 0 j.toNat) H1
def iRng2 (ta : TA) : TI := fun σ H R => ta σ H fun vs H1 => ∃ i j : Int, vs = [.int i, .int j] ∧ (-(2 ^ 62) ≤ i ∧ i < 2 ^ 62 ∧ -(2 ^ 62) ≤ j ∧ j < 2 ^ 62) ∧ R (Itr i (j - i).toNat) H1
theorem pi_range1 {a : Expr} {ta : TA} {p pos : Pos} (hg : Gl X "range") (hm : X.mg "range" = none) (ha : PA X [a] ta) (hs : starEach [a] X.env = [(false, eval a X.env)] := by rfl) : PI X tg (.Call (.Name "range" p) [a] [] pos) (iRng1 ta) := by
  intro pins s σ H R I h
  refine Call_ (ld_blt I hg hm boot_range (PyProof.Rows.callWith_type1 (thn (ha pos pins s σ H _ I h) fun us s1 ⟨vs, H1, I1, r1, q1⟩ => ?_) hs rfl))
  obtain ⟨j, e, q1, q2, q⟩ := q1
  subst e
  cases r1 with
  | cons r rr =>
    cases rr
    obtain ⟨t, rfl⟩ := r
    exact call_range_1 (range_it I1 (by omega) (by omega) q1 q2 (by simpa using q))
/-! ### for -/
/-- W: the invariant by the turn and a measure; N: what the body is to reach -/
def tFor (wi : TI) (g : TG) (tb : TS) : TS := fun D σ H => wi σ H fun J H1 => ∃ W : Nat → Nat → St → Hp → Prop, (∃ m, W 0 m σ H1) ∧ ∀ i m σ H, W i m σ H →
  (J.stop i H ∧ D.nx σ H) ∨ (J.go i H ∧ ∃ N : St → Hp → Prop, (∀ σ' H', N σ' H' → ∃ m', m' < m ∧ W (i + 1) m' σ' H') ∧ ∀ x H', J.yld i H x H' → g x σ H' fun σ2 H2 => tb { D with nx := N, ct := N, bk := D.nx } σ2 H2)
/-- the records at fp as they stand -/
def pinsAt (fp : List Addr) (h : Heap) : List (Addr × Obj) := fp.filterMap fun b => (h.get? b).map fun o => (b, o)
theorem mem_pinsAt {fp : List Addr} {h : Heap} {b : Addr} {o : Obj} (hb : b ∈ fp) (e : h.get? b = some o) : (b, o) ∈ pinsAt fp h := List.mem_filterMap.mpr ⟨b, hb, by rw [e]; rfl⟩
theorem of_pinsAt {fp : List Addr} {h : Heap} {p : Addr × Obj} (hp : p ∈ pinsAt fp h) : p.1 ∈ fp ∧ h.get? p.1 = some p.2 := by
  obtain ⟨b, hb, e⟩ := List.mem_filterMap.mp hp
  cases q : h.get? b with
  | none => rw [q] at e; cases e
  | some o =>
    rw [q] at e
    have e' : (b, o) = p := Option.some.inj e
    subst e'
    exact ⟨hb, q⟩
theorem Inv.pinned {pins : List (Addr × Obj)} {σ : St} {H : Hp} {s : Shared} {fp : List Addr} (I : Inv X pins σ H s) (hf : ∀ b ∈ fp, FpOk X pins H b) (ho : ∀ b ∈ fp, ∃ o, s.heap.get? b = some o ∧ ∀ v, o.data ≠ .cell v) : Inv X (pins ++ pinsAt fp s.heap) σ H s :=
  I.pins_of fun p hp => (List.mem_append.mp hp).elim (fun z => I.pin p (List.mem_append_right _ z)) fun z => by
    obtain ⟨hb, e⟩ := of_pinsAt z
    obtain ⟨f0, f1, f2, _⟩ := hf p.1 hb
    obtain ⟨o, e', d⟩ := ho p.1 hb
    rw [e] at e'; cases e'
    exact ⟨e, f0, f1, f2, d⟩
theorem Inv.unpinned {pins pl : List (Addr × Obj)} {σ : St} {H : Hp} {s : Shared} (I : Inv X (pins ++ pl) σ H s) : Inv X pins σ H s := I.pins_of fun p hp => I.pin p (List.mem_append_right _ (List.mem_append_left _ hp))
theorem ps_for {iter : Expr} {body : List Stmt} {wi : TI} {g : TG} {tb : TS} {pos : Pos} (hp : PassesOwn (model X.prog X.w) X.A X.env X.xe) (hc : X.calm = true) (hi : PI X tg iter wi) (hg : PG X tg g) (hb : PSs X body tb)
    (hs : ∀ x, foldedSetIterable iter X.env x = pure x := by intro _; rfl) : PS X (.For tg iter body [] pos) (tFor wi g tb) := by
  intro pins s σ H D I h
  refine wpAny_For (thn (hi pins s σ H _ I h) fun v s1 h1 => thn h1 fun itv s2 h2 => ?_) hs
  obtain ⟨it, fp, tn, J, H2, e, I2, T, st2, f2, W, ⟨m0, w0⟩, turn⟩ := h2
  subst e
  -- what stays true of the iterator's objects through the loop
  have stat : ∀ {H' : Hp}, (∀ b ∈ fp, H' b = none) → ∀ b ∈ fp, FpOk X pins H' b := fun hn b hb => ⟨hn b hb, (f2 b hb).2⟩
  refine codeAny_forLoop_any (fun n s' => ∃ i σ' H', Inv X pins σ' H' s' ∧ tn i s'.heap ∧ (∀ b ∈ fp, H' b = none) ∧ W i n σ' H') ?_ m0 ⟨0, σ, H2, I2, st2, fun b hb => (f2 b hb).1, w0⟩
  rintro n s3 ⟨i, σ3, H3, I3, st3, fr3, w3⟩
  rcases turn i n σ3 H3 w3 with ⟨stop, qn⟩ | ⟨go, N, hN, step⟩
  · refine wpAny_passesOwn hp (thn (T.done X rfl rfl rfl hc i pins s3 σ3 H3 X.xe I3 (stat fr3) st3 stop) fun r s4 ⟨hr, I4⟩ => ?_)
    subst hr
    exact wpAny_execs_nil ⟨σ3, H3, I4, qn⟩
  · refine wpAny_passesOwn hp (thn (T.item X rfl rfl rfl hc i pins s3 σ3 H3 X.xe I3 (stat fr3) st3 go) fun r s4 ⟨u, hr, h4⟩ => ?_)
    subst hr
    refine wpAny_passesOwn hp (thn h4 fun _ s5 ⟨x, H5, I5, r5, y5, st5, fr5⟩ => ?_)
    have I5' := I5.pinned (stat fr5) (T.obj _ _ st5)
    refine wpAny_passesOwn hp (thn (hg _ s5 σ3 H5 x u _ I5' r5 (step x H5 y5)) fun _ s6 ⟨σ6, H6, I6, q6⟩ => ?_)
    refine wpAny_passesOwn hp (thn (hb _ s6 σ6 H6 _ I6 q6) fun f s7 q7 => ?_)
    have again : ∀ {σ7 : St} {H7 : Hp}, Inv X (pins ++ pinsAt fp s5.heap) σ7 H7 s7 → N σ7 H7 → ∃ m, m < n ∧ ∃ i σ' H', Inv X pins σ' H' s7 ∧ tn i s7.heap ∧ (∀ b ∈ fp, H' b = none) ∧ W i m σ' H' := fun {σ7 H7} I7 n7 => by
      obtain ⟨m', hm, w7⟩ := hN σ7 H7 n7
      refine ⟨m', hm, i + 1, σ7, H7, I7.unpinned, T.keep _ _ _ st5 fun b hb o e => (I7.pin (b, o) (List.mem_append_right _ (List.mem_append_right _ (mem_pinsAt hb e)))).1, fun b hb => ?_, w7⟩
      obtain ⟨o, e, d⟩ := T.obj _ _ st5 b hb
      exact (I7.pin (b, o) (List.mem_append_right _ (List.mem_append_right _ (mem_pinsAt hb e)))).2.1
    cases f with
    | next => obtain ⟨σ7, H7, I7, n7⟩ := q7; exact again I7 n7
    | cont => obtain ⟨σ7, H7, I7, n7⟩ := q7; exact again I7 n7
    | brk => obtain ⟨σ7, H7, I7, q7⟩ := q7; exact ⟨σ7, H7, I7.unpinned, q7⟩
    | ret v => obtain ⟨x7, σ7, H7, I7, r7, q7⟩ := q7; exact ⟨x7, σ7, H7, I7.unpinned, r7, q7⟩
end

/-! ### the forms one uses -/
theorem for_range {lo : Int} {n : Nat} {g : TG} {tb : TS} {D : Ends} {σ : St} {H : Hp} (Pv : Nat → St → Hp → Prop) (h0 : Pv 0 σ H)
    (hs : ∀ i σ H, i < n → Pv i σ H → g (.int (lo + i)) σ H fun σ2 H2 => tb { D with nx := Pv (i + 1), ct := Pv (i + 1), bk := D.nx } σ2 H2) (hd : ∀ σ H, Pv n σ H → D.nx σ H) :
    ∃ W : Nat → Nat → St → Hp → Prop, (∃ m, W 0 m σ H) ∧ ∀ i m σ H, W i m σ H →
      ((Itr lo n).stop i H ∧ D.nx σ H) ∨ ((Itr lo n).go i H ∧ ∃ N : St → Hp → Prop, (∀ σ' H', N σ' H' → ∃ m', m' < m ∧ W (i + 1) m' σ' H') ∧ ∀ x H', (Itr lo n).yld i H x H' → g x σ H' fun σ2 H2 => tb { D with nx := N, ct := N, bk := D.nx } σ2 H2) := by
  refine ⟨fun i m σ H => m = n - i ∧ i ≤ n ∧ Pv i σ H, ⟨n, by simp, Nat.zero_le _, h0⟩, ?_⟩
  rintro i m σ H ⟨rfl, hi, p⟩
  by_cases hlt : i < n
  · refine .inr ⟨hlt, Pv (i + 1), fun σ' H' p' => ⟨n - (i + 1), by omega, rfl, hlt, p'⟩, fun x H' y => ?_⟩
    obtain ⟨e, y⟩ := y
    subst e y
    exact hs i σ _ hlt p
  · have e : i = n := by omega
    subst e
    exact .inl ⟨Nat.le_refl _, hd σ H p⟩
end L2

namespace L2
open PySem PySem.Spec PyProof.Rows

abbrev R2 := V → V → Hp → VK → Prop
/-- a two-place operation on values: f is binaryOp op, inplaceOp op or compareOp op -/
def OpR (X : Cx) (f : Value → Value → Sem Value) (r : R2) : Prop :=
  ∀ (pins : List (Addr × Obj)) (s : Shared) (σ : St) (H : Hp) (x y : V) (v u : Value) (Q : VK), Inv X pins σ H s → RelV x v → RelV y u → r x y H Q →
    wpAny (model X.prog X.w) X.A (f v u) (EP X pins σ Q) X.xe s
/-- a one-place operation -/
def UnR (X : Cx) (f : Value → Sem Value) (r : V → Hp → VK → Prop) : Prop :=
  ∀ (pins : List (Addr × Obj)) (s : Shared) (σ : St) (H : Hp) (x : V) (v : Value) (Q : VK), Inv X pins σ H s → RelV x v → r x H Q →
    wpAny (model X.prog X.w) X.A (f v) (EP X pins σ Q) X.xe s
/-- a call of a value that is known (a builtin, a type) with values -/
def CallR (X : Cx) (f : Value) (r : List V → Hp → VK → Prop) : Prop :=
  ∀ (pins : List (Addr × Obj)) (s : Shared) (σ : St) (H : Hp) (xs : List V) (us : List Value) (Q : VK), Inv X pins σ H s → Vals xs us → r xs H Q →
    wpAny (model X.prog X.w) X.A (call f us) (EP X pins σ Q) X.xe s
/-- a value's truth -/
def TruR (X : Cx) (r : V → Hp → (Bool → Hp → Prop) → Prop) : Prop :=
  ∀ (pins : List (Addr × Obj)) (s : Shared) (σ : St) (H : Hp) (x : V) (v : Value) (Q : Bool → Hp → Prop), Inv X pins σ H s → RelV x v → r x H Q →
    wpAny (model X.prog X.w) X.A (truthy v) (TP X pins σ Q) X.xe s

def tOp (r : R2) (ta tb : TE) : TE := fun σ H Q => ta σ H fun x H1 => tb σ H1 fun y H2 => r x y H2 Q
def tUn (r : V → Hp → VK → Prop) (ta : TE) : TE := fun σ H Q => ta σ H fun x H1 => r x H1 Q
/-- ints in, under C, and a value out -/
def rI (C : Int → Int → Prop) (g : Int → Int → V) : R2 := fun x y H Q => ∃ i j, x = .int i ∧ y = .int j ∧ C i j ∧ Q (g i j) H
def rI0 (g : Int → Int → V) : R2 := fun x y H Q => ∃ i j, x = .int i ∧ y = .int j ∧ Q (g i j) H
def rU (g : Int → V) : V → Hp → VK → Prop := fun x H Q => ∃ i, x = .int i ∧ Q (g i) H

section
variable {X : Cx} {a b c : Expr} {ta tb tc : TE} {pos : Pos}

theorem binT (ha : PE X a ta) (hb : PE X b tb) {pins : List (Addr × Obj)} {s : Shared} {σ : St} {H : Hp} {R : V → V → Hp → Prop} (I : Inv X pins σ H s)
    (h : ta σ H fun x H1 => tb σ H1 fun y H2 => R x y H2) {Q : Value → Shared → Prop} {f : Value → Value → Sem Value}
    (hf : ∀ v u s2 x y H2, Inv X pins σ H2 s2 → RelV x v → RelV y u → R x y H2 → wpAny (model X.prog X.w) X.A (f v u) Q X.xe s2) :
    wpAny (model X.prog X.w) X.A (eval a X.env) (fun v s₁ => wpAny (model X.prog X.w) X.A (eval b X.env) (fun u s₂ => wpAny (model X.prog X.w) X.A (f v u) Q X.xe s₂) X.xe s₁) X.xe s := by
  refine thn (ha pins s σ H _ I h) fun v s1 ⟨x, H1, I1, r1, q1⟩ => ?_
  refine thn (hb pins s1 σ H1 _ I1 q1) fun u s2 ⟨y, H2, I2, r2, q2⟩ => ?_
  exact hf v u s2 x y H2 I2 r1 r2 q2

theorem pe_op {op : Operator} {r : R2} (ho : OpR X (binaryOp op) r) (ha : PE X a ta) (hb : PE X b tb) : PE X (.BinOp a op b pos) (tOp r ta tb) := by
  intro pins s σ H Q I h
  exact wpAny_BinOp (binT ha hb I h fun v u s2 x y H2 I2 rx ry q => ho pins s2 σ H2 x y v u Q I2 rx ry q)
/-! ### ints -/
theorem opI {f : Value → Value → Sem Value} {C : Int → Int → Prop} {g : Int → Int → Int}
    (rule : ∀ (i j : Int) (t u : Tok) (s : Shared) (Q : Value → Shared → Prop) (E : Value → Shared → Prop), C i j → Q (.int (g i j) s.toks) { s with toks := s.toks + 1 } → wpAny (model X.prog X.w) X.A (f (.int i t) (.int j u)) Q E s) :
    OpR X f (rI C fun i j => .int (g i j)) := by
  intro pins s σ H x y v u Q I rx ry h
  obtain ⟨i, j, rfl, rfl, hc, q⟩ := h
  obtain ⟨t, rfl⟩ := rx
  obtain ⟨t', rfl⟩ := ry
  exact rule i j t t' s _ _ hc ⟨.int (g i j), H, I.tok _, ⟨_, rfl⟩, q⟩
theorem opI0 {f : Value → Value → Sem Value} {g : Int → Int → Int}
    (rule : ∀ (i j : Int) (t u : Tok) (s : Shared) (Q : Value → Shared → Prop) (E : Value → Shared → Prop), Q (.int (g i j) s.toks) { s with toks := s.toks + 1 } → wpAny (model X.prog X.w) X.A (f (.int i t) (.int j u)) Q E s) :
    OpR X f (rI0 fun i j => .int (g i j)) := by
  intro pins s σ H x y v u Q I rx ry h
  obtain ⟨i, j, rfl, rfl, q⟩ := h
  obtain ⟨t, rfl⟩ := rx
  obtain ⟨t', rfl⟩ := ry
  exact rule i j t t' s _ _ ⟨.int (g i j), H, I.tok _, ⟨_, rfl⟩, q⟩
theorem opB0 {f : Value → Value → Sem Value} {g : Int → Int → Bool}
    (rule : ∀ (i j : Int) (t u : Tok) (s : Shared) (Q : Value → Shared → Prop) (E : Value → Shared → Prop), Q (.bool (g i j)) s → wpAny (model X.prog X.w) X.A (f (.int i t) (.int j u)) Q E s) :
    OpR X f (rI0 fun i j => .bl (g i j)) := by
  intro pins s σ H x y v u Q I rx ry h
  obtain ⟨i, j, rfl, rfl, q⟩ := h
  obtain ⟨t, rfl⟩ := rx
  obtain ⟨t', rfl⟩ := ry
  exact rule i j t t' s _ _ ⟨.bl (g i j), H, I, rfl, q⟩

def CDiv (i j : Int) : Prop := 0 < j ∧ j < 1073741824
def CDivN (i j : Int) : Prop := j ≠ 0 ∧ j.natAbs < 1073741824
def CPow (i j : Int) : Prop := 0 ≤ j ∧ j ≤ 1000000 ∧ i.natAbs < 2 ^ 64
def CMul (i j : Int) : Prop := (-(2 ^ 64) < i ∧ i < 2 ^ 64) ∨ (-(2 ^ 64) < j ∧ j < 2 ^ 64)
theorem CMul.ok {i j : Int} (h : CMul i j) : IntMulOk i j := by
  rcases h with ⟨h1, h2⟩ | ⟨h1, h2⟩
  · exact .of_left (intBits_le_64 h1 h2)
  · exact .of_right (intBits_le_64 h1 h2)
theorem op_add : OpR X (binaryOp .Add) (rI0 fun i j => .int (i + j)) := opI0 fun _ _ _ _ _ _ _ q => add_int q
theorem op_sub : OpR X (binaryOp .Sub) (rI0 fun i j => .int (i - j)) := opI0 fun _ _ _ _ _ _ _ q => sub_int q
theorem op_mul : OpR X (binaryOp .Mult) (rI CMul fun i j => .int (i * j)) := opI fun _ _ _ _ _ _ _ hc q => mul_int q hc.ok
/-- // by a positive divisor -/
theorem op_fdiv : OpR X (binaryOp .FloorDiv) (rI CDiv fun i j => .int (i / j)) := opI fun i j _ _ _ _ _ hc q => by
  have h1 : (0 : Int) < j := hc.1
  have h2 : j < 1073741824 := hc.2
  exact floordiv_int (by omega) (by rw [Int.fdiv_eq_ediv_of_nonneg i (by omega)]; exact q) (.inl (PyProof.noPylong_small (by omega)))
/-- % by a positive divisor of any size -/
theorem op_mod : OpR X (binaryOp .Mod) (rI (fun _ j => 0 < j) fun i j => .int (i % j)) := opI fun i j _ _ _ _ _ hc q => by
  have h1 : (0 : Int) < j := hc
  exact mod_int' (by omega) (by rw [Int.fmod_eq_emod_of_nonneg i (by omega)]; exact q)
theorem op_pow : OpR X (binaryOp .Pow) (rI CPow fun i j => .int (i ^ j.toNat)) := opI fun _ _ _ _ _ _ _ hc q => pow_int_small hc.1 hc.2.1 hc.2.2 q
/-! ### bools among ints: n += (a < b) -/
end

/-! ### comparisons -/
/-- the scalars that == tells apart as data does -/
def scal : V → V → Bool
  | .non, .non => true | .non, .int _ => true | .int _, .non => true | .non, .bl _ => true | .bl _, .non => true | .non, .str _ => true | .str _, .non => true
  | .int _, .int _ => true | .bl _, .bl _ => true | .str _, .str _ => true | .byt _, .byt _ => true
  | .int _, .str _ => true | .str _, .int _ => true | .bl _, .str _ => true | .str _, .bl _ => true
  | _, _ => false
def rEq : R2 := fun x y H Q => scal x y = true ∧ Q (.bl (decide (x = y))) H
def rNe : R2 := fun x y H Q => scal x y = true ∧ Q (.bl (!decide (x = y))) H

theorem dec_int {i j : Int} : decide (V.int i = V.int j) = (i == j) := by
  rw [Bool.eq_iff_iff]
  simp
theorem dec_bl {i j : Bool} : decide (V.bl i = V.bl j) = (i == j) := by
  rw [Bool.eq_iff_iff]
  simp
theorem dec_str {i j : Str} : decide (V.str i = V.str j) = (i == j) := by
  rw [Bool.eq_iff_iff]
  simp
theorem dec_byt {i j : Array UInt8} : decide (V.byt i = V.byt j) = (i.toList == j.toList) := by
  rw [Bool.eq_iff_iff]
  cases i
  cases j
  simp

section
variable {X : Cx} {a b c : Expr} {ta tb tc : TE} {pos : Pos}
theorem fin_bl {pins : List (Addr × Obj)} {σ : St} {H : Hp} {s : Shared} {Q : VK} {k k' : Bool} (I : Inv X pins σ H s) (q : Q (.bl k) H) (e : k = k') : EP X pins σ Q (.bool k') s := by
  subst e
  exact ⟨.bl k, H, I, rfl, q⟩
theorem op_eq : OpR X (compareOp .Eq) rEq := by
  intro pins s σ H x y v u Q I rx ry h
  obtain ⟨hs, q⟩ := h
  cases x with
  | non =>
    cases rx
    cases y with
    | non => cases ry; exact PySem.EqNone.eq_none_none (fin_bl I q (by simp))
    | bl j => cases ry; exact PySem.EqNone.eq_none_bool (fin_bl I q (by simp))
    | int j => obtain ⟨t', rfl⟩ := ry; exact PySem.EqNone.eq_none_int (fin_bl I q (by simp))
    | str j => obtain ⟨t', rfl⟩ := ry; exact PySem.EqNone.eq_none_str (fin_bl I q (by simp))
    | _ => exact absurd (show false = true from hs) Bool.false_ne_true
  | bl i =>
    cases rx
    cases y with
    | non => cases ry; exact PySem.EqNone.eq_bool_none (fin_bl I q (by simp))
    | bl j => cases ry; exact eq_bool (fin_bl I q dec_bl)
    | str j => obtain ⟨t', rfl⟩ := ry; exact PySem.EqMixed.eq_bool_str (fin_bl I q (by simp))
    | _ => exact absurd (show false = true from hs) Bool.false_ne_true
  | int i =>
    obtain ⟨t, rfl⟩ := rx
    cases y with
    | non => cases ry; exact PySem.EqNone.eq_int_none (fin_bl I q (by simp))
    | int j => obtain ⟨t', rfl⟩ := ry; exact eq_int (fin_bl I q dec_int)
    | str j => obtain ⟨t', rfl⟩ := ry; exact PySem.EqMixed.eq_int_str (fin_bl I q (by simp))
    | _ => exact absurd (show false = true from hs) Bool.false_ne_true
  | str i =>
    obtain ⟨t, rfl⟩ := rx
    cases y with
    | non => cases ry; exact PySem.EqNone.eq_str_none (fin_bl I q (by simp))
    | bl j => cases ry; exact PySem.EqMixed.eq_str_bool (fin_bl I q (by simp))
    | int j => obtain ⟨t', rfl⟩ := ry; exact PySem.EqMixed.eq_str_int (fin_bl I q (by simp))
    | str j => obtain ⟨t', rfl⟩ := ry; exact eq_str (fin_bl I q dec_str)
    | _ => exact absurd (show false = true from hs) Bool.false_ne_true
  | byt i =>
    obtain ⟨t, rfl⟩ := rx
    cases y with
    | byt j => obtain ⟨t', rfl⟩ := ry; exact PySem.W.eq_bytes (fin_bl I q dec_byt)
    | _ => exact absurd (show false = true from hs) Bool.false_ne_true
  | _ => cases y <;> exact absurd (show false = true from hs) Bool.false_ne_true
theorem op_ne : OpR X (compareOp .NotEq) rNe := by
  intro pins s σ H x y v u Q I rx ry h
  obtain ⟨hs, q⟩ := h
  cases x with
  | non =>
    cases rx
    cases y with
    | non => cases ry; exact PySem.EqNone.ne_none_none (fin_bl I q (by simp))
    | bl j => cases ry; exact PySem.EqNone.ne_none_bool (fin_bl I q (by simp))
    | int j => obtain ⟨t', rfl⟩ := ry; exact PySem.EqNone.ne_none_int (fin_bl I q (by simp))
    | str j => obtain ⟨t', rfl⟩ := ry; exact PySem.EqNone.ne_none_str (fin_bl I q (by simp))
    | _ => exact absurd (show false = true from hs) Bool.false_ne_true
  | bl i =>
    cases rx
    cases y with
    | non => cases ry; exact PySem.EqNone.ne_bool_none (fin_bl I q (by simp))
    | bl j => cases ry; exact ne_bool (fin_bl I q (congrArg not dec_bl))
    | str j => obtain ⟨t', rfl⟩ := ry; exact PySem.EqMixed.ne_bool_str (fin_bl I q (by simp))
    | _ => exact absurd (show false = true from hs) Bool.false_ne_true
  | int i =>
    obtain ⟨t, rfl⟩ := rx
    cases y with
    | non => cases ry; exact PySem.EqNone.ne_int_none (fin_bl I q (by simp))
    | int j => obtain ⟨t', rfl⟩ := ry; exact ne_int (fin_bl I q (congrArg not dec_int))
    | str j => obtain ⟨t', rfl⟩ := ry; exact PySem.EqMixed.ne_int_str (fin_bl I q (by simp))
    | _ => exact absurd (show false = true from hs) Bool.false_ne_true
  | str i =>
    obtain ⟨t, rfl⟩ := rx
    cases y with
    | non => cases ry; exact PySem.EqNone.ne_str_none (fin_bl I q (by simp))
    | bl j => cases ry; exact PySem.EqMixed.ne_str_bool (fin_bl I q (by simp))
    | int j => obtain ⟨t', rfl⟩ := ry; exact PySem.EqMixed.ne_str_int (fin_bl I q (by simp))
    | str j => obtain ⟨t', rfl⟩ := ry; exact ne_str (fin_bl I q (congrArg not dec_str))
    | _ => exact absurd (show false = true from hs) Bool.false_ne_true
  | byt i =>
    obtain ⟨t, rfl⟩ := rx
    cases y with
    | byt j => obtain ⟨t', rfl⟩ := ry; exact PySem.W.ne_bytes (fin_bl I q (congrArg not dec_byt))
    | _ => exact absurd (show false = true from hs) Bool.false_ne_true
  | _ => cases y <;> exact absurd (show false = true from hs) Bool.false_ne_true

theorem op_lt : OpR X (compareOp .Lt) (rI0 fun i j => .bl (decide (i < j))) := opB0 fun _ _ _ _ _ _ _ q => lt_int q
theorem op_gt : OpR X (compareOp .Gt) (rI0 fun i j => .bl (decide (j < i))) := opB0 fun _ _ _ _ _ _ _ q => gt_int q
theorem op_ge : OpR X (compareOp .GtE) (rI0 fun i j => .bl (decide (j ≤ i))) := opB0 fun _ _ _ _ _ _ _ q => ge_int q
/-- is, is not of two objects that are tracked lists or instances -/
def isObj : HO → Bool
  | .lst _ => true
  | .ins _ _ _ => true
  | _ => false
theorem nomark (b : Expr) {op : CmpOp} (h : op ≠ .In := by decide) (h2 : op ≠ .NotIn := by decide) : behindInMarks op b = false := by
  have e1 : (op == CmpOp.In) = false := by cases op <;> first | rfl | exact absurd rfl h
  have e2 : (op == CmpOp.NotIn) = false := by cases op <;> first | rfl | exact absurd rfl h2
  cases b <;> simp [behindInMarks, e1, e2]
/-- a comparison as a value; hm: nomark b, or (for in, not in) by with_unfolding_all rfl -/
theorem pe_cmpR {op : CmpOp} {r : R2} (ho : OpR X (compareOp op) r) (ha : PE X a ta) (hb : PE X b tb) (hm : behindInMarks op b = false) : PE X (.Compare a [op] [b] pos) (tOp r ta tb) := by
  intro pins s σ H Q I h
  exact wpAny_Compare1 (binT ha hb I h fun v u s2 x y H2 I2 rx ry q => ho pins s2 σ H2 x y v u Q I2 rx ry q) hm
/-- a reading of a value as a test -/
def tTest (t : TE) : TT := fun σ H Q => t σ H fun x H' => ∃ k, x = .bl k ∧ Q k H'
theorem pt_cmpR {op : CmpOp} {r : R2} (ho : OpR X (compareOp op) r) (ha : PE X a ta) (hb : PE X b tb) (hm : behindInMarks op b = false) : PT X (.Compare a [op] [b] pos) (tTest (tOp r ta tb)) := by
  intro pins s σ H Q I h
  refine wpAny_isTrue_Compare1 (thn (ha pins s σ H _ I h) fun v s1 ⟨x, H1, I1, r1, q1⟩ => thn (hb pins s1 σ H1 _ I1 q1) fun u s2 ⟨y, H2, I2, r2, q2⟩ =>
    thn (ho pins s2 σ H2 x y v u _ I2 r1 r2 q2) fun c s3 ⟨z, H3, I3, r3, k, e, q3⟩ => ?_) hm
  subst e
  cases r3
  exact wpAny_truthy_bool ⟨H3, I3, q3⟩
/-- a op1 b op2 c -/
def tChain (r r' : R2) (ta tb tc : TE) : TE := fun σ H Q => ta σ H fun x H1 => tb σ H1 fun y H2 => r x y H2 fun z H3 => ∃ k, z = .bl k ∧
  (if k = true then tc σ H3 fun w' H4 => r' y w' H4 Q else Q (.bl false) H3)
/-! ### truth -/
/-- a value's truth by the abstract heap -/
def TruV (K : PySem.W.Frag) (x : V) (H : Hp) (k : Bool) : Prop :=
  match x with
  | .non => k = false
  | .bl b => k = b
  | .int i => k = (i != 0)
  | .str y => y.length ≤ sizeLine ∧ k = ((y.length : Int) != 0)
  | .byt y => y.size ≤ sizeLine ∧ k = ((y.size : Int) != 0)
  | .ref p => (∃ xs, SqL K H p xs ∧ k = !xs.isEmpty) ∨ (∃ xs, SqT K H p xs ∧ k = !xs.isEmpty) ∨ ∃ kvs, H p = some (.dK kvs) ∧ k = !kvs.isEmpty
  | _ => False
theorem line63 : (sizeLine : Nat) < 2 ^ 63 := by rw [sizeLine_eq]; decide
/-! ### strs and bytes -/
def PlainIxT (b : Expr) : Prop := ∀ o i, subscripted b false o i = operate [o, i] (getItem o i)
/-! ### scalar builtins, by CallR -/
theorem vals1 {x : V} {us : List Value} (r : Vals [x] us) : ∃ u, us = [u] ∧ RelV x u := by
  cases r with
  | cons r1 r2 => cases r2; exact ⟨_, rfl, r1⟩
theorem vals2 {x y : V} {us : List Value} (r : Vals [x, y] us) : ∃ u w', us = [u, w'] ∧ RelV x u ∧ RelV y w' := by
  cases r with
  | cons r1 r2 =>
    cases r2 with
    | cons r3 r4 => cases r4; exact ⟨_, _, rfl, r1, r3⟩
theorem call_max2 (hc : X.calm = true) : CallR X (.builtin "max") (fun xs H Q => ∃ i j, xs = [.int i, .int j] ∧ Q (.int (if j > i then j else i)) H) := by
  intro pins s σ H xs us Q I r h
  obtain ⟨i, j, rfl, q⟩ := h
  obtain ⟨u, w', rfl, ⟨t, rfl⟩, ⟨t', rfl⟩⟩ := vals2 r
  refine max_two_ints (I.ok.hd hc) fun h' tk k => ⟨_, H, I.kept k, ?_, q⟩
  by_cases hj : j > i
  · rw [if_pos hj, if_pos hj]; exact ⟨_, rfl⟩
  · rw [if_neg hj, if_neg hj]; exact ⟨_, rfl⟩
theorem call_min2 (hc : X.calm = true) : CallR X (.builtin "min") (fun xs H Q => ∃ i j, xs = [.int i, .int j] ∧ Q (.int (if j < i then j else i)) H) := by
  intro pins s σ H xs us Q I r h
  obtain ⟨i, j, rfl, q⟩ := h
  obtain ⟨u, w', rfl, ⟨t, rfl⟩, ⟨t', rfl⟩⟩ := vals2 r
  refine min_two_ints (I.ok.hd hc) fun h' tk k => ⟨_, H, I.kept k, ?_, q⟩
  by_cases hj : j < i
  · rw [if_pos hj, if_pos hj]; exact ⟨_, rfl⟩
  · rw [if_neg hj, if_neg hj]; exact ⟨_, rfl⟩
/-- len of a str, a bytes, a list, a tuple -/
def LenV (K : PySem.W.Frag) (x : V) (H : Hp) (n : Nat) : Prop :=
  match x with
  | .str y => y.length ≤ sizeLine ∧ n = y.length
  | .byt y => y.size ≤ sizeLine ∧ n = y.size
  | .ref p => (∃ xs, SqL K H p xs ∧ n = xs.length) ∨ ∃ xs, SqT K H p xs ∧ n = xs.length
  | _ => False
end
end L2

namespace L2
open PySem PySem.Spec PyProof.Rows

/-! ### an instance, its attributes a map -/
structure ObjM (h : Heap) (x dx C : Addr) (mA : Str → Option Value) : Prop where
  obj : h.get? x = some (PySem.W.instObj C dx)
  ns : h.Ns1 dx mA
  ne : dx ≠ x

theorem lookIn_ns {h : Heap} {dx : Addr} {mA : Str → Option Value} (n : h.Ns1 dx mA) : ∃ od, h.get? dx = some od ∧ ∀ name, PySem.W.lookIn name od = some (mA name) := by
  obtain ⟨o, es, ep, ho, hd, hk, _, hm⟩ := n
  refine ⟨o, ho, fun name => ?_⟩
  have e := hm name
  unfold nsFind findBy at e
  rw [← Array.find?_toList] at e
  unfold PySem.W.lookIn
  rw [hd]
  dsimp only
  split
  · rename_i y q
    rw [q] at e
    exact congrArg some e
  · rename_i q
    rw [q] at e
    have a : es.toList.any (·.refKey) = false := by
      rw [List.any_eq_false]
      intro y hy
      obtain ⟨z, t, hkey⟩ := hk y (Array.mem_toList_iff.mp hy)
      simp [DictEntry.refKey, hkey]
    have a' : ¬ es.toList.any (·.refKey) = true := by rw [a]; exact Bool.false_ne_true
    rw [if_neg a']
    exact congrArg some e

section
variable {prog : Program} {w : World} {A : Around} {E : Value → Shared → Prop} {s : Shared} {K : PySem.W.Frag} {x dx C f : Addr} {mA : Str → Option Value} {name : Str} {v : Value}

end

/-! ### the attributes as a list of pairs -/
def putF (f : Str) (v : V) : List (Str × V) → List (Str × V)
  | [] => [(f, v)]
  | (g, x) :: r => if g = f then (g, v) :: r else (g, x) :: putF f v r
theorem lookup_putF (f g : Str) (v : V) : ∀ fs : List (Str × V), (putF f v fs).lookup g = if g = f then some v else fs.lookup g
  | [] => by
    show List.lookup g [(f, v)] = _
    by_cases h : g = f
    · have hb : (g == f) = true := beq_iff_eq.mpr h
      simp only [List.lookup, hb, if_pos h]
    · have hb : (g == f) = false := beq_eq_false_iff_ne.mpr h
      simp only [List.lookup, hb, if_neg h]
  | (k, x) :: r => by
    have ih := lookup_putF f g v r
    rw [show putF f v ((k, x) :: r) = (if k = f then (k, v) :: r else (k, x) :: putF f v r) from rfl]
    by_cases hk : k = f
    · rw [if_pos hk]
      by_cases h : g = k
      · have hb : (g == k) = true := beq_iff_eq.mpr h
        simp only [List.lookup, hb, if_pos (h.trans hk)]
      · have hb : (g == k) = false := beq_eq_false_iff_ne.mpr h
        simp only [List.lookup, hb, if_neg (fun e : g = f => h (e.trans hk.symm))]
    · rw [if_neg hk]
      by_cases h : g = k
      · have hb : (g == k) = true := beq_iff_eq.mpr h
        simp only [List.lookup, hb, if_neg (fun e : g = f => hk (h.symm.trans e))]
      · have hb : (g == k) = false := beq_eq_false_iff_ne.mpr h
        simp only [List.lookup, hb]
        exact ih
theorem keys_putF (f : Str) (v : V) : ∀ fs : List (Str × V), f ∈ (putF f v fs).map (·.1) ∧ ∀ g, g ∈ fs.map (·.1) → g ∈ (putF f v fs).map (·.1)
  | [] => ⟨by simp [putF], fun g h => by simp at h⟩
  | (k, x) :: r => by
    obtain ⟨i1, i2⟩ := keys_putF f v r
    rw [show putF f v ((k, x) :: r) = (if k = f then (k, v) :: r else (k, x) :: putF f v r) from rfl]
    by_cases hk : k = f
    · rw [if_pos hk]
      subst hk
      exact ⟨by simp, fun g h => by simpa using h⟩
    · rw [if_neg hk]
      refine ⟨?_, fun g h => ?_⟩
      · rw [List.map_cons]
        exact List.mem_cons_of_mem _ i1
      · rw [List.map_cons] at h ⊢
        rcases List.mem_cons.mp h with e | e
        · exact List.mem_cons.mpr (.inl e)
        · exact List.mem_cons_of_mem _ (i2 g e)
theorem RelO.some_of {v : V} {o : Option Value} (r : RelO (some v) o) : ∃ u, o = some u ∧ RelV v u := by
  cases o with
  | none => exact (show False from r).elim
  | some u => exact ⟨u, rfl, r⟩
theorem handed_of {v : V} {u : Value} (r : RelV v u) : PySem.W.handedIn u = true := by
  cases v with
  | non => cases (show u = Value.none from r); rfl
  | bl b => cases (show u = Value.bool b from r); rfl
  | int i => obtain ⟨t, e⟩ := (show ∃ t, u = Value.int i t from r); cases e; rfl
  | str x => obtain ⟨t, e⟩ := (show ∃ t, u = Value.str x t from r); cases e; rfl
  | byt b => obtain ⟨t, e⟩ := (show ∃ t, u = Value.bytes b t from r); cases e; rfl
  | flt b => obtain ⟨t, e⟩ := (show ∃ t, u = Value.float b t from r); cases e; rfl
  | ref a => cases (show u = Value.ref a from r); rfl
  | ty n => cases (show u = Value.type n from r); rfl

section
variable {P : Program} {w : World} {H H' : Hp} {h h' : Heap} {a C dx : Addr} {fs fs' : List (Str × V)}
end

/-! ### what of the text a class must have -/
structure Cls (K : PySem.W.Frag) (C : Addr) : Prop where
  pg : PySem.W.plainGet K C Str.empty = true
  hd : PySem.W.hasDictIn K C = true
  po : PySem.W.plainOver K C = true
  sa : PySem.W.findIn K (.ref C) "__setattr__" = some (some (.builtin "object.__setattr__"))
/-- no class of it has the name -/
def NoAttr (K : PySem.W.Frag) (C : Addr) (f : Str) : Prop := PySem.W.findIn K (.ref C) f = some none
/-- a constant of the class -/
structure Con (K : PySem.W.Frag) (C : Addr) (f : Str) (v : V) (u : Value) : Prop where
  at_ : PySem.W.findIn K (.ref C) f = some (some u)
  rel : RelV v u
  get : PySem.W.specialIn K u "__get__" = some none
  cp : PySem.W.copiedNames.contains f = false
/-- a method: a plain def of the class or of one above it -/
structure Meth (K : PySem.W.Frag) (C : Addr) (m : Str) (f : Addr) : Prop where
  at_ : PySem.W.findIn K (.ref C) m = some (some (.ref f))
  fn : PySem.W.isFn K (.ref f) = true
  kp : PySem.W.keepIn K (.ref f) = true

section
variable {X : Cx} {pins : List (Addr × Obj)} {σ : St} {H : Hp} {s : Shared} {a C dx : Addr} {fs : List (Str × V)} {f : Str} {v : V} {A : Around} {E : Value → Shared → Prop}

/-- e.f where nothing but the object is asked: through attributeBase (super) and the last hold -/
theorem attr_of {prog : Program} {w : World} {env : Env} {e : Expr} {f : Str} {pos : Pos} {s : Shared} {Q : Value → Shared → Prop} (hb : attributeBase e f env (eval e env) = eval e env)
    (h : wpAny (model prog w) A (eval e env) (fun o s₁ => wpAny (model prog w) A (getAttr o f true) Q E s₁) E s) : wpAny (model prog w) A (eval (.Attribute e f pos) env) Q E s :=
  Attribute_any_ h (by rw [arm_eval_Attribute, hb])
end

/-! ### readings and rules -/
/-- e.f, an attribute of the instance -/
def tFld (K : PySem.W.Frag) (ta : TE) (f : Str) : TE := fun σ H Q => ta σ H fun x H1 => ∃ a C dx fs v, x = .ref a ∧ H1 a = some (.ins C dx fs) ∧ Cls K C ∧ NoAttr K C f ∧ fs.lookup f = some v ∧ Q v H1
/-- e.f, a constant of the class -/
def tCon (K : PySem.W.Frag) (ta : TE) (f : Str) : TE := fun σ H Q => ta σ H fun x H1 => ∃ a C dx fs v u, x = .ref a ∧ H1 a = some (.ins C dx fs) ∧ Cls K C ∧ Con K C f v u ∧ fs.lookup f = none ∧ Q v H1
/-- e.f = value -/
def sFld (K : PySem.W.Frag) (ta tv : TE) (f : Str) : TS := fun D σ H => tv σ H fun y H1 => ta σ H1 fun x H2 => ∃ a C dx fs, x = .ref a ∧ H2 a = some (.ins C dx fs) ∧ Cls K C ∧ NoAttr K C f ∧ fs.length < 1000 ∧
  D.nx σ (upd H2 a (.ins C dx (putF f y fs)))
/-- an augmented operator on two values -/
def InOp (X : Cx) (op : Operator) (rd : V → V → Hp → VK → Prop) : Prop :=
  ∀ (pins : List (Addr × Obj)) (s : Shared) (σ : St) (H : Hp) (x y : V) (u v : Value) (Q : VK), Inv X pins σ H s → RelV x u → RelV y v → rd x y H Q → wpAny (model X.prog X.w) X.A (inplaceOp op u v) (EP X pins σ Q) X.xe s
/-- e.f op= value -/
def sFldAug (K : PySem.W.Frag) (ta tv : TE) (rd : V → V → Hp → VK → Prop) (f : Str) : TS := fun D σ H => ta σ H fun x H1 => ∃ a C dx fs v, x = .ref a ∧ H1 a = some (.ins C dx fs) ∧ Cls K C ∧ NoAttr K C f ∧ fs.lookup f = some v ∧
  tv σ H1 fun y H2 => rd v y H2 fun z H3 => ∃ dx' fs', H3 a = some (.ins C dx' fs') ∧ fs'.length < 1000 ∧ D.nx σ (upd H3 a (.ins C dx' (putF f z fs')))

section
variable {X : Cx} {o e value : Expr} {f : Str} {pos pos' tpos : Pos} {ta tv : TE}
def rAdd : V → V → Hp → VK → Prop := fun x y H Q => ∃ i j, x = .int i ∧ y = .int j ∧ Q (.int (i + j)) H
def rSub : V → V → Hp → VK → Prop := fun x y H Q => ∃ i j, x = .int i ∧ y = .int j ∧ Q (.int (i - j)) H
end

/-! ### isinstance -/
section
variable {X : Cx} {pins : List (Addr × Obj)} {σ : St} {H : Hp} {s : Shared} {A : Around} {E : Value → Shared → Prop} {Q : Value → Shared → Prop} {c : Value} {b : Bool}
/-- the type of a value, as the fragment's deciders take it; for an instance its class -/
inductive TyOf (K : PySem.W.Frag) (H : Hp) : V → Value → Prop where
  | non : TyOf K H .non (.type "NoneType")
  | bl (x : Bool) : TyOf K H (.bl x) (.type "bool")
  | int (i : Int) : TyOf K H (.int i) (.type "int")
  | str (x : Str) : TyOf K H (.str x) (.type "str")
  | flt (x : UInt64) : TyOf K H (.flt x) (.type "float")
  | lst {a : Addr} {xs : List V} (e : H a = some (.lst xs)) : TyOf K H (.ref a) (.type "list")
  | frz {a : Addr} {o : Obj} {xs : List V} (e : H a = some (.frz o (.lst xs))) : TyOf K H (.ref a) (.type "list")
  | tup {a : Addr} {xs : List V} (e : H a = some (.tup xs)) : TyOf K H (.ref a) (.type "tuple")
  | dK {a : Addr} {kvs : List (Key × V)} (e : H a = some (.dK kvs)) : TyOf K H (.ref a) (.type "dict")
  | dT {a : Addr} {kvs : List (List Key × V)} (e : H a = some (.dT kvs)) : TyOf K H (.ref a) (.type "dict")
  | ins {a C dx : Addr} {fs : List (Str × V)} (e : H a = some (.ins C dx fs)) (cl : Cls K C) (ha : PySem.W.findIn K (.ref C) "__class__" = some (some (.builtin "object.__class__")))
      (hn : PySem.W.specialIn K (.builtin "object.__class__") "__get__" = some (some (.builtin "getset_descriptor.__get__"))) (htk : PySem.W.takesIn K (.builtin "object.__class__") = some true)
      (hm : PySem.W.mroIn K C (.type "object") = some true) : TyOf K H (.ref a) (.ref C)
end
end L2

namespace L2
open PySem PySem.Spec PyProof.Rows

/-! ### room -/
structure Room (k : Nat) (A : Around) : Prop where
  hd : A.handled = none
  dp : A.depth + 3 * k + 5 < recursionLimit
  un : A.units + 16 * k + 200 < cLine
  gd : A.guards = some []
theorem Room.mono {j k : Nat} {A : Around} (r : Room k A) (h : j ≤ k) : Room j A := ⟨r.hd, by have := r.dp; omega, by have := r.un; omega, r.gd⟩
theorem Room.deeper {k : Nat} {A : Around} (r : Room (k + 1) A) (env : Env) : Room k (A.deeper env) :=
  ⟨r.hd, by have := r.dp; show A.depth + 1 + 3 * k + 5 < _; omega, by have := r.un; show A.units + 3 + 16 * k + 200 < _; omega, r.gd⟩
theorem make_depth {A : Around} {C : Addr} {us : List Value} {kw : List (Str × Value)} : (A.under (.builtin "type.__call__" ⟨.ref C :: us, kw⟩)).depth = A.depth + 1 := by
  first | rfl | simp [Around.under, Code.weight, Code.isCreation, Code.isGuard, Code.isCaller, Code.frames, Code.isFrame, guardIds]
theorem make_units {A : Around} {C : Addr} {us : List Value} {kw : List (Str × Value)} : (A.under (.builtin "type.__call__" ⟨.ref C :: us, kw⟩)).units = A.units + 1 := by
  first | rfl | simp [Around.under, Code.cUnits, Code.frames, Code.isFrame]
theorem make_guards {A : Around} {C : Addr} {us : List Value} {kw : List (Str × Value)} : (A.under (.builtin "type.__call__" ⟨.ref C :: us, kw⟩)).guards = A.guards := by
  have hg : guardIds.contains "type.__call__" = false := by decide +kernel
  have e : Code.guards (.builtin "type.__call__" ⟨.ref C :: us, kw⟩) = [] := by
    unfold Code.guards
    rw [if_neg (fun z => by rw [show Code.isGuard (.builtin "type.__call__" ⟨.ref C :: us, kw⟩) = guardIds.contains "type.__call__" from rfl, hg] at z; cases z)]
  unfold Around.under
  rw [e]
  rfl
theorem Room.make {k : Nat} {A : Around} (r : Room (k + 1) A) (C : Addr) (us : List Value) (kw : List (Str × Value)) : Room k (A.under (.builtin "type.__call__" ⟨.ref C :: us, kw⟩)) :=
  ⟨r.hd, by have := r.dp; rw [make_depth]; omega, by have := r.un; rw [make_units]; omega, make_guards.trans r.gd⟩
theorem Room.depth {k : Nat} {A : Around} (r : Room k A) : A.depth < recursionLimit := by have := r.dp; omega
theorem Room.units {k : Nat} {A : Around} (r : Room k A) : A.units + 64 < cLine := by have := r.un; omega
/-! ### argument lists and displays -/
def tNil : TA := fun _ H Q => Q [] H
def tCons (ta : TE) (tr : TA) : TA := fun σ H Q => ta σ H fun x H1 => tr σ H1 fun xs H2 => Q (x :: xs) H2
section
variable {X : Cx} {e : Expr} {es : List Expr} {te : TE} {t : TA} {pos : Pos}
theorem pa_nil : PA X [] tNil := fun _ _ _ _ H Q I h => Calls.spliced_nil ⟨[], H, I, .nil, h⟩
theorem pa_cons (ha : PE X e te) (hr : PA X es t) (hs : starEach (e :: es) X.env = (false, eval e X.env) :: starEach es X.env := by rfl) : PA X (e :: es) (tCons te t) := by
  intro pos pins s σ H Q I h
  rw [hs]
  show wpAny _ _ (spliced ((false, eval e X.env) :: backTo pos (starEach es X.env))) _ _ s
  refine Calls.spliced_cons (thn (ha pins s σ H _ I h) fun u s1 ⟨x, H1, I1, r1, q1⟩ => ?_)
  exact thn (hr pos pins s1 σ H1 _ I1 q1) fun us s2 ⟨xs, H2, I2, r2, q2⟩ => ⟨x :: xs, H2, I2, .cons r1 r2, q2⟩

/-- a tuple, a list of written items -/
def tTup (t : TA) : TE := fun σ H Q => t σ H fun xs H1 => xs.length ≤ sizeLine ∧ ∀ p, H1 p = none → Q (.ref p) (upd H1 p (.tup xs))
def tLst (t : TA) : TE := fun σ H Q => t σ H fun xs H1 => xs.length ≤ sizeLine ∧ ∀ p, H1 p = none → Q (.ref p) (upd H1 p (.lst xs))
theorem pe_tup {x1} (h : PA X es t) : PE X (.Tuple es x1 pos) (tTup t) := by
  intro pins s σ H Q I hq
  refine wpAny_Tuple_spliced (thn (h pos pins s σ H _ I hq) fun us s1 ⟨xs, H1, I1, r, z, q⟩ => ⟨by rw [← r.length]; exact z, ?_⟩)
  have hf : H1 s1.heap.objs.size = none := I1.hok.fresh (Nat.le_refl _)
  refine ⟨.ref s1.heap.objs.size, upd H1 s1.heap.objs.size (.tup xs), I1.laid (t' := s1.toks) (fun b u e => Heap.get?_push_of_some _ e) (Nat.le_refl _) ?_, rfl, q _ hf⟩
  exact ⟨z, us, r, ⟨_, Heap.get?_push_size _ rfl, rfl, _, rfl⟩⟩
theorem pe_lst (h : PA X es t) : PE X (.List es pos) (tLst t) := by
  intro pins s σ H Q I hq
  refine wpAny_List_spliced (thn (h pos pins s σ H _ I hq) fun us s1 ⟨xs, H1, I1, r, z, q⟩ => ⟨by rw [← r.length]; exact z, ?_⟩)
  have hf : H1 s1.heap.objs.size = none := I1.hok.fresh (Nat.le_refl _)
  refine ⟨.ref s1.heap.objs.size, upd H1 s1.heap.objs.size (.lst xs), I1.laid (t' := s1.toks) (fun b u e => Heap.get?_push_of_some _ e) (Nat.le_refl _) ?_, rfl, q _ hf⟩
  exact ⟨z, us, 0, r, Heap.get?_push_size _ rfl⟩
end

/-! ### what a def promises -/
/-- a def's promise: the bound arguments in the parameters' order, the heap, the wanted end, the wanted exception -/
abbrev Sp := List V → Hp → VK → XK → Prop
/-- how an exception lies behind a call (file 08 gives it): the callers' frames, abstract heap and state ahead of the call, the wish, the exception, the state -/
abbrev CXT := List Env → Hp → Shared → XK → Value → Shared → Prop

/-- the state at a call -/
structure Env0 (P : Program) (w : World) (K : PySem.W.Frag) (mg : Str → Option Value) (base : Heap) (A : Around) (outer : List Env) (s : Shared) (H : Hp) : Prop where
  frames : A.frames = some outer
  mod : Mod K mg base
  bs : ∀ b o, base.get? b = some o → s.heap.get? b = some o ∧ H b = none
  bsz : base.objs.size ≤ s.heap.objs.size
  funs : s.heap.FunFrames base outer
  frf : ∀ b ∈ frs outer, H b = none
  hok : HOk P w H s.heap
  bare : AllBare s.gens
/-- a call's end -/
def CE (outer : List Env) (P : Program) (w : World) (H : Hp) (s : Shared) (Q : VK) (u : Value) (s' : Shared) : Prop :=
  ∃ v H', s'.os = s.os ∧ AllBare s'.gens ∧ Un (frs outer) [] H H' s.heap s'.heap ∧ HOk P w H' s'.heap ∧ RelV v u ∧ Q v H'
def CR (CX : CXT) (outer : List Env) (P : Program) (w : World) (H : Hp) (s : Shared) (Q : VK) (E : XK) (r : Result) (s' : Shared) : Prop :=
  match r with
  | .ok (.ret u) => CE outer P w H s Q u s'
  | .ok _ => False
  | .error e => CX outer H s E e s'
structure FnOk (P : Program) (w : World) (K : PySem.W.Frag) (mg : Str → Option Value) (base : Heap) (CX : CXT) (k : Nat) (f : Addr) (fd : FuncData) (ps : List Str) (sp : Sp) : Prop where
  len : ∀ vs H Q E, sp vs H Q E → vs.length = ps.length
  run : ∀ (A : Around) (outer : List Env) (s : Shared) (H : Hp) (args : Args) (us : List Value) (vs : List V) (Q : VK) (E : XK), Room k A → Env0 P w K mg base A outer s H → BindsTo s fd args (ps.zip us) → Vals vs us → sp vs H Q E →
    codeAny (model P w) A (.call (.ref f) args) (CR CX outer P w H s Q E) s
theorem FnOk.mono {P : Program} {w : World} {K : PySem.W.Frag} {mg : Str → Option Value} {base : Heap} {CX : CXT} {j k : Nat} {f : Addr} {fd : FuncData} {ps : List Str} {sp : Sp} (F : FnOk P w K mg base CX j f fd ps sp) (h : j ≤ k) :
    FnOk P w K mg base CX k f fd ps sp := ⟨F.len, fun A outer s H args us vs Q E hr => F.run A outer s H args us vs Q E (hr.mono h)⟩
theorem Env0.make {P : Program} {w : World} {K : PySem.W.Frag} {mg : Str → Option Value} {base : Heap} {A : Around} {outer : List Env} {s : Shared} {H : Hp} (e : Env0 P w K mg base A outer s H) (C : Addr) (us : List Value) (kw : List (Str × Value)) :
    Env0 P w K mg base (A.under (.builtin "type.__call__" ⟨.ref C :: us, kw⟩)) outer s H := ⟨by first | exact e.frames | (simpa [Around.under, Code.envs, Code.isFrame, pushEnvs] using e.frames), e.mod, e.bs, e.bsz, e.funs, e.frf, e.hok, e.bare⟩
section
variable {X : Cx} {pins : List (Addr × Obj)} {σ : St} {H : Hp} {s s' : Shared}
/-- from a body: what a callee wants -/
theorem Inv.env0 (I : Inv X pins σ H s) : Env0 X.prog X.w X.K X.mg X.base X.A X.stack s H :=
  ⟨I.ok.frames, I.ok.mod, I.bs, Nat.le_trans I.ok.bsz I.sz, I.stack, I.stkFree, I.hok, I.bare⟩
/-- behind a call -/
theorem Inv.after {Q : VK} {u : Value} (I : Inv X pins σ H s) (h : CE X.stack X.prog X.w H s Q u s') : EP X pins σ Q u s' := by
  obtain ⟨v, H', os, bare, un, hok, r, q⟩ := h
  obtain ⟨hh, g, d, t, os'⟩ := s'
  obtain rfl : os' = s.os := os
  exact ⟨v, H', I.call (h' := hh) (g' := g) (d' := d) (t' := t) (ch := []) un hok bare (fun b z => absurd z (by simp)), r, q⟩
end

/-! ### calls -/
/-- f(..): the written arguments, then the defaults dvs; E: what is wanted of an exception -/
def tCall (sp : Sp) (dvs : List V) (E : XK) (t : TA) : TE := fun σ H Q => t σ H fun vs H1 => sp (vs ++ dvs) H1 Q E
/-- o.m(..) of an instance of the class at C -/
def tMeth (C : Addr) (m : Str) (sp : Sp) (dvs : List V) (E : XK) (ta : TE) (t : TA) : TE := fun σ H Q => ta σ H fun x H1 => ∃ a dx fs, x = .ref a ∧ H1 a = some (.ins C dx fs) ∧ fs.lookup m = none ∧
  t σ H1 fun vs H2 => sp (x :: (vs ++ dvs)) H2 Q E
/-- C(..): a new instance and its dict, then __init__ -/
def tMake (C : Addr) (sp : Sp) (dvs : List V) (E : XK) (t : TA) : TE := fun σ H Q => t σ H fun vs H1 => ∀ x dx, H1 x = none → H1 dx = none → dx ≠ x →
  sp (.ref x :: (vs ++ dvs)) (upd (upd H1 dx (.own x)) x (.ins C dx [])) (fun v H2 => v = .non ∧ Q (.ref x) H2) E

/-- how the parameters are bound: us the positional arguments, kw the keywords' values by name, ds the defaults that fill up -/
def Binds (K : PySem.W.Frag) (fd : FuncData) (ps : List Str) (ds : List Value) : Prop :=
  ∀ (s : Shared) (us : List Value), K.In s.heap → (us ++ ds).length = ps.length → BindsTo s fd ⟨us, []⟩ (ps.zip (us ++ ds))
/-- every parameter is given -/
theorem Binds.all {K : PySem.W.Frag} {fd : FuncData} {ps : List Str} (h : ∀ us : List Value, us.length = ps.length → bindArgs fd ⟨us, []⟩ = pure (ps.zip us)) : Binds K fd ps [] := fun s us _ hl => by
  rw [List.append_nil] at hl ⊢
  exact .of_eq (h us hl)

/-- an exception of a callee reaches what this body wants of exceptions -/
def Passes (CX : CXT) (X : Cx) (E : XK) : Prop := ∀ (pins : List (Addr × Obj)) (σ : St) (H : Hp) (s : Shared) (e : Value) (s' : Shared), Inv X pins σ H s → CX X.stack H s E e s' → X.xe e s'

section
variable {X : Cx} {CX : CXT} {k : Nat} {f C : Addr} {fd : FuncData} {ps : List Str} {sp : Sp} {dvs : List V} {ds : List Value} {E : XK} {x m : Str} {p pos apos : Pos} {e o : Expr} {es : List Expr} {ta : TE} {t : TA}

/-- the callee runs -/
theorem run_fn {pins : List (Addr × Obj)} {σ : St} {H : Hp} {s : Shared} {Q : VK} {us : List Value} {vs : List V} (F : FnOk X.prog X.w X.K X.mg X.base CX k f fd ps sp) (hr : Room k X.A) (hb : Binds X.K fd ps ds) (hd : Vals dvs ds) (hx : Passes CX X E)
    (I : Inv X pins σ H s) (r : Vals vs us) (h : sp (vs ++ dvs) H Q E) : wpAny (model X.prog X.w) X.A (call (.ref f) us) (EP X pins σ Q) X.xe s := by
  have r2 : Vals (vs ++ dvs) (us ++ ds) := r.append hd
  have hl : (us ++ ds).length = ps.length := by rw [← r2.length]; exact F.len _ _ _ _ h
  refine wpAny_call (codeAny_mono (F.run X.A X.stack s H ⟨us, []⟩ (us ++ ds) (vs ++ dvs) Q E hr I.env0 (hb s us I.kIn hl) r2 h) fun r s' hq => ?_)
  cases r with
  | error e => exact hx pins σ H s e s' I hq
  | ok fl =>
    cases fl with
    | ret u => exact I.after hq
    | next => exact False.elim hq
    | brk => exact False.elim hq
    | cont => exact False.elim hq

theorem pe_call (F : FnOk X.prog X.w X.K X.mg X.base CX k f fd ps sp) (hr : Room k X.A) (hg : Gl X x) (hm : X.mg x = some (.ref f)) (hk : PySem.W.keepIn X.K (.ref f) = true) (hb : Binds X.K fd ps ds) (hd : Vals dvs ds) (hx : Passes CX X E)
    (ha : PA X (e :: es) t) (hdb : (x == ("__debug__" : Str)) = false := by decide) (he : starEach (e :: es) X.env = (false, eval e X.env) :: starEach es X.env := by rfl) (hpl : (backTo pos (starEach es X.env)).any (·.1) = false := by rfl) :
    PE X (.Call (.Name x p) (e :: es) [] pos) (tCall sp dvs E t) := by
  intro pins s σ H Q I h
  refine wpAny_Call_Name_kw (ld_glob I hg hm ?_ hdb)
  refine PySem.W.callWith_K (h₀ := X.base) I.ok.mod.kin hk (thn (ha pos pins s σ H _ I h) fun us s1 ⟨vs, H1, I1, r, q⟩ => ⟨I1.kIn, ?_⟩) he hpl
  exact run_fn F hr hb hd hx I1 r q
theorem pe_call0 (F : FnOk X.prog X.w X.K X.mg X.base CX k f fd ps sp) (hr : Room k X.A) (hg : Gl X x) (hm : X.mg x = some (.ref f)) (hk : PySem.W.keepIn X.K (.ref f) = true) (hb : Binds X.K fd ps ds) (hd : Vals dvs ds) (hx : Passes CX X E)
    (hdb : (x == ("__debug__" : Str)) = false := by decide) : PE X (.Call (.Name x p) [] [] pos) (tCall sp dvs E tNil) := by
  intro pins s σ H Q I h
  refine wpAny_Call_Name_kw (ld_glob I hg hm ?_ hdb)
  exact PySem.W.callWith_K0 I.kIn hk (run_fn (us := []) F hr hb hd hx I .nil h)

/-- what a class must have to be made -/
structure Mk (K : PySem.W.Frag) (C f : Addr) : Prop where
  makes : PySem.W.makesIn K C = true
  init : PySem.W.findIn K (.ref C) "__init__" = some (some (.ref f))
  fn : PySem.W.isFn K (.ref f) = true
  kp : PySem.W.keepIn K (.ref C) = true

end

/-! ### keywords -/
/-- the values of the keywords, from the left -/
def PK (X : Cx) (kws : List Keyword) (t : TA) : Prop :=
  ∀ (pos : Pos) (pins : List (Addr × Obj)) (s : Shared) (σ : St) (H : Hp) (Q : List V → Hp → Prop), Inv X pins σ H s → t σ H Q → wpAny (model X.prog X.w) X.A (evalAll ((backToKw pos (keywordEach kws X.env)).map (·.2))) (AP X pins σ Q) X.xe s
section
variable {X : Cx} {CX : CXT} {k : Nat} {f C : Addr} {fd : FuncData} {ps ks : List Str} {sp : Sp} {E : XK} {x m : Str} {p pos apos kpos : Pos} {e o : Expr} {es : List Expr} {kws : List Keyword} {te ta : TE} {t tk : TA} {nm : Option Str}
/-- how a call with keywords binds: g puts the positional values us and the keywords' values ws (names ks) in the parameters' order, defaults among them -/
structure KBinds (K : PySem.W.Frag) (fd : FuncData) (ps ks : List Str) (g : List Value → List Value → List Value) (gV : List V → List V → List V) : Prop where
  to : ∀ (s : Shared) (us ws : List Value), K.In s.heap → (g us ws).length = ps.length → BindsTo s fd ⟨us, ks.zip ws⟩ (ps.zip (g us ws))
  rel : ∀ {vs : List V} {us : List Value} {zs : List V} {ws : List Value}, Vals vs us → Vals zs ws → Vals (gV vs zs) (g us ws)
def tCallK (sp : Sp) (gV : List V → List V → List V) (E : XK) (t tk : TA) : TE := fun σ H Q => t σ H fun vs H1 => tk σ H1 fun zs H2 => sp (gV vs zs) H2 Q E
variable {g : List Value → List Value → List Value} {gV : List V → List V → List V}
end

/-! ### a def's body keeps its promise -/
/-- names: the parameters first -/
structure FnScope (N P : List Str) (sc : Scope) : Prop where
  kind : sc.kind = .function
  co : sc.isCoroutine = false
  gen : sc.isGenerator = false
  nd : N.Nodup
  pre : N.take P.length = P
  par : ∀ x ∈ P, sc.names.lookup x = some .local ∨ sc.names.lookup x = some .cell
  nofree : ∀ y ∈ sc.names, y.2 ≠ .free

theorem bindL_out {kindOf : Str → Option NameKind} {x : Str} : ∀ {binds : List (Str × Value)} {m : Str → Option Value}, (∀ v, (x, v) ∉ binds) → bindL kindOf binds m x = m x
  | [], _, _ => rfl
  | (n, v) :: r, m, h => by
    unfold bindL
    rw [bindL_out fun w hw => h w (List.mem_cons_of_mem _ hw)]
    split
    · have : x ≠ n := by rintro rfl; exact h v List.mem_cons_self
      simp [this]
    · rfl
theorem bindC_out {kindOf : Str → Option NameKind} {x : Str} : ∀ {binds : List (Str × Value)} {m : Str → Option Value}, (∀ v, (x, v) ∉ binds) → bindC kindOf binds m x = m x
  | [], _, _ => rfl
  | (n, v) :: r, m, h => by
    unfold bindC
    rw [bindC_out fun w hw => h w (List.mem_cons_of_mem _ hw)]
    split
    · rfl
    · have : x ≠ n := by rintro rfl; exact h v List.mem_cons_self
      simp [this]
theorem bindL_get {kindOf : Str → Option NameKind} {x : Str} {v : Value} : ∀ {P : List Str} {vs : List Value} {i : Nat} {m : Str → Option Value}, P.Nodup → P[i]? = some x → vs[i]? = some v → kindOf x = some .local →
    bindL kindOf (P.zip vs) m x = some v
  | [], _, _, _, _, h, _, _ => by simp at h
  | _ :: _, [], _, _, _, _, h, _ => by simp at h
  | p :: P, w :: vs, 0, m, nd, h1, h2, hk => by
    simp at h1 h2; subst h1; subst h2
    show bindL kindOf ((p, w) :: P.zip vs) m p = _
    unfold bindL
    rw [bindL_out fun v hv => (List.nodup_cons.mp nd).1 (List.of_mem_zip hv).1, if_pos hk]
    simp
  | p :: P, w :: vs, i + 1, m, nd, h1, h2, hk => by
    show bindL kindOf ((p, w) :: P.zip vs) m x = _
    unfold bindL
    exact bindL_get (i := i) (List.nodup_cons.mp nd).2 (by simpa using h1) (by simpa using h2) hk
theorem bindC_get {kindOf : Str → Option NameKind} {x : Str} {v : Value} : ∀ {P : List Str} {vs : List Value} {i : Nat} {m : Str → Option Value}, P.Nodup → P[i]? = some x → vs[i]? = some v → kindOf x ≠ some .local →
    bindC kindOf (P.zip vs) m x = some v
  | [], _, _, _, _, h, _, _ => by simp at h
  | _ :: _, [], _, _, _, _, h, _ => by simp at h
  | p :: P, w :: vs, 0, m, nd, h1, h2, hk => by
    simp at h1 h2; subst h1; subst h2
    show bindC kindOf ((p, w) :: P.zip vs) m p = _
    unfold bindC
    rw [bindC_out fun v hv => (List.nodup_cons.mp nd).1 (List.of_mem_zip hv).1, if_neg hk]
    simp
  | p :: P, w :: vs, i + 1, m, nd, h1, h2, hk => by
    show bindC kindOf ((p, w) :: P.zip vs) m x = _
    unfold bindC
    exact bindC_get (i := i) (List.nodup_cons.mp nd).2 (by simpa using h1) (by simpa using h2) hk

/-- the names' values at the entry -/
def start (N : List Str) (vs : List V) : St := vs.map some ++ List.replicate (N.length - vs.length) none

/-- the context of a def's body, at its entry; an exception leaves the frame, then lies as CX says -/
def cxOf (CX : CXT) (P : Program) (w : World) (K : PySem.W.Frag) (mg : Str → Option Value) (base : Heap) (N : List Str) (qual : Str) (scope : Scope) (f : Addr) (cd : Value) (A : Around) (outer : List Env) (s : Shared) (H : Hp) (E : XK) : Cx where
  prog := P
  w := w
  K := K
  mg := mg
  base := base
  A := A.deeper (envOfC qual scope s.heap.objs.size f cd)
  N := N
  s₀ := s
  H₀ := H
  env := envOfC qual scope s.heap.objs.size f cd
  outer := outer
  stack := envOfC qual scope s.heap.objs.size f cd :: outer
  ex := []
  calm := true
  fn := fun _ => true
  pn := []
  xe := fun e s' => wpAny (model P w) (A.deeper (envOfC qual scope s.heap.objs.size f cd)) (leaving (envOfC qual scope s.heap.objs.size f cd) e) (fun _ s'' => CX outer H s E e s'') (fun e' s'' => CX outer H s E e' s'') s'

theorem cell_has {sc : Scope} {n : Nat} {x : Str} (h : sc.names.lookup x = some .cell) : ∃ c, (cellsFrom n sc.names []).lookup x = some c := by
  have q := PySem.W.cellsFrom_some sc.names n [] (.inl h)
  exact Option.isSome_iff_exists.mp q

theorem inv_start {CX : CXT} {P : Program} {w : World} {K : PySem.W.Frag} {mg : Str → Option Value} {base : Heap} {N ps : List Str} {qual : Str} {scope : Scope} {f : Addr} {cd : Value} {A : Around} {outer : List Env} {s s1 : Shared} {H : Hp} {E : XK} {us : List Value} {vs : List V}
    (S : FnScope N ps scope) (hd : A.handled = none) (e0 : Env0 P w K mg base A outer s H) (hl : vs.length = ps.length) (r : Vals vs us)
    (x : InCallC s s.heap.objs.size (bindL (envOfC qual scope s.heap.objs.size f cd).kindOf (ps.zip us) fun _ => none) (cellsFrom (s.heap.objs.size + 1) scope.names []) (bindC (envOfC qual scope s.heap.objs.size f cd).kindOf (ps.zip us) fun _ => none) s1) :
    Inv (cxOf CX P w K mg base N qual scope f cd A outer s H E) [] (start N vs) H s1 := by
  have hpl : ps.length ≤ N.length := by have := congrArg List.length S.pre; rw [List.length_take] at this; omega
  obtain ⟨h1, tk, rfl, hk⟩ := x.done
  have noA : ∀ b : Addr, b ∉ (cxOf CX P w K mg base N qual scope f cd A outer s H E).ex := fun b z => absurd (show b ∈ ([] : List Addr) from z) (by simp)
  refine ⟨⟨e0.mod, S.kind, rfl, rfl, Nat.le_refl _, fun y z c h1 h2 => ?_, fun y hy => ?_, fun y c _ h => ?_, fun _ => hd, Around.frames_deeper e0.frames, .inr ⟨rfl, rfl⟩, fun b z => absurd z (noA b), e0.bs, e0.bsz, fun b _ _ => noA b, fun b z => absurd z (noA b), e0.funs, e0.frf⟩,
    rfl, e0.bare, Un.kept hk, ⟨_, x.toInCall.ns, fun i y v h1 h2 h3 => ?_⟩, fun y c h => ⟨_, x.cell y c h⟩, e0.hok.fresh (Nat.le_refl _), fun y c h => ?_, fun p hp => absurd (show p ∈ ([] : List (Addr × Obj)) from hp) (by simp), e0.hok.kept hk, ?_⟩
  · exact name_of_addr x.apart (PySem.mem_of_lookup h1) (PySem.mem_of_lookup h2)
  · have hy : scope.names.lookup y = some .cell ∨ scope.names.lookup y = some .free := hy
    rcases hy with hy | hy
    · exact cell_has hy
    · exact absurd rfl (S.nofree _ (PySem.mem_of_lookup hy))
  · exact Nat.le_of_lt (x.above y c (PySem.mem_of_lookup h))
  · have hi : i < vs.length := by
      unfold start at h2
      by_cases hi : i < vs.length
      · exact hi
      · rw [List.getElem?_append_right (by simpa using hi)] at h2
        rw [List.getElem?_replicate] at h2
        split at h2 <;> cases h2
    have ha : vs[i]? = some v := by
      unfold start at h2
      rw [List.getElem?_append_left (by simpa using hi), List.getElem?_map] at h2
      cases e : vs[i]? with
      | none => rw [e] at h2; cases h2
      | some a => rw [e] at h2; cases h2; rfl
    obtain ⟨u, hu, rv⟩ := r.get ha
    have hp : ps[i]? = some y := by
      rw [← S.pre, List.getElem?_take_of_lt (by omega)]; exact h1
    have ndP : ps.Nodup := by rw [← S.pre]; exact S.nd.sublist (List.take_sublist _ _)
    refine ⟨u, rv, ?_⟩
    rcases S.par y (List.mem_of_getElem? hp) with k | k
    · exact .inl ⟨k, bindL_get ndP hp hu k⟩
    · obtain ⟨c, e⟩ := cell_has (n := s.heap.objs.size + 1) k
      refine .inr ⟨.inl k, c, e, ?_⟩
      have q := x.cell y c e
      rw [bindC_get ndP hp hu (by show scope.names.lookup y ≠ _; rw [k]; decide)] at q
      exact q
  · exact e0.hok.fresh (Nat.le_of_lt (x.above y c (PySem.mem_of_lookup h)))
  · unfold start
    show _ = N.length
    rw [List.length_append, List.length_map, List.length_replicate]
    omega

/-- THE RULE: a def (or a method) of the text, by its body. The body's reading t is chosen for each entry; it is run at the parameters' values -/
theorem fn_of {CX : CXT} {P : Program} {w : World} {K : PySem.W.Frag} {mg : Str → Option Value} {base : Heap} {k : Nat} {f : Addr} {name qual : Str} {params : Arguments} {body : List Stmt} {scope : Scope} {dV kV doc pm cdv ct oc : Value} {an od : Option Addr}
    {osl : Array (Option Value)} {N ps : List Str} {sp : Sp} (lk : K.lookup f = some ⟨oc, od, .func (PySem.W.fnOf name qual params body scope dV kV doc pm an cdv ct), osl⟩) (hcd : PySem.W.codeIn K cdv qual = true) (S : FnScope N ps scope)
    (len : ∀ vs H Q E, sp vs H Q E → vs.length = ps.length)
    (hbody : ∀ (A : Around) (outer : List Env) (s : Shared) (H : Hp) (vs : List V) (Q : VK) (E : XK), Room k (A.deeper (envOfC qual scope s.heap.objs.size f cdv)) → sp vs H Q E →
      ∃ t, PSs (cxOf CX P w K mg base N qual scope f cdv A outer s H E) body t ∧ t { nx := fun _ H' => Q .non H', rt := Q } (start N vs) H) :
    FnOk P w K mg base CX (k + 1) f (PySem.W.fnOf name qual params body scope dV kV doc pm an cdv ct) ps sp := by
  refine ⟨len, fun A outer s H args us vs Q E hr e0 hb r hsp => ?_⟩
  have hl := len _ _ _ _ hsp
  have KX : K.In s.heap := e0.mod.kin.keeps fun b o e => (e0.bs b o e).1
  have lim : s.heap.NoLimit := e0.mod.nolimit.keeps fun b o e => (e0.bs b o e).1
  have hkind : ∀ y ∈ ps.zip us, scope.names.lookup y.1 = some .local ∨ (scope.names.lookup y.1 = some .cell ∧ ((cellsFrom (s.heap.objs.size + 1) scope.names []).lookup y.1).isSome = true) := fun ⟨n, v⟩ hy => by
    rcases S.par n (List.of_mem_zip hy).1 with q | q
    · exact .inl q
    · exact .inr ⟨q, PySem.W.cellsFrom_some _ _ _ (.inl q)⟩
  refine codeAny_call_function hr.depth (KX _ _ lk) rfl S.co S.gen rfl (PySem.W.codeRec_of KX hcd) (hb _ _ _ _ ?_)
  refine wpAny_newFunctionEnv_cells S.kind hkind fun env he s1 x => ?_
  subst he
  refine ⟨lim.keeps x.toInCall.keep, codeAny_func ?_⟩
  obtain ⟨t, ht, hq⟩ := hbody A outer s H vs Q E (hr.deeper _) hsp
  have I : Inv (cxOf CX P w K mg base N qual scope f cdv A outer s H E) [] (start N vs) H s1 := inv_start S hr.hd e0 hl r x
  refine wpAny_mono (ht [] s1 (start N vs) H _ I hq) (fun fl s' hs => ?_) fun e s' hs => hs
  have fin : ∀ {σ' : St} {H' : Hp} {v : V} {u : Value}, Inv (cxOf CX P w K mg base N qual scope f cdv A outer s H E) [] σ' H' s' → RelV v u → Q v H' → CE outer P w H s Q u s' :=
    fun {σ' H' v u} J rv q => ⟨v, H', J.os, J.bare, J.base, J.hok, rv, q⟩
  cases fl with
  | ret u =>
    obtain ⟨v, σ', H', J, rv, q⟩ := hs
    exact fin J rv q
  | next =>
    obtain ⟨σ', H', J, q⟩ := hs
    exact fin (v := V.non) (u := Value.none) J rfl q
  | brk =>
    obtain ⟨_, _, _, q⟩ := hs
    exact False.elim q
  | cont =>
    obtain ⟨_, _, _, q⟩ := hs
    exact False.elim q
end L2

namespace L2
open PySem PySem.Spec PyProof.Rows
section
variable {X : Cx} {x : Str} {p pos : Pos} {e : Expr} {es : List Expr} {t : TA} {id T : String} {r : List V → Hp → VK → Prop}

def tCB (r : List V → Hp → VK → Prop) (t : TA) : TE := fun σ H Q => t σ H fun vs H1 => r vs H1 Q
/-- f(e, ..), f a built-in function -/
theorem pe_callB (hc : CallR X (.builtin id) r) (hg : Gl X x) (hm : X.mg x = none) (hv : bootBuiltins x = some (.builtin id)) (ha : PA X (e :: es) t) (hn : x ≠ "__name__" := by decide) (hdb : (x == ("__debug__" : Str)) = false := by decide)
    (he : starEach (e :: es) X.env = (false, eval e X.env) :: starEach es X.env := by rfl) (hpl : (backTo pos (starEach es X.env)).any (·.1) = false := by rfl) : PE X (.Call (.Name x p) (e :: es) [] pos) (tCB r t) := by
  intro pins s σ H Q I h
  refine wpAny_Call_Name_kw (ld_blt I hg hm hv ?_ hn hdb)
  exact PyProof.Rows.callWith_builtin1 (thn (ha pos pins s σ H _ I h) fun us s1 ⟨vs, H1, I1, r1, q1⟩ => hc pins s1 σ H1 vs us Q I1 r1 q1) he hpl
end
end L2

namespace HT
open PySem PyProof.Rows

/-- t < u of tuples of ints -/
def lexLt : List Int → List Int → Bool
  | [], [] => false
  | [], _ :: _ => true
  | _ :: _, [] => false
  | x :: xs, y :: ys => if x = y then lexLt xs ys else decide (x < y)
section
open PySem.SeqAt
open PySem.AutoSeq1 (wpAny_loadPart')
open PySem.MeetsSeq PySem.MeetsSeq2 PySem.MeetsSeq3

end

section
variable {prog : Program} {w : World} {A : Around} {E : Value → Shared → Prop} {s : Shared}

/-! ### t[a:b], not the whole -/
/-- a slice's bound as a place among n (d where it is left out) -/
def sIx (n d : Nat) : Option Int → Nat
  | none => d
  | some v => if v < 0 then (v + (n : Int)).toNat else min v.toNat n
theorem sIx_none (n d : Nat) : sIx n d none = d := rfl
theorem sIx_nat (n d k : Nat) : sIx n d (some (k : Int)) = min k n := by
  show (if (k : Int) < 0 then ((k : Int) + (n : Int)).toNat else min (k : Int).toNat n) = min k n
  rw [if_neg (by omega), Int.toNat_natCast]
end
end HT

namespace L2
open PySem PySem.Spec PyProof.Rows

/-! ### the parts of a slice -/
abbrev TO := St → Hp → (Option Int → Hp → Prop) → Prop
/-- a slice's part (left out, or an int) -/
def PO (X : Cx) (e : Option Expr) (t : TO) : Prop :=
  ∀ (pins : List (Addr × Obj)) (s : Shared) (σ : St) (H : Hp) (Q : Option Int → Hp → Prop), Inv X pins σ H s → t σ H Q →
    wpAny (model X.prog X.w) X.A (evalPart e X.env) (fun u s' => ∃ o H', Inv X pins σ H' s' ∧ IsPart u o ∧ Q o H') X.xe s
def tNoPart : TO := fun _ H Q => Q none H
def tPart (t : TE) : TO := fun σ H Q => t σ H fun x H1 => ∃ i, x = .int i ∧ Q (some i) H1

section
variable {X : Cx} {e : Expr} {te : TE} {lo hi : Option Expr} {tl th : TO} {pos p2 : Pos}

theorem po_none : PO X none tNoPart := by
  intro pins s σ H Q I h
  rw [evalPart_none]
  exact wpAny_pure ⟨none, H, I, .none, h⟩
theorem po_some (h : PE X e te) : PO X (some e) (tPart te) := by
  intro pins s σ H Q I hw
  rw [evalPart_some]
  refine thn (h pins s σ H _ I hw) fun u s1 ⟨x, H1, I1, r1, q1⟩ => ?_
  obtain ⟨i, rfl, q⟩ := q1
  obtain ⟨t, rfl⟩ := r1
  exact ⟨some i, H1, I1, .int i t, q⟩

/-- what a slice of a value is, by values: the slice object stands at sl -/
def SlR (X : Cx) (r : V → Option Int → Option Int → Hp → VK → Prop) : Prop :=
  ∀ (pins : List (Addr × Obj)) (s : Shared) (σ : St) (H : Hp) (x : V) (v vl vu : Value) (lo hi : Option Int) (sl : Addr) (Q : VK), Inv X pins σ H s → RelV x v → s.heap.IsSliceOf sl vl vu .none → IsPart vl lo → IsPart vu hi → r x lo hi H Q →
    ∃ T id, typeLookup (.type T) "__getitem__" = pure (some (.builtin id)) ∧ s.TypeIs v T ∧ wpAny (model X.prog X.w) X.A (getItem v (.ref sl)) (EP X pins σ Q) X.xe s
def tSl (r : V → Option Int → Option Int → Hp → VK → Prop) (te : TE) (tl th : TO) : TE := fun σ H Q => te σ H fun x H1 => tl σ H1 fun l H2 => th σ H2 fun u H3 => r x l u H3 Q
/-- a[lo:hi], any a -/
theorem pe_slice {r : V → Option Int → Option Int → Hp → VK → Prop} (hr : SlR X r) (he : PE X e te) (hl : PO X lo tl) (hu : PO X hi th) : PE X (.Subscript e (.Slice lo hi none p2) pos) (tSl r te tl th) := by
  intro pins s σ H Q I h
  refine Subscript_ (thn (he pins s σ H _ I h) fun v s1 ⟨x, H1, I1, r1, q1⟩ => ?_)
  refine wpAny_Slice (thn (hl pins s1 σ H1 _ I1 q1) fun vl s2 ⟨l, H2, I2, pl, q2⟩ => thn (hu pins s2 σ H2 _ I2 q2) fun vu s3 ⟨u, H3, I3, pu, q3⟩ => ?_)
  rw [evalPart_none]
  refine wpAny_pure ?_
  have I4 : Inv X pins σ H3 { s3 with heap := s3.heap.push { cls := .type "slice", data := .fields #[vl, vu, .none] } } := I3.kept (t' := s3.toks) fun b ob q => Heap.get?_push_of_some _ q
  obtain ⟨T, id, hT, ht, hg⟩ := hr pins { s3 with heap := s3.heap.push { cls := .type "slice", data := .fields #[vl, vu, .none] } } σ H3 x v vl vu l u s3.heap.objs.size Q I4 r1 (Heap.IsSliceOf.new ..) pl pu q3
  show wpAny (model X.prog X.w) X.A (subscriptTail e (.Slice lo hi none p2) v (.ref s3.heap.objs.size)) (EP X pins σ Q) X.xe { s3 with heap := s3.heap.push { cls := .type "slice", data := .fields #[vl, vu, .none] } }
  exact tail_any (ops := [.ref s3.heap.objs.size, v]) ht hT hg (by with_unfolding_all rfl)

/-- the items of xs[lo:hi] -/
def cutV (xs : List V) (lo hi : Option Int) : List V := (xs.drop (HT.sIx xs.length 0 lo)).take (HT.sIx xs.length xs.length hi - HT.sIx xs.length 0 lo)
theorem cutV_length (xs : List V) (lo hi : Option Int) : (cutV xs lo hi).length ≤ xs.length := by
  unfold cutV
  rw [List.length_take, List.length_drop]
  omega
/-- t[lo:hi], not the whole of it (the whole would be t itself) -/
def rSlT (K : PySem.W.Frag) : V → Option Int → Option Int → Hp → VK → Prop := fun x lo hi H Q => ∃ a xs, x = .ref a ∧ SqT K H a xs ∧
  ¬ (HT.sIx xs.length 0 lo = 0 ∧ HT.sIx xs.length xs.length hi = xs.length) ∧ ∀ p, H p = none → Q (.ref p) (upd H p (.tup (cutV xs lo hi)))
/-! ### t < u, t + u -/
def rLtT (K : PySem.W.Frag) : R2 := fun x y H Q => ∃ a b ns ms, x = .ref a ∧ y = .ref b ∧ SqT K H a (ns.map V.int) ∧ SqT K H b (ms.map V.int) ∧ Q (.bl (HT.lexLt ns ms)) H
/-- t + u, t not empty: u empty gives t itself -/
def rCatT (K : PySem.W.Frag) : R2 := fun x y H Q => ∃ a b xs ys, x = .ref a ∧ y = .ref b ∧ SqT K H a xs ∧ SqT K H b ys ∧ xs ≠ [] ∧ xs.length + ys.length ≤ sizeLine ∧
  (ys = [] → Q (.ref a) H) ∧ (ys ≠ [] → ∀ p, H p = none → Q (.ref p) (upd H p (.tup (xs ++ ys))))
end
end L2

namespace L2
open PySem PySem.Spec PyProof.Rows

/-! ### places -/
/-- the place that an index of any sign means -/
def ixN (n : Nat) (i : Int) : Option Nat := if 0 ≤ i then (if i < n then some i.toNat else none) else if -(n : Int) ≤ i then some (i + n).toNat else none
def atI {α : Type} (xs : List α) (i : Int) : Option α := (ixN xs.length i).bind fun j => xs[j]?
theorem ixN_seq {n : Nat} {i : Int} {j : Nat} (h : ixN n i = some j) : seqIndex? i n = some j ∧ j < n ∧ -(n : Int) ≤ i ∧ i < n := by
  unfold ixN at h
  by_cases h0 : 0 ≤ i
  · rw [if_pos h0] at h
    by_cases h1 : i < n
    · rw [if_pos h1] at h
      have e : i.toNat = j := Option.some.inj h
      exact ⟨by rw [seqIndex_of h0 h1, e], by omega, by omega, h1⟩
    · rw [if_neg h1] at h; cases h
  · rw [if_neg h0] at h
    by_cases h1 : -(n : Int) ≤ i
    · rw [if_pos h1] at h
      have e : (i + n).toNat = j := Option.some.inj h
      exact ⟨by rw [seqIndex_neg (by omega) h1, e], by omega, h1, by omega⟩
    · rw [if_neg h1] at h; cases h
theorem atI_get {α : Type} {xs : List α} {i : Int} {v : α} (h : atI xs i = some v) : ∃ j, seqIndex? i xs.length = some j ∧ xs[j]? = some v ∧ j < xs.length ∧ -(xs.length : Int) ≤ i ∧ i < xs.length := by
  unfold atI at h
  cases e : ixN xs.length i with
  | none => rw [e] at h; cases h
  | some j =>
    rw [e] at h
    obtain ⟨h1, h2, h3, h4⟩ := ixN_seq e
    exact ⟨j, h1, h, h2, h3, h4⟩
theorem atI_nat {α : Type} {xs : List α} {j : Nat} {v : α} (h : xs[j]? = some v) : atI xs (j : Int) = some v := by
  have hj : j < xs.length := (List.getElem?_eq_some_iff.mp h).1
  have e : ixN xs.length (j : Int) = some j := by
    unfold ixN
    rw [if_pos (by omega), if_pos (by omega)]; simp
  unfold atI; rw [e]; exact h
/-! ### what may be subscripted -/
/-- what stands as an index of a plain subscript -/
def PlainIx (b : Expr) : Prop := ∀ o i, subscripted b false o i = operate [o, i] (getItem o i)
/-- a subscript by values -/
def IxR (X : Cx) (r : R2) : Prop :=
  ∀ (value slice : Expr) (pins : List (Addr × Obj)) (s : Shared) (σ : St) (H : Hp) (x y : V) (v u : Value) (Q : VK), Inv X pins σ H s → RelV x v → RelV y u → r x y H Q →
    subscripted slice false v u = operate [v, u] (getItem v u) → wpAny (model X.prog X.w) X.A (subscriptTail value slice v u) (EP X pins σ Q) X.xe s
/-- a call of a builtin's method by values: the receiver, the arguments -/
def MtR (X : Cx) (id : String) (r : V → List V → Hp → VK → Prop) : Prop :=
  ∀ (pins : List (Addr × Obj)) (s : Shared) (σ : St) (H : Hp) (x : V) (xs : List V) (v : Value) (us : List Value) (Q : VK), Inv X pins σ H s → RelV x v → Vals xs us → r x xs H Q →
    wpAny (model X.prog X.w) X.A (call (.builtin id) (v :: us)) (EP X pins σ Q) X.xe s
section
variable {X : Cx} {a b : Expr} {ta tb : TE} {pos : Pos}
/-- a[b] -/
theorem pe_ix {r : R2} (hr : IxR X r) (ha : PE X a ta) (hb : PE X b tb) (hs : PlainIx b) : PE X (.Subscript a b pos) (tOp r ta tb) := by
  intro pins s σ H Q I h
  exact Subscript_ (binT ha hb I h fun v u s2 x y H2 I2 rx ry q => hr a b pins s2 σ H2 x y v u Q I2 rx ry q (hs _ _))

def rIxL (K : PySem.W.Frag) : R2 := fun x y H Q => ∃ p xs i v, x = .ref p ∧ y = .int i ∧ SqL K H p xs ∧ atI xs i = some v ∧ Q v H
def rIxT (K : PySem.W.Frag) : R2 := fun x y H Q => ∃ p xs i v, x = .ref p ∧ y = .int i ∧ SqT K H p xs ∧ atI xs i = some v ∧ Q v H
def rIxS : R2 := fun x y H Q => ∃ z i c, x = .str z ∧ y = .int i ∧ z.length ≤ sizeLine ∧ atI z.cps.toList i = some c ∧ Q (.str ⟨#[c]⟩) H
theorem ix_list : IxR X (rIxL X.K) := by
  intro value slice pins s σ H x y v u Q I rx ry h hs
  obtain ⟨p, xs, i, z, rfl, rfl, hq, he, q⟩ := h
  cases rx
  obtain ⟨t, rfl⟩ := ry
  obtain ⟨its, r, pl, hz⟩ := I.list hq
  obtain ⟨j, h1, h2, h3, h4, h5⟩ := atI_get he
  obtain ⟨w, ew, rw'⟩ := r.get h2
  have hl := r.length
  have hn := line63
  have fin : EP X pins σ Q w s := ⟨z, H, I, rw', q⟩
  by_cases h0 : 0 ≤ i
  · have hj : i.toNat = j := by
      rw [seqIndex_of h0 h5] at h1
      exact Option.some.inj h1
    exact item_listR pl.isList h0 (by omega) (by rw [hj]; simpa using ew) fin hs
  · have hj : (i + (its.toArray.size : Int)).toNat = j := by
      rw [seqIndex_neg (by omega) h4] at h1
      rw [List.size_toArray, ← hl]
      exact Option.some.inj h1
    exact subscriptTail_builtinR (x := w) pl.isList.typeIs slot_list_getitem.lookup
      (wpAny_getItem_list_neg (Q := fun r s' => r = w ∧ EP X pins σ Q r s') pl.isList (by omega) (by rw [List.size_toArray] <;> omega) (by omega) (by rw [hj]; simpa using ew) ⟨rfl, fin⟩) hs
/-- list, tuple or str -/
def rIx (K : PySem.W.Frag) : R2 := fun x y H Q => rIxL K x y H Q ∨ rIxT K x y H Q ∨ rIxS x y H Q
/-! ### xs[i] = v, any sign -/
/-- the list's object behind a store -/
theorem mapSeq_set (its : List Value) (n j : Nat) (u : Value) : Obj.mapSeq (·.setIfInBounds j u) { cls := .type "list", data := .seq its.toArray n } = { cls := .type "list", data := .seq (its.set j u).toArray n } := by
  simp [Obj.mapSeq]
theorem Inv.lst {pins : List (Addr × Obj)} {σ : St} {H : Hp} {s : Shared} {p : Addr} {xs : List V} (I : Inv X pins σ H s) (h : H p = some (.lst xs)) :
    ∃ (its : List Value) (n : Nat), Vals xs its ∧ s.heap.get? p = some { cls := .type "list", data := .seq its.toArray n } ∧ xs.length ≤ sizeLine := by
  obtain ⟨z, its, n, r, e⟩ := I.hok p _ h
  exact ⟨its, n, r, e, z⟩
/-- the list at p is written by an update of its object -/
theorem Inv.lstUpd {pins : List (Addr × Obj)} {σ : St} {H : Hp} {s : Shared} {p : Addr} {xs ys : List V} {its its' : List Value} {n n' : Nat} {f : Obj → Obj} (I : Inv X pins σ H s) (h : H p = some (.lst xs))
    (ho : s.heap.get? p = some { cls := .type "list", data := .seq its.toArray n }) (hf : f { cls := .type "list", data := .seq its.toArray n } = { cls := .type "list", data := .seq its'.toArray n' }) (r : Vals ys its') (hz : ys.length ≤ sizeLine) (t : Nat) :
    Inv X pins σ (upd H p (.lst ys)) { s with heap := s.heap.update p f, toks := t } := by
  have e : (s.heap.update p f).get? p = some { cls := .type "list", data := .seq its'.toArray n' } := by
    rw [Heap.get?_update_self f ho (by rw [hf] <;> rfl), hf]
  refine I.write (x := p) (e := p) (by rw [h]; trivial) (.inl rfl) (fun b u hb q => (Heap.get?_update_other _ _ (Ne.symm hb)).trans q) ⟨_, e⟩ ?_
  exact ⟨hz, its', n', r, e⟩
def rSetL : V → V → V → Hp → (Hp → Prop) → Prop := fun o i v H Q => ∃ p xs k j, o = .ref p ∧ i = .int k ∧ H p = some (.lst xs) ∧ ixN xs.length k = some j ∧ Q (upd H p (.lst (xs.set j v)))
theorem set_list : PSet X rSetL := by
  intro pins s σ H o i v ov iv u Q I ro ri rv h
  obtain ⟨p, xs, k, j, rfl, rfl, hp, hj, q⟩ := h
  cases ro
  obtain ⟨t, rfl⟩ := ri
  obtain ⟨its, n, r, ho, hz⟩ := I.lst hp
  obtain ⟨h1, h2, h3, h4⟩ := ixN_seq hj
  have hl := r.length
  have hn := line63
  have I' : Inv X pins σ (upd H p (.lst (xs.set j v))) { s with heap := s.heap.update p (Obj.mapSeq (·.setIfInBounds j u)) } :=
    I.lstUpd hp ho (mapSeq_set its n j u) (r.set rv j) (by rw [List.length_set]; exact hz) s.toks
  by_cases h0 : 0 ≤ k
  · have hk : k.toNat = j := by
      rw [seqIndex_of h0 h4] at h1
      exact Option.some.inj h1
    exact PySem.W.ki_setAt ho h0 (by omega) (by rw [List.size_toArray, ← hl]; exact h4) (by rw [hk]; exact ⟨_, I', q⟩)
  · have hk : (k + (its.toArray.size : Int)).toNat = j := by
      rw [seqIndex_neg (by omega) h3] at h1
      rw [List.size_toArray, ← hl]
      exact Option.some.inj h1
    exact PySem.W.ki_setBack ho (by omega) (by rw [List.size_toArray, ← hl]; exact h3) (by omega) (by rw [hk]; exact ⟨_, I', q⟩)

/-! ### slices -/
theorem slice_bounds (lo hi : Option Int) (n : Nat) : (sliceBounds lo hi none n).1 = ((HT.sIx n 0 lo : Nat) : Int) ∧ (sliceBounds lo hi none n).2.1 = ((HT.sIx n n hi : Nat) : Int) ∧ (sliceBounds lo hi none n).2.2 = 1 := by
  refine ⟨?_, ?_, rfl⟩
  · cases lo with
    | none => simp [sliceBounds, HT.sIx]
    | some i =>
      simp only [sliceBounds, HT.sIx, Option.getD_none, show (1 : Int) > 0 by decide, if_true]
      by_cases h : i < 0
      · simp only [h, if_true] <;> omega
      · simp only [h, if_false] <;> omega
  · cases hi with
    | none => simp [sliceBounds, HT.sIx]
    | some i =>
      simp only [sliceBounds, HT.sIx, Option.getD_none, show (1 : Int) > 0 by decide, if_true]
      by_cases h : i < 0
      · simp only [h, if_true] <;> omega
      · simp only [h, if_false] <;> omega
theorem slicePick_cut (its : List Value) (lo hi : Option Int) : slicePick its.toArray lo hi none = ((its.drop (HT.sIx its.length 0 lo)).take (HT.sIx its.length its.length hi - HT.sIx its.length 0 lo)).toArray := by
  obtain ⟨h1, h2, h3⟩ := slice_bounds lo hi its.toArray.size
  unfold slicePick
  rw [h1, h2, h3]
  simp only [sliceRange_one, pick_run, List.size_toArray] <;> rfl
/-- xs[lo:hi] of a list: a new list -/
def rSlL (K : PySem.W.Frag) : V → Option Int → Option Int → Hp → VK → Prop := fun x lo hi H Q => ∃ a xs, x = .ref a ∧ SqL K H a xs ∧ ∀ p, H p = none → Q (.ref p) (upd H p (.lst (cutV xs lo hi)))
/-! ### in, not in: flat items -/
def flatV : V → Bool
  | .non => true
  | .bl _ => true
  | .int _ => true
  | .str _ => true
  | _ => false
/-- == of flat values -/
def eqV : V → V → Bool
  | .non, .non => true
  | .bl a, .bl b => a == b
  | .bl a, .int b => (if a then 1 else 0) == b
  | .int a, .bl b => a == (if b then 1 else 0)
  | .int a, .int b => a == b
  | .str a, .str b => a == b
  | _, _ => false
theorem eqAt_V {A : Around} {s : Shared} {y x : V} {u v : Value} (ry : RelV y u) (rx : RelV x v) (fy : flatV y = true) (fx : flatV x = true) : SeqAt.EqAt A s u v (eqV y x) := by
  cases y with
  | non =>
    cases ry
    cases x with
    | non => cases rx; exact SeqAt.EqAt.same _
    | bl b => cases rx; exact SeqAt.EqAt.none_bool b
    | int b => obtain ⟨t, rfl⟩ := rx; exact SeqAt.EqAt.none_int b t
    | str b => obtain ⟨t, rfl⟩ := rx; exact SeqAt.EqAt.none_str b t
    | _ => exact absurd (show false = true from fx) Bool.false_ne_true
  | bl a =>
    cases ry
    cases x with
    | non => cases rx; exact SeqAt.EqAt.bool_none a
    | bl b => cases rx; exact SeqAt.EqAt.bool_bool a b
    | int b => obtain ⟨t, rfl⟩ := rx; exact SeqAt.EqAt.bool_int a b t
    | str b => obtain ⟨t, rfl⟩ := rx; exact SeqAt.EqAt.bool_str a b t
    | _ => exact absurd (show false = true from fx) Bool.false_ne_true
  | int a =>
    obtain ⟨t', rfl⟩ := ry
    cases x with
    | non => cases rx; exact SeqAt.EqAt.int_none a t'
    | bl b => cases rx; exact SeqAt.EqAt.int_bool a t' b
    | int b => obtain ⟨t, rfl⟩ := rx; exact SeqAt.EqAt.int_int a t' b t
    | str b => obtain ⟨t, rfl⟩ := rx; exact SeqAt.EqAt.int_str a t' b t
    | _ => exact absurd (show false = true from fx) Bool.false_ne_true
  | str a =>
    obtain ⟨t', rfl⟩ := ry
    cases x with
    | non => cases rx; exact SeqAt.EqAt.str_none a t'
    | bl b => cases rx; exact SeqAt.EqAt.str_bool a t' b
    | int b => obtain ⟨t, rfl⟩ := rx; exact SeqAt.EqAt.str_int a t' b t
    | str b => obtain ⟨t, rfl⟩ := rx; exact SeqAt.EqAt.str_str a t' b t
    | _ => exact absurd (show false = true from fx) Bool.false_ne_true
  | _ => exact absurd (show false = true from fy) Bool.false_ne_true
/-- the items' answers, read off the values (a value's own answer does not lean on its token) -/
def eqU (x : V) (u : Value) : Bool := match u with
  | .none => eqV .non x
  | .bool b => eqV (.bl b) x
  | .int i _ => eqV (.int i) x
  | .str z _ => eqV (.str z) x
  | _ => false
theorem eqU_of {x y : V} {u : Value} (r : RelV y u) (f : flatV y = true) : eqU x u = eqV y x := by
  cases y with
  | non => cases r; rfl
  | bl b => cases r; rfl
  | int i => obtain ⟨t, rfl⟩ := r; rfl
  | str z => obtain ⟨t, rfl⟩ := r; rfl
  | _ => exact absurd (show false = true from f) Bool.false_ne_true
theorem any_eqU {x : V} : ∀ {xs : List V} {us : List Value}, Vals xs us → xs.all flatV = true → us.any (eqU x) = xs.any fun y => eqV y x
  | _, _, .nil, _ => rfl
  | y :: xs, u :: us, .cons r t, f => by
    rw [List.all_cons, Bool.and_eq_true] at f
    rw [List.any_cons, List.any_cons, eqU_of r f.1, any_eqU t f.2]
theorem mem_eqAt {A : Around} {s : Shared} {x : V} {v : Value} (rx : RelV x v) (fx : flatV x = true) : ∀ {xs : List V} {us : List Value}, Vals xs us → xs.all flatV = true → ∀ u ∈ us, SeqAt.EqAt A s u v (eqU x u)
  | _, _, .nil, _ => fun u hu => by cases hu
  | y :: xs, u :: us, .cons r t, f => fun u' hu => by
    rw [List.all_cons, Bool.and_eq_true] at f
    rcases List.mem_cons.mp hu with rfl | hu
    · rw [eqU_of r f.1]; exact eqAt_V r rx f.1 fx
    · exact mem_eqAt rx fx t f.2 u' hu
def inV (x : V) (xs : List V) : Bool := xs.any fun y => eqV y x
/-- x in a list or tuple of flat items -/
def rIn (K : PySem.W.Frag) (neg : Bool) : R2 := fun x y H Q => ∃ p xs, y = .ref p ∧ (SqL K H p xs ∨ SqT K H p xs) ∧ flatV x = true ∧ xs.all flatV = true ∧ Q (.bl (if neg then !inV x xs else inV x xs)) H
theorem op_in_seq : OpR X (compareOp .In) (rIn X.K false) := by
  intro pins s σ H x y v u Q I rx ry h
  obtain ⟨p, xs, rfl, hq, fx, fs, q⟩ := h
  cases ry
  rcases hq with hq | hq
  · obtain ⟨its, r, pl, hz⟩ := I.list hq
    refine SeqAt.in_listAt (eqU x) pl.isList (fun w hw => mem_eqAt rx fx r fs w (by simpa using hw)) ⟨.bl _, H, I, rfl, ?_⟩
    rw [show its.toArray.any (eqU x) = its.any (eqU x) by simp, any_eqU r fs]
    exact q
  · obtain ⟨its, r, pl, hz⟩ := I.tuple hq
    refine SeqAt.in_tupleAt (eqU x) pl (fun w hw => mem_eqAt rx fx r fs w (by simpa using hw)) ⟨.bl _, H, I, rfl, ?_⟩
    rw [show its.toArray.any (eqU x) = its.any (eqU x) by simp, any_eqU r fs]
    exact q
/-! ### len, list(x), tuple(x) of any list or tuple that is read -/
theorem call_len_seq : CallR X (.builtin "len") (fun xs H Q => ∃ p ys, xs = [.ref p] ∧ (SqL X.K H p ys ∨ SqT X.K H p ys) ∧ Q (.int ys.length) H) := by
  intro pins s σ H xs us Q I r h
  obtain ⟨p, ys, rfl, hq, q⟩ := h
  obtain ⟨u, rfl, rx⟩ := vals1 r
  cases rx
  have hn := line63
  rcases hq with hq | hq
  · obtain ⟨its, r', pl, hz⟩ := I.list hq
    have hlen := r'.length
    exact Calls.call_len_list pl.isList (by simp only [List.size_toArray] <;> omega) ⟨.int ys.length, H, I.tok _, ⟨s.toks + 1, by rw [List.size_toArray, hlen]⟩, q⟩
  · obtain ⟨its, r', pl, hz⟩ := I.tuple hq
    have hlen := r'.length
    exact len_tuple pl (by simp only [List.size_toArray] <;> omega) ⟨.int ys.length, H, I.tok _, ⟨s.toks + 1, by rw [List.size_toArray, hlen]⟩, q⟩
/-! ### the call of a builtin's method: o.m(..) -/
/-- the value is of that builtin type -/
def tyV (K : PySem.W.Frag) (T : String) (x : V) (H : Hp) : Prop := match x with
  | .str _ => T = "str"
  | .int _ => T = "int"
  | .ref p => (T = "list" ∧ ∃ xs, SqL K H p xs) ∨ (T = "tuple" ∧ ∃ o, K.lookup p = some o ∧ o.cls = .type "tuple" ∧ o.dict = none) ∨
      (T = "dict" ∧ ((∃ kvs, H p = some (.dK kvs)) ∨ ∃ kvs, H p = some (.dT kvs))) ∨ (T = "set" ∧ ∃ S n, H p = some (.set S n))
  | _ => False
theorem tyV_is {pins : List (Addr × Obj)} {σ : St} {H : Hp} {s : Shared} {T : String} {x : V} {v : Value} (I : Inv X pins σ H s) (r : RelV x v) (ty : tyV X.K T x H) :
    s.TypeIs v T ∧ ∀ a, v = .ref a → ∃ ob, s.heap.get? a = some ob ∧ ob.dict = none := by
  cases x with
  | str z =>
    obtain ⟨t, rfl⟩ := r
    cases (show T = "str" from ty)
    exact ⟨typeIs_str s z t, fun _ e => nomatch e⟩
  | int i =>
    obtain ⟨t, rfl⟩ := r
    cases (show T = "int" from ty)
    exact ⟨typeIs_int s i t, fun _ e => nomatch e⟩
  | ref p =>
    cases r
    rcases ty with ⟨rfl, xs, hq⟩ | ⟨rfl, o, hk, hc, hd⟩ | ⟨rfl, hk⟩ | ⟨rfl, S, n, hk⟩
    · obtain ⟨its, _, pl, _⟩ := I.list hq
      refine ⟨pl.isList.typeIs, fun a e => ?_⟩
      cases e
      obtain ⟨o, n, e, c, hd, _⟩ := pl
      exact ⟨o, e, hd⟩
    · refine ⟨⟨o, I.kIn p o hk, hc⟩, fun a e => ?_⟩
      cases e
      exact ⟨o, I.kIn _ o hk, hd⟩
    · have z : ∃ o, s.heap.get? p = some o ∧ o.ExactDict := by
        rcases hk with ⟨kvs, hk⟩ | ⟨kvs, hk⟩
        · obtain ⟨_, _, _, _, o, _, _, e, ex, _⟩ := I.hok p _ hk
          exact ⟨o, e, ex⟩
        · obtain ⟨_, _, _, _, o, _, _, e, ex, _⟩ := I.hok p _ hk
          exact ⟨o, e, ex⟩
      obtain ⟨o, e, ex⟩ := z
      refine ⟨⟨o, e, ex.1⟩, fun a e2 => ?_⟩
      cases e2
      exact ⟨o, e, ex.2.1⟩
    · obtain ⟨o, _, _, _, e, ex, _⟩ := I.hok p _ hk
      refine ⟨⟨o, e, ex.1⟩, fun a e2 => ?_⟩
      cases e2
      exact ⟨o, e, ex.2.1⟩
  | _ => exact False.elim ty
def tBM0 (K : PySem.W.Frag) (T : String) (r : V → List V → Hp → VK → Prop) (to : TE) : TE := fun σ H Q => to σ H fun x H1 => tyV K T x H1 ∧ r x [] H1 Q
def tBM (K : PySem.W.Frag) (T : String) (r : V → List V → Hp → VK → Prop) (to : TE) (t : TA) : TE := fun σ H Q => to σ H fun x H1 => tyV K T x H1 ∧ t σ H1 fun xs H2 => r x xs H2 Q
variable {o e : Expr} {es : List Expr} {to : TE} {t : TA} {name : Str} {apos cpos : Pos} {T id : String} {r : V → List V → Hp → VK → Prop}
theorem pe_bm (pa : PlainAttrs T) (slot : Slot T name id) (hty : typeOf (.builtin id) = pure (.type "method_descriptor")) (hm : MtR X id r) (ho : PE X o to) (ha : PA X (e :: es) t)
    (hbase : attributeBase o name X.env (eval o X.env) = eval o X.env := by rfl)
    (hfew : ((backTo cpos (starEach (e :: es) X.env)).all (fun x => !x.1) && (backToKw cpos (keywordEach [] X.env)).all (fun x => x.1.isSome)
      && decide ((e :: es).length + ([] : List Keyword).length + (if ([] : List Keyword).isEmpty then 0 else 1) < 30)) = true := by rfl)
    (hline : (apos.endLine == cpos.line) = true := by rfl) (hs : starEach (e :: es) X.env = (false, eval e X.env) :: starEach es X.env := by rfl) (hplain : (backTo cpos (starEach es X.env)).any (·.1) = false := by rfl) :
    PE X (.Call (.Attribute o name apos) (e :: es) [] cpos) (tBM X.K T r to t) := by
  intro pins s σ H Q I h
  refine wpAny_Call_method_late hbase hfew hline rfl (thn (ho pins s σ H _ I h) fun v s1 ⟨x, H1, I1, r1, ty, q1⟩ => ?_)
  obtain ⟨h1, h2⟩ := tyV_is I1 r1 ty
  refine ⟨T, id, pa, slot, hty, h1, h2, ?_⟩
  have hA := ha cpos pins s1 σ H1 _ I1 q1
  rw [hs] at hA ⊢
  refine Calls.callWith_builtin (by show (false || (backTo cpos (starEach es X.env)).any (·.1)) = false; rw [hplain] <;> rfl) (Calls.evalArgs_plain ?_)
  exact thn hA fun us s2 ⟨vs, H2, I2, r2, q2⟩ => hm pins s2 σ H2 x vs v us Q I2 r1 r2 q2
/- xs.append(e), list.index on a module's tuple .. are MtR facts of 06m -/
end
end L2

namespace L2
open PySem PySem.Spec PyProof.Rows

def MtM (X : Cx) (id : String) (r : V → List V → Hp → VK → Prop) : Prop :=
  ∀ (pins : List (Addr × Obj)) (s : Shared) (σ : St) (H : Hp) (x : V) (xs : List V) (v : Value) (us : List Value) (Q : VK), Inv X pins σ H s → RelV x v → Vals xs us → r x xs H Q →
    wpAny (model X.prog X.w) X.A (call (.builtin id) (v :: us)) (EP X pins σ Q) X.xe s

/-! ### lists of values -/
theorem Vals.one : ∀ {x : V} {us : List Value}, Vals [x] us → ∃ u, us = [u] ∧ RelV x u
  | _, _, .cons r .nil => ⟨_, rfl, r⟩
section
variable {X : Cx} {pins : List (Addr × Obj)} {σ : St} {H : Hp} {s : Shared} {l b : Addr} {xs ys zs : List V}

/-! ### the two steps: a tracked list is rewritten, a new list is laid -/
theorem Inv.lset {its its' : List Value} {n : Nat} {f : Array Value → Array Value} {t' : Nat} (I : Inv X pins σ H s) (hH : H l = some (.lst xs))
    (e : s.heap.get? l = some { cls := .type "list", data := .seq its.toArray n }) (hf : f its.toArray = its'.toArray) (hv : Vals ys its') (hz : ys.length ≤ sizeLine) :
    Inv X pins σ (upd H l (.lst ys)) { s with heap := s.heap.update l (Obj.mapSeq f), toks := t' } := by
  have q := PySem.IsL.update e f
  rw [hf] at q
  refine I.write (x := l) (e := l) (by rw [hH]; exact trivial) (.inl rfl) (fun b' u hb hu => (Heap.get?_update_other s.heap (Obj.mapSeq f) (Ne.symm hb)).trans hu) ⟨_, q⟩ ?_
  exact ⟨hz, its', _, hv, q⟩
theorem Inv.lnew {its : List Value} {t' : Nat} (I : Inv X pins σ H s) (hv : Vals ys its) (hz : ys.length ≤ sizeLine) :
    Inv X pins σ (upd H s.heap.objs.size (.lst ys)) { s with heap := s.heap.push { cls := .type "list", data := .seq its.toArray }, toks := t' } :=
  I.laid (fun _ _ q => Heap.get?_push_of_some _ q) (Nat.le_refl _) ⟨hz, its, 0, hv, Heap.get?_push_size _ rfl⟩
theorem Inv.fresh (I : Inv X pins σ H s) : H s.heap.objs.size = none := I.hok.fresh (Nat.le_refl _)
theorem Inv.lstM (I : Inv X pins σ H s) (hH : H l = some (.lst xs)) : xs.length ≤ sizeLine ∧ ∃ (its : List Value) (n : Nat), Vals xs its ∧ xs.length = its.length ∧ s.heap.get? l = some { cls := .type "list", data := .seq its.toArray n } := by
  obtain ⟨z, its, n, r, e⟩ := I.hok l _ hH
  exact ⟨z, its, n, r, r.length, e⟩

end

section
variable {X : Cx}

/-! ### methods -/
def rAppend : V → List V → Hp → VK → Prop := fun x vs H Q => ∃ l xs y, x = .ref l ∧ vs = [y] ∧ H l = some (.lst xs) ∧ xs.length < sizeLine ∧ Q .non (upd H l (.lst (xs ++ [y])))
theorem mt_append : MtM X "list.append" rAppend := by
  intro pins s σ H x vs v us Q I rx rv h
  obtain ⟨l, xs, y, rfl, rfl, hH, hz, q⟩ := h
  cases rx
  obtain ⟨u, rfl, ru⟩ := rv.one
  obtain ⟨z, its, n, r, hl, e⟩ := I.lstM hH
  refine call_meets F.slot_list_append ⟨_, e, rfl⟩ F.entry_list_append (F.args_list_append_2 _ _) (PySem.list_append l its.toArray n u (by rw [List.size_toArray]; omega)) ⟨e, ?_⟩
  refine ⟨.non, _, I.lset (its' := its ++ [u]) hH e (by simp) (r.append (.cons ru .nil)) ?_, rfl, q⟩
  rw [List.length_append, List.length_singleton]
  omega

def rExtend : V → List V → Hp → VK → Prop := fun x vs H Q => ∃ l b xs zs, x = .ref l ∧ vs = [.ref b] ∧ H l = some (.lst xs) ∧ H b = some (.lst zs) ∧ xs.length + zs.length ≤ sizeLine ∧ Q .non (upd H l (.lst (xs ++ zs)))
def rPop : V → List V → Hp → VK → Prop := fun x vs H Q => ∃ l xs y, x = .ref l ∧ vs = [] ∧ H l = some (.lst xs) ∧ xs[xs.length - 1]? = some y ∧ Q y (upd H l (.lst xs.dropLast))
def rPopAt : V → List V → Hp → VK → Prop := fun x vs H Q => ∃ l xs i k y, x = .ref l ∧ vs = [.int i] ∧ H l = some (.lst xs) ∧ -(2 ^ 63) ≤ i ∧ i < 2 ^ 63 ∧ seqIndex? i xs.length = some k ∧ xs[k]? = some y ∧ Q y (upd H l (.lst (xs.eraseIdx k)))
def rReverse : V → List V → Hp → VK → Prop := fun x vs H Q => ∃ l xs, x = .ref l ∧ vs = [] ∧ H l = some (.lst xs) ∧ Q .non (upd H l (.lst xs.reverse))
def rClear : V → List V → Hp → VK → Prop := fun x vs H Q => ∃ l xs, x = .ref l ∧ vs = [] ∧ H l = some (.lst xs) ∧ Q .non (upd H l (.lst []))
/-! ### list + list, list += list, list * int -/
def rCat : R2 := fun x y H Q => ∃ l b xs zs, x = .ref l ∧ y = .ref b ∧ H l = some (.lst xs) ∧ H b = some (.lst zs) ∧ xs.length + zs.length ≤ sizeLine ∧ ∀ p, H p = none → Q (.ref p) (upd H p (.lst (xs ++ zs)))
theorem op_cat : OpR X (binaryOp .Add) rCat := by
  intro pins s σ H x y v u Q I rx ry h
  obtain ⟨l, b, xs, zs, rfl, rfl, hH, hB, hz, q⟩ := h
  cases rx
  cases ry
  obtain ⟨z, its, n, r, hl, e⟩ := I.lstM hH
  obtain ⟨z2, its2, n2, r2, hl2, e2⟩ := I.lstM hB
  refine PySem.P.add_list e e2 ?_ (by rw [List.size_toArray, List.size_toArray]; omega)
  have ea : its.toArray ++ its2.toArray = (its ++ its2).toArray := by simp
  rw [ea]
  exact ⟨.ref _, _, I.lnew (t' := s.toks) (r.append r2) (by rw [List.length_append]; omega), rfl, q _ I.fresh⟩
/-- a list times an int (a negative one is nothing) -/
def rRep : R2 := fun x y H Q => ∃ l k xs, x = .ref l ∧ y = .int k ∧ H l = some (.lst xs) ∧ -(2 ^ 63) ≤ k ∧ k < 2 ^ 63 ∧ xs.length * k.toNat ≤ sizeLine ∧
  ∀ p, H p = none → Q (.ref p) (upd H p (.lst (List.replicate k.toNat xs).flatten))
/-! ### del xs[i] -/
end

/-! ### xs[a:b] = ys -/
section
variable {prog : Program} {w : World} {A : Around} {E : Value → Shared → Prop} {s : Shared}
end

section
variable {X : Cx}
end
end L2

namespace Att
open PySem PySem.W PySem.Calls PyProof.Rows

/-! ### the script -/
theorem ints_of_wellAll {P : Params} {h : Heap} : ∀ (ns : List Int) (vs : List Value), WellAll P h vs (ns.map WData.int) → IntsAre vs ns := by
  intro ns
  induction ns with
  | nil =>
    intro vs w
    rw [List.map_nil] at w
    cases w
    exact .nil
  | cons n ns ih =>
    intro vs w
    rw [List.map_cons] at w
    cases w with
    | cons a b =>
      cases a
      exact .cons _ _ (ih _ b)

theorem script_of {l : OpenLaw} {n : Nat} (hn : l.most = some n) {P : Params} {h : Heap} {args : List WData} {vals : List Value}
    (hpre : l.row.toRowW.claim.pre args = true) (hwl : WellAll P h vals args) :
    ∃ a vs ns, vals = [Value.ref a] ∧ args = [WData.list (ns.map WData.int)] ∧ h.get? a = some { cls := .type "list", data := .seq vs.toArray } ∧ IntsAre vs ns ∧ ns.length ≤ n := by
  have hsh : WShape.hasAll [] args [.list .int] = true := (pre_splitW hpre).1
  have hc : l.pre.holds [] { args := args } = true := (pre_splitW hpre).2
  obtain ⟨d, r, rfl, h1, h2⟩ := hasAllW_cons hsh
  obtain rfl := hasAllW_nil h2
  obtain ⟨xs, rfl, h3⟩ := hasW_list h1
  obtain ⟨ns, rfl⟩ := items_int h3
  have hlen : ns.length ≤ n := by
    unfold OpenLaw.pre at hc
    have h4 : (WTm.not (.lt (.lit (.int (n : Int))) (.len (.arg 0)))).holds [] { args := [.list (ns.map .int)] } = true := by
      have h4 := (holds_andW hc).1
      rw [hn] at h4
      exact h4
    have h5 := condW_of h4 (w_not (w_lt w_lit (w_len_list (w_arg rfl))))
    rw [List.length_map] at h5
    refine Nat.le_of_not_lt fun q => ?_
    have q' : (n : Int) < ((ns.length : Nat) : Int) := by omega
    first
      | (rw [decide_eq_true q'] at h5; exact absurd h5 (by decide))
      | (simp at h5; omega)
  cases hwl with
  | cons w1 w2 =>
    cases w2
    cases w1 with
    | list ho hall => exact ⟨_, _, ns, rfl, rfl, ho, ints_of_wellAll ns _ hall, hlen⟩

theorem post_true (l : OpenLaw) (args : List WData) : l.row.toRowW.claim.post args (.bool true) args = true :=
  postW_of (r := l.row.toRowW) (X := (true == true))
    (show WShape.has [] (.bool true) .bool = true by first | rfl | decide | simp [WShape.has, WShape.arms, WShape.armsAll])
    (show (WTm.eq .res (.lit (.bool true))).value [] { args := args, res := some (.bool true), after := args } = some (.bool (true == true)) from w_eq_bool (w_res rfl) w_lit) rfl

/-! ### the attachment: holds_open's last premise (the goal 'hc' behind k_head) from a wpAny of the law's body -/
/-- the same from a codeAny of the CALL (for a layer whose function contracts speak of calls) -/
theorem attach_call {l : OpenLaw} {n : Nat} {q : Program} {loose : List Str} {XP : (Str → Option Value) → Heap → Prop} {YP : World → Heap → Prop} {d : DefRec}
    (hn : l.most = some n) (hdf : d.params.defaults = [])
    (call : ∀ (w : World) (s₀ s₁ : Shared) (mg mb : Str → Option Value) (fa : Addr) (o : Obj) (pm cd doc : Value) (a : Addr) (vs : List Value) (ns : List Int),
      Ground q loose [] XP w s₀ mg mb s₁.heap → YP w s₁.heap →
      s₁.heap.get? fa = some o → o.data = .func (docDef d.name d.params d.body d.scope pm cd doc) → s₁.heap.CodeRec cd d.name → mg d.name = some (.ref fa) →
      s₁.heap.get? a = some { cls := .type "list", data := .seq vs.toArray } → IntsAre vs ns → ns.length ≤ n → s₁.gens = #[] →
      codeAny (model l.prog w) callerA (.call (.ref fa) ⟨[.ref a], []⟩) (fun r s' => r = .ok (.ret (.bool true)) ∧ OldK s₁.heap s'.heap ∧ s'.os = s₁.os ∧ AllBare s'.gens) s₁) :
    WalkO q loose XP YP l.row.toRowW d [] (fun f vs => PySem.call f vs) := by
  intro w s₀ s₁ mg mb G Y fa o pm cd doc dV kV ho hd hcd hD hmg hg args vals as hpre hlay hrd hwl hlo
  obtain rfl : dV = .none := Dflts.none hD hdf
  obtain rfl : kV = .none := Dflts.noKw hD
  obtain ⟨a, vs, ns, rfl, rfl, hobj, hints, hlen⟩ := script_of hn hpre hwl
  refine enter_call (codeAny_mono (call w s₀ s₁ mg mb fa o pm cd doc a vs ns G Y ho (fd_plain hd) hcd hmg hobj hints hlen hg) fun r s' hq => ?_)
  obtain ⟨rfl, h2, h3, h4⟩ := hq
  exact ⟨.inl ⟨.bool true, .bool true, [], rfl, fun _ => rfl, .bool true, post_true l _, fun _ => ⟨List.Pairwise.nil, fun _ hm => (nomatch hm)⟩⟩, h2, h3, h4⟩

/-! ### rules over ANY heap (no ledger) from facts about the written part K: the library's own take a ledger (News) for what they write -/
section
variable {prog : Program} {w : World} {A : Around} {E : Value → Shared → Prop} {s : Shared} {K : Frag}

/-! the whole heap as the ledger: makes every rule that writes through a ledger a rule over any heap -/
def noObjs (h : Heap) : Heap := { h with objs := #[] }
def ledger (h : Heap) (L d : Addr) : List (Addr × Obj) := (List.range h.objs.size).filterMap fun a => if a = L ∨ a = d then none else (h.get? a).map fun o => (a, o)
end
end Att

namespace L2
open PySem PySem.Spec PyProof.Rows

theorem vals_ints : ∀ {vs : List Value} {ns : List Int}, IntsAre vs ns → Vals (ns.map V.int) vs
  | _, _, .nil => .nil
  | _, _, .cons n t h => .cons ⟨t, rfl⟩ (vals_ints h)

/-- nothing is tracked but the script, known to the object (or it is an object of the module) -/
def Only (H : Hp) : Prop := ∀ b, H b = none ∨ ∃ o xs, H b = some (.frz o (.lst xs))

/-- THE HEAD: the law's promise, at the heap behind the top. F, the promise of the law's def, may use that base is part of the heap (so K.In base, base.Ns mainGlobals mg stand in Mod) -/
theorem law_call {P : Program} {w : World} {K : PySem.W.Frag} {mg mb : Str → Option Value} {CX : CXT} {k : Nat} {fa a : Addr} {fd : FuncData} {x : Str} {sp : Sp} {s₁ : Shared} {vs : List Value} {ns : List Int}
    (KX : K.In s₁.heap) (hns : s₁.heap.Ns mainGlobals mg) (hb : s₁.heap.Ns builtinsNs mb) (hbb : ∀ x : Str, x ≠ "__name__" → mb x = bootBuiltins x) (hlim : s₁.heap.NoLimit) (hg : s₁.gens = #[])
    (ha : s₁.heap.get? a = some { cls := .type "list", data := .seq vs.toArray }) (hi : IntsAre vs ns) (hl : ns.length ≤ sizeLine) (hr : Room k callerA)
    (F : ∀ base : Heap, K.In base → base.Ns mainGlobals mg → FnOk P w K mg base CX k fa fd [x] sp) (hbind : ∀ (s : Shared) (u : Value), BindsTo s fd ⟨[u], []⟩ [(x, u)])
    (hsp : ∀ H : Hp, Only H → SqL K H a (ns.map V.int) → sp [.ref a] H (fun v _ => v = .bl true) fun _ _ _ => False)
    (hCX : ∀ H e s', CX [] H s₁ (fun _ _ _ => False) e s' → False) :
    codeAny (model P w) callerA (.call (.ref fa) ⟨[.ref a], []⟩) (fun r s' => r = .ok (.ret (.bool true)) ∧ OldK s₁.heap s'.heap ∧ s'.os = s₁.os ∧ AllBare s'.gens) s₁ := by
  have rv := vals_ints hi
  have lenV := hi.length
  -- from an abstract heap in which nothing but the script may be tracked
  have core : ∀ H : Hp, Only H → SqL K H a (ns.map V.int) → HOk P w H s₁.heap → (∀ b, H b ≠ none → b = a) → (H a ≠ none → K.lookup a = none) →
      codeAny (model P w) callerA (.call (.ref fa) ⟨[.ref a], []⟩) (fun r s' => r = .ok (.ret (.bool true)) ∧ OldK s₁.heap s'.heap ∧ s'.os = s₁.os ∧ AllBare s'.gens) s₁ := by
    intro H hO hS hok hA hK
    have base_of : ∀ {b : Addr} {o : Obj}, s₁.heap.get? b = some o → H b = none → (hidT s₁.heap H).get? b = some o := fun e n => hidT_get e n
    have noA : ∀ {b : Addr} {o : Obj} {es : Array DictEntry} {ep : Nat}, s₁.heap.get? b = some o → o.data = .dict es ep → H b = none := fun {b o es ep} e d => by
      cases q : H b with
      | none => rfl
      | some u =>
        have e' : b = a := hA b (by rw [q]; simp)
        subst e'
        rw [ha] at e; cases e
        have d' : Data.seq vs.toArray _ = Data.dict es ep := d
        cases d'
    have nsK : ∀ {b : Addr} {m : Str → Option Value}, s₁.heap.Ns b m → (hidT s₁.heap H).Ns b m := fun {b m} ⟨o, es, ep, e, d, r⟩ => ⟨o, es, ep, base_of e (noA e d), d, r⟩
    have hKb : K.In (hidT s₁.heap H) := fun b o e => base_of (KX b o e) (by
      cases q : H b with
      | none => rfl
      | some u =>
        have e' : b = a := hA b (by rw [q]; simp)
        subst e'
        rw [hK (by rw [q]; simp)] at e; cases e)
    have hM : Mod K mg (hidT s₁.heap H) := ⟨hKb, nsK hns, ⟨mb, nsK hb, hbb⟩, let ⟨mc, h1, h2⟩ := hlim; ⟨mc, nsK h1, h2⟩⟩
    have e0 : Env0 P w K mg (hidT s₁.heap H) callerA [] s₁ H := ⟨rfl, hM, fun b o e => of_hidT e, Nat.le_of_eq (hidT_size _ _), trivial, fun b hb => absurd (show b ∈ ([] : List Addr) from hb) (by simp), hok, .of_eq hg⟩
    refine codeAny_mono ((F _ hKb (nsK hns)).run callerA [] s₁ H ⟨[.ref a], []⟩ [.ref a] [.ref a] _ _ hr e0 (hbind s₁ (.ref a)) (.cons rfl .nil) (hsp H hO hS)) fun r s' h => ?_
    cases r with
    | error e => exact (hCX H e s' h).elim
    | ok fl =>
      cases fl with
      | next => exact False.elim h
      | brk => exact False.elim h
      | cont => exact False.elim h
      | ret u =>
        obtain ⟨v, H', os, bare, un, hok', r', q⟩ := h
        have q' : v = .bl true := q
        subst q'
        obtain rfl : u = Value.bool true := r'
        refine ⟨rfl, OldK.of_keep fun b o e => ?_, os, bare⟩
        cases q : H b with
        | none => exact un.keep b o e q (by intro z; exact absurd (show b ∈ ([] : List Addr) from z) (by simp)) (by simp)
        | some u =>
          rcases hO b with z | ⟨ob, xs, z⟩
          · rw [q] at z; cases z
          · have z2 := un.frzs b ob _ z
            obtain ⟨e1, _⟩ := hok b _ z
            obtain ⟨e2, _⟩ := hok' b _ z2
            rw [e] at e1; cases e1
            exact e2
  cases hk : K.lookup a with
  | some o =>
    -- the script is one of the module's own objects
    have e := KX a o hk
    rw [ha] at e
    cases e
    refine core (fun _ => none) (fun _ => .inl rfl) (.inr ⟨_, vs.toArray, _, hk, rfl, rfl, rfl, by rw [List.size_toArray, lenV]; exact hl, by simpa using rv⟩) (fun b u z => by have z' : (none : Option HO) = some u := z; cases z') (fun b z => absurd rfl z) fun z => absurd rfl z
  | none =>
    refine core (fun b => if b = a then some (.frz { cls := .type "list", data := .seq vs.toArray } (.lst (ns.map V.int))) else none) (fun b => ?_) (.inl (.inr ⟨{ cls := .type "list", data := .seq vs.toArray }, if_pos rfl⟩)) (fun b u z => ?_) (fun b z => ?_) fun _ => hk
    · by_cases hb : b = a
      · exact .inr ⟨_, _, if_pos hb⟩
      · exact .inl (if_neg hb)
    · by_cases hb : b = a
      · have z' := (if_pos hb).symm.trans z
        cases z'
        subst hb
        exact ⟨ha, by rw [List.length_map]; exact hl, vs, _, rv, ha⟩
      · have z' := (if_neg hb).symm.trans z
        cases z'
    · by_cases hb : b = a
      · exact hb
      · exact absurd (if_neg hb) z
end L2

namespace L2
open PySem PySem.Spec PyProof.Rows

abbrev KOf {K : PySem.W.Frag} {h : Heap} (_ : K.In h) : PySem.W.Frag := K

/-- the goal that k_head leaves (case hc), from the law's promise. F gives the function object fd (K's own) once, then the promise over every base -/
theorem walk_of {l : PySem.W.OpenLaw} {n k : Nat} {q : Program} {loose : List Str} {XP : (Str → Option Value) → Heap → Prop} {YP : World → Heap → Prop} {d : DefRec} {K : Params → PySem.W.Frag} {CX : World → CXT} {sp : World → Sp} {x : Str}
    (hn : l.most = some n) (hn2 : n ≤ sizeLine) (hdf : d.params.defaults = []) (hr : Room k callerA)
    (hY : ∀ (w : World) (h : Heap), YP w h → (K w.params).In h)
    (F : ∀ (w : World) (mg : Str → Option Value) (fa : Addr) (h : Heap), (K w.params).In h → h.Ns mainGlobals mg → mg d.name = some (.ref fa) →
      ∃ fd : FuncData, (∀ (s : Shared) (u : Value), BindsTo s fd ⟨[u], []⟩ [(x, u)]) ∧
        ∀ base : Heap, (K w.params).In base → base.Ns mainGlobals mg → FnOk l.prog w (K w.params) mg base (CX w) k fa fd [x] (sp w))
    (hsp : ∀ (w : World) (H : Hp) (a : Addr) (ns : List Int), ns.length ≤ n → Only H → SqL (K w.params) H a (ns.map V.int) → sp w [.ref a] H (fun v _ => v = .bl true) fun _ _ _ => False)
    (hCX : ∀ (w : World) (H : Hp) (s : Shared) (e : Value) (s' : Shared), CX w [] H s (fun _ _ _ => False) e s' → False) :
    PySem.W.WalkO q loose XP YP l.row.toRowW d [] (fun f vs => PySem.call f vs) := by
  refine Att.attach_call hn hdf fun w s₀ s₁ mg mb fa o pm cd doc a vs ns G Y ho hd hcd hmg hobj hints hlen hg => ?_
  have KX := hY w _ Y
  obtain ⟨fd, hb, hF⟩ := F w mg fa _ KX G.T.g hmg
  exact law_call KX G.T.g G.T.b G.T.builtins G.T.nolimit hg hobj hints (Nat.le_trans hlen hn2) hr hF hb (fun H hO hS => hsp w H a ns hlen hO hS) fun H e s' => hCX w H s₁ e s'
end L2

/- THE LAST THEOREM (shape; LID, My.* are yours):
   My.Adr: a structure of the addresses that your layer names (classes, functions); My.Txt K t: a structure (Prop) of the equations over K;
   My.txt_mk : {K} {implicit addresses ..} (e1 : nsIn K mainGlobals "law" = some (some (.ref f))) (e2 : K.lookup f = some ⟨oc, od, .func (fnOf "law" "law" params body scope dV kV doc pm an cdv ct), sl⟩) (e3 : codeIn K cdv "law" = true) .. : ∃ t, My.Txt K t

set_option maxRecDepth 100000 in
set_option maxHeartbeats 0 in
theorem PySem.Challenge.cw_LID_holds : PySem.Challenge.rw_LID.Holds := by
  w_on; o_law; k_head; (case hw => w_witness2)
  k_fill
  refine L2.walk_of (l := PySem.Challenge.rw_LID) (n := 63) (k := 40) (x := "script") (CX := fun w => ..) (sp := fun _ => My.sp_law) rfl (by decide) rfl ⟨rfl, by decide, by decide⟩ (fun w h Y => PySem.W.kIn_of Y) ?F ?S ?C
  case F =>
    intro w mg fa h KX G hmg
    have T : ∃ t, My.Txt (L2.KOf KX) t := by
      dsimp only [L2.KOf]                          -- K must stand as «<heap const> w.params» for k_is
      refine' My.txt_mk ?e1 ?e2 ?e3 ..
      (case e1 => PySem.W.k_is)                    -- in the order: a name -> its address -> its object -> its parts
      (case e2 => PySem.W.k_is)
      ..
    obtain ⟨t, T⟩ := T
    have e0 := hmg.symm.trans (PySem.W.mg_of KX G T.law)
    cases e0                                       -- fa is the law's own address
    exact ⟨_, fun s u => .of_eq rfl, fun base kb nb => My.law_fn T kb nb⟩     -- if «.of_eq rfl» comes too early: refine' ⟨_, ?b, fun base kb nb => My.law_fn T kb nb⟩; exact fun s u => .of_eq rfl
  case S => exact fun w H a ns hl hO hS => ..
  case C => exact ..
(the tactic k_is has no namespace: write k_is) -/

/-! SHORT WORDS over the layer: a def of the text, its body, what a loop and a test want. -/
namespace L2
open PySem PySem.Spec PyProof.Rows

/-! ### the text by places -/
/-- the j-th statement of a class's body -/
def inClass (s : Stmt) (j : Nat) : Stmt := match s with
  | .ClassDef _ _ _ body _ _ _ _ _ _ _ => body.getD j (.Pass ⟨0, 0, 0, 0⟩)
  | _ => .Pass ⟨0, 0, 0, 0⟩
def defArgs (s : Stmt) : Arguments := match s with
  | .FunctionDef _ a _ _ _ _ _ _ _ _ => a
  | _ => { posonlyargs := [], args := [], vararg := none, kwonlyargs := [], kw_defaults := [], kwarg := none, defaults := [] }
def defBody (s : Stmt) : List Stmt := match s with
  | .FunctionDef _ _ b _ _ _ _ _ _ _ => b
  | _ => []
def defScope (s : Stmt) : Scope := match s with
  | .FunctionDef _ _ _ _ _ _ sc _ _ _ => sc
  | _ => { kind := .function, names := [], isGenerator := false, isCoroutine := false }

/-! ### no exception leaves a def -/
abbrev CX0 : CXT := fun _ _ _ _ _ _ => False
abbrev E0 : XK := fun _ _ _ => False
theorem pass0 {X : Cx} : Passes CX0 X E0 := fun _ _ _ _ _ _ _ h => h.elim

/-! ### a def (or method) of the text as it stands behind the top -/
structure Fun (K : PySem.W.Frag) (x qual : Str) (st : Stmt) (f : Addr) (fd : FuncData) : Prop where
  ex : ∃ (oc : Value) (od : Option Addr) (kV doc pm : Value) (an : Option Addr) (cdv ct : Value) (osl : Array (Option Value)),
    fd = PySem.W.fnOf x qual (defArgs st) (defBody st) (defScope st) .none kV doc pm an cdv ct ∧ K.lookup f = some ⟨oc, od, .func fd, osl⟩ ∧ PySem.W.codeIn K cdv qual = true
  kp : PySem.W.keepIn K (.ref f) = true
section
variable {P : Program} {w : World} {K : PySem.W.Frag} {mg : Str → Option Value} {base : Heap}
/-- THE RULE for a def: its body as a term of rules, and the reading of that term -/
theorem Fun.ok {x qual : Str} {st : Stmt} {f : Addr} {fd : FuncData} {N ps : List Str} {k : Nat} {sp : Sp} (F : Fun K x qual st f fd) (S : FnScope N ps (defScope st)) (len : ∀ vs H Q E, sp vs H Q E → vs.length = ps.length)
    (hbody : ∀ (cdv : Value) (A : Around) (outer : List Env) (s : Shared) (H : Hp) (vs : List V) (Q : VK) (E : XK), Room k (A.deeper (envOfC qual (defScope st) s.heap.objs.size f cdv)) → sp vs H Q E →
      ∃ t, PSs (cxOf CX0 P w K mg base N qual (defScope st) f cdv A outer s H E).nox (defBody st) t ∧ t { nx := fun _ H' => Q .non H', rt := Q } (start N vs) H) : FnOk P w K mg base CX0 (k + 1) f fd ps sp := by
  obtain ⟨oc, od, kV, doc, pm, an, cdv, ct, osl, rfl, lk, hcd⟩ := F.ex
  refine fn_of lk hcd S len fun A outer s H vs Q E hr hsp => ?_
  obtain ⟨t, h, q⟩ := hbody cdv A outer s H vs Q E hr hsp
  exact ⟨t, h.nox, q⟩
/-- how its arguments bind (no defaults): h is «fun _ _ _ _ _ _ us hl => match us, hl with | [_, _], _ => rfl», one _ a parameter -/
theorem Fun.binds {x qual : Str} {st : Stmt} {f : Addr} {fd : FuncData} {ps : List Str} (F : Fun K x qual st f fd)
    (h : ∀ (kV doc pm : Value) (an : Option Addr) (cdv ct : Value) (us : List Value), us.length = ps.length → bindArgs (PySem.W.fnOf x qual (defArgs st) (defBody st) (defScope st) .none kV doc pm an cdv ct) ⟨us, []⟩ = pure (ps.zip us)) : Binds K fd ps [] := by
  obtain ⟨oc, od, kV, doc, pm, an, cdv, ct, osl, rfl, lk, hcd⟩ := F.ex
  exact .all (h kV doc pm an cdv ct)
theorem fun_mk {x qual : Str} {st : Stmt} {f : Addr} {oc : Value} {od an : Option Addr} {osl : Array (Option Value)} {kV doc pm cdv ct : Value} (l : K.lookup f = some ⟨oc, od, .func (PySem.W.fnOf x qual (defArgs st) (defBody st) (defScope st) .none kV doc pm an cdv ct), osl⟩)
    (c : PySem.W.codeIn K cdv qual = true) (k : PySem.W.keepIn K (.ref f) = true) : Fun K x qual st f (PySem.W.fnOf x qual (defArgs st) (defBody st) (defScope st) .none kV doc pm an cdv ct) := ⟨⟨oc, od, kV, doc, pm, an, cdv, ct, osl, rfl, l, c⟩, k⟩
end
/-! ### expressions in short: the name that stands in the i-th slot -/
section
variable {X : Cx}
theorem pv (i : Nat) {x : Str} {pos : Pos} (hN : X.N[i]? = some x := by rfl) (hv : Vis X.env.scope x := by first | exact Or.inl rfl | exact Or.inr (Or.inl rfl) | exact Or.inr (Or.inr rfl)) (hd : (x == ("__debug__" : Str)) = false := by decide)
    (hcd : (x == ("__classdict__" : Str)) = false := by decide) : PE X (.Name x pos) (tVar i) := pe_var hN hv hd hcd
end

/-! ### tests -/
theorem ite2 {c A B : Prop} [Decidable c] (h1 : c → A) (h2 : ¬ c → B) : if c then A else B := by
  by_cases h : c
  · rw [if_pos h]
    exact h1 h
  · rw [if_neg h]
    exact h2 h
/-! ### heaps -/
/-- all that was tracked is as it was -/
def Same (H H' : Hp) : Prop := ∀ b o, H b = some o → H' b = some o
theorem Same.refl (H : Hp) : Same H H := fun _ _ h => h
theorem Same.trans {H H1 H2 : Hp} (a : Same H H1) (b : Same H1 H2) : Same H H2 := fun c o h => b c o (a c o h)
theorem Same.seq {K : PySem.W.Frag} {H H' : Hp} {a : Addr} {xs : List V} (e : Same H H') (h : SqL K H a xs) : SqL K H' a xs := by
  rcases h with (h | ⟨o, h⟩) | h
  · exact .inl (.inl (e _ _ h))
  · exact .inl (.inr ⟨o, e _ _ h⟩)
  · exact .inr h

end L2
set_option maxHeartbeats 4000000
/-! More rules over the hand layer: isinstance, list equality, unpacking of a list, all, reversed. -/
namespace L2
open PySem PySem.Spec PyProof.Rows

/-! ### isinstance with a built-in type -/
/-- is a value of the type t of the type T -/
def isa (t T : String) : Bool := t == T || (t == "bool" && T == "int")
/-- the type's name of a value -/
def tyN (K : PySem.W.Frag) (x : V) (H : Hp) (t : String) : Prop :=
  match x with
  | .non => t = "NoneType"
  | .bl _ => t = "bool"
  | .int _ => t = "int"
  | .str _ => t = "str"
  | .ref p => (t = "list" ∧ ∃ xs, SqL K H p xs) ∨ (t = "tuple" ∧ ∃ xs, SqT K H p xs)
  | _ => False
def isiTs : List String := ["int", "bool", "str", "list", "tuple", "dict"]
section
variable {X : Cx}
/-! ### two lists of ints compared -/
def rEqI (K : PySem.W.Frag) : R2 := fun x y H Q => ∃ (a b : Addr) (ns ms : List Int), x = .ref a ∧ y = .ref b ∧ SqL K H a (ns.map V.int) ∧ SqL K H b (ms.map V.int) ∧ Q (.bl (decide (ns = ms))) H
def rNeI (K : PySem.W.Frag) : R2 := fun x y H Q => ∃ (a b : Addr) (ns ms : List Int), x = .ref a ∧ y = .ref b ∧ SqL K H a (ns.map V.int) ∧ SqL K H b (ms.map V.int) ∧ Q (.bl (!decide (ns = ms))) H
end

/-! ### a, b = a list -/
section
variable {prog : Program} {w : World} {A : Around} {E : Value → Shared → Prop}
end
section
variable {X : Cx} {pos : Pos}
def gLst (K : PySem.W.Frag) (n : Nat) (t : TGs) : TG := fun v σ H Q => ∃ a xs, v = .ref a ∧ SqL K H a xs ∧ xs.length = n ∧ t xs σ H Q
/-! ### all(a list of truths) -/
/-! ### for x in reversed(a list) -/
def Itv (K : PySem.W.Frag) (a : Addr) (n : Nat) : It :=
  ⟨fun i H => i < n ∧ ∃ xs, SqL K H a xs ∧ xs.length = n, fun i H x H' => H' = H ∧ ∀ xs, SqL K H a xs → xs[n - 1 - i]? = some x, fun i _ => n ≤ i⟩
def iRev (K : PySem.W.Frag) (ta : TA) : TI := fun σ H R => ta σ H fun vs H1 => ∃ a xs, vs = [.ref a] ∧ SqL K H1 a xs ∧ R (Itv K a xs.length) H1
end
end L2

/-! A list comprehension of one clause, over the hand layer. -/
namespace L2
open PySem PySem.Spec PyProof.Rows

/-- the context of a comprehension's block; no exception leaves it -/
abbrev Cx.comp (X : Cx) (scope : Scope) (cl : List (Str × Addr)) (N : List Str) (s : Shared) (H : Hp) (fp : List Addr) (C : Addr) : Cx where
  prog := X.prog
  w := X.w
  K := X.K
  mg := X.mg
  base := X.base
  A := X.A
  N := N
  s₀ := s
  H₀ := H
  env := compEnvC scope cl C X.env
  outer := X.stack
  stack := X.stack
  ex := fp
  fn := fun _ => false
  calm := X.calm
  pn := []
  xe := fun _ _ => False

/-- the cells handed in are those of the frame around -/
def subCl (env : Env) : List (Str × Addr) → Prop
  | [] => True
  | p :: r => env.cells.lookup p.1 = some p.2 ∧ subCl env r
theorem subCl.all {env : Env} : ∀ {cl : List (Str × Addr)}, subCl env cl → ∀ p ∈ cl, env.cells.lookup p.1 = some p.2
  | [], _, p, hp => by simp at hp
  | _ :: _, h, p, hp => (List.mem_cons.mp hp).elim (fun e => e ▸ h.1) (subCl.all h.2 p)
theorem subCl.at {env : Env} {cl : List (Str × Addr)} {x : Str} {c : Addr} (h : subCl env cl) (e : cl.lookup x = some c) : env.cells.lookup x = some c :=
  h.all (x, c) (PySem.mem_of_lookup e)
/-- the names ys that the block has from around, by their slots js there -/
def capt (X : Cx) (scope : Scope) (cl : List (Str × Addr)) : List Str → List Nat → Prop
  | [], [] => True
  | y :: ys, j :: js => (X.N[j]? = some y ∧ X.env.kindOf y = some .cell ∧ (relabel scope X.env).names.lookup y = some .cell ∧ ∃ c, cl.lookup y = some c) ∧ capt X scope cl ys js
  | _, _ => False
theorem capt.get {X : Cx} {scope : Scope} {cl : List (Str × Addr)} : ∀ {ys : List Str} {js : List Nat} {k : Nat} {y : Str}, capt X scope cl ys js → ys[k]? = some y →
    ∃ j, js[k]? = some j ∧ X.N[j]? = some y ∧ X.env.kindOf y = some .cell ∧ (relabel scope X.env).names.lookup y = some .cell ∧ ∃ c, cl.lookup y = some c
  | [], [], k, y, _, e => by simp at e
  | y' :: ys, j :: js, 0, y, h, e => by
    simp at e
    subst e
    exact ⟨j, rfl, h.1⟩
  | y' :: ys, j :: js, k + 1, y, h, e => by
    obtain ⟨j', e1, r⟩ := capt.get (k := k) h.2 (by simpa using e)
    exact ⟨j', by simpa using e1, r⟩
  | [], _ :: _, _, _, h, _ => h.elim
  | _ :: _, [], _, _, h, _ => h.elim
theorem capt.len {X : Cx} {scope : Scope} {cl : List (Str × Addr)} : ∀ {ys : List Str} {js : List Nat}, capt X scope cl ys js → ys.length = js.length
  | [], [], _ => rfl
  | _ :: _, _ :: _, h => by rw [List.length_cons, List.length_cons, capt.len h.2]
  | [], _ :: _, h => h.elim
  | _ :: _, [], h => h.elim
/-- the block's names at its entry: k targets, then what comes from around -/
def capSt (k : Nat) (js : List Nat) (σ : St) : St := List.replicate k none ++ js.map fun j => σ.getD j none

/-- the tests of the clause -/
def PIf (X : Cx) (ifs : List Expr) (t : TT) : Prop :=
  ∀ (pins : List (Addr × Obj)) (s : Shared) (σ : St) (H : Hp) (Q : Bool → Hp → Prop), Inv X pins σ H s → t σ H Q →
    wpAny (model X.prog X.w) X.A (forIn ifs true fun c r => if r = true then do let ok ← isTrue c X.env (eval c X.env); pure (ForInStep.yield ok) else pure (ForInStep.yield r)) (TP X pins σ Q) X.xe s
def tYes : TT := fun _ H Q => Q true H
theorem pif_nil {X : Cx} : PIf X [] tYes := fun _ _ _ H _ I h => wpAny_tests_nil ⟨H, I, h⟩
/-- the turns of a comprehension by an invariant W and a measure -/
def CompR (J : It) (k : Nat) (js : List Nat) (g : TG) (tc : TT) (te : TE) (σ : St) (Q : VK) (H1 : Hp) : Prop :=
  ∃ W : Nat → Nat → St → List V → Hp → Prop, (∃ m, W 0 m (capSt k js σ) [] H1) ∧ ∀ i m σ' xs H', W i m σ' xs H' →
    (J.stop i H' ∧ ∀ p, H' p = none → Q (.ref p) (upd H' p (.lst xs))) ∨
    (J.go i H' ∧ xs.length < sizeLine ∧ ∃ N : St → List V → Hp → Prop, (∀ σ' ys H', N σ' ys H' → ∃ m', m' < m ∧ W (i + 1) m' σ' ys H') ∧
      ∀ x H2, J.yld i H' x H2 → g x σ' H2 fun σ3 H3 => tc σ3 H3 fun b H4 => if b = true then te σ3 H4 fun v H5 => N σ3 (xs ++ [v]) H5 else N σ3 xs H4)
def tComp (wi : TI) (k : Nat) (js : List Nat) (g : TG) (tc : TT) (te : TE) : TE := fun σ H Q => wi σ H fun J H1 => CompR J k js g tc te σ Q H1

section
variable {prog : Program} {w : World} {A : Around} {R : Result → Shared → Prop} {s : Shared}
theorem compLoop_gen {elt target iter : Expr} {ifs : List Expr} {scope : Scope} {pos : Pos} {it acc : Value} {env : Env} (I : Nat → Shared → Prop)
    (turn : ∀ n s, I n s → wpAny (model prog w) A (pyNext it) (fun r s₁ => match r with
      | none => R (.ok .next) s₁
      | some v => wpAny (model prog w) A (letOwnedTupleGo target it v) (fun _ s₀ => wpAny (model prog w) A (assign target env v) (fun _ s₂ =>
          wpAny (model prog w) A (forIn ifs true fun c r => if r = true then do let ok ← isTrue c env (eval c env); pure (ForInStep.yield ok) else pure (ForInStep.yield r)) (fun ok s₃ =>
            if ok = true then wpAny (model prog w) A (eval elt env) (fun x s₄ =>
              wpAny (model prog w) A (call (.builtin "list.append") [acc, x]) (fun _ s₅ => ∃ m, m < n ∧ I m s₅) (fun _ _ => False) s₄) (fun _ _ => False) s₃
            else ∃ m, m < n ∧ I m s₃) (fun _ _ => False) s₂) (fun _ _ => False) s₀) (fun _ _ => False) s₁) (fun _ _ => False) s)
    (n : Nat) (h : I n s) : codeAny (model prog w) A (.compLoop (.ListComp elt [⟨target, iter, ifs, 0⟩] scope pos) 0 it acc env) R s := by
  refine codeAny_loop rfl I (fun n s hI => ?_) n h
  show wpAny _ A ((compTurn (.ListComp elt [⟨target, iter, ifs, 0⟩] scope pos) 0 it acc env).onRaise (fun x => do noteFrame x env; theTreesLotGoes x)) _ _ s
  refine wpAny_noted ?_
  rw [compTurn_list]
  refine wpAny_bind (wpAny_standAt (wpAny_bind (wpAny_mono (turn n s hI) (fun r s₁ h₁ => ?_) fun _ _ z => False.elim z)))
  cases r with
  | none => exact wpAny_pure h₁
  | some v =>
    refine wpAny_bind (wpAny_mono h₁ (fun _ s₀ h₀ => ?_) fun _ _ z => False.elim z)
    refine wpAny_bind (wpAny_mono h₀ (fun _ s₂ h₂ => wpAny_bind (wpAny_mono h₂ (fun ok s₃ h₃ => ?_) fun _ _ z => False.elim z)) fun _ _ z => False.elim z)
    cases ok with
    | false => exact wpAny_pure ⟨rfl, h₃⟩
    | true =>
      exact wpAny_bind (wpAny_bind (wpAny_mono h₃ (fun x s₄ h₄ => wpAny_bind (wpAny_mono h₄ (fun _ s₅ h₅ => wpAny_pure (wpAny_pure ⟨rfl, h₅⟩)) fun _ _ z => False.elim z)) fun _ _ z => False.elim z))
end

/-- an untracked record has turned, another one is tracked now -/
theorem HOk.but {P : Program} {w : World} {H : Hp} {h h' : Heap} {C : Addr} (x : HOk P w H h) (hn : H C = none) (k : ∀ b o, b ≠ C → h.get? b = some o → h'.get? b = some o) : HOk P w H h' := fun b u e =>
  (x b u e).stay (fun c v hc q => k c v (by
    rcases hc with z | z
    · intro y; rw [← z, y, hn] at e; cases e
    · intro y; rw [y, hn] at z; cases z) q) (fun _ q => q) fun _ _ q => q
theorem HOk.track {P : Program} {w : World} {H : Hp} {h : Heap} {a : Addr} {o : HO} (x : HOk P w H h) (hn : H a = none) (new : ObjOk P w (upd H a o) h a o) : HOk P w (upd H a o) h := fun b u e => by
  by_cases hb : b = a
  · subst hb; rw [upd_same] at e; cases e; exact new
  · rw [upd_ne hb] at e
    exact (x b u e).stay (fun _ _ _ q => q) (fun c q => by rw [upd_ne (ne_of_none q hn)]; exact q) fun c xs q => by rw [upd_ne (ne_of_none q hn)]; exact q

section
variable {X : Cx} {elt tg iter : Expr} {ifs : List Expr} {scope : Scope} {cl : List (Str × Addr)} {ts ys : List Str} {js : List Nat} {pos : Pos} {wi : TI} {g : TG} {tc : TT} {te : TE}

theorem capSt_get {k : Nat} {σ : St} {i : Nat} {v : V} (h : (capSt k js σ)[i]? = some (some v)) : ∃ n j, i = k + n ∧ js[n]? = some j ∧ σ[j]? = some (some v) := by
  unfold capSt at h
  by_cases hi : i < k
  · rw [List.getElem?_append_left (by simpa using hi), List.getElem?_replicate] at h
    split at h <;> cases h
  · rw [List.getElem?_append_right (by simpa using hi), List.getElem?_map, List.length_replicate] at h
    cases e : js[i - k]? with
    | none => rw [e] at h; cases h
    | some j =>
      rw [e] at h
      have h' : σ.getD j none = some v := Option.some.inj h
      refine ⟨i - k, j, by omega, e, ?_⟩
      rw [List.getD_eq_getElem?_getD] at h'
      cases q : σ[j]? with
      | none => rw [q] at h'; cases h'
      | some o => rw [q] at h'; exact congrArg some h'

/-- the block's entry -/
theorem inv_comp {pins : List (Addr × Obj)} {σ : St} {H : Hp} {s : Shared} {fp : List Addr} {C : Addr} {h1 : Heap} {m : Str → Option Value} {t' : Nat} (I : Inv X pins σ H s) (hsub : subCl X.env cl) (hcap : capt X scope cl ys js)
    (hkind : scope.kind = .function) (hhas : ∀ x, ((relabel scope X.env).names.lookup x = some .cell ∨ (relabel scope X.env).names.lookup x = some .free) → ∃ c, cl.lookup x = some c)
    (f2 : ∀ b ∈ fp, FpOk X pins H b) (fl : ∀ b ∈ fp, b < s.heap.objs.size) (hC : s.heap.objs.size ≤ C) (hn : h1.Ns C m) (old : ∀ b o, s.heap.get? b = some o → h1.get? b = some o) :
    Inv (X.comp scope cl (ts ++ ys) s H fp C) [] (capSt ts.length js σ) H { s with heap := h1, toks := t' } := by
  obtain ⟨mo, hno, hlo⟩ := id I.loc
  refine ⟨⟨I.ok.mod, hkind, I.ok.glob, I.ok.blt, hC, fun x y c e1 e2 => I.ok.inj x y c (hsub.at e1) (hsub.at e2), fun x hx => hhas x hx, fun x c z _ => (by cases z), I.ok.hd, I.ok.frames, .inl rfl,
      fun b hb => ⟨Nat.ne_of_lt (Nat.lt_of_lt_of_le (fl b hb) hC), fun x c e => (f2 b hb).2.2.2.2.1 x c (hsub.at e)⟩, I.bs, Nat.le_trans I.ok.bsz I.sz, fun b o e hb => ?_, fun b hb z => ?_, I.stack, I.stkFree⟩,
    rfl, I.bare, Un.kept old, ⟨m, hn, fun i x v e1 e2 e3 => ?_⟩, fun x c e => ?_, I.hok.fresh hC, fun x c e => I.freeC x c (hsub.at e), fun p hp => absurd (show p ∈ ([] : List (Addr × Obj)) from hp) (by simp), I.hok.kept old, ?_⟩
  · -- an object of the base is none of the iterator's
    obtain ⟨_, _, _, h3, _⟩ := f2 b hb
    rcases h3 with z | z
    · exact I.ok.noex b o e z
    · exact absurd (Nat.lt_of_lt_of_le (Heap.lt_size e) (Nat.le_trans I.ok.bsz z)) (Nat.lt_irrefl _)
  · obtain ⟨_, h1', h2', _⟩ := f2 b hb
    rcases List.mem_cons.mp (I.stkSub b z) with e | e
    · exact h1' e
    · exact h2' e
  · obtain ⟨n, j, rfl, ej, es⟩ := capSt_get e2
    have ey : ys[n]? = some x := by
      have e1' : (ts ++ ys)[ts.length + n]? = some x := e1
      rw [List.getElem?_append_right (by omega)] at e1'
      simpa using e1'
    obtain ⟨j', ej', hN, hk, hr, c, hc⟩ := hcap.get ey
    rw [ej] at ej'
    cases ej'
    obtain ⟨u, ru, l⟩ := hlo j x v hN es (.inr (.inl hk))
    refine ⟨u, ru, .inr ⟨.inl hr, c, hc, ?_⟩⟩
    rcases l with ⟨k1, _⟩ | ⟨_, c', hc', ⟨o, ho, hd⟩⟩
    · rw [hk] at k1; cases k1
    · have := hsub.at hc
      rw [hc'] at this
      cases this
      exact ⟨o, old _ o ho, hd⟩
  · obtain ⟨v, o, ho, hd⟩ := I.cell x c (hsub.at e)
    exact ⟨v, o, old _ o ho, hd⟩
  · show (capSt ts.length js σ).length = (ts ++ ys).length
    unfold capSt
    rw [List.length_append, List.length_append, List.length_replicate, List.length_map, hcap.len]

/-- behind the block -/
theorem comp_end {pins pins' : List (Addr × Obj)} {σ σ' : St} {H2 H3 : Hp} {s2 s4 : Shared} {fp : List Addr} {C D : Addr} {N : List Str} {h' : Heap} {its : List Value} {xs : List V} {n : Nat} (I2 : Inv X pins σ H2 s2) (f2 : ∀ b ∈ fp, FpOk X pins H2 b)
    (I4 : Inv (X.comp scope cl N s2 H2 fp C) pins' σ' H3 s4) (hC : s2.heap.objs.size ≤ C) (hD : s2.heap.objs.size ≤ D) (hDC : D ≠ C) (hs' : Heap.SameBut C s4.heap h') (rv : Vals xs its) (hz : xs.length ≤ sizeLine) (e4 : s4.heap.get? D = some { cls := .type "list", data := .seq its.toArray n }) (hn : H3 D = none) :
    Inv X pins σ (upd H3 D (.lst xs)) { s4 with heap := h' } := by
  have ext := hs'.extBut
  have neC : ∀ b o, s2.heap.get? b = some o → b ≠ C := fun b o e => Nat.ne_of_lt (Nat.lt_of_lt_of_le (Heap.lt_size e) hC)
  have neD : ∀ b o, s2.heap.get? b = some o → b ≠ D := fun b o e => Nat.ne_of_lt (Nat.lt_of_lt_of_le (Heap.lt_size e) hD)
  have hok : HOk X.prog X.w (upd H3 D (.lst xs)) h' := by
    have h1 : HOk X.prog X.w H3 h' := HOk.but (C := C) I4.hok I4.free fun b o hb e => ext b o hb e
    exact HOk.track h1 hn ⟨hz, its, n, rv, ext D _ hDC e4⟩
  have B : Un (frs X.stack) fp H2 H3 s2.heap s4.heap := I4.base
  have u : Un (frs X.stack) fp H2 (upd H3 D (.lst xs)) s2.heap h' := by
    refine ⟨fun b o e q hb hx => ext b o (neC b o e) (B.keep b o e q hb hx), fun b o e q hb hx => ?_, fun b o e q hx => ?_, fun b o e hx => ?_, fun b ys q => ?_, fun b o ys q => ?_, fun b ps q => ?_⟩
    · obtain ⟨sl, e1⟩ := B.slot b o e q hb hx
      exact ⟨sl, ext b _ (neC b o e) e1⟩
    · rw [upd_ne (neD b o e)]; exact B.free b o e q hx
    · obtain ⟨o', e1⟩ := B.there b o e hx
      exact ⟨o', ext b _ (neC b o e) e1⟩
    · have := B.tups b ys q
      rw [upd_ne (ne_of_none this hn)]; exact this
    · have := B.frzs b o ys q
      rw [upd_ne (ne_of_none this hn)]; exact this
    · obtain ⟨m1, e1⟩ := B.tbls b ps q
      exact ⟨m1, by rw [upd_ne (ne_of_none e1 hn)]; exact e1⟩
  have os : s4.os = s2.os := I4.os
  have gb := I4.bare
  obtain ⟨hh, gg, dd, tt, os'⟩ := s4
  obtain rfl : os' = s2.os := os
  have fin := I2.call (h' := h') (g' := gg) (d' := dd) (t' := tt) (ch := fp) u hok gb fun b hb => ⟨(f2 b hb).2.2.2.1, (f2 b hb).2.1, (f2 b hb).2.2.2.2.1, (f2 b hb).2.2.2.2.2⟩
  exact fin

theorem pe_comp (ts ys : List Str) (js : List Nat) (hc : X.calm = true) (hi : PI X tg iter wi) (hclos : closureFor scope X.env = pure cl) (hsub : subCl X.env cl) (hcap : capt X scope cl ys js)
    (hg : ∀ s H fp C, PG (X.comp scope cl (ts ++ ys) s H fp C) tg g) (ht : ∀ s H fp C, PIf (X.comp scope cl (ts ++ ys) s H fp C) ifs tc) (he : ∀ s H fp C, PE (X.comp scope cl (ts ++ ys) s H fp C) elt te)
    (hkind : scope.kind = .function := by rfl) (hcell : (scope.names.all fun y => y.2 != .cell) = true := by rfl)
    (hnames : (scope.names.all fun y => y.2 != .local || scope.names.lookup y.1 == some .local) = true := by rfl)
    (hhas : ((relabel scope X.env).names.all fun p => (p.2 != .cell && p.2 != .free) || (cl.lookup p.1).isSome) = true := by rfl)
    (hs : ∀ x, foldedSetIterable iter X.env x = pure x := by intro _; rfl) : PE X (.ListComp elt [⟨tg, iter, ifs, 0⟩] scope pos) (tComp wi ts.length js g tc te) := by
  intro pins s σ H Q I h
  have hcell' : ∀ y ∈ scope.names, y.2 ≠ .cell := fun y hy z => by
    have := List.all_eq_true.mp hcell y hy
    rw [z] at this
    exact absurd this (by decide)
  have hnames' : ∀ y ∈ scope.names, y.2 = .local → scope.names.lookup y.1 = some .local := fun y hy z => by
    have := List.all_eq_true.mp hnames y hy
    rw [z] at this
    simpa using this
  have hhas' : ∀ x, ((relabel scope X.env).names.lookup x = some .cell ∨ (relabel scope X.env).names.lookup x = some .free) → ∃ c, cl.lookup x = some c := fun x hx => by
    rcases hx with hx | hx
    · have := List.all_eq_true.mp hhas _ (PySem.mem_of_lookup hx)
      exact Option.isSome_iff_exists.mp (by simpa using this)
    · have := List.all_eq_true.mp hhas _ (PySem.mem_of_lookup hx)
      exact Option.isSome_iff_exists.mp (by simpa using this)
  rw [eval_ListComp]
  refine wpAny_comprehension_free (use := none) rfl hs hclos hkind hnames' (thn (hi pins s σ H _ I h) fun v s1 h1 => thn h1 fun itv s2 h2 => ?_)
  obtain ⟨it, fp, tn, J, H2, e, I2, T, st2, f2, W, ⟨m0, w0⟩, turn⟩ := h2
  subst e
  have fl : ∀ b ∈ fp, b < s2.heap.objs.size := fun b hb => by
    obtain ⟨o, e, _⟩ := T.obj _ _ st2 b hb
    exact Heap.lt_size e
  refine wpAny_newObj_type (wpAny_newFunctionEnv hcell' (by intro y hy; simp at hy) (fun h₁ hns₁ hsb₁ => ?_) hkind)
  dsimp only at hns₁ hsb₁ ⊢
  generalize hHH : s2.heap.push { cls := .type "list", dict := none, data := .seq ([] : List Value).toArray } = HH at hns₁ hsb₁ ⊢
  have hC : HH.objs.size = s2.heap.objs.size + 1 := by rw [← hHH, Heap.size_push]
  have hDC : s2.heap.objs.size ≠ HH.objs.size := by rw [hC]; exact Nat.ne_of_lt (Nat.lt_succ_self _)
  have hCle : s2.heap.objs.size ≤ HH.objs.size := by rw [hC]; exact Nat.le_succ _
  have old : ∀ b o, s2.heap.get? b = some o → h₁.get? b = some o := fun b o e =>
    hsb₁.extBut b o (Nat.ne_of_lt (Nat.lt_of_lt_of_le (Heap.lt_size e) hCle)) (Heap.get?_push_of_some _ (hHH ▸ Heap.get?_push_of_some _ e))
  have hacc : h₁.get? s2.heap.objs.size = some { cls := .type "list", data := .seq ([] : List Value).toArray } := hsb₁.extBut _ _ hDC (Heap.get?_push_of_some _ (hHH ▸ Heap.get?_push_size _ rfl))
  have nofs : ∀ b, s2.heap.objs.size ≤ b → b ∉ frs X.stack := fun b hb z => by
    rcases List.mem_cons.mp (I2.stkSub b z) with e | e
    · exact absurd (Nat.lt_of_lt_of_le I2.lt (e ▸ hb)) (Nat.lt_irrefl _)
    · exact I2.nofs hb e
  have nocell : ∀ b, s2.heap.objs.size ≤ b → ∀ x c, cl.lookup x = some c → c ≠ b := fun b hb x c e z => by
    obtain ⟨v, q⟩ := I2.cell x c (hsub.at e)
    exact absurd (Nat.lt_of_lt_of_le q.lt (z ▸ hb)) (Nat.lt_irrefl _)
  have I' : Inv (X.comp scope cl (ts ++ ys) s2 H2 fp HH.objs.size) [] (capSt ts.length js σ) H2 { s2 with heap := h₁, toks := s2.toks + ([] : List (Str × Value)).length } :=
    inv_comp I2 hsub hcap hkind hhas' f2 fl hCle hns₁ old
  have addPin : ∀ {σ' : St} {H' : Hp} {s' : Shared} {o : Obj}, Inv (X.comp scope cl (ts ++ ys) s2 H2 fp HH.objs.size) [] σ' H' s' → s'.heap.get? s2.heap.objs.size = some o → H' s2.heap.objs.size = none → (∀ v, o.data ≠ .cell v) →
      Inv (X.comp scope cl (ts ++ ys) s2 H2 fp HH.objs.size) [(s2.heap.objs.size, o)] σ' H' s' := fun {σ' H' s' o} J e n d => J.pins_of fun p hp => by
    have e' : p = (s2.heap.objs.size, o) := by simpa using hp
    subst e'
    exact ⟨e, n, hDC, nofs _ (Nat.le_refl _), d⟩
  have stat : ∀ {pins' : List (Addr × Obj)} {H' : Hp}, (∀ p ∈ pins', p.1 = s2.heap.objs.size) → (∀ b ∈ fp, H' b = none) → ∀ b ∈ fp, FpOk (X.comp scope cl (ts ++ ys) s2 H2 fp HH.objs.size) pins' H' b := fun {pins' H'} hp hn b hb =>
    ⟨hn b hb, Nat.ne_of_lt (Nat.lt_of_lt_of_le (fl b hb) hCle), I'.ok.exfs b hb, .inl hb, (I'.ok.exf b hb).2, fun p hq z => by
      have hq' : p ∈ pins' := by simpa using hq
      exact absurd (fl b hb) (by rw [← z, hp p hq']; exact Nat.lt_irrefl _)⟩
  have tn1 : tn 0 h₁ := T.keep _ _ _ st2 fun b _ o e => old b o e
  have loop : ∀ s₃ : Shared, s₃ = { s2 with heap := h₁, toks := s2.toks + ([] : List (Str × Value)).length } →
      codeAny (model X.prog X.w) X.A (.compLoop (.ListComp elt [⟨tg, iter, ifs, 0⟩] scope pos) 0 (.ref it) (.ref s2.heap.objs.size) (compEnvC scope cl HH.objs.size X.env))
        (compPost (model X.prog X.w) X.A X.xe none (EP X pins σ Q) (.ref s2.heap.objs.size) HH.objs.size) s₃ := by
    rintro s₃ rfl
    refine compLoop_gen (fun n s' => ∃ i σ' xs H' its nn, Inv (X.comp scope cl (ts ++ ys) s2 H2 fp HH.objs.size) [] σ' H' s' ∧ Vals xs its ∧ xs.length ≤ sizeLine ∧ s'.heap.get? s2.heap.objs.size = some { cls := .type "list", data := .seq its.toArray nn } ∧ H' s2.heap.objs.size = none ∧
      tn i s'.heap ∧ (∀ b ∈ fp, H' b = none) ∧ W i n σ' xs H') ?_ m0 ⟨0, _, [], H2, [], 0, I', .nil, Nat.zero_le _, hacc, I2.hok.fresh (Nat.le_refl _), tn1, fun b hb => (f2 b hb).1, w0⟩
    rintro n s3 ⟨i, σ3, xs, H3, its, nn, I3, rv, hz3, ac3, nD3, st3, fr3, w3⟩
    have nd : ∀ v, ({ cls := .type "list", data := .seq its.toArray nn } : Obj).data ≠ .cell v := fun v z => by
      have z' : Data.seq its.toArray nn = Data.cell v := z
      cases z'
    have I3p := addPin I3 ac3 nD3 nd
    have pinD : ∀ p ∈ [(s2.heap.objs.size, ({ cls := .type "list", data := .seq its.toArray nn } : Obj))], p.1 = s2.heap.objs.size := fun p hp => by
      rw [List.mem_singleton] at hp
      rw [hp]
    rcases turn i n σ3 xs H3 w3 with ⟨stop, qn⟩ | ⟨go, hz, N, hN, step⟩
    · refine thn (T.done (X.comp scope cl (ts ++ ys) s2 H2 fp HH.objs.size) rfl rfl rfl hc i _ s3 σ3 H3 (fun _ _ => False) I3p (stat pinD fr3) st3 stop) fun r s4 ⟨hr, I4⟩ => ?_
      subst hr
      obtain ⟨m, hn, _⟩ := I4.loc
      have ac4 := (I4.pin _ (List.mem_append_right _ (List.mem_singleton.mpr rfl))).1
      exact ⟨m, hn, fun h' hs' => ⟨.ref s2.heap.objs.size, _, comp_end I2 f2 I4 hCle (Nat.le_refl _) hDC hs' rv hz3 ac4 nD3, rfl, qn _ nD3⟩⟩
    · refine thn (T.item (X.comp scope cl (ts ++ ys) s2 H2 fp HH.objs.size) rfl rfl rfl hc i _ s3 σ3 H3 (fun _ _ => False) I3p (stat pinD fr3) st3 go) fun r s4 ⟨u, hr, h4⟩ => ?_
      subst hr
      refine thn h4 fun _ s5 ⟨x, H5, I5, r5, y5, st5, fr5⟩ => ?_
      have I5' := I5.pinned (stat pinD fr5) (T.obj _ _ st5)
      refine thn (hg _ _ _ _ _ s5 σ3 H5 x u _ I5' r5 (step x H5 y5)) fun _ s6 ⟨σ6, H6, I6, q6⟩ => ?_
      refine thn (ht _ _ _ _ _ s6 σ6 H6 _ I6 q6) fun b s7 ⟨H7, I7, q7⟩ => ?_
      -- what stands of the pins
      have facts : ∀ {σ' : St} {H' : Hp} {s' : Shared}, Inv (X.comp scope cl (ts ++ ys) s2 H2 fp HH.objs.size) ([(s2.heap.objs.size, ({ cls := .type "list", data := .seq its.toArray nn } : Obj))] ++ pinsAt fp s5.heap) σ' H' s' →
          s'.heap.get? s2.heap.objs.size = some { cls := .type "list", data := .seq its.toArray nn } ∧ H' s2.heap.objs.size = none ∧ tn (i + 1) s'.heap ∧ (∀ b ∈ fp, H' b = none) := fun {σ' H' s'} J => by
        have p1 := J.pin (s2.heap.objs.size, ({ cls := .type "list", data := .seq its.toArray nn } : Obj)) (by simp)
        refine ⟨p1.1, p1.2.1, T.keep _ _ _ st5 fun b hb o e => (J.pin (b, o) (List.mem_append_right _ (List.mem_append_right _ (mem_pinsAt hb e)))).1, fun b hb => ?_⟩
        obtain ⟨o, e, d⟩ := T.obj _ _ st5 b hb
        exact (J.pin (b, o) (List.mem_append_right _ (List.mem_append_right _ (mem_pinsAt hb e)))).2.1
      have bare : ∀ {σ' : St} {H' : Hp} {s' : Shared}, Inv (X.comp scope cl (ts ++ ys) s2 H2 fp HH.objs.size) ([(s2.heap.objs.size, ({ cls := .type "list", data := .seq its.toArray nn } : Obj))] ++ pinsAt fp s5.heap) σ' H' s' →
          Inv (X.comp scope cl (ts ++ ys) s2 H2 fp HH.objs.size) [] σ' H' s' := fun J => J.pins_of fun p hp => absurd hp (by simp)
      cases b with
      | false =>
        have q7' : N σ6 xs H7 := by simpa using q7
        obtain ⟨m', hm, w7⟩ := hN _ _ _ q7'
        obtain ⟨a1, a2, a3, a4⟩ := facts I7
        show ∃ m, m < n ∧ _
        exact ⟨m', hm, i + 1, σ6, xs, H7, its, nn, bare I7, rv, hz3, a1, a2, a3, a4, w7⟩
      | true =>
        have q7' : te σ6 H7 fun v H5 => N σ6 (xs ++ [v]) H5 := by
          rw [if_pos rfl] at q7
          exact q7
        show wpAny _ _ (eval elt _) _ _ s7
        refine thn (he _ _ _ _ _ s7 σ6 H7 _ I7 q7') fun xv s8 ⟨v, H8, I8, r8, n8⟩ => ?_
        obtain ⟨m', hm, w8⟩ := hN _ _ _ n8
        obtain ⟨a1, a2, a3, a4⟩ := facts I8
        have hl := rv.length
        refine call_meets F.slot_list_append ⟨_, a1, rfl⟩ F.entry_list_append (F.args_list_append_2 _ _) (PySem.list_append s2.heap.objs.size its.toArray nn xv (by rw [List.size_toArray]; omega)) ⟨a1, ?_⟩
        obtain ⟨n9, q9⟩ : ∃ n9, (s8.heap.update s2.heap.objs.size (Obj.mapSeq fun a => a.push xv)).get? s2.heap.objs.size = some { cls := .type "list", data := .seq (its ++ [xv]).toArray n9 } :=
          ⟨_, by rw [show (its ++ [xv]).toArray = its.toArray.push xv by simp]; exact PySem.IsL.update a1 (fun a => a.push xv)⟩
        have I9 : Inv (X.comp scope cl (ts ++ ys) s2 H2 fp HH.objs.size) [] σ6 H8 { s8 with heap := s8.heap.update s2.heap.objs.size (Obj.mapSeq fun a => a.push xv), toks := s8.toks } :=
          (bare I8).turned (it := s2.heap.objs.size) (fun b o hb e => (Heap.get?_update_other s8.heap _ (Ne.symm hb)).trans e) a2 hDC (.inr (Nat.le_refl _)) (nocell _ (Nat.le_refl _)) fun p hp => absurd (show p ∈ ([] : List (Addr × Obj)) from hp) (by simp)
        refine ⟨m', hm, i + 1, σ6, xs ++ [v], H8, its ++ [xv], n9, I9, rv.append (.cons r8 .nil), ?_, q9, a2, ?_, a4, w8⟩
        · rw [List.length_append, List.length_singleton]; omega
        · exact T.keep _ _ _ a3 fun b hb o e => (Heap.get?_update_other s8.heap _ (Ne.symm (Nat.ne_of_lt (fl b hb)))).trans e
  exact codeAny_compStart_list (loop _ rfl) (T.self _ 0 _ _ _ tn1 (loop _ rfl))
end

/-! ### the forms one uses: one name as target. At a turn's end: what P says, and (_, rfl) that the names from around are as they were -/
abbrev capV (js : List Nat) (σ : St) : St := js.map fun j => σ.getD j none
def CompN (P : Nat → List V → Hp → Prop) (i : Nat) (js : List Nat) (σ : St) : St → List V → Hp → Prop := fun σ' ys H => P (i + 1) ys H ∧ ∃ o, σ' = o :: capV js σ
theorem comp_range {lo : Int} {n : Nat} {k : Nat} {js : List Nat} {tc : TT} {te : TE} {σ : St} {Q : VK} {H1 : Hp} (P : Nat → List V → Hp → Prop) (h0 : P 0 [] H1) (hl : ∀ i ys H, i ≤ n → P i ys H → ys.length ≤ i) (hz : n < sizeLine)
    (hs : ∀ i ys H, i < n → P i ys H → tc (some (.int (lo + i)) :: capV js σ) H fun b H2 => if b = true then te (some (.int (lo + i)) :: capV js σ) H2 fun v H3 => CompN P i js σ (some (.int (lo + i)) :: capV js σ) (ys ++ [v]) H3 else CompN P i js σ (some (.int (lo + i)) :: capV js σ) ys H2)
    (hd : ∀ ys H, P n ys H → ∀ p, H p = none → Q (.ref p) (upd H p (.lst ys))) (hk : k = 1 := by rfl) :
    CompR (Itr lo n) k js (gName 0) tc te σ Q H1 := by
  subst hk
  refine ⟨fun i m σ' ys H => m = n - i ∧ i ≤ n ∧ P i ys H ∧ ∃ o, σ' = o :: capV js σ, ⟨n, by simp, Nat.zero_le _, h0, none, rfl⟩, ?_⟩
  rintro i m σ' ys H ⟨rfl, hi, p, o, rfl⟩
  have hy := hl i ys H hi p
  by_cases hlt : i < n
  · refine .inr ⟨hlt, by omega, CompN P i js σ, fun σ3 zs H3 z => ⟨n - (i + 1), by omega, rfl, hlt, z.1, z.2⟩, fun x H' y => ?_⟩
    obtain ⟨e, y⟩ := y
    subst e
    subst y
    exact hs i ys _ hlt p
  · have e : i = n := by omega
    subst e
    exact .inl ⟨Nat.le_refl _, hd ys H p⟩
end L2

/-! range objects made and listed, of any ints; a negated int -/
namespace L2
open PySem PySem.Spec PyProof.Rows
section
variable {prog : Program} {w : World} {A : Around} {E : Value → Shared → Prop} {s : Shared}
end
/-- lo, lo + 1, .. (n of them) -/
def rangeL (lo : Int) (n : Nat) : List Int := (List.range n).map fun i : Nat => lo + (i : Int)
section
variable {X : Cx}
end
end L2

namespace L2
open PySem PySem.Spec PyProof.Rows

/-! ### lists of pairs as tables -/
section
variable {κ : Type} [DecidableEq κ]
def valV (kvs : List (κ × V)) (k : κ) : Option V := (kvs.find? fun kv => decide (kv.1 = k)).map (·.2)
/-- in its place, or at the end -/
def putK (kvs : List (κ × V)) (k : κ) (v : V) : List (κ × V) :=
  if (kvs.any fun kv => decide (kv.1 = k)) = true then kvs.map (fun kv => if kv.1 = k then (kv.1, v) else kv) else kvs ++ [(k, v)]
def dropK (kvs : List (κ × V)) (k : κ) : List (κ × V) := kvs.filter fun kv => decide (kv.1 ≠ k)

theorem length_putK (kvs : List (κ × V)) (k : κ) (v : V) : (putK kvs k v).length ≤ kvs.length + 1 := by
  unfold putK
  split
  · rw [List.length_map]; omega
  · rw [List.length_append, List.length_cons, List.length_nil]; omega
theorem KV.any {kvs : List (κ × V)} {vs : List (κ × Value)} (r : KV kvs vs) (k : κ) : (kvs.any fun kv => decide (kv.1 = k)) = vs.any fun kv => decide (kv.1 = k) := by
  unfold KV at r
  induction r with
  | nil => rfl
  | cons h t ih => rw [List.any_cons, List.any_cons, ih, h.1]
theorem KV.repl {kvs : List (κ × V)} {vs : List (κ × Value)} (r : KV kvs vs) (k : κ) {y : V} {u : Value} (ry : RelV y u) :
    KV (kvs.map fun kv => if kv.1 = k then (kv.1, y) else kv) (vs.map fun kv => if kv.1 = k then (kv.1, u) else kv) := by
  unfold KV at r ⊢
  induction r with
  | nil => exact .nil
  | @cons p q ps qs h t ih =>
    rw [List.map_cons, List.map_cons]
    refine .cons ?_ ih
    obtain ⟨h1, h2⟩ := h
    by_cases e : p.1 = k
    · rw [if_pos e, if_pos (h1.symm.trans e)]; exact ⟨h1, ry⟩
    · rw [if_neg e, if_neg (fun z => e (h1.trans z))]; exact ⟨h1, h2⟩
theorem KV.put {kvs : List (κ × V)} {vs : List (κ × Value)} (r : KV kvs vs) (k : κ) {y : V} {u : Value} (ry : RelV y u) : KV (putK kvs k y) (stored vs k u) := by
  unfold putK stored
  rw [r.any k]
  by_cases e : (vs.any fun kv => decide (kv.1 = k)) = true
  · rw [if_pos e, if_pos e]; exact r.repl k ry
  · rw [if_neg e, if_neg e]; exact Paired.snoc r ⟨rfl, ry⟩
end


/-! ### a tracked dict, its keys ints and texts or tuples of these -/
theorem kV_is {P : Program} {w : World} {k : Key} {u : Value} (r : RelV (kV k) u) : (mixKind P w).is k u = true := by
  cases k with
  | inl i => obtain ⟨t, e⟩ := (show ∃ t, u = Value.int i t from r); subst e; exact mixKind_int P w i t
  | inr x => obtain ⟨t, e⟩ := (show ∃ t, u = Value.str x t from r); subst e; exact mixKind_str P w x t
/-- raw entries of a dict with tuple keys -/
abbrev KT (H : Hp) : List (List Key × V) → List (List Key × Addr × Value) → Prop := Paired fun p q => p.1 = q.1 ∧ H q.2.1 = some (.tup (p.1.map kV)) ∧ RelV p.2 q.2.2
section
variable {P : Program} {w : World} {H : Hp} {h : Heap} {a : Addr}
theorem rd_of {u : HO} (ok : HOk P w H h) (e : Rd H a u) : ObjOk P w H h a u := e.ok ok
theorem dk_rd {kvs : List (Key × V)} (ok : HOk P w H h) (e : Rd H a (.dK kvs)) : kvs.length ≤ sizeLine ∧ (a == sysModules) = false ∧ ∃ vs, KV kvs vs ∧ h.DictOf (mixKind P w) a vs :=
  show ObjOk P w H h a (.dK kvs) from rd_of ok e
theorem dk_of {kvs : List (Key × V)} (ok : HOk P w H h) (e : H a = some (.dK kvs)) : kvs.length ≤ sizeLine ∧ (a == sysModules) = false ∧ ∃ vs, KV kvs vs ∧ h.DictOf (mixKind P w) a vs := dk_rd ok (.inl e)
end

/-- what the dict at a holds at the key y -/
def DGet (H : Hp) (a : Addr) (y : V) (r : Option V) : Prop :=
  (∃ kvs k, Rd H a (.dK kvs) ∧ y = kV k ∧ r = valV kvs k) ∨ ∃ kvs k b, Rd H a (.dT kvs) ∧ y = .ref b ∧ H b = some (.tup (k.map kV)) ∧ r = valV kvs k
/-- the heap behind a[y] = v -/
def DPut (H : Hp) (a : Addr) (y v : V) (H' : Hp) : Prop :=
  (∃ kvs k, H a = some (.dK kvs) ∧ y = kV k ∧ kvs.length < sizeLine ∧ H' = upd H a (.dK (putK kvs k v))) ∨
  ∃ kvs k b, H a = some (.dT kvs) ∧ y = .ref b ∧ H b = some (.tup (k.map kV)) ∧ kvs.length < sizeLine ∧ H' = upd H a (.dT (putK kvs k v))
section
variable {X : Cx} {pins : List (Addr × Obj)} {σ : St} {H : Hp} {s : Shared} {a : Addr} {y v : V} {u r : Value} {o : Option V} {A : Around} {E : Value → Shared → Prop}

theorem Inv.big (I : Inv X pins σ H s) : sysModules < s.heap.objs.size := by
  have h : mainGlobals < s.heap.objs.size := (I.mod.glob.keeps I.bk).lt
  exact Nat.lt_trans (by decide) h

/-- a dict's object is replaced -/
theorem d_write {h' : Heap} {t' : Nat} {ob : HO} (I : Inv X pins σ H s) (mu : Mut (H a)) (hs : Heap.SameBut a s.heap h') (he : ∃ q, h'.get? a = some q) (new : ObjOk X.prog X.w (upd H a ob) h' a ob) :
    Inv X pins σ (upd H a ob) { s with heap := h', toks := t' } :=
  I.write (x := a) (e := a) mu (.inl rfl) (fun b q hb z => (hs.2 b hb).trans z) he new
theorem dk_new {P : Program} {w : World} {H' : Hp} {h' : Heap} {kvs : List (Key × V)} {vs : List (Key × Value)} (z : kvs.length ≤ sizeLine) (hd : (a == sysModules) = false) (rel : KV kvs vs) (dd : h'.DictOf (mixKind P w) a vs) :
    ObjOk P w H' h' a (.dK kvs) := ⟨z, hd, vs, rel, dd⟩
end

section
variable {X : Cx} {pins : List (Addr × Obj)} {σ : St} {H : Hp} {s : Shared} {a : Addr} {kvs : List (Key × V)} {k : Key} {u : Value} {A : Around} {E : Value → Shared → Prop}
end


/-! ### readings and rules -/
/-- the element of a subscription, not a slice -/
def NoSl (i : Expr) : Prop := ∀ ov iv, subscripted i false ov iv = operate [ov, iv] (getItem ov iv)
/-- d[y] -/
def tDGet (td ty : TE) : TE := fun σ H Q => td σ H fun x H1 => ty σ H1 fun y H2 => ∃ a v, x = .ref a ∧ DGet H2 a y (some v) ∧ Q v H2
/-- y in d, y not in d -/
def tDIn (ty td : TE) : TE := fun σ H Q => ty σ H fun y H1 => td σ H1 fun x H2 => ∃ a o, x = .ref a ∧ DGet H2 a y o ∧ Q (.bl o.isSome) H2
def tDNotIn (ty td : TE) : TE := fun σ H Q => ty σ H fun y H1 => td σ H1 fun x H2 => ∃ a o, x = .ref a ∧ DGet H2 a y o ∧ Q (.bl (!o.isSome)) H2
/-- d[y] = v -/
def sDPut (td ty tv : TE) : TS := fun D σ H => tv σ H fun v H1 => td σ H1 fun x H2 => ty σ H2 fun y H3 => ∃ a H4, x = .ref a ∧ DPut H3 a y v H4 ∧ D.nx σ H4
/-- d[y] op= v -/
def sDAug (td ty tv : TE) (rd : V → V → Hp → VK → Prop) : TS := fun D σ H => td σ H fun x H1 => ty σ H1 fun y H2 => ∃ a v, x = .ref a ∧ DGet H2 a y (some v) ∧
  tv σ H2 fun y2 H3 => rd v y2 H3 fun z H4 => ∃ H5, DPut H4 a y z H5 ∧ D.nx σ H5
/-- del d[y] -/
def sDDel (td ty : TE) : TS := fun D σ H => td σ H fun x H1 => ty σ H1 fun y H2 => ∃ a kvs k, x = .ref a ∧ H2 a = some (.dK kvs) ∧ y = kV k ∧ (valV kvs k).isSome = true ∧ D.nx σ (upd H2 a (.dK (dropK kvs k)))

section
variable {X : Cx} {o i e value : Expr} {pos pos' tpos : Pos} {td ty tv : TE}
end


/-! ### displays -/
theorem dk_empty {P : Program} {w : World} {H : Hp} (h : Heap) (hb : sysModules < h.objs.size) : ObjOk P w H (h.push { cls := .type "dict", data := .dict #[] }) h.objs.size (.dK []) :=
  ⟨Nat.zero_le _, beq_eq_false_iff_ne.mpr (Ne.symm (Nat.ne_of_lt hb)), [], .nil, Heap.DictOf.new h⟩
/-- {}, to be a dict of the kind that is wanted -/
def tDNewK : TE := fun _ H Q => ∀ p, H p = none → Q (.ref p) (upd H p (.dK []))
def tDNewT : TE := fun _ H Q => ∀ p, H p = none → Q (.ref p) (upd H p (.dT []))
section
variable {X : Cx} {pos : Pos}
end

/-- the pairs of a display, from the left -/
def tPairs : List (TE × TE) → St → Hp → (List (V × V) → Hp → Prop) → Prop
  | [], _, H, Q => Q [] H
  | (tk, tv) :: r, σ, H, Q => tk σ H fun x H1 => tv σ H1 fun y H2 => tPairs r σ H2 fun ps H3 => Q ((x, y) :: ps) H3
abbrev VV : List (V × V) → List (Value × Value) → Prop := Paired fun p q => RelV p.1 q.1 ∧ RelV p.2 q.2
def PPs (X : Cx) (pos : Pos) (keys : List (Option Expr)) (values : List Expr) (trs : List (TE × TE)) : Prop :=
  ∀ (pins : List (Addr × Obj)) (s : Shared) (σ : St) (H : Hp) (Q : List (V × V) → Hp → Prop), Inv X pins σ H s → tPairs trs σ H Q →
    wpAny (model X.prog X.w) X.A (evalPairs (pairTrees keys values X.env pos)) (fun vs s' => ∃ ps H', Inv X pins σ H' s' ∧ VV ps vs ∧ Q ps H') X.xe s
theorem pps_nil {X : Cx} {pos : Pos} : PPs X pos [] [] [] := fun pins s σ H Q I h => pairTrees_nil_walk ⟨[], H, I, .nil, h⟩
theorem pps_cons {X : Cx} {pos : Pos} {k v : Expr} {ks : List (Option Expr)} {vs : List Expr} {tk tv : TE} {trs : List (TE × TE)} (hk : PE X k tk) (hv : PE X v tv) (hr : PPs X pos ks vs trs) :
    PPs X pos (some k :: ks) (v :: vs) ((tk, tv) :: trs) := fun pins s σ H Q I h =>
  pairTrees_cons_walk (thn (hk pins s σ H _ I h) fun u s1 ⟨x, H1, I1, rx, q1⟩ => thn (hv pins s1 σ H1 _ I1 q1) fun w2 s2 ⟨y, H2, I2, ry, q2⟩ =>
    thn (hr pins s2 σ H2 _ I2 q2) fun ws s3 ⟨ps, H3, I3, rel, q3⟩ => ⟨(x, y) :: ps, H3, I3, .cons ⟨rx, ry⟩ rel, q3⟩)

def mergeK (kvs more : List (Key × V)) : List (Key × V) := more.foldl (fun acc kv => putK acc kv.1 kv.2) kvs
theorem KV.merge : ∀ {more : List (Key × V)} {rs : List (Key × Value)} {kvs : List (Key × V)} {vs : List (Key × Value)}, KV more rs → KV kvs vs → KV (mergeK kvs more) (merged vs rs) := by
  intro more rs kvs vs r
  unfold KV at r
  induction r generalizing kvs vs with
  | nil => intro q; exact q
  | @cons p q ps qs h t ih =>
    intro r0
    have e : KV (putK kvs p.1 p.2) (stored vs q.1 q.2) := by
      have := r0.put p.1 h.2
      rw [← h.1]; exact this
    exact ih e
theorem length_mergeK : ∀ (more kvs : List (Key × V)), (mergeK kvs more).length ≤ kvs.length + more.length
  | [], kvs => by show kvs.length ≤ kvs.length + 0; omega
  | p :: r, kvs => by
    have h1 := length_mergeK r (putK kvs p.1 p.2)
    have h2 := length_putK kvs p.1 p.2
    show (mergeK (putK kvs p.1 p.2) r).length ≤ _
    rw [List.length_cons]; omega
theorem carries_of {P : Program} {w : World} : ∀ {kvs : List (Key × V)} {ws : List (Value × Value)}, VV (kvs.map fun kv => (kV kv.1, kv.2)) ws → ∃ rs, Carries (mixKind P w) ws rs ∧ KV kvs rs
  | [], _, r => by rw [List.map_nil] at r; cases r; exact ⟨[], True.intro, .nil⟩
  | p :: kvs, _, r => by
    rw [List.map_cons] at r
    cases r with
    | @cons a b as bs h t =>
      obtain ⟨rs, c, q⟩ := carries_of (P := P) (w := w) t
      obtain ⟨b1, b2⟩ := b
      exact ⟨(p.1, b2) :: rs, ⟨kV_is h.1, rfl, c⟩, .cons ⟨rfl, h.2⟩ q⟩
/-- {k: v, ..} with keys ints and texts; the new dict stands empty while the pairs are made -/
def tDisp (trs : List (TE × TE)) : TE := fun σ H Q => ∀ p, H p = none → tPairs trs σ (upd H p (.dK [])) fun ps H2 => H2 p = some (.dK []) ∧ ∃ kvs : List (Key × V), ps = kvs.map (fun kv => (kV kv.1, kv.2)) ∧ kvs.length ≤ 15 ∧ Q (.ref p) (upd H2 p (.dK (mergeK [] kvs)))
theorem pe_disp {X : Cx} {pos : Pos} {keys : List (Option Expr)} {values : List Expr} {trs : List (TE × TE)} (h : PPs X pos keys values trs) (hall : keys.all (·.isSome) = true) (hl : keys.length = values.length) (h0 : keys ≠ [])
    (h15 : keys.length ≤ 15) : PE X (.Dict keys values pos) (tDisp trs) := by
  intro pins s σ H Q I q
  have hn := I.hok.fresh (Nat.le_refl s.heap.objs.size)
  have I1 := I.laid (a := s.heap.objs.size) (o := .dK []) (h' := s.heap.push { cls := .type "dict", data := .dict #[] }) (t' := s.toks) (fun _ _ q => Heap.get?_push_of_some _ q) (Nat.le_refl _) (dk_empty s.heap I.big)
  refine wpAny_Dict_walk (knd := mixKind X.prog X.w) hall hl h0 h15 (thn (h pins _ σ _ _ I1 (q _ hn)) fun ws s2 ⟨ps, H2, I2, rel, e, kvs, ep, lk, q2⟩ => ?_)
  subst ep
  obtain ⟨rs, c, rk⟩ := carries_of (P := X.prog) (w := X.w) rel
  obtain ⟨z, hd, vs0, r0, dd⟩ := dk_of I2.hok e
  cases r0
  refine ⟨rs, c, dd, fun h' dd' hs => ⟨.ref s.heap.objs.size, _, ?_, rfl, q2⟩⟩
  have hz : (mergeK [] kvs).length ≤ sizeLine := by
    have h1 := length_mergeK kvs []
    rw [List.length_nil] at h1
    rw [sizeLine_eq]; omega
  have he : ∃ q, h'.get? s.heap.objs.size = some q := let ⟨q, _, _, hq, _⟩ := dd'; ⟨q, hq⟩
  exact d_write I2 (by rw [e]; exact True.intro) hs he (dk_new hz hd (rk.merge .nil) dd')


/-! ### methods -/
/-- a method call o.m(e) of a built-in, with one argument: what must be seen of the text -/
structure M1 (X : Cx) (o : Expr) (m : Str) (apos : Pos) (e : Expr) (cpos : Pos) : Prop where
  base : attributeBase o m X.env (eval o X.env) = eval o X.env
  few : ((backTo cpos (starEach [e] X.env)).all (fun x => !x.1) && (backToKw cpos (keywordEach [] X.env)).all (fun x => x.1.isSome)
    && decide (([e] : List Expr).length + ([] : List Keyword).length + (if ([] : List Keyword).isEmpty then 0 else 1) < 30)) = true
  line : (apos.endLine == cpos.line) = true
  trees : backTo cpos (starEach [e] X.env) = [(false, eval e X.env)]
structure M2 (X : Cx) (o : Expr) (m : Str) (apos : Pos) (e f : Expr) (cpos : Pos) : Prop where
  base : attributeBase o m X.env (eval o X.env) = eval o X.env
  few : ((backTo cpos (starEach [e, f] X.env)).all (fun x => !x.1) && (backToKw cpos (keywordEach [] X.env)).all (fun x => x.1.isSome)
    && decide (([e, f] : List Expr).length + ([] : List Keyword).length + (if ([] : List Keyword).isEmpty then 0 else 1) < 30)) = true
  line : (apos.endLine == cpos.line) = true
  trees : backTo cpos (starEach [e, f] X.env) = [(false, eval e X.env), (false, eval f X.env)]

/-- a is a dict, whatever its keys -/
def IsD (H : Hp) (a : Addr) : Prop := (∃ kvs, Rd H a (.dK kvs)) ∨ ∃ kvs, Rd H a (.dT kvs)
section
variable {X : Cx} {pins : List (Addr × Obj)} {σ : St} {H : Hp} {s : Shared} {a : Addr} {y d : V} {u r : Value} {o : Option V} {A : Around} {E : Value → Shared → Prop}
end

def tDGet1 (td ty : TE) : TE := fun σ H Q => td σ H fun x H1 => ∃ a, x = .ref a ∧ IsD H1 a ∧ ty σ H1 fun y H2 => ∃ o, DGet H2 a y o ∧ Q (o.getD .non) H2
def tDGet2 (td ty tx : TE) : TE := fun σ H Q => td σ H fun x H1 => ∃ a, x = .ref a ∧ IsD H1 a ∧ ty σ H1 fun y H2 => tx σ H2 fun z H3 => ∃ o, DGet H3 a y o ∧ Q (o.getD z) H3
/-- d.pop(k): there; d.pop(k, x): there or not -/
def tDPop1 (td ty : TE) : TE := fun σ H Q => td σ H fun x H1 => ∃ a, x = .ref a ∧ IsD H1 a ∧ ty σ H1 fun y H2 => ∃ kvs k v, H2 a = some (.dK kvs) ∧ y = kV k ∧ valV kvs k = some v ∧ Q v (upd H2 a (.dK (dropK kvs k)))
def tDPop2 (td ty tx : TE) : TE := fun σ H Q => td σ H fun x H1 => ∃ a, x = .ref a ∧ IsD H1 a ∧ ty σ H1 fun y H2 => tx σ H2 fun z H3 => ∃ kvs k, H3 a = some (.dK kvs) ∧ y = kV k ∧
  (∀ v, valV kvs k = some v → Q v (upd H3 a (.dK (dropK kvs k)))) ∧ (valV kvs k = none → Q z H3)
section
variable {X : Cx} {o e f : Expr} {apos cpos : Pos} {td ty tx : TE}
end

/-! ### dict(d): a copy -/
section
variable {X : Cx} {pins : List (Addr × Obj)} {σ : St} {H : Hp} {s : Shared} {a : Addr} {kvs : List (Key × V)} {A : Around} {E : Value → Shared → Prop}
end


section
variable {X : Cx} {pins : List (Addr × Obj)} {σ : St} {H : Hp} {s : Shared} {a : Addr} {y : V} {u : Value} {A : Around} {E : Value → Shared → Prop}
end
end L2

/-! texts over the hand layer -/
namespace L2
open PySem PySem.Spec PyProof.Rows
section
variable {X : Cx}
/-! ### for c in a text -/
def Itx (x : Str) : It := ⟨fun i _ => i < x.cps.size, fun i H v H' => H' = H ∧ ∃ c, x.cps[i]? = some c ∧ v = .str ⟨#[c]⟩, fun i _ => x.cps.size ≤ i⟩
def iStr (tl : TE) : TI := fun σ H R => tl σ H fun v H1 => ∃ x, v = .str x ∧ R (Itx x) H1
/-! ### texts compared -/
/-- int, None beside each other -/
def intOrN : V → Bool
  | .non => true
  | .int _ => true
  | _ => false
/-! ### a part of a text: some text, not longer -/
/-! ### join, split, index, int(text) -/
/-- split by a sign that stands in the text -/
def splitL (x y : Str) : List Str := Builtin.Str.partsBetween x (Builtin.Str.occurrences x y 0 x.length (x.length + 1)) y.length
end
end L2
namespace L2
open PySem PySem.Spec PyProof.Rows
end L2
namespace L2
open PySem
theorem se_const {c k p} {es : List Expr} {env : Env} : starEach (.Constant c k p :: es) env = (false, eval (.Constant c k p) env) :: starEach es env := rfl
theorem se_list {xs p} {es : List Expr} {env : Env} : starEach (.List xs p :: es) env = (false, eval (.List xs p) env) :: starEach es env := rfl
theorem se_tuple {xs k p} {es : List Expr} {env : Env} : starEach (.Tuple xs k p :: es) env = (false, eval (.Tuple xs k p) env) :: starEach es env := rfl
theorem se_dict {ks vs p} {es : List Expr} {env : Env} : starEach (.Dict ks vs p :: es) env = (false, eval (.Dict ks vs p) env) :: starEach es env := rfl
end L2
/-! the judgements as structures: where an app's type would be evaluated too far (a display of many things) -/
namespace L2
open PySem PySem.Spec PyProof.Rows
structure PEx (X : Cx) (e : Expr) (t : TE) : Prop where
  h : PE X e t
structure PAx (X : Cx) (es : List Expr) (t : TA) : Prop where
  h : PA X es t
structure PStx (X : Cx) (st : Stmt) (t : TS) : Prop where
  h : PS X st t
structure PSx (X : Cx) (sts : List Stmt) (t : TS) : Prop where
  h : PSs X sts t
section
variable {X : Cx} {e : Expr} {es : List Expr} {te : TE} {t : TA} {st : Stmt} {rest : List Stmt} {ts us : TS}
theorem pax_nil : PAx X [] tNil := ⟨pa_nil⟩
theorem pax_cons (ha : PEx X e te) (hr : PAx X es t) (hs : starEach (e :: es) X.env = (false, eval e X.env) :: starEach es X.env) : PAx X (e :: es) (tCons te t) := ⟨pa_cons ha.h hr.h hs⟩
theorem pex_of (h : PE X e te) : PEx X e te := ⟨h⟩
theorem pstx_of (h : PS X st ts) : PStx X st ts := ⟨h⟩
theorem psx_cons (h1 : PStx X st ts) (h2 : PSx X rest us) : PSx X (st :: rest) (tSeq ts us) := ⟨pss_cons h1.h h2.h⟩
theorem psx_one (h1 : PStx X st ts) : PSx X [st] ts := ⟨pss_one h1.h⟩
end
end L2

/-! long division, list + list of what is read alone, == and != of data -/
namespace L2
open PySem PySem.Spec PyProof.Rows
/-- // by a positive divisor of some size -/
def CDivL (i j : Int) : Prop := 0 < j ∧ j < 2 ^ 128
section
variable {X : Cx}
/-- list + list, both read alone -/
def rCatS (K : PySem.W.Frag) : R2 := fun x y H Q => ∃ l b xs zs, x = .ref l ∧ y = .ref b ∧ SqL K H l xs ∧ SqL K H b zs ∧ xs.length + zs.length ≤ sizeLine ∧ ∀ p, H p = none → Q (.ref p) (upd H p (.lst (xs ++ zs)))
/-! ### data -/
mutual
inductive Dat (K : PySem.W.Frag) (H : Hp) : V → PyData → Prop
  | non : Dat K H .non .none
  | bl (b : Bool) : Dat K H (.bl b) (.bool b)
  | int (i : Int) : Dat K H (.int i) (.int i)
  | str (x : Str) : Dat K H (.str x) (.str x)
  | lst {a : Addr} {xs : List V} {ds : List PyData} : SqL K H a xs → DatAll K H xs ds → Dat K H (.ref a) (.list ds)
  | tup {a : Addr} {xs : List V} {ds : List PyData} : SqT K H a xs → DatAll K H xs ds → Dat K H (.ref a) (.tuple ds)
inductive DatAll (K : PySem.W.Frag) (H : Hp) : List V → List PyData → Prop
  | nil : DatAll K H [] []
  | cons {x : V} {xs : List V} {d : PyData} {ds : List PyData} : Dat K H x d → DatAll K H xs ds → DatAll K H (x :: xs) (d :: ds)
end
mutual
theorem Inv.reads {pins : List (Addr × Obj)} {σ : St} {H : Hp} {s : Shared} (I : Inv X pins σ H s) : ∀ {x : V} {d : PyData} {u : Value}, Dat X.K H x d → RelV x u → ∃ as, Reads s.heap u d as
  | _, _, _, .non, r => by cases r; exact ⟨_, .none⟩
  | _, _, _, .bl b, r => by cases r; exact ⟨_, .bool b⟩
  | _, _, _, .int i, r => by obtain ⟨t, rfl⟩ := r; exact ⟨_, .int i t⟩
  | _, _, _, .str x, r => by obtain ⟨t, rfl⟩ := r; exact ⟨_, .str x t⟩
  | _, _, _, .lst h ds, r => by
    cases r
    obtain ⟨its, rv, ⟨o, n, e, hc, _, hd⟩, _⟩ := I.list h
    obtain ⟨as, ra⟩ := Inv.readsAll I ds rv
    exact ⟨_, .list e hc hd ra⟩
  | _, _, _, .tup h ds, r => by
    cases r
    obtain ⟨its, rv, ⟨o, e, hc, n, hd⟩, _⟩ := I.tuple h
    obtain ⟨as, ra⟩ := Inv.readsAll I ds rv
    exact ⟨_, .tuple e hc hd ra⟩
theorem Inv.readsAll {pins : List (Addr × Obj)} {σ : St} {H : Hp} {s : Shared} (I : Inv X pins σ H s) : ∀ {xs : List V} {ds : List PyData} {us : List Value}, DatAll X.K H xs ds → Vals xs us → ∃ as, ReadsAll s.heap us ds as
  | _, _, _, .nil, r => by cases r; exact ⟨_, .nil⟩
  | _, _, _, .cons h t, r => by
    cases r with
    | cons r1 r2 =>
      obtain ⟨a1, e1⟩ := Inv.reads I h r1
      obtain ⟨a2, e2⟩ := Inv.readsAll I t r2
      exact ⟨_, .cons e1 e2⟩
end
def rEqD (K : PySem.W.Frag) (neg : Bool) : R2 := fun x y H Q => ∃ d d' : PyData, Dat K H x d ∧ Dat K H y d' ∧ SeqAt.shaped d = true ∧ SeqAt.shaped d' = true ∧ Q (.bl (xor neg (PyData.eqv d d'))) H
end
mutual
theorem Dat.same {K : PySem.W.Frag} {H H' : Hp} (g : Same H H') : ∀ {x : V} {d : PyData}, Dat K H x d → Dat K H' x d
  | _, _, .non => .non
  | _, _, .bl b => .bl b
  | _, _, .int i => .int i
  | _, _, .str x => .str x
  | _, _, .lst h t => .lst (g.seq h) (DatAll.same g t)
  | _, _, .tup h t => .tup (by
      rcases h with (h | ⟨o, h⟩) | h
      · exact .inl (.inl (g _ _ h))
      · exact .inl (.inr ⟨o, g _ _ h⟩)
      · exact .inr h) (DatAll.same g t)
theorem DatAll.same {K : PySem.W.Frag} {H H' : Hp} (g : Same H H') : ∀ {xs : List V} {ds : List PyData}, DatAll K H xs ds → DatAll K H' xs ds
  | _, _, .nil => .nil
  | _, _, .cons h t => .cons (Dat.same g h) (DatAll.same g t)
end
end L2

/-! sum of a list of ints, << of long ints, range falling by one, a slice given -/
namespace L2
open PySem PySem.Spec PyProof.Rows
section
variable {X : Cx}
/-- << of an int of some size -/
def CShl (i j : Int) : Prop := 0 ≤ j ∧ j ≤ 1000000 ∧ i.natAbs < 2 ^ 4000
/-- lo, lo + st, .. (n of them) -/
def Itrs (lo st : Int) (n : Nat) : It := ⟨fun i _ => i < n, fun i H x H' => H' = H ∧ x = .int (lo + i * st), fun i _ => n ≤ i⟩
def iRngD (ta : TA) : TI := fun σ H R => ta σ H fun vs H1 => ∃ i j : Int, vs = [.int i, .int j, .int (-1)] ∧ (-(2 ^ 62) ≤ i ∧ i < 2 ^ 62 ∧ -(2 ^ 62) ≤ j ∧ j < 2 ^ 62) ∧ R (Itrs i (-1) (i - j).toNat) H1
/-- o[lo:hi] = a list -/
def gSlc (to : TE) (tl th : TO) : TG := fun v σ H Q => to σ H fun o H1 => tl σ H1 fun l H2 => th σ H2 fun u H3 => ∃ (p b : Addr) (xs ys : List V) (a c : Int), o = .ref p ∧ v = .ref b ∧ H3 p = some (.lst xs) ∧ H3 b = some (.lst ys) ∧ p ≠ b ∧ l = some a ∧ u = some c ∧
  0 ≤ a ∧ a ≤ c ∧ c ≤ xs.length ∧ xs.length + ys.length ≤ sizeLine ∧ Q σ (upd H3 p (.lst (xs.take a.toNat ++ ys ++ xs.drop c.toNat)))
end
end L2

/-! name = [.. for ..] : the value is stored ahead of the block's end -/
namespace L2
open PySem PySem.Spec PyProof.Rows
section
variable {X : Cx} {elt tg iter : Expr} {ifs : List Expr} {scope : Scope} {cl : List (Str × Addr)} {ts ys : List Str} {js : List Nat} {pos : Pos} {wi : TI} {g : TG} {tc : TT} {te : TE}
theorem comp_mid (ts ys : List Str) (js : List Nat) (hc : X.calm = true) (hi : PI X tg iter wi) (hclos : closureFor scope X.env = pure cl) (hsub : subCl X.env cl) (hcap : capt X scope cl ys js)
    (hg : ∀ s H fp C, PG (X.comp scope cl (ts ++ ys) s H fp C) tg g) (ht : ∀ s H fp C, PIf (X.comp scope cl (ts ++ ys) s H fp C) ifs tc) (he : ∀ s H fp C, PE (X.comp scope cl (ts ++ ys) s H fp C) elt te)
    (hkind : scope.kind = .function) (hcell : (scope.names.all fun y => y.2 != .cell) = true)
    (hnames : (scope.names.all fun y => y.2 != .local || scope.names.lookup y.1 == some .local) = true)
    (hhas : ((relabel scope X.env).names.all fun p => (p.2 != .cell && p.2 != .free) || (cl.lookup p.1).isSome) = true)
    (hs : ∀ x, foldedSetIterable iter X.env x = pure x) {use : Option (Value → Sem Unit)} {QV : Value → Shared → Prop} {pins : List (Addr × Obj)} {s : Shared} {σ : St} {H : Hp} {Q : VK} {p0 : Pos} (I : Inv X pins σ H s) (h : tComp wi ts.length js g tc te σ H Q)
    (hfin : ∀ {H2 H3 : Hp} {s2 s4 : Shared} {fp : List Addr} {C : Addr} {pins' : List (Addr × Obj)} {σ' : St} {its : List Value} {xs : List V} {n : Nat}, Inv X pins σ H2 s2 → (∀ b ∈ fp, FpOk X pins H2 b) → Inv (X.comp scope cl (ts ++ ys) s2 H2 fp C) pins' σ' H3 s4 → s2.heap.objs.size ≤ C → s2.heap.objs.size ≠ C → Vals xs its → xs.length ≤ sizeLine →
      s4.heap.get? s2.heap.objs.size = some { cls := .type "list", data := .seq its.toArray n } → H3 s2.heap.objs.size = none → (∀ p, H3 p = none → Q (.ref p) (upd H3 p (.lst xs))) → compPost (model X.prog X.w) X.A X.xe use QV (.ref s2.heap.objs.size) C (.ok .next) s4) :
    wpAny (model X.prog X.w) X.A (comprehension (.ListComp elt [⟨tg, iter, ifs, 0⟩] scope pos) scope X.env p0 (newList []) false (eval iter X.env) use) QV X.xe s := by
  have hcell' : ∀ y ∈ scope.names, y.2 ≠ .cell := fun y hy z => by
    have := List.all_eq_true.mp hcell y hy
    rw [z] at this
    exact absurd this (by decide)
  have hnames' : ∀ y ∈ scope.names, y.2 = .local → scope.names.lookup y.1 = some .local := fun y hy z => by
    have := List.all_eq_true.mp hnames y hy
    rw [z] at this
    simpa using this
  have hhas' : ∀ x, ((relabel scope X.env).names.lookup x = some .cell ∨ (relabel scope X.env).names.lookup x = some .free) → ∃ c, cl.lookup x = some c := fun x hx => by
    rcases hx with hx | hx
    · have := List.all_eq_true.mp hhas _ (PySem.mem_of_lookup hx)
      exact Option.isSome_iff_exists.mp (by simpa using this)
    · have := List.all_eq_true.mp hhas _ (PySem.mem_of_lookup hx)
      exact Option.isSome_iff_exists.mp (by simpa using this)
  refine wpAny_comprehension_free (use := use) rfl hs hclos hkind hnames' (thn (hi pins s σ H _ I h) fun v s1 h1 => thn h1 fun itv s2 h2 => ?_)
  obtain ⟨it, fp, tn, J, H2, e, I2, T, st2, f2, W, ⟨m0, w0⟩, turn⟩ := h2
  subst e
  have fl : ∀ b ∈ fp, b < s2.heap.objs.size := fun b hb => by
    obtain ⟨o, e, _⟩ := T.obj _ _ st2 b hb
    exact Heap.lt_size e
  refine wpAny_newObj_type (wpAny_newFunctionEnv hcell' (by intro y hy; simp at hy) (fun h₁ hns₁ hsb₁ => ?_) hkind)
  dsimp only at hns₁ hsb₁ ⊢
  generalize hHH : s2.heap.push { cls := .type "list", dict := none, data := .seq ([] : List Value).toArray } = HH at hns₁ hsb₁ ⊢
  have hC : HH.objs.size = s2.heap.objs.size + 1 := by rw [← hHH, Heap.size_push]
  have hDC : s2.heap.objs.size ≠ HH.objs.size := by rw [hC]; exact Nat.ne_of_lt (Nat.lt_succ_self _)
  have hCle : s2.heap.objs.size ≤ HH.objs.size := by rw [hC]; exact Nat.le_succ _
  have old : ∀ b o, s2.heap.get? b = some o → h₁.get? b = some o := fun b o e =>
    hsb₁.extBut b o (Nat.ne_of_lt (Nat.lt_of_lt_of_le (Heap.lt_size e) hCle)) (Heap.get?_push_of_some _ (hHH ▸ Heap.get?_push_of_some _ e))
  have hacc : h₁.get? s2.heap.objs.size = some { cls := .type "list", data := .seq ([] : List Value).toArray } := hsb₁.extBut _ _ hDC (Heap.get?_push_of_some _ (hHH ▸ Heap.get?_push_size _ rfl))
  have nofs : ∀ b, s2.heap.objs.size ≤ b → b ∉ frs X.stack := fun b hb z => by
    rcases List.mem_cons.mp (I2.stkSub b z) with e | e
    · exact absurd (Nat.lt_of_lt_of_le I2.lt (e ▸ hb)) (Nat.lt_irrefl _)
    · exact I2.nofs hb e
  have nocell : ∀ b, s2.heap.objs.size ≤ b → ∀ x c, cl.lookup x = some c → c ≠ b := fun b hb x c e z => by
    obtain ⟨v, q⟩ := I2.cell x c (hsub.at e)
    exact absurd (Nat.lt_of_lt_of_le q.lt (z ▸ hb)) (Nat.lt_irrefl _)
  have I' : Inv (X.comp scope cl (ts ++ ys) s2 H2 fp HH.objs.size) [] (capSt ts.length js σ) H2 { s2 with heap := h₁, toks := s2.toks + ([] : List (Str × Value)).length } :=
    inv_comp I2 hsub hcap hkind hhas' f2 fl hCle hns₁ old
  have addPin : ∀ {σ' : St} {H' : Hp} {s' : Shared} {o : Obj}, Inv (X.comp scope cl (ts ++ ys) s2 H2 fp HH.objs.size) [] σ' H' s' → s'.heap.get? s2.heap.objs.size = some o → H' s2.heap.objs.size = none → (∀ v, o.data ≠ .cell v) →
      Inv (X.comp scope cl (ts ++ ys) s2 H2 fp HH.objs.size) [(s2.heap.objs.size, o)] σ' H' s' := fun {σ' H' s' o} J e n d => J.pins_of fun p hp => by
    have e' : p = (s2.heap.objs.size, o) := by simpa using hp
    subst e'
    exact ⟨e, n, hDC, nofs _ (Nat.le_refl _), d⟩
  have stat : ∀ {pins' : List (Addr × Obj)} {H' : Hp}, (∀ p ∈ pins', p.1 = s2.heap.objs.size) → (∀ b ∈ fp, H' b = none) → ∀ b ∈ fp, FpOk (X.comp scope cl (ts ++ ys) s2 H2 fp HH.objs.size) pins' H' b := fun {pins' H'} hp hn b hb =>
    ⟨hn b hb, Nat.ne_of_lt (Nat.lt_of_lt_of_le (fl b hb) hCle), I'.ok.exfs b hb, .inl hb, (I'.ok.exf b hb).2, fun p hq z => by
      have hq' : p ∈ pins' := by simpa using hq
      exact absurd (fl b hb) (by rw [← z, hp p hq']; exact Nat.lt_irrefl _)⟩
  have tn1 : tn 0 h₁ := T.keep _ _ _ st2 fun b _ o e => old b o e
  have loop : ∀ s₃ : Shared, s₃ = { s2 with heap := h₁, toks := s2.toks + ([] : List (Str × Value)).length } →
      codeAny (model X.prog X.w) X.A (.compLoop (.ListComp elt [⟨tg, iter, ifs, 0⟩] scope pos) 0 (.ref it) (.ref s2.heap.objs.size) (compEnvC scope cl HH.objs.size X.env))
        (compPost (model X.prog X.w) X.A X.xe use QV (.ref s2.heap.objs.size) HH.objs.size) s₃ := by
    rintro s₃ rfl
    refine compLoop_gen (fun n s' => ∃ i σ' xs H' its nn, Inv (X.comp scope cl (ts ++ ys) s2 H2 fp HH.objs.size) [] σ' H' s' ∧ Vals xs its ∧ xs.length ≤ sizeLine ∧ s'.heap.get? s2.heap.objs.size = some { cls := .type "list", data := .seq its.toArray nn } ∧ H' s2.heap.objs.size = none ∧
      tn i s'.heap ∧ (∀ b ∈ fp, H' b = none) ∧ W i n σ' xs H') ?_ m0 ⟨0, _, [], H2, [], 0, I', .nil, Nat.zero_le _, hacc, I2.hok.fresh (Nat.le_refl _), tn1, fun b hb => (f2 b hb).1, w0⟩
    rintro n s3 ⟨i, σ3, xs, H3, its, nn, I3, rv, hz3, ac3, nD3, st3, fr3, w3⟩
    have nd : ∀ v, ({ cls := .type "list", data := .seq its.toArray nn } : Obj).data ≠ .cell v := fun v z => by
      have z' : Data.seq its.toArray nn = Data.cell v := z
      cases z'
    have I3p := addPin I3 ac3 nD3 nd
    have pinD : ∀ p ∈ [(s2.heap.objs.size, ({ cls := .type "list", data := .seq its.toArray nn } : Obj))], p.1 = s2.heap.objs.size := fun p hp => by
      rw [List.mem_singleton] at hp
      rw [hp]
    rcases turn i n σ3 xs H3 w3 with ⟨stop, qn⟩ | ⟨go, hz, N, hN, step⟩
    · refine thn (T.done (X.comp scope cl (ts ++ ys) s2 H2 fp HH.objs.size) rfl rfl rfl hc i _ s3 σ3 H3 (fun _ _ => False) I3p (stat pinD fr3) st3 stop) fun r s4 ⟨hr, I4⟩ => ?_
      subst hr
      have ac4 := (I4.pin _ (List.mem_append_right _ (List.mem_singleton.mpr rfl))).1
      exact hfin I2 f2 I4 hCle hDC rv hz3 ac4 nD3 qn
    · refine thn (T.item (X.comp scope cl (ts ++ ys) s2 H2 fp HH.objs.size) rfl rfl rfl hc i _ s3 σ3 H3 (fun _ _ => False) I3p (stat pinD fr3) st3 go) fun r s4 ⟨u, hr, h4⟩ => ?_
      subst hr
      refine thn h4 fun _ s5 ⟨x, H5, I5, r5, y5, st5, fr5⟩ => ?_
      have I5' := I5.pinned (stat pinD fr5) (T.obj _ _ st5)
      refine thn (hg _ _ _ _ _ s5 σ3 H5 x u _ I5' r5 (step x H5 y5)) fun _ s6 ⟨σ6, H6, I6, q6⟩ => ?_
      refine thn (ht _ _ _ _ _ s6 σ6 H6 _ I6 q6) fun b s7 ⟨H7, I7, q7⟩ => ?_
      -- what stands of the pins
      have facts : ∀ {σ' : St} {H' : Hp} {s' : Shared}, Inv (X.comp scope cl (ts ++ ys) s2 H2 fp HH.objs.size) ([(s2.heap.objs.size, ({ cls := .type "list", data := .seq its.toArray nn } : Obj))] ++ pinsAt fp s5.heap) σ' H' s' →
          s'.heap.get? s2.heap.objs.size = some { cls := .type "list", data := .seq its.toArray nn } ∧ H' s2.heap.objs.size = none ∧ tn (i + 1) s'.heap ∧ (∀ b ∈ fp, H' b = none) := fun {σ' H' s'} J => by
        have p1 := J.pin (s2.heap.objs.size, ({ cls := .type "list", data := .seq its.toArray nn } : Obj)) (by simp)
        refine ⟨p1.1, p1.2.1, T.keep _ _ _ st5 fun b hb o e => (J.pin (b, o) (List.mem_append_right _ (List.mem_append_right _ (mem_pinsAt hb e)))).1, fun b hb => ?_⟩
        obtain ⟨o, e, d⟩ := T.obj _ _ st5 b hb
        exact (J.pin (b, o) (List.mem_append_right _ (List.mem_append_right _ (mem_pinsAt hb e)))).2.1
      have bare : ∀ {σ' : St} {H' : Hp} {s' : Shared}, Inv (X.comp scope cl (ts ++ ys) s2 H2 fp HH.objs.size) ([(s2.heap.objs.size, ({ cls := .type "list", data := .seq its.toArray nn } : Obj))] ++ pinsAt fp s5.heap) σ' H' s' →
          Inv (X.comp scope cl (ts ++ ys) s2 H2 fp HH.objs.size) [] σ' H' s' := fun J => J.pins_of fun p hp => absurd hp (by simp)
      cases b with
      | false =>
        have q7' : N σ6 xs H7 := by simpa using q7
        obtain ⟨m', hm, w7⟩ := hN _ _ _ q7'
        obtain ⟨a1, a2, a3, a4⟩ := facts I7
        show ∃ m, m < n ∧ _
        exact ⟨m', hm, i + 1, σ6, xs, H7, its, nn, bare I7, rv, hz3, a1, a2, a3, a4, w7⟩
      | true =>
        have q7' : te σ6 H7 fun v H5 => N σ6 (xs ++ [v]) H5 := by
          rw [if_pos rfl] at q7
          exact q7
        show wpAny _ _ (eval elt _) _ _ s7
        refine thn (he _ _ _ _ _ s7 σ6 H7 _ I7 q7') fun xv s8 ⟨v, H8, I8, r8, n8⟩ => ?_
        obtain ⟨m', hm, w8⟩ := hN _ _ _ n8
        obtain ⟨a1, a2, a3, a4⟩ := facts I8
        have hl := rv.length
        refine call_meets F.slot_list_append ⟨_, a1, rfl⟩ F.entry_list_append (F.args_list_append_2 _ _) (PySem.list_append s2.heap.objs.size its.toArray nn xv (by rw [List.size_toArray]; omega)) ⟨a1, ?_⟩
        obtain ⟨n9, q9⟩ : ∃ n9, (s8.heap.update s2.heap.objs.size (Obj.mapSeq fun a => a.push xv)).get? s2.heap.objs.size = some { cls := .type "list", data := .seq (its ++ [xv]).toArray n9 } :=
          ⟨_, by rw [show (its ++ [xv]).toArray = its.toArray.push xv by simp]; exact PySem.IsL.update a1 (fun a => a.push xv)⟩
        have I9 : Inv (X.comp scope cl (ts ++ ys) s2 H2 fp HH.objs.size) [] σ6 H8 { s8 with heap := s8.heap.update s2.heap.objs.size (Obj.mapSeq fun a => a.push xv), toks := s8.toks } :=
          (bare I8).turned (it := s2.heap.objs.size) (fun b o hb e => (Heap.get?_update_other s8.heap _ (Ne.symm hb)).trans e) a2 hDC (.inr (Nat.le_refl _)) (nocell _ (Nat.le_refl _)) fun p hp => absurd (show p ∈ ([] : List (Addr × Obj)) from hp) (by simp)
        refine ⟨m', hm, i + 1, σ6, xs ++ [v], H8, its ++ [xv], n9, I9, rv.append (.cons r8 .nil), ?_, q9, a2, ?_, a4, w8⟩
        · rw [List.length_append, List.length_singleton]; omega
        · exact T.keep _ _ _ a3 fun b hb o e => (Heap.get?_update_other s8.heap _ (Ne.symm (Nat.ne_of_lt (fl b hb)))).trans e
  exact codeAny_compStart_list (loop _ rfl) (T.self _ 0 _ _ _ tn1 (loop _ rfl))

theorem ps_setC {i : Nat} {y : Str} {py spos : Pos} (ts ys : List Str) (js : List Nat) (hN : X.N.Nodup) (hiN : X.N[i]? = some y) (hy : X.env.scope.names.lookup y = some .local) (hc : X.calm = true) (hi : PI X tg iter wi) (hclos : closureFor scope X.env = pure cl) (hsub : subCl X.env cl) (hcap : capt X scope cl ys js)
    (hg : ∀ s H fp C, PG (X.comp scope cl (ts ++ ys) s H fp C) tg g) (ht : ∀ s H fp C, PIf (X.comp scope cl (ts ++ ys) s H fp C) ifs tc) (he : ∀ s H fp C, PE (X.comp scope cl (ts ++ ys) s H fp C) elt te)
    (hkind : scope.kind = .function := by rfl) (hcell : (scope.names.all fun y => y.2 != .cell) = true := by rfl)
    (hnames : (scope.names.all fun y => y.2 != .local || scope.names.lookup y.1 == some .local) = true := by rfl)
    (hhas : ((relabel scope X.env).names.all fun p => (p.2 != .cell && p.2 != .free) || (cl.lookup p.1).isSome) = true := by rfl)
    (hs : ∀ x, foldedSetIterable iter X.env x = pure x := by intro _; rfl)
    (hsw : swapsWith (.ListComp elt [⟨tg, iter, ifs, 0⟩] scope pos) (some (.Name y py)) spos.line X.env = pure true := by rfl) :
    PS X (.Assign [.Name y py] (.ListComp elt [⟨tg, iter, ifs, 0⟩] scope pos) spos) (tAsg (tComp wi ts.length js g tc te) (gName i)) := by
  intro pins s σ H D I h
  rw [exec_Assign_Name_used _ _ _ _ hsw]; refine wpAny_bind (wpAny_standAt (wpAny_bind ?_))
  show wpAny _ _ (do let _ ← comprehension (.ListComp elt [⟨tg, iter, ifs, 0⟩] scope pos) scope X.env _ (newList []) false (eval iter X.env) (some (assign (.Name y py) X.env))) _ _ s
  refine wpAny_bind (wpAny_mono (comp_mid (QV := fun _ s' => SP X pins D .next s') ts ys js hc hi hclos hsub hcap hg ht he hkind hcell hnames hhas hs I h ?_) (fun _ s' q => wpAny_pure (wpAny_pure q)) fun _ _ z => z)
  intro H2 H3 s2 s4 fp C pins' σ' its xs n I2 f2 I4 hC hDC rv hz e4 nD q
  have J : Inv X pins σ (upd H3 s2.heap.objs.size (.lst xs)) { s4 with heap := s4.heap } := comp_end I2 f2 I4 hC (Nat.le_refl _) hDC (Heap.SameBut.refl _ _) rv hz e4 nD
  obtain ⟨m, hm, _⟩ := I4.loc
  have hm' : s4.heap.Ns C m := hm
  have hL : C ≠ X.env.locals := fun z => absurd (Nat.lt_of_lt_of_le I2.lt (z ▸ hC)) (Nat.lt_irrefl _)
  have hn : upd H3 s2.heap.objs.size (.lst xs) C = none := by
    rw [upd_ne (Ne.symm hDC)]; exact I4.free
  have hcl : ∀ x c, X.env.cells.lookup x = some c → c ≠ C := fun x c e z => by
    obtain ⟨v, q⟩ := I2.cell x c e
    exact absurd (Nat.lt_of_lt_of_le q.lt (z ▸ hC)) (Nat.lt_irrefl _)
  have hpin : ∀ p ∈ X.pn ++ pins, p.1 ≠ C := fun p hp z => absurd (Nat.lt_of_lt_of_le (Heap.lt_size (I2.pin p hp).1) (z ▸ hC)) (Nat.lt_irrefl _)
  show wpAny _ _ (assign (.Name y py) X.env _) _ _ _
  refine wpAny_assign_Name (store_ok2 J hN hiN (.inl hy) (v := .ref s2.heap.objs.size) rfl (fun s5 J5 ⟨a, sb, ha⟩ => ?_) (.inr hy))
  have hCa : C ≠ a := by
    rcases ha with z | z
    · rw [z]; exact hL
    · exact Ne.symm (hcl _ _ z)
  refine ⟨m, hm'.sameBut sb hCa, fun h' hs' => ?_⟩
  exact ⟨_, _, J5.turned (h' := h') (t' := s5.toks) (fun b o hb e => hs'.extBut b o hb e) hn hL (.inr (Nat.le_trans I2.sz hC)) hcl hpin, q _ nD⟩
end
end L2

/-! list.insert(0, x), list.remove(n) of ints; a comprehension whose target is a tuple of names -/
namespace L2
open PySem PySem.Spec PyProof.Rows
section
variable {X : Cx}
def rInsert0 : V → List V → Hp → VK → Prop := fun x vs H Q => ∃ l xs y, x = .ref l ∧ vs = [.int 0, y] ∧ H l = some (.lst xs) ∧ xs.length < sizeLine ∧ Q .non (upd H l (.lst (y :: xs)))
def rRemoveI : V → List V → Hp → VK → Prop := fun x vs H Q => ∃ (l : Addr) (ns : List Int) (k : Int), x = .ref l ∧ vs = [.int k] ∧ H l = some (.lst (ns.map V.int)) ∧ k ∈ ns ∧ Q .non (upd H l (.lst ((ns.erase k).map V.int)))
theorem flat_nums : ∀ ns : List Int, (ns.map V.int).all flatV = true
  | [] => rfl
  | n :: ns => by rw [List.map_cons, List.all_cons, flat_nums ns]; rfl
theorem inV_nums (x : Int) : ∀ ns : List Int, inV (.int x) (ns.map V.int) = decide (x ∈ ns)
  | [] => rfl
  | n :: ns => by
    show (eqV (.int n) (.int x) || inV (.int x) (ns.map V.int)) = _
    rw [inV_nums x ns, Bool.eq_iff_iff]
    simp only [eqV, Bool.or_eq_true, beq_iff_eq, decide_eq_true_eq, List.mem_cons]
    exact ⟨fun h => h.imp Eq.symm id, fun h => h.imp Eq.symm id⟩
def rInI (K : PySem.W.Frag) : R2 := fun x y H Q => ∃ (p : Addr) (n : Int) (ns : List Int), x = .int n ∧ y = .ref p ∧ SqL K H p (ns.map V.int) ∧ Q (.bl (decide (n ∈ ns))) H
def rNotInI (K : PySem.W.Frag) : R2 := fun x y H Q => ∃ (p : Addr) (n : Int) (ns : List Int), x = .int n ∧ y = .ref p ∧ SqL K H p (ns.map V.int) ∧ Q (.bl (decide (n ∉ ns))) H
theorem op_inI : OpR X (compareOp .In) (rInI X.K) := by
  intro pins s σ H x y v u Q I rx ry h
  obtain ⟨p, n, ns, rfl, rfl, hS, q⟩ := h
  refine op_in_seq pins s σ H _ _ v u Q I rx ry ⟨p, _, rfl, .inl hS, rfl, flat_nums ns, ?_⟩
  rw [if_neg (by decide), inV_nums]
  exact q
end
/-- a comprehension over a list with any target: the names' cells are the first k -/
def CompM (P : Nat → List V → Hp → Prop) (i k : Nat) (js : List Nat) (σ : St) : St → List V → Hp → Prop := fun σ' ys H => P (i + 1) ys H ∧ ∃ os : St, os.length = k ∧ σ' = os ++ capV js σ
/-- all but the list at l is as it was -/
def But (l : Addr) (H H' : Hp) : Prop := ∀ b o, b ≠ l → H b = some o → H' b = some o
end L2

namespace L2
open PySem PySem.Spec PyProof.Rows
section
variable {prog : Program} {w : World} {A : Around} {E : Value → Shared → Prop} {s : Shared}
end
section
variable {X : Cx}
/-- o[:] = a list -/
def gSlcA (to : TE) : TG := fun v σ H Q => to σ H fun o H1 => ∃ (p b : Addr) (xs ys : List V), o = .ref p ∧ v = .ref b ∧ H1 p = some (.lst xs) ∧ H1 b = some (.lst ys) ∧ p ≠ b ∧ xs.length + ys.length ≤ sizeLine ∧ Q σ (upd H1 p (.lst ys))
end
end L2

/-! an exception of one's own on its way through the frames -/
namespace L2
open PySem
/-- the record of the exception at e: its class, its dict, its newest entry T of the way (e itself where there is none), and where that entry flies -/
def Xc (h : Heap) (e C : Addr) (dx : Option Addr) (T : Addr) (fl : Option Value) : Prop :=
  ∃ oe vs, h.get? e = some oe ∧ oe.cls = .ref C ∧ oe.dict = dx ∧ oe.data = .fields vs ∧ 1 < vs.size ∧
    ((fl = none ∧ T = e ∧ vs[1]? = some .none) ∨ ∃ oT ts v, fl = some v ∧ T ≠ e ∧ vs[1]? = some (.ref T) ∧ h.get? T = some oT ∧ oT.data = .fields ts ∧ ts[3]? = some v)
/-- all but e and T is as it was, the frames at S up to their slots -/
def Mv (S : List Addr) (e T : Addr) (h h' : Heap) : Prop :=
  ∀ b o, h.get? b = some o → b ≠ e → b ≠ T → (b ∉ S → h'.get? b = some o) ∧ ∃ sl, h'.get? b = some { o with slots := sl }
theorem Mv.refl (S : List Addr) (e T : Addr) (h : Heap) : Mv S e T h h := fun b o q _ _ => ⟨fun _ => q, o.slots, q⟩
theorem Mv.ff {S : List Addr} {e T : Addr} {h h' base : Heap} {l : List Env} (m : Mv S e T h h') (ff : h.FunFrames base l) (he : ∀ o, h.get? e = some o → ∃ vs, o.data = .fields vs) (hT : ∀ o, h.get? T = some o → ∃ vs, o.data = .fields vs) : h'.FunFrames base l :=
  ff.of_keeps fun b o q nf => by
    obtain ⟨_, sl, q'⟩ := m b o q (fun z => by subst z; obtain ⟨vs, z⟩ := he o q; exact nf vs z) (fun z => by subst z; obtain ⟨vs, z⟩ := hT o q; exact nf vs z)
    exact ⟨_, q', rfl⟩
theorem Xc.fe {h : Heap} {e C : Addr} {dx : Option Addr} {T : Addr} {fl : Option Value} (x : Xc h e C dx T fl) : ∀ o, h.get? e = some o → ∃ vs, o.data = .fields vs := fun o q => by
  obtain ⟨oe, vs, he, _, _, hd, _⟩ := x
  rw [he] at q; cases q; exact ⟨vs, hd⟩
theorem Xc.fT {h : Heap} {e C : Addr} {dx : Option Addr} {T : Addr} {fl : Option Value} (x : Xc h e C dx T fl) : ∀ o, h.get? T = some o → ∃ vs, o.data = .fields vs := fun o q => by
  have fe := x.fe
  obtain ⟨oe, vs, he, _, _, hd, _, ⟨_, rfl, _⟩ | ⟨oT, ts, v, _, _, _, hT, hd', _⟩⟩ := x
  · exact fe o q
  · rw [hT] at q; cases q; exact ⟨ts, hd'⟩
theorem dict_mapFields (o : Obj) (f : Array Value → Array Value) : (o.mapFields f).dict = o.dict := by
  obtain ⟨c, d, dt, sl⟩ := o
  cases dt <;> rfl
section
variable {M : Model} {A : Around} {E : Value → Shared → Prop} {s : Shared} {base : Heap} {env : Env} {outer : List Env} {L e C : Addr} {dx : Option Addr} {T : Addr} {fl : Option Value} {Q : Unit → Shared → Prop}
/-- a new entry is laid ahead of the others -/
theorem entry_ok {s1 : Shared} {oe : Obj} {vs : Array Value} {head : Value} {had : Bool} (hA : A.frames = some (env :: outer)) (hL : env.frame = some L) (ff : s1.heap.FunFrames base (env :: outer))
    (he : s1.heap.get? e = some oe) (hc : oe.cls = .ref C) (hx : oe.dict = dx) (hd : oe.data = .fields vs) (h1 : 1 < vs.size)
    (hQ : ∀ h' T', s1.heap.get? T' = none → s1.heap.objs.size ≤ T' → Xc h' e C dx T' (some (rawInt L)) → Mv ((env :: outer).filterMap (·.frame)) e e s1.heap h' → Q () { s1 with heap := h' }) :
    wpAny M A (do let a ← frameOf env; let pl ← entryPlaceOf L had; let b ← EntryCells.newEntry head a .none (rawInt L) .none pl; setField (.ref e) 1 b) Q E s1 := by
  have nfr : e ∉ (env :: outer).filterMap (·.frame) := fun z => by
    obtain ⟨_, o, q, nf⟩ := ff.mem z
    rw [he] at q; cases q; exact nf vs hd
  refine wpAny_bind (wpAny_frameOf_fun hA ff hL fun g so => wpAny_bind (wpAny_entryPlaceOf fun pl isp => ?_))
  unfold EntryCells.newEntry newFields
  refine wpAny_bind (wpAny_newObj_type ?_ (isp.sizeOk5 _ _ _ _ _))
  have e1 : g.get? e = some oe := (so.2.1 e nfr).trans he
  generalize hob : ({ cls := .type "traceback", dict := none, data := .fields ([head, .ref L, .none, rawInt L, .none] ++ (if pl.isEmpty then List.replicate 6 Value.none else pl)).toArray } : Obj) = ob
  have e2 := Heap.get?_push_of_some ob e1
  refine wpAny_setField e2 hd h1 ?_
  have nT : g.objs.size ≠ e := Nat.ne_of_gt (Heap.lt_size e1)
  have d3 := Obj.data_mapFields hd (·.setIfInBounds 1 (Value.ref g.objs.size))
  have e3 := Heap.get?_update_self (Obj.mapFields (·.setIfInBounds 1 (Value.ref g.objs.size))) e2 (Obj.isFreed_of_fields d3)
  have t3 : ((g.push ob).update e (Obj.mapFields (·.setIfInBounds 1 (Value.ref g.objs.size)))).get? g.objs.size = some ob :=
    (Heap.get?_update_other _ _ (Ne.symm nT)).trans (Heap.get?_push_size g (by rw [← hob]; rfl))
  refine hQ _ g.objs.size (Heap.get?_none_of_le (by rw [so.1]; exact Nat.le_refl _)) (by rw [so.1]; exact Nat.le_refl _) ⟨_, _, e3, (Obj.cls_mapFields _ _).trans hc, (dict_mapFields _ _).trans hx, d3, by simpa using h1, .inr ⟨ob, _, rawInt L, rfl, nT, by simp [h1], t3, by rw [← hob], ?_⟩⟩ fun b o q ne _ => ?_
  · first
      | (simp; done)
      | (rcases isp with rfl | ⟨_, _, _, _, _, _, _, rfl⟩ <;> simp)
  · have keep : ∀ u, g.get? b = some u → ((g.push ob).update e (Obj.mapFields (·.setIfInBounds 1 (Value.ref g.objs.size)))).get? b = some u := fun u z => by
      rw [Heap.get?_update_other _ _ (Ne.symm ne)]
      exact Heap.get?_push_of_some _ z
    exact ⟨fun nb => keep _ ((so.2.1 b nb).trans q), let ⟨sl, z⟩ := so.2.2 b o q; ⟨sl, keep _ z⟩⟩
theorem note_ok (hA : A.frames = some (env :: outer)) (hL : env.frame = some L) (ff : s.heap.FunFrames base (env :: outer)) (x : Xc s.heap e C dx T fl) (hf : fl = none ∨ fl = some .none ∨ fl = some (rawInt L))
    (hQ : ∀ h' T', (T' = T ∨ s.heap.objs.size ≤ T') → Xc h' e C dx T' (some (rawInt L)) → Mv ((env :: outer).filterMap (·.frame)) e T s.heap h' → Q () { s with heap := h' }) :
    wpAny M A (noteFrame (.ref e) env) Q E s := by
  have x0 := x
  obtain ⟨oe, vs, he, hc, hx, hd, h1, ht⟩ := x
  unfold noteFrame
  simp only [hL]
  rcases ht with ⟨rfl, rfl, hv⟩ | ⟨oT, ts, v, rfl, nT, hv, hT, hdT, h3⟩
  · refine wpAny_bind (wpAny_field he hd hv ?_)
    rw [if_neg (by decide)]
    exact entry_ok hA hL ff he hc hx hd h1 fun h' T' _ q2 q3 q4 => hQ h' T' (.inr q2) q3 q4
  · refine wpAny_bind (wpAny_field he hd hv ?_)
    rw [if_pos (show (Value.ref T != Value.none) = true from by simp)]
    refine wpAny_bind (wpAny_field hT hdT h3 ?_)
    by_cases hvL : v = rawInt L
    · subst hvL
      rw [if_pos (show (rawInt L == rawInt L) = true from by simp)]
      exact wpAny_pure (hQ s.heap T (.inl rfl) x0 (Mv.refl _ _ _ _))
    · have hv0 : v = .none := by
        rcases hf with z | z | z
        · cases z
        · exact Option.some.inj z
        · exact absurd (Option.some.inj z) hvL
      subst hv0
      rw [if_neg (show ¬ ((Value.none == rawInt L) = true) from by simp [rawInt])]
      refine wpAny_bind (wpAny_setField hT hdT (Array.getElem?_eq_some_iff.mp h3).1 ?_)
      have oth : ∀ b, b ≠ T → (s.heap.update T (Obj.mapFields (·.setIfInBounds 3 Value.none))).get? b = s.heap.get? b := fun b hb => Heap.get?_update_other _ _ (Ne.symm hb)
      have mv : Mv ((env :: outer).filterMap (·.frame)) e T s.heap (s.heap.update T (Obj.mapFields (·.setIfInBounds 3 Value.none))) := fun b o q _ nb => ⟨fun _ => (oth b nb).trans q, o.slots, (oth b nb).trans q⟩
      refine entry_ok (s1 := { s with heap := s.heap.update T (Obj.mapFields (·.setIfInBounds 3 Value.none)) }) hA hL (mv.ff ff x0.fe x0.fT) ((oth e (Ne.symm nT)).trans he) hc hx hd h1 fun h' T' q1 q2 q3 q4 => hQ h' T' (.inr ?_) q3 fun b o q ne nb => ?_
      · have : (s.heap.update T (Obj.mapFields (·.setIfInBounds 3 Value.none))).objs.size = s.heap.objs.size := Heap.size_after_update ..
        rw [← this]; exact q2
      · exact q4 b o ((oth b nb).trans q) ne ne
/-- the newest entry flies at fr -/
theorem flight_ok {v : Value} {fr : Option Addr} (x : Xc s.heap e C dx T (some v))
    (hQ : ∀ h', Xc h' e C dx T (some (fr.elim .none fun f => rawInt f)) → Mv [] e T s.heap h' → Q () { s with heap := h' }) : wpAny M A (setFlight (.ref e) fr) Q E s := by
  obtain ⟨oe, vs, he, hc, hx, hd, h1, ⟨z, _⟩ | ⟨oT, ts, v', _, nT, hv, hT, hdT, h3⟩⟩ := x
  · cases z
  have hsz := (Array.getElem?_eq_some_iff.mp h3).1
  unfold setFlight
  refine wpAny_bind (wpAny_field he hd hv ?_)
  rw [if_pos (show (Value.ref T != Value.none) = true from by simp)]
  refine wpAny_setField hT hdT hsz (hQ _ ?_ fun b o q _ nb => ?_)
  · exact ⟨oe, vs, (Heap.get?_update_other _ _ nT).trans he, hc, hx, hd, h1, .inr ⟨_, _, _, rfl, nT, hv, Heap.get?_update_self _ hT (Obj.isFreed_of_fields (Obj.data_mapFields hdT _)), Obj.data_mapFields hdT _, by simp [hsz]⟩⟩
  · have := (Heap.get?_update_other s.heap (Obj.mapFields (·.setIfInBounds 3 (fr.elim Value.none fun f => rawInt f))) (Ne.symm nb)).trans q
    exact ⟨fun _ => this, o.slots, this⟩
end
end L2

/-! an exception of one's own class is made: __new__ is ValueError's, __init__ its own -/
namespace L2
open PySem
/-- what the tail of the class's line must have -/
structure XTail (bm : List Value) : Prop where
  v : bm.contains (.type "ValueError") = true
  b : bm.contains (.type "BaseException") = true
  a : bm.contains (.type "AttributeError") = false
  n : bm.contains (.type "NameError") = false
section
variable {prog : Program} {w : World} {M : Model} {A : Around} {E : Value → Shared → Prop} {h : Heap} {g : Array GenState} {d : Drawn} {t : Nat} {os : OsState}
  {nm qn : Str} {C N : Addr} {bs bm : List Value} {hdct : Bool} {sn : List Str} {sub : List Value} {ab : Bool} {col : Option Bool} {dd : Option Addr} {k0 k1 k2 k3 k5 : Option Value}
abbrev xcls (nm qn : Str) (C N : Addr) (bs bm : List Value) (hdct : Bool) (sn : List Str) (sub : List Value) (ab : Bool) (col : Option Bool) (dd : Option Addr) (k0 k1 k2 k3 k5 : Option Value) : Obj :=
  excClassObj nm qn C N bs bm hdct sn sub ab col dd k0 k1 k2 k3 k5 "ValueError.__new__"
theorem XTail.cv (x : XTail bm) : (Value.ref C :: bm).contains (.type "ValueError") = true := by rw [List.contains_cons, x.v, Bool.or_true]
theorem XTail.cb (x : XTail bm) : (Value.ref C :: bm).contains (.type "BaseException") = true := by rw [List.contains_cons, x.b, Bool.or_true]
theorem XTail.ca (x : XTail bm) : (Value.ref C :: bm).contains (.type "AttributeError") = false := by rw [List.contains_cons, x.a]; rfl
theorem XTail.cn (x : XTail bm) : (Value.ref C :: bm).contains (.type "NameError") = false := by rw [List.contains_cons, x.n]; rfl
theorem xnew_check (x : XTail bm) {rest : List Value} {Q : Unit → Shared → Prop} (hC : h.get? C = some (xcls nm qn C N bs bm hdct sn sub ab col dd k0 k1 k2 k3 k5)) (hq : Q () ⟨h, g, d, t, os⟩) :
    wpAny M A (checkBuiltinCall "ValueError.__new__" ⟨.ref C :: rest, []⟩) Q E ⟨h, g, d, t, os⟩ := by
  have c1 := x.cv (C := C)
  have B := PySem.F.excBase_ValueError
  have c2 := B.noStar
  simp only [checkBuiltinCall, B.newSplit, B.newKind, B.newRow]
  repeat (first
    | refine wpAny_loadPart_at hC ?_
    | (refine wpAny_isSubtype_exc hC ?_; rw [c1])
    | refine wpAny_madeBy_exc hC ?_
    | refine wpAny_staticBase_exc hC ?_
    | simp only [bne_self_eq_false, if_false, Bool.false_eq_true]
    | wp_step)
  exact hq
theorem xnew_run (x : XTail bm) {rest : List Value} {R : Result → Shared → Prop} (hC : h.get? C = some (xcls nm qn C N bs bm hdct sn sub ab col dd k0 k1 k2 k3 k5)) (hz : rest.length ≤ sizeLine)
    (hq : R (.ok (.ret (.ref (h.objs.size + 1)))) ⟨(h.push { cls := .type "tuple", data := .seq rest.toArray }).push { cls := .ref C, data := .fields #[.ref h.objs.size, .none, .none, .none, .bool false, .none] }, g, d, t, os⟩) :
    codeAny (model prog w) A (.builtin "ValueError.__new__" ⟨.ref C :: rest, []⟩) R ⟨h, g, d, t, os⟩ := by
  have B := PySem.F.excBase_ValueError
  have c0 := B.ends
  have c1 := x.cv (C := C)
  have c2 := x.ca (C := C)
  have c3 := x.cn (C := C)
  refine codeAny_builtinAt B.entry ?_
  unfold Builtin.«BaseException.__new__»
  refine wpAt_bind ?_
  show wpAt _ _ _ (stack >>= _) _ _ _
  refine wpAt_bind (wpAt_stack fun p below => wpAt_of_wpAny ?_)
  wp_walk
  refine wpAt_of_wpAny ?_
  rw [B.owner]
  repeat (first
    | with_reducible refine wpAny_loadPart_at hC ?_
    | with_reducible refine wpAny_madeHere_exc B.canon hC ?_
    | (with_reducible refine wpAny_isSubtype_exc hC ?_; first | rw [c1] | rw [c2] | rw [c3])
    | wp_step)
  show R _ _
  rw [Heap.size_push]
  exact hq
theorem xtype_call (x : XTail bm) {mN : Str → Option Value} {rest : List Value} {fI : Addr} {oI : Obj} {Q : Fin → Shared → Prop} (hC : h.get? C = some (xcls nm qn C N bs bm hdct sn sub ab col dd k0 k1 k2 k3 k5))
    (hn : h.Ns N mN) (hi : mN "__init__" = some (.ref fI)) (hf : h.get? fI = some oI) (hfc : oI.cls = .type "function") (hz : rest.length ≤ sizeLine)
    (hq : ∀ h' e, Heap.MadeExcOf h h' e (.ref C) rest → h.objs.size ≤ e → wpAny (model prog w) A (call (.ref fI) (.ref e :: rest)) (fun r s' => r = .none ∧ Q (.done (.ret (.ref e))) s') E ⟨h', g, d, t, os⟩) :
    wpAny (model prog w) A (Builtin.«type.__call__» ⟨.ref C :: rest, []⟩) Q E ⟨h, g, d, t, os⟩ := by
  repeat (first
    | with_reducible refine wpAny_madeBy_exc hC ?_
    | with_reducible refine wpAny_loadPart_at hC ?_
    | wp_step)
  have B := PySem.F.excBase_ValueError
  refine codeAny_call_builtin_code (Code.quiet_builtin _ B.quiet) (xnew_check x hC (xnew_run x hC hz ?_))
  show wpAny _ _ _ _ _ _
  generalize htu : ({ cls := .type "tuple", data := .seq rest.toArray } : Obj) = otu
  generalize hex : ({ cls := .ref C, data := .fields #[.ref h.objs.size, .none, .none, .none, .bool false, .none] } : Obj) = oex
  have kp : ∀ b o, h.get? b = some o → ((h.push otu).push oex).get? b = some o := fun b o z => Heap.get?_push_of_some _ (Heap.get?_push_of_some _ z)
  have ge : ((h.push otu).push oex).get? (h.objs.size + 1) = some oex := by
    have := Heap.get?_push_size (h.push otu) (o := oex) (by rw [← hex]; rfl)
    rwa [Heap.size_push] at this
  have gt : ((h.push otu).push oex).get? h.objs.size = some otu := Heap.get?_push_of_some _ (Heap.get?_push_size h (by rw [← htu]; rfl))
  have oc : oex.cls = .ref C := by rw [← hex]
  have hC1 := kp _ _ hC
  have hn1 : ((h.push otu).push oex).Ns N mN := let ⟨o, es, ep, z, r⟩ := hn; ⟨o, es, ep, kp _ _ z, r⟩
  have c0 : (Value.ref C :: bm).contains (.ref C) = true := by simp
  unfold isInstance
  repeat (first
    | (with_reducible refine wpAny_loadPart_at ge ?_; rw [oc])
    | (with_reducible refine wpAny_isSubtype_exc hC1 ?_; rw [c0])
    | wp_step)
  show wpAny _ _ (typeLookup (.ref C) _) _ _ _
  rw [typeLookup_eq]
  refine wpAny_bind (wpAny_mroOf_exc hC1 ?_)
  rw [lookupAlong_cons]
  refine wpAny_bind (wpAny_classOwn_exc hC1 hn1 ?_)
  rw [hi]
  refine wpAny_pure (wpAny_holding (wpAny_bind ?_))
  unfold bindSpecial
  refine wpAny_bind (wpAny_typeOf (T := "function") ⟨_, kp _ _ hf, hfc⟩ ?_)
  rw [if_pos (by decide)]
  refine wpAny_pure (wpAny_bind (wpAny_mono (hq _ (h.objs.size + 1) ⟨kp, Heap.get?_none_of_le (Nat.le_succ _), h.objs.size, by rw [ge, ← hex], Heap.get?_none_of_le (Nat.le_refl _), by rw [gt, ← htu]⟩ (Nat.le_succ _)) (fun r s' z => ?_) fun _ _ y => y))
  obtain ⟨rfl, z⟩ := z
  wp_walk
  exact z
theorem xmake (x : XTail bm) {mN : Str → Option Value} {rest : List Value} {fI : Addr} {oI : Obj} {Q : Value → Shared → Prop} (hC : h.get? C = some (xcls nm qn C N bs bm hdct sn sub ab col dd k0 k1 k2 k3 k5))
    (hn : h.Ns N mN) (hi : mN "__init__" = some (.ref fI)) (hf : h.get? fI = some oI) (hfc : oI.cls = .type "function") (hz : rest.length ≤ sizeLine)
    (hq : ∀ h' e, Heap.MadeExcOf h h' e (.ref C) rest → h.objs.size ≤ e → wpAny (model prog w) (A.under (.builtin "type.__call__" ⟨.ref C :: rest, []⟩)) (call (.ref fI) (.ref e :: rest)) (fun r s' => r = .none ∧ Q (.ref e) s') E ⟨h', g, d, t, os⟩) :
    wpAny (model prog w) A (call (.ref C) rest) Q E ⟨h, g, d, t, os⟩ := by
  have b1 := tc_lookup
  have b2 := tc_bind (.ref C)
  have b3 : (⟨h, g, d, t, os⟩ : Shared).TypeIs (.ref C) "type" := ⟨_, hC, rfl⟩
  refine wpAny_call (codeAny_of_tree ?_)
  show wpAny _ _ (callAny (.ref C) _) _ _ _
  repeat (any_goals (first | assumption | with_reducible refine wpAny_loadPart_at hC ?_ | wp_step))
  refine ⟨rfl, codeAny_call_builtin_at (Code.quiet_builtin _ (by decide +kernel)) entry_typeCall (wpAny_check_type_call_sub hC (xtype_call x hC hn hi hf hfc hz hq))⟩
theorem xraise {s : Shared} {env : Env} {x : Sem Value} {Q : Flow → Shared → Prop} (hh : A.handled = none)
    (hx : wpAny M A x (fun v s1 => ∃ (e C N : Addr) (nm qn : Str) (bs bm : List Value) (hdct : Bool) (sn : List Str) (sub : List Value) (ab : Bool) (col : Option Bool) (dd : Option Addr) (k0 k1 k2 k3 k5 : Option Value) (dx : Option Addr) (vs : Array Value) (sl : Array (Option Value)),
      v = .ref e ∧ XTail bm ∧ s1.heap.get? C = some (xcls nm qn C N bs bm hdct sn sub ab col dd k0 k1 k2 k3 k5) ∧ s1.heap.get? e = some ⟨.ref C, dx, .fields vs, sl⟩ ∧ vs[1]? = some .none ∧ E (.ref e) s1) E s) :
    wpAny M A (raiseStmt env (some x) none) Q E s := by
  unfold raiseStmt
  refine wpAny_bind (wpAny_mono hx (fun v s1 z => ?_) fun _ _ y => y)
  obtain ⟨e, C, N, nm, qn, bs, bm, hdct, sn, sub, ab, col, dd, k0, k1, k2, k3, k5, dx, vs, sl, rfl, xt, hC, he, hv, hE⟩ := z
  have c1 := xt.cb (C := C)
  obtain ⟨hp, g, d, tk, os⟩ := s1
  repeat (first
    | with_reducible refine wpAny_loadPart_at he ?_
    | with_reducible refine wpAny_loadPart_at hC ?_
    | with_reducible refine wpAny_field he rfl hv ?_
    | (with_reducible refine wpAny_isSubtype_exc hC ?_; rw [c1])
    | wp_step)
  exact wpAny_raiseNew_none hh hE
/-- raise X(..): the statement -/
theorem xRaise {s : Shared} {env : Env} {x : Expr} {pos : Pos} {Q : Flow → Shared → Prop} (hh : A.handled = none)
    (hx : wpAny M A (eval x env) (fun v s1 => ∃ (e C N : Addr) (nm qn : Str) (bs bm : List Value) (hdct : Bool) (sn : List Str) (sub : List Value) (ab : Bool) (col : Option Bool) (dd : Option Addr) (k0 k1 k2 k3 k5 : Option Value) (dx : Option Addr) (vs : Array Value) (sl : Array (Option Value)),
      v = .ref e ∧ XTail bm ∧ s1.heap.get? C = some (xcls nm qn C N bs bm hdct sn sub ab col dd k0 k1 k2 k3 k5) ∧ s1.heap.get? e = some ⟨.ref C, dx, .fields vs, sl⟩ ∧ vs[1]? = some .none ∧ E (.ref e) s1) E s) :
    wpAny M A (exec (.Raise (some x) none pos) env) Q E s := by
  rw [arm_exec_Raise]
  have key := xraise (Q := Q) (env := env) (x := do let v ← eval x env; standAt pos; pure v) hh (wpAny_bind (wpAny_mono hx (fun v s1 z => wpAny_bind (wpAny_standAt (wpAny_pure z))) fun _ _ y => y))
  first
    | exact wpAny_bind (wpAny_standAt key)
    | (simp only [evalOpt, Option.map]; exact wpAny_bind (wpAny_standAt key))
/-- the base's __init__: the exception's args -/
theorem xinit_check (x : XTail bm) {e : Addr} {oe : Obj} {rest : List Value} {Q : Unit → Shared → Prop} (hC : h.get? C = some (xcls nm qn C N bs bm hdct sn sub ab col dd k0 k1 k2 k3 k5)) (he : h.get? e = some oe) (oc : oe.cls = .ref C)
    (hq : Q () ⟨h, g, d, t, os⟩) : wpAny M A (checkBuiltinCall "ValueError.__init__" ⟨.ref e :: rest, []⟩) Q E ⟨h, g, d, t, os⟩ := by
  have c1 := x.cv (C := C)
  have B := PySem.F.excBase_ValueError
  have c2 := B.noStar
  simp only [checkBuiltinCall, B.initSplit, B.initKind, B.initRow]
  repeat (first
    | with_reducible refine wpAny_loadPart_at hC ?_
    | (with_reducible refine wpAny_loadPart_at he ?_; rw [oc])
    | (with_reducible refine wpAny_isSubtype_exc hC ?_; rw [c1])
    | wp_step)
  refine wpAny_onRaise ?_
  rw [show ∀ (a b : String) (n : Nat), Bind.check ⟨.positional, "*", "ValueError", .self, [⟨"args", .varPos, false⟩]⟩ a b n (List.map (fun y => y.fst) ({ pos := Value.ref e :: rest } : Args).kw) = pure () from fun a b n => check_star_args _ _ _ _ _ _]
  exact wpAny_pure hq
theorem xinit (x : XTail bm) {e : Addr} {oe : Obj} {vs : Array Value} {v : Value} {Q : Value → Shared → Prop} (hC : h.get? C = some (xcls nm qn C N bs bm hdct sn sub ab col dd k0 k1 k2 k3 k5)) (he : h.get? e = some oe) (oc : oe.cls = .ref C)
    (hd : oe.data = .fields vs) (h1 : 1 < vs.size)
    (hq : ∀ h' oe' vs', (∀ b o, b ≠ e → h.get? b = some o → h'.get? b = some o) → h'.get? e = some oe' → oe'.cls = oe.cls → oe'.dict = oe.dict → oe'.data = .fields vs' → vs'.size = vs.size → vs'[1]? = vs[1]? → Q .none ⟨h', g, d, t, os⟩) :
    wpAny (model prog w) A (call (.builtin "ValueError.__init__") [.ref e, v]) Q E ⟨h, g, d, t, os⟩ := by
  have B := PySem.F.excBase_ValueError
  refine wpAny_call (codeAny_call_builtin B.init.plain B.initEntry (xinit_check x hC he oc ?_))
  obtain ⟨c, dx, dt, sl⟩ := oe
  cases hd
  wp_walk
  have h0 : vs[0]? = some vs[0] := by simp
  rw [h0]
  refine wpAny_pure (wpAny_bind (wpAny_setField (Heap.get?_push_of_some _ he) rfl (by omega) ?_))
  have e2 := Heap.get?_push_of_some { cls := Value.type "tuple", data := Data.seq #[v] } he
  have fin := hq _ _ _ (fun b o nb z => (Heap.get?_update_other (h.push { cls := Value.type "tuple", data := Data.seq #[v] }) (Obj.mapFields (·.setIfInBounds 0 (Value.ref h.objs.size))) (Ne.symm nb)).trans (Heap.get?_push_of_some _ z))
    (Heap.get?_update_self (Obj.mapFields (·.setIfInBounds 0 (Value.ref h.objs.size))) e2 rfl) rfl rfl rfl (by simp) (by simp)
  generalize vs[0] = a0
  cases a0 <;> first
    | exact wpAny_pure (wpAny_pure fin)
    | exact wpAny_letGo (wpAny_pure fin)
/-- which clause takes it -/
theorem xmatch {e Cn : Addr} {oe : Obj} {b : Bool} {Q : Bool → Shared → Prop} {nm1 q1 nm2 q2 : Str} {N1 N2 : Addr} {bs1 bm1 bs2 bm2 : List Value} {hd1 hd2 : Bool} {sn1 sn2 : List Str} {sub1 sub2 : List Value} {ab1 ab2 : Bool} {co1 co2 : Option Bool} {dd1 dd2 : Option Addr}
    {j0 j1 j2 j3 j5 l0 l1 l2 l3 l5 : Option Value} {ni1 ni2 : String} (hC : h.get? C = some (excClassObj nm1 q1 C N1 bs1 bm1 hd1 sn1 sub1 ab1 co1 dd1 j0 j1 j2 j3 j5 ni1)) (hD : h.get? Cn = some (excClassObj nm2 q2 Cn N2 bs2 bm2 hd2 sn2 sub2 ab2 co2 dd2 l0 l1 l2 l3 l5 ni2))
    (hb : bm2.contains (.type "BaseException") = true) (he : h.get? e = some oe) (oc : oe.cls = .ref C) (hs : (Value.ref C :: bm1).contains (.ref Cn) = b) (hq : Q b ⟨h, g, d, t, os⟩) : wpAny M A (excMatches (.ref e) (.ref Cn)) Q E ⟨h, g, d, t, os⟩ := by
  have c1 : (Value.ref Cn :: bm2).contains (.type "BaseException") = true := by rw [List.contains_cons, hb, Bool.or_true]
  have c2 := tc_notTuple
  unfold excMatches
  repeat (first
    | with_reducible refine wpAny_loadPart_at hD ?_
    | (with_reducible refine wpAny_loadPart_at he ?_; rw [oc])
    | (with_reducible refine wpAny_isSubtype_exc hD ?_; rw [c1])
    | (with_reducible refine wpAny_isSubtype_exc hC ?_; rw [hs])
    | wp_step)
  cases b <;> (wp_walk; exact hq)
end
end L2

/-! attributes of exceptions of one's own: stored by their __init__, read in a handler -/
namespace L2
open PySem PyProof.Rows
abbrev VB : List Value := [.type "ValueError", .type "Exception", .type "BaseException", .type "object"]
/-- an exception class of the text: its base R is a class of the text under ValueError; fI its own __init__ -/
structure ExCl (K : PySem.W.Frag) (C R fI : Addr) : Prop where
  obj : ∃ (nm qn : Str) (N : Addr) (bs : List Value) (sn : List Str) (sub : List Value) (ab : Bool) (col : Option Bool) (dd : Option Addr) (k0 k1 k2 k3 k5 : Option Value),
    K.lookup C = some (xcls nm qn C N bs (.ref R :: VB) true sn sub ab col dd k0 k1 k2 k3 k5) ∧ PySem.W.nsOkIn K N = true ∧ PySem.W.nsIn K N "__init__" = some (some (.ref fI))
  fn : PySem.W.isFn K (.ref fI) = true
  kp : PySem.W.keepIn K (.ref C) = true
  sa : PySem.W.findIn K (.ref C) "__setattr__" = some (some (.builtin "object.__setattr__"))
  ga : PySem.W.findIn K (.ref C) "__getattribute__" = some (some (.builtin "BaseException.__getattribute__"))
  gh : PySem.W.findIn K (.ref C) "__getattr__" = some none
theorem xtail (R : Addr) : XTail (.ref R :: VB) := ⟨rfl, rfl, rfl, rfl⟩
theorem ns_some_of {K : PySem.W.Frag} {h : Heap} {N : Addr} {m : Str → Option Value} {n : Str} {v : Value} (X : K.In h) (G : h.Ns N m) (e : PySem.W.nsIn K N n = some (some v)) : m n = some v := by
  obtain ⟨o, es, ep, ho, hd, _, hf⟩ := G
  unfold PySem.W.nsIn at e
  cases q : K.lookup N with
  | none => rw [q] at e; cases e
  | some o' =>
    have z := X _ _ q
    rw [ho] at z; cases z
    rw [q] at e
    obtain ⟨c, d, dt, sl⟩ := o
    cases hd
    rw [← hf]
    unfold nsFind findBy
    rw [← Array.find?_toList]
    dsimp only at e
    cases q2 : es.toList.find? (fun x => x.key.isStr n) with
    | some y =>
      rw [q2] at e
      exact congrArg (fun z : Option (Option Value) => z.getD none) e
    | none =>
      rw [q2] at e
      dsimp only at e
      split at e <;> cases e
theorem ExCl.cls {K : PySem.W.Frag} {C R fI : Addr} (c : ExCl K C R fI) {h : Heap} (X : K.In h) :
    ∃ (nm qn : Str) (N : Addr) (bs : List Value) (sn : List Str) (sub : List Value) (ab : Bool) (col : Option Bool) (dd : Option Addr) (k0 k1 k2 k3 k5 : Option Value) (mN : Str → Option Value) (oI : Obj),
      h.get? C = some (xcls nm qn C N bs (.ref R :: VB) true sn sub ab col dd k0 k1 k2 k3 k5) ∧ h.Ns N mN ∧ mN "__init__" = some (.ref fI) ∧ h.get? fI = some oI ∧ oI.cls = .type "function" := by
  obtain ⟨nm, qn, N, bs, sn, sub, ab, col, dd, k0, k1, k2, k3, k5, lk, nsok, nsi⟩ := c.obj
  have hN := Heap.Ns.of_isNs (PySem.W.isNs_of_in X nsok)
  have hf := c.fn
  unfold PySem.W.isFn PySem.W.typeIn at hf
  have hf' := beq_iff_eq.mp hf
  obtain ⟨oI, q, r⟩ := Option.map_eq_some_iff.mp hf'
  exact ⟨nm, qn, N, bs, sn, sub, ab, col, dd, k0, k1, k2, k3, k5, _, oI, X _ _ lk, hN, ns_some_of X hN nsi, X _ _ q, r⟩
section
variable {prog : Program} {w : World} {A : Around} {E : Value → Shared → Prop} {s : Shared} {K : PySem.W.Frag} {e C R fI : Addr} {oe : Obj} {vs : Array Value} {name : Str} {v : Value}
theorem inst_of {od : Option Obj} (he : s.heap.get? e = some oe) (oc : oe.cls = .ref C) (hd : oe.data = .fields vs) (hx : match oe.dict, od with | some dx, some o => s.heap.get? dx = some o | none, none => True | _, _ => False) : PySem.W.InstAt s.heap e oe C od :=
  ⟨he, oc, by unfold PySem.W.notCls; rw [hd], hx⟩
theorem ExCl.clsIn (c : ExCl K C R fI) : ∃ cd, PySem.W.clsIn K C = some cd ∧ cd.mro = .ref C :: .ref R :: VB ∧ cd.hasDict = true := by
  obtain ⟨nm, qn, N, bs, sn, sub, ab, col, dd, k0, k1, k2, k3, k5, lk, _⟩ := c.obj
  exact ⟨_, by unfold PySem.W.clsIn; rw [lk], rfl, rfl⟩
/-- the store itself is reached -/
theorem xset_open {od : Option Obj} {Q : Unit → Shared → Prop} (X : K.In s.heap) (c : ExCl K C R fI) (I : PySem.W.InstAt s.heap e oe C od) (hf : PySem.W.findIn K (.ref C) name = some none)
    (h : wpAny (model prog w) A.in1 (Builtin.ObjectAttr.storeInOwnDict (.ref e) (.ref C) (.str name s.toks) name v false)
      (fun fin s' => match fin with | .done (.ret _) => Q () s' | _ => False) (fun _ _ => False) { s with toks := s.toks + 1 }) :
    wpAny (model prog w) A (setAttr (.ref e) name v) Q E s := by
  have SF := PySem.F.store_ValueError
  obtain ⟨cd, hcd, hm, hh⟩ := c.clsIn
  refine PySem.W.set_plain X I c.sa ?_
  have mro : PySem.W.Looks (model prog w) s.heap (mroOf (.ref C)) (.ref C :: .ref R :: VB) := hm ▸ (PySem.W.looks_clsIn X hcd).andThen .now
  have isO : PySem.W.Looks (model prog w) s.heap (isInstance (.ref e) (.type "object")) true := I.type.andThen (PySem.W.looks_mroIn X (by
    unfold PySem.W.mroIn
    rw [hcd, Option.bind_some, hm, if_neg (by intro z; cases z)]
    rfl))
  refine codeAny_call_builtin SF.slot.plain SF.entry (@PySem.W.check_slot (model prog w) _ _ { s with toks := s.toks + 1 } "object.__setattr__" "object" "__setattr__" (.ref e) [.str name s.toks, v] [] _ SF.kind SF.split isO (SF.args (.ref e) (.str name s.toks) v) ?_)
  rw [PySem.W.osa_eq, refuse_eq]
  refine wpAny_bind (wpAny_bind (PySem.W.Looks.here (s := { s with toks := s.toks + 1 }) I.type (wpAny_bind (PySem.W.Looks.here (s := { s with toks := s.toks + 1 }) mro ?_))))
  rw [refuseLoop_ref, refuseLoop_ref, SF.passes]
  refine wpAny_pure (wpAny_bind (PySem.W.Looks.here (s := { s with toks := s.toks + 1 }) I.type (wpAny_bind (PySem.W.Looks.here (s := { s with toks := s.toks + 1 }) (PySem.W.looks_findIn X hf) (wpAny_bind (wpAny_pure ?_))))))
  refine wpAny_mono h (fun fin s' z => ?_) fun _ _ z => z.elim
  rcases fin with (_ | _ | _ | _) | _ <;> first | exact z | exact z.elim
/-- the first store: a dict is made -/
theorem xset_first {Q : Unit → Shared → Prop} (X : K.In s.heap) (c : ExCl K C R fI) (he : s.heap.get? e = some oe) (oc : oe.cls = .ref C) (hd : oe.data = .fields vs) (hx : oe.dict = none) (hf : PySem.W.findIn K (.ref C) name = some none)
    (h : ∀ h' dx tk, s.heap.objs.size ≤ dx → dx ≠ e → h'.get? e = some { oe with dict := some dx } → h'.Ns1 dx (fun y => if y = name then some v else none) → (∀ b o, b ≠ e → s.heap.get? b = some o → h'.get? b = some o) → Q () { s with heap := h', toks := tk }) :
    wpAny (model prog w) A (setAttr (.ref e) name v) Q E s := by
  obtain ⟨cd, hcd, hm, hh⟩ := c.clsIn
  refine xset_open X c (inst_of (od := none) he oc hd (by rw [hx]; trivial)) hf ?_
  obtain ⟨cc, dd, dt, sl⟩ := oe
  cases oc; cases hd; cases hx
  have ne : s.heap.objs.size ≠ e := Nat.ne_of_gt (Heap.lt_size he)
  unfold Builtin.ObjectAttr.storeInOwnDict Builtin.ObjectAttr.ownDictForStores instanceDict
  refine wpAny_bind (wpAny_pure ?_)
  refine wpAny_bind (wpAny_bind (wpAny_loadPart he (wpAny_bind (PySem.W.Looks.here (s := { s with toks := s.toks + 1 }) (PySem.W.looks_clsIn X hcd) ?_))))
  rw [hh]
  refine wpAny_bind (wpAny_alloc ?_)
  have he1 := Heap.get?_push_of_some ({ cls := .type "dict", data := .dict #[] } : Obj) he
  refine wpAny_bind (wpAny_update he1 ?_)
  refine wpAny_pure (a := some s.heap.objs.size) ?_
  have hg : ((s.heap.push ({ cls := .type "dict", data := .dict #[] } : Obj)).update e fun o => { o with dict := some s.heap.objs.size }).get? s.heap.objs.size = some ({ cls := .type "dict", data := .dict #[] } : Obj) := (Heap.get?_update_ne _ _ _ _ ne).trans (Heap.get?_push_at rfl rfl)
  have hE : ((s.heap.push ({ cls := .type "dict", data := .dict #[] } : Obj)).update e fun o => { o with dict := some s.heap.objs.size }).Ns s.heap.objs.size (fun _ => none) := ⟨_, #[], _, hg, rfl, fun y hy => absurd hy (by simp), fun _ => rfl⟩
  refine wpAny_bind (wpAny_pure (wpAny_bind (wpAny_nsSet1 (Heap.Ns1.of_empty hE) fun h' hn hs => ?_)))
  obtain ⟨oD, esD, epD, hoD, hdD, hcD⟩ := hn.count (PySem.Within.cons name v PySem.Within.nil)
  refine wpAny_bind (wpAny_lookBehind hoD (by rw [hdD]; exact pastItsLine_dict (Nat.le_trans hcD (by rw [List.length_cons, List.length_nil]; omega))) ?_)
  refine wpAny_pure (h h' s.heap.objs.size _ (Nat.le_refl _) ne ((hs.2 _ (Ne.symm ne)).trans (Heap.get?_update_self _ he1 rfl)) hn fun b o hb q => ?_)
  exact (hs.2 b (Nat.ne_of_lt (Heap.lt_size q))).trans ((Heap.get?_update_ne _ _ _ _ hb).trans (Heap.get?_push_of_some _ q))
/-- a later store -/
theorem xset_next {dx : Addr} {mA : Str → Option Value} {ns : List Str} {Q : Unit → Shared → Prop} (X : K.In s.heap) (c : ExCl K C R fI) (he : s.heap.get? e = some oe) (oc : oe.cls = .ref C) (hd : oe.data = .fields vs) (hx : oe.dict = some dx) (hN : s.heap.Ns1 dx mA) (hw : PySem.Within mA ns) (hz : ns.length ≤ sizeLine) (hf : PySem.W.findIn K (.ref C) name = some none)
    (h : ∀ h', h'.Ns1 dx (fun y => if y = name then some v else mA y) → Heap.SameBut dx s.heap h' → Q () { s with heap := h', toks := s.toks + 2 }) :
    wpAny (model prog w) A (setAttr (.ref e) name v) Q E s := by
  obtain ⟨cd, hcd, hm, hh⟩ := c.clsIn
  obtain ⟨o1, es1, ep1, ho1, _⟩ := id hN
  refine xset_open X c (inst_of (od := some o1) he oc hd (by rw [hx]; exact ho1)) hf ?_
  obtain ⟨cc, dd, dt, sl⟩ := oe
  cases oc; cases hd; cases hx
  unfold Builtin.ObjectAttr.storeInOwnDict Builtin.ObjectAttr.ownDictForStores instanceDict
  refine wpAny_bind (wpAny_pure ?_)
  refine wpAny_bind (wpAny_bind (wpAny_loadPart he (wpAny_bind (PySem.W.Looks.here (s := { s with toks := s.toks + 1 }) (PySem.W.looks_clsIn X hcd) ?_))))
  rw [hh]
  refine wpAny_pure (a := some dx) (wpAny_bind (wpAny_pure (wpAny_bind (wpAny_nsSet1 (s := { s with toks := s.toks + 1 }) hN fun h' hn hs => ?_))))
  obtain ⟨oD, esD, epD, hoD, hdD, hcD⟩ := hn.count (PySem.Within.cons name v hw)
  refine wpAny_bind (wpAny_lookBehind hoD (by rw [hdD]; exact pastItsLine_dict (Nat.le_trans hcD (by rw [List.length_cons]; omega))) ?_)
  exact wpAny_pure (h _ hn hs)
end
end L2

namespace L2
open PySem PyProof.Rows
section
variable {prog : Program} {w : World} {A : Around} {E : Value → Shared → Prop} {s : Shared} {K : PySem.W.Frag} {e C R fI : Addr} {oe : Obj} {vs : Array Value} {name : Str} {v : Value}
/-- an attribute of an exception is read -/
theorem xget {expr : Bool} {od : Option Obj} {Q : Value → Shared → Prop} (X : K.In s.heap) (c : ExCl K C R fI) (I : PySem.W.InstAt s.heap e oe C od) (hf : PySem.W.findObj K C od name = some (.value v)) (hh : PySem.W.handedIn v = true) (h : Q v { s with toks := s.toks + 1 }) :
    wpAny (model prog w) A (getAttr (.ref e) name expr) Q E s := by
  obtain ⟨cd, hcd, hm, _⟩ := c.clsIn
  have isB : PySem.W.Looks (model prog w) s.heap (isInstance (.ref e) (.type "BaseException")) true := I.type.andThen (PySem.W.looks_mroIn X (by
    unfold PySem.W.mroIn
    rw [hcd, Option.bind_some, hm, if_neg (by intro z; cases z)]
    rfl))
  have L0 := I.type (M := model prog w)
  have L1 := PySem.W.looks_findIn (M := model prog w) X c.ga
  have L2 := PySem.W.looks_findIn (M := model prog w) X c.gh
  have L3 := PySem.W.looks_find (M := model prog w) X I hf
  have hx0 : (expr && onTheHeap (Value.builtin "BaseException.__getattribute__")) = false := by cases expr <;> rfl
  obtain ⟨hp, g, d, t, os⟩ := s
  unfold getAttr getAttrBy
  refine wpAny_bind (wpAny_mkText (wpAny_holding (wpAny_bind (L0.at (wpAny_bind (L1.at ?_))))))
  show wpAny _ _ (getAttrByItsOwn _ _ _ _ _ _) _ _ _
  unfold getAttrByItsOwn
  refine wpAny_bind (show wpAny _ _ (typeLookup (.ref C) "__getattr__") _ _ _ from L2.at ?_)
  have FB := PySem.F.attr_ValueError.ga
  have hk : builtinKind "BaseException.__getattribute__" = some .slot := by decide +kernel
  have hs : splitId "BaseException.__getattribute__" = some ("BaseException", "__getattribute__") := by decide +kernel
  refine wpAny_bind (wpAny_attempt (wpAny_holding ?_))
  unfold callGetattribute
  rw [hx0, if_neg Bool.false_ne_true]
  unfold boundAndCalled
  rw [FB.bind]
  refine wpAny_bind (wpAny_pure (wpAny_call ?_))
  show codeAny _ _ (.call (.builtin "BaseException.__getattribute__") ⟨[.ref e, .str name t], []⟩) _ _
  refine codeAny_call_builtin FB.plain PySem.F.entry_bexc_ga ?_
  refine @PySem.W.check_slot (model prog w) _ _ _ "BaseException.__getattribute__" "BaseException" "__getattribute__" (.ref e) [.str name t] [] _ hk hs isB (PySem.F.args_bexc_ga _ _) ?_
  unfold Builtin.«object.__getattribute__» slotArgs
  refine wpAny_bind (wpAny_pure ?_)
  refine wpAny_bind (wpAny_pure ?_)
  refine wpAny_bind (L0.at ?_)
  refine wpAny_bind (L3.at ?_)
  refine wpAny_pure ?_
  show wpAny _ _ (handedOut v) _ _ _
  rw [PySem.W.handedOut_of hh]
  exact wpAny_pure h
end
end L2

/-! exceptions of one's own over the hand layer: the abstract heap bears them, they leave defs, they are raised -/
namespace L2
open PySem PySem.Spec PyProof.Rows
/-- an exception that was made and has not flown -/
def Ex0 (e C : Addr) (dx : Option Addr) : HO := .ext fun h => ∃ oe vs, h.get? e = some oe ∧ oe.cls = .ref C ∧ oe.dict = dx ∧ oe.data = .fields vs ∧ 1 < vs.size ∧ vs[1]? = some .none
/-- one that flies, or has flown -/
def ExF (e C : Addr) (dx : Option Addr) : HO := .ext fun h => ∃ oe vs, h.get? e = some oe ∧ oe.cls = .ref C ∧ oe.dict = dx ∧ oe.data = .fields vs
theorem Ex0.ok {P : Program} {w : World} {H : Hp} {h : Heap} {e C : Addr} {dx : Option Addr} {oe : Obj} {vs : Array Value} (he : h.get? e = some oe) (hc : oe.cls = .ref C) (hx : oe.dict = dx) (hd : oe.data = .fields vs) (h1 : 1 < vs.size) (hv : vs[1]? = some .none) : ObjOk P w H h e (Ex0 e C dx) :=
  ⟨⟨oe, vs, he, hc, hx, hd, h1, hv⟩, ⟨oe, he⟩, fun _ _ ⟨oe, vs, a, b⟩ k => ⟨oe, vs, k _ a, b⟩⟩
theorem ExF.ok {P : Program} {w : World} {H : Hp} {h : Heap} {e C : Addr} {dx : Option Addr} {oe : Obj} {vs : Array Value} (he : h.get? e = some oe) (hc : oe.cls = .ref C) (hx : oe.dict = dx) (hd : oe.data = .fields vs) : ObjOk P w H h e (ExF e C dx) :=
  ⟨⟨oe, vs, he, hc, hx, hd⟩, ⟨oe, he⟩, fun _ _ ⟨oe, vs, a, b⟩ k => ⟨oe, vs, k _ a, b⟩⟩
theorem Xc.ok {P : Program} {w : World} {H : Hp} {h : Heap} {e C : Addr} {dx : Option Addr} {T : Addr} {fl : Option Value} (x : Xc h e C dx T fl) : ObjOk P w H h e (ExF e C dx) := by
  obtain ⟨oe, vs, he, hc, hx, hd, _⟩ := x
  exact ExF.ok he hc hx hd
structure Fly (X : Cx) (pins : List (Addr × Obj)) (σ : St) (H : Hp) (s : Shared) (e C : Addr) (dx : Option Addr) (T : Addr) (fl : Option Value) : Prop where
  inv : Inv X pins σ H s
  at_ : H e = some (ExF e C dx)
  xc : Xc s.heap e C dx T fl
  ye : X.s₀.heap.objs.size ≤ e
  fp : T = e ∨ FpOk X pins H T
section
variable {X : Cx} {pins : List (Addr × Obj)} {σ : St} {H H' : Hp} {s s' : Shared} {e C : Addr} {dx : Option Addr} {T : Addr} {fl : Option Value}
theorem Fly.moved (f : Fly X pins σ H s e C dx T fl) {h' : Heap} {T' : Addr} {fl' : Option Value} (m : Mv (frs X.stack) e T s.heap h') (hT : T' = T ∨ s.heap.objs.size ≤ T') (x' : Xc h' e C dx T' fl') :
    Fly X pins σ H { s with heap := h' } e C dx T' fl' := by
  have I := f.inv
  have nT : ∀ b u, H b = some u → b ≠ e → b ≠ T := fun b u q ne z => by
    rcases f.fp with y | y
    · exact ne (z.trans y)
    · rw [z, y.1] at q; cases q
  have hok : HOk X.prog X.w H h' := fun b u q => by
    by_cases hb : b = e
    · subst hb; rw [f.at_] at q; cases q; exact x'.ok
    · refine (I.hok b u q).stay (fun c v hc z => ?_) (fun _ z => z) fun _ _ z => z
      have hc' : ∃ u', H c = some u' ∧ c ≠ e := by
        rcases hc with rfl | hc
        · exact ⟨u, q, hb⟩
        · exact ⟨_, hc, fun y => by rw [y, f.at_] at hc; cases hc⟩
      obtain ⟨u', qc, nc⟩ := hc'
      exact (m c v z nc (nT c u' qc nc)).1 fun y => by rw [I.stkFree c y] at qc; cases qc
  obtain ⟨oe, vs, he, _⟩ := id x'
  have un : Un (frs X.stack) [T] H H s.heap h' := by
    have nn : ∀ b, H b = none → b ≠ e := fun b n z => by rw [z, f.at_] at n; cases n
    refine ⟨fun b o q n hb hx => (m b o q (nn b n) (fun z => hx (by simp [z]))).1 hb, fun b o q n _ hx => (m b o q (nn b n) (fun z => hx (by simp [z]))).2, fun _ _ _ n _ => n, fun b o q hx => ?_, fun _ _ q => q, fun _ _ _ q => q, fun _ ps q => ⟨#[], by rw [q]; simp⟩⟩
    by_cases hb : b = e
    · exact ⟨oe, hb ▸ he⟩
    · obtain ⟨_, sl, z⟩ := m b o q hb (fun z => hx (by simp [z]))
      exact ⟨_, z⟩
  have hch : ∀ b ∈ [T], (b ∈ X.ex ∨ X.s₀.heap.objs.size ≤ b) ∧ b ≠ X.env.locals ∧ (∀ x c, X.env.cells.lookup x = some c → c ≠ b) ∧ ∀ p ∈ X.pn ++ pins, p.1 ≠ b := fun b hb => by
    obtain rfl : b = T := by simpa using hb
    rcases f.fp with y | y
    · subst y
      refine ⟨.inr f.ye, fun z => ?_, fun x c q z => ?_, fun p hp z => ?_⟩
      · have := I.free; rw [← z, f.at_] at this; cases this
      · have := I.freeC x c q; rw [z, f.at_] at this; cases this
      · have := (I.pin p hp).2.1; rw [z, f.at_] at this; cases this
    · exact ⟨y.2.2.2.1, y.2.1, y.2.2.2.2.1, y.2.2.2.2.2⟩
  refine ⟨I.call (g' := s.gens) (t' := s.toks) (d' := s.drawn) un hok I.bare hch, f.at_, x', f.ye, ?_⟩
  rcases hT with z | z
  · rw [z]; exact f.fp
  · exact .inr (I.fpOk z (I.hok.fresh z))
/-- how an exception lies behind a call -/
def CXE (P : Program) (w : World) : CXT := fun outer H s E ev s' => ∃ (e C : Addr) (dx : Option Addr) (T : Addr) (H' : Hp), ev = .ref e ∧ s'.os = s.os ∧ AllBare s'.gens ∧ Un (frs outer) [] H H' s.heap s'.heap ∧ HOk P w H' s'.heap ∧
  H' e = some (ExF e C dx) ∧ Xc s'.heap e C dx T (some .none) ∧ s.heap.objs.size ≤ e ∧ s.heap.objs.size ≤ T ∧ H' T = none ∧ E ev none H'
end
/-! ### an exception leaves a def -/
section
variable {P : Program} {w : World} {K : PySem.W.Frag} {mg : Str → Option Value} {base : Heap} {N : List Str} {qual : Str} {scope : Scope} {f : Addr} {cd : Value} {A : Around} {outer : List Env} {s₀ : Shared} {H₀ : Hp} {E E' : XK}
theorem passX {P : Program} {w : World} {X : Cx} : Passes (CXE P w) X E0 := fun _ _ _ _ _ _ _ h => by
  obtain ⟨_, _, _, _, _, _, _, _, _, _, _, _, _, _, _, q⟩ := h
  exact q.elim
/-- what is wanted of an exception that is raised here -/
def Raises (X : Cx) (S : St → Prop) (E : XK) : Prop := ∀ (pins : List (Addr × Obj)) (σ : St) (H : Hp) (s : Shared) (e C : Addr) (dx : Option Addr), S σ → Inv X pins σ H s → H e = some (Ex0 e C dx) → X.s₀.heap.objs.size ≤ e → E (.ref e) none (upd H e (ExF e C dx)) → X.xe (.ref e) s
/-- an exception that was made flies -/
theorem Fly.start {X : Cx} {pins : List (Addr × Obj)} {σ : St} {H : Hp} {s : Shared} {e C : Addr} {dx : Option Addr} (I : Inv X pins σ H s) (he : H e = some (Ex0 e C dx)) (ye : X.s₀.heap.objs.size ≤ e) :
    Fly X pins σ (upd H e (ExF e C dx)) s e C dx e none := by
  obtain ⟨⟨oe, vs, q, hc, hx, hd, h1, hv⟩, _⟩ := I.hok e _ he
  have I' : Inv X pins σ (upd H e (ExF e C dx)) s := by
    have := I.write (x := e) (e := e) (o := ExF e C dx) (t' := s.toks) (h' := s.heap) (by rw [he]; exact True.intro) (.inl rfl) (fun _ _ _ z => z) ⟨_, q⟩ (ExF.ok q hc hx hd)
    exact this
  exact ⟨I', upd_same, ⟨oe, vs, q, hc, hx, hd, h1, .inl ⟨rfl, rfl, hv⟩⟩, ye, .inl rfl⟩
end
/-- THE RULE for a def from which an exception may leave -/
theorem Fun.okE {P : Program} {w : World} {K : PySem.W.Frag} {mg : Str → Option Value} {base : Heap} {x qual : Str} {st : Stmt} {f : Addr} {fd : FuncData} {N ps : List Str} {k : Nat} {sp : Sp} (F : Fun K x qual st f fd) (S : FnScope N ps (defScope st)) (len : ∀ vs H Q E, sp vs H Q E → vs.length = ps.length)
    (hbody : ∀ (cdv : Value) (A : Around) (outer : List Env) (s : Shared) (H : Hp) (vs : List V) (Q : VK) (E : XK), Room k (A.deeper (envOfC qual (defScope st) s.heap.objs.size f cdv)) → sp vs H Q E →
      ∃ t, PSs (cxOf (CXE P w) P w K mg base N qual (defScope st) f cdv A outer s H E) (defBody st) t ∧ t { nx := fun _ H' => Q .non H', rt := Q } (start N vs) H) : FnOk P w K mg base (CXE P w) (k + 1) f fd ps sp := by
  obtain ⟨oc, od, kV, doc, pm, an, cdv, ct, osl, rfl, lk, hcd⟩ := F.ex
  exact fn_of lk hcd S len fun A outer s H vs Q E hr hsp => hbody cdv A outer s H vs Q E hr hsp
end L2

/-! try with an exception of one's own: body, handler, the name unbound -/
namespace L2
open PySem PySem.Spec PyProof.Rows
/-! ### the same state in another context -/
theorem Cx.Ok.re {X : Cx} (ok : X.Ok) (pn : List (Addr × Obj)) (E : Value → Shared → Prop) : Cx.Ok { X with pn := pn, xe := E } :=
  ⟨ok.mod, ok.kind, ok.glob, ok.blt, ok.above, ok.inj, ok.has, ok.cab, ok.hd, ok.frames, ok.stk, ok.exf, ok.bs, ok.bsz, ok.noex, ok.exfs, ok.funs, ok.frf⟩
theorem Cx.Ok.back {X : Cx} {pn : List (Addr × Obj)} {E : Value → Shared → Prop} (ok : Cx.Ok { X with pn := pn, xe := E }) : X.Ok :=
  ⟨ok.mod, ok.kind, ok.glob, ok.blt, ok.above, ok.inj, ok.has, ok.cab, ok.hd, ok.frames, ok.stk, ok.exf, ok.bs, ok.bsz, ok.noex, ok.exfs, ok.funs, ok.frf⟩
section
variable {X : Cx} {pins : List (Addr × Obj)} {σ : St} {H : Hp} {s : Shared}
theorem Inv.re (I : Inv X pins σ H s) (pn pins' : List (Addr × Obj)) (E : Value → Shared → Prop) (h : ∀ p ∈ pn ++ pins', p ∈ X.pn ++ pins) : Inv { X with pn := pn, xe := E } pins' σ H s :=
  ⟨I.ok.re pn E, I.os, I.bare, I.base, I.loc, I.cell, I.free, I.freeC, fun p hp => I.pin p (h p hp), I.hok, I.len⟩
theorem Inv.back {pn : List (Addr × Obj)} {E : Value → Shared → Prop} {pins' : List (Addr × Obj)} (I : Inv { X with pn := pn, xe := E } pins' σ H s) (h : ∀ p ∈ X.pn ++ pins, p ∈ pn ++ pins') : Inv X pins σ H s :=
  ⟨I.ok.back, I.os, I.bare, I.base, I.loc, I.cell, I.free, I.freeC, fun p hp => I.pin p (h p hp), I.hok, I.len⟩
/-- the wish within a try: the exception flies, the names are as S tells -/
def XT (X : Cx) (pn : List (Addr × Obj)) (S : St → Prop) (W : XK) : Value → Shared → Prop := fun ev s => ∃ (e C : Addr) (dx : Option Addr) (T : Addr) (fl : Option Value) (σ : St) (H : Hp),
  ev = .ref e ∧ Fly { X with pn := pn, xe := fun _ _ => False } [] σ H s e C dx T fl ∧ (fl = none ∨ fl = some .none) ∧ S σ ∧ W ev none H
/-- the context of a try's body -/
abbrev XB (X : Cx) (pn : List (Addr × Obj)) (S : St → Prop) (W : XK) : Cx := { X with pn := pn, xe := XT X pn S W }
theorem Fly.re {pn : List (Addr × Obj)} {E E' : Value → Shared → Prop} {e C : Addr} {dx : Option Addr} {T : Addr} {fl : Option Value} (f : Fly { X with pn := pn, xe := E } pins σ H s e C dx T fl) : Fly { X with pn := pn, xe := E' } [] σ H s e C dx T fl := by
  refine ⟨?_, f.at_, f.xc, f.ye, ?_⟩
  · exact Inv.re (X := { X with pn := pn, xe := E }) f.inv pn [] E' (fun p hp => by
      rw [List.append_nil] at hp
      exact List.mem_append_left _ hp)
  · rcases f.fp with z | ⟨a1, a2, a3, a4, a5, a6⟩
    · exact .inl z
    · exact .inr ⟨a1, a2, a3, a4, a5, fun p hp => a6 p (by
        have hp' : p ∈ pn ++ [] := hp
        rw [List.append_nil] at hp'
        exact List.mem_append_left _ hp')⟩
/-- .. an exception of a callee, where the names are as S tells -/
def PassesS (CX : CXT) (X : Cx) (S : St → Prop) (E : XK) : Prop := ∀ (pins : List (Addr × Obj)) (σ : St) (H : Hp) (s : Shared) (e : Value) (s' : Shared), S σ → Inv X pins σ H s → CX X.stack H s E e s' → X.xe e s'
theorem raisesT {pn : List (Addr × Obj)} {S : St → Prop} {W : XK} : Raises (XB X pn S W) S W := fun pins σ H s e C dx hS I he ye hE =>
  ⟨e, C, dx, e, none, σ, _, rfl, (Fly.start (X := XB X pn S W) I he ye).re, .inl rfl, hS, hE⟩
end
/-! ### calls within a try -/
section
variable {X : Cx} {CX : CXT} {k : Nat} {f C : Addr} {fd : FuncData} {ps : List Str} {sp : Sp} {dvs : List V} {ds : List Value} {E : XK} {S : St → Prop} {x m : Str} {p pos apos : Pos} {e o : Expr} {es : List Expr} {ta : TE} {t : TA}
def tCallS (S : St → Prop) (sp : Sp) (dvs : List V) (E : XK) (t : TA) : TE := fun σ H Q => t σ H fun vs H1 => S σ ∧ sp (vs ++ dvs) H1 Q E
def tMethS (S : St → Prop) (C : Addr) (m : Str) (sp : Sp) (dvs : List V) (E : XK) (ta : TE) (t : TA) : TE := fun σ H Q => ta σ H fun x H1 => ∃ a dx fs, x = .ref a ∧ H1 a = some (.ins C dx fs) ∧ fs.lookup m = none ∧
  t σ H1 fun vs H2 => S σ ∧ sp (x :: (vs ++ dvs)) H2 Q E
end
/-! ### the handler -/
/-- an exception class of the text, and its line behind it -/
structure XCls (K : PySem.W.Frag) (C : Addr) (bm : List Value) : Prop where
  obj : ∃ (nm q : Str) (N : Addr) (bs : List Value) (hd : Bool) (sn : List Str) (sub : List Value) (ab : Bool) (col : Option Bool) (dd : Option Addr) (k0 k1 k2 k3 k5 : Option Value) (ni : String), K.lookup C = some (excClassObj nm q C N bs bm hd sn sub ab col dd k0 k1 k2 k3 k5 ni)
  b : bm.contains (.type "BaseException") = true
/-- the context of a handler's suite -/
abbrev XH (X : Cx) (e : Addr) : Cx := { X with A := X.A.mark (some (.ref e)), calm := false, xe := fun _ _ => False }
section
variable {X : Cx} {pins : List (Addr × Obj)} {σ : St} {H : Hp} {s : Shared}
theorem Inv.toH (I : Inv X pins σ H s) (e : Addr) : Inv (XH X e) pins σ H s :=
  ⟨⟨I.ok.mod, I.ok.kind, I.ok.glob, I.ok.blt, I.ok.above, I.ok.inj, I.ok.has, I.ok.cab, (fun z => by cases z), I.ok.frames, I.ok.stk, I.ok.exf, I.ok.bs, I.ok.bsz, I.ok.noex, I.ok.exfs, I.ok.funs, I.ok.frf⟩, I.os, I.bare, I.base, I.loc, I.cell, I.free, I.freeC, I.pin, I.hok, I.len⟩
theorem Inv.ofH {e : Addr} (hd : X.calm = true → X.A.handled = none) (I : Inv (XH X e) pins σ H s) : Inv X pins σ H s :=
  ⟨⟨I.ok.mod, I.ok.kind, I.ok.glob, I.ok.blt, I.ok.above, I.ok.inj, I.ok.has, I.ok.cab, hd, I.ok.frames, I.ok.stk, I.ok.exf, I.ok.bs, I.ok.bsz, I.ok.noex, I.ok.exfs, I.ok.funs, I.ok.frf⟩, I.os, I.bare, I.base, I.loc, I.cell, I.free, I.freeC, I.pin, I.hok, I.len⟩
/-- a local name is unbound -/
theorem Inv.unbound {h' : Heap} {m : Str → Option Value} {u : Option Value} {i : Nat} {n : Str} (I : Inv X pins σ H s) (hN : X.N.Nodup) (hi : X.N[i]? = some n) (hn : s.heap.Ns X.env.locals m)
    (hm : ∀ (j : Nat) (x : Str) (v : V), X.N[j]? = some x → σ[j]? = some (some v) → Vis X.env.scope x → ∃ u, RelV v u ∧ Look X.env s.heap m x u)
    (hn' : h'.Ns X.env.locals (fun x => if x = n then u else m x)) (sb : Heap.SameBut X.env.locals s.heap h') : Inv X pins (σ.set i none) H { s with heap := h' } := by
  have kp : ∀ b o, b ≠ X.env.locals → s.heap.get? b = some o → h'.get? b = some o := fun b o nb q => (sb.2 b nb).trans q
  have neL : ∀ b o, X.s₀.heap.get? b = some o → b ≠ X.env.locals := fun b o e => Nat.ne_of_lt (Nat.lt_of_lt_of_le (Heap.lt_size e) I.ok.above)
  have B := I.base
  refine ⟨I.ok, I.os, I.bare, ⟨fun b o q n1 hb hx => kp b o (neL b o q) (B.keep b o q n1 hb hx), fun b o q n1 hb hx => ?_, B.free, fun b o q hx => ?_, B.tups, B.frzs, B.tbls⟩, ⟨_, hn', fun j x v e1 e2 e3 => ?_⟩, fun x c e => ?_, I.free, I.freeC, fun p hp => ?_, ?_, ?_⟩
  · obtain ⟨sl, z⟩ := B.slot b o q n1 hb hx
    exact ⟨sl, kp b _ (neL b o q) z⟩
  · obtain ⟨o', z⟩ := B.there b o q hx
    exact ⟨o', kp b _ (neL b o q) z⟩
  · have hj : j ≠ i := fun z => by
      subst z
      rw [List.getElem?_set_self' ] at e2
      cases hz : σ[j]? with
      | none => rw [hz] at e2; cases e2
      | some _ => rw [hz] at e2; cases e2
    rw [List.getElem?_set_ne (Ne.symm hj)] at e2
    obtain ⟨u', ru, l⟩ := hm j x v e1 e2 e3
    have xn : x ≠ n := fun z => hj (nodup_ix hN e1 (z ▸ hi))
    refine ⟨u', ru, ?_⟩
    rcases l with ⟨k1, k2⟩ | ⟨k1, c, k2, o, ho, hd⟩
    · exact .inl ⟨k1, by show (if x = n then u else m x) = some u'; rw [if_neg xn]; exact k2⟩
    · exact .inr ⟨k1, c, k2, o, kp c o (I.cne x c k2) ho, hd⟩
  · obtain ⟨v, o, ho, hd⟩ := I.cell x c e
    exact ⟨v, o, kp c o (I.cne x c e) ho, hd⟩
  · obtain ⟨a1, a2, a3, a4, a5⟩ := I.pin p hp
    exact ⟨kp _ _ a3 a1, a2, a3, a4, a5⟩
  · intro b o q
    refine (I.hok b o q).stay (fun c v hc z => kp c v ?_ z) (fun _ z => z) fun _ _ z => z
    rintro rfl
    rcases hc with z | z
    · rw [← z, I.free] at q; cases q
    · rw [I.free] at z; cases z
  · rw [List.length_set]; exact I.len
/-- the except clause is reached with an exception that flies -/
def tTry (tb : (St → Prop) → XK → TS) (K : PySem.W.Frag) (Cn : Addr) (i : Nat) (ts : TS) : TS := fun D σ H => ∃ (S : St → Prop) (W : XK), tb S W D σ H ∧
  ∀ (σ' : St) (e : Addr) (H' : Hp), S σ' → W (.ref e) none H' → ∃ C dx bm, H' e = some (ExF e C dx) ∧ XCls K C bm ∧ (Value.ref C :: bm).contains (.ref Cn) = true ∧
    ts { nx := fun σ2 H2 => D.nx (σ2.set i none) H2, rt := D.rt, bk := fun σ2 H2 => D.bk (σ2.set i none) H2, ct := fun σ2 H2 => D.ct (σ2.set i none) H2 } (σ'.set i (some (.ref e))) H'
theorem ps_try {body : List Stmt} {b0 : Stmt} {suite : List Stmt} {rest : List ExceptHandler} {cn n : Str} {Cn : Addr} {i : Nat} {tb : (St → Prop) → XK → TS} {ts : TS} {p hp pos : Pos} (hcalm : X.calm = true) (hst : X.stack = X.env :: X.outer) (hfr : X.env.frame = some X.env.locals)
    (hg : Gl X cn) (hm : X.mg cn = some (.ref Cn)) {bmn : List Value} (hcl : XCls X.K Cn bmn)
    (hN : X.N.Nodup) (hi : X.N[i]? = some n) (hn : X.env.scope.names.lookup n = some .local)
    (hb : ∀ pn S W, PSs (XB X pn S W) body (tb S W)) (hs : ∀ e, PSs (XH X e) (b0 :: suite) ts) (hdb : (cn == ("__debug__" : Str)) = false := by decide) :
    PS X (.Try body (.ExceptHandler (some (.Name cn p)) (some n) (b0 :: suite) hp :: rest) [] [] pos) (tTry tb X.K Cn i ts) := by
  intro pins s σ H D I h
  obtain ⟨S, W, hbody, hh⟩ := h
  refine wpAny_Try_except (wpAny_mono (hb (X.pn ++ pins) S W [] s σ H D (I.re (X.pn ++ pins) [] _ (fun q hq => by rwa [List.append_nil] at hq)) hbody) (fun f s1 hf => ?_) fun ev s1 hx => ?_)
  · have bk : ∀ {σ' : St} {H' : Hp}, Inv (XB X (X.pn ++ pins) S W) [] σ' H' s1 → Inv X pins σ' H' s1 := fun {σ' H'} J => J.back (fun q hq => by rw [List.append_nil]; exact hq)
    cases f with
    | next =>
      obtain ⟨σ', H', J, q⟩ := hf
      exact wpAny_execs_nil ⟨σ', H', bk J, q⟩
    | brk => obtain ⟨σ', H', J, q⟩ := hf; exact ⟨σ', H', bk J, q⟩
    | cont => obtain ⟨σ', H', J, q⟩ := hf; exact ⟨σ', H', bk J, q⟩
    | ret u => obtain ⟨v, σ', H', J, r, q⟩ := hf; exact ⟨v, σ', H', bk J, r, q⟩
  · obtain ⟨e, C, dx, T, fl, σ', H', rfl, y, hfl, hS, hW⟩ := hx
    have hA : X.A.frames = some (X.env :: X.outer) := hst ▸ I.ok.frames
    have ff : s1.heap.FunFrames X.base (X.env :: X.outer) := hst ▸ y.inv.stack
    refine note_ok hA hfr ff y.xc (hfl.imp id .inl) fun h1 T1 q1 x1 m1 => ?_
    have y1 := y.moved (by show Mv (frs X.stack) _ _ _ _; rw [hst]; exact m1) q1 x1
    refine flight_ok x1 fun h2 x2 m2 => ?_
    have y2 := y1.moved (h' := h2) (fun b o q ne nT => ⟨fun _ => (m2 b o q ne nT).1 (by simp), (m2 b o q ne nT).2⟩) (.inl rfl) x2
    obtain ⟨C', dx', bm, hat, hxc, hmro, hsu⟩ := hh σ' e H' hS hW
    have eqs : C' = C ∧ dx' = dx := by
      have z := y.at_.symm.trans hat
      obtain ⟨⟨oe, vs, a1, a2, a3, _⟩, _⟩ := y.inv.hok e _ y.at_
      obtain ⟨⟨oe', vs', b1, b2, b3, _⟩, _⟩ := y.inv.hok e _ hat
      rw [a1] at b1
      cases b1
      exact ⟨by rw [a2] at b2; exact (Value.ref.inj b2).symm, b3.symm.trans a3⟩
    obtain ⟨rfl, rfl⟩ := eqs
    have I2 : Inv X pins σ' H' { s1 with heap := h2 } := y2.inv.back (fun q hq => by rw [List.append_nil]; exact hq)
    refine wpAny_handleBy_cons (codeAny_handlers_test ?_) (by intro z; cases z)
    refine ld_glob (X := XH X e) (I2.toH e) hg hm ?_ hdb
    obtain ⟨oe, vs, he, oc, _⟩ := id x2
    have match_ : ∀ {Q : Bool → Shared → Prop} {E : Value → Shared → Prop}, Q true { s1 with heap := h2 } → wpAny (model X.prog X.w) (X.A.mark (some (.ref e))) (excMatches (.ref e) (.ref Cn)) Q E { s1 with heap := h2 } := fun {Q E} q => by
      obtain ⟨nm1, q1, N1, bs1, hd1, sn1, su1, ab1, co1, dd1, j0, j1, j2, j3, j5, ni1, lk1⟩ := hxc.obj
      obtain ⟨nm2, q2, N2, bs2, hd2, sn2, su2, ab2, co2, dd2, l0, l1, l2, l3, l5, ni2, lk2⟩ := hcl.obj
      exact xmatch (I2.kIn _ _ lk1) (I2.kIn _ _ lk2) hcl.b he oc hmro q
    refine match_ ?_
    refine codeAny_handlers_suite_as ?_
    refine flight_ok x2 fun h3 x3 m3 => ?_
    have y3 := y2.moved (h' := h3) (fun b o q ne nT => ⟨fun _ => (m3 b o q ne nT).1 (by simp), (m3 b o q ne nT).2⟩) (.inl rfl) x3
    have I3 : Inv X pins σ' H' { s1 with heap := h3 } := y3.inv.back (fun q hq => by rw [List.append_nil]; exact hq)
    refine store_ok2 (X := XH X e) (I3.toH e) hN hi (.inl hn) (v := .ref e) rfl (fun s4 I4 _ => ?_) (.inr hn)
    refine wpAny_mono (hs e pins s4 _ H' _ I4 hsu) (fun fl5 s5 hf => ?_) fun _ _ z => z.elim
    have fin : ∀ {σ5 : St} {H5 : Hp} {P5 : Shared → Prop}, Inv (XH X e) pins σ5 H5 s5 → (∀ s6, Inv X pins (σ5.set i none) H5 s6 → P5 s6) →
        wpAny (model X.prog X.w) X.A (do bindName X.env n .none; unbindBehindTheSuite X.env n hp) (fun _ s6 => P5 s6) X.xe s5 := fun {σ5 H5 P5} J q => by
      have J' : Inv X pins σ5 H5 s5 := J.ofH I.ok.hd
      refine wpAny_bind (wpAny_bindName (store_ok2 (X := X) J' hN hi (.inl hn) (v := .non) rfl (fun s6 J6 _ => ?_) (.inr hn)))
      obtain ⟨m, hm6, hl6⟩ := id J6.loc
      have hv : ∃ v, m n = some v := by
        have hiσ : i < σ5.length := by rw [J'.len]; exact (List.getElem?_eq_some_iff.mp hi).1
        obtain ⟨u, _, l⟩ := hl6 i n .non hi (by rw [List.getElem?_set_self hiσ]) (.inl hn)
        rcases l with ⟨_, z⟩ | ⟨z, _⟩
        · exact ⟨u, z⟩
        · have hn' : X.env.kindOf n = some .local := hn
          rcases z with z | z <;> (rw [hn'] at z; cases z)
      obtain ⟨v, hv⟩ := hv
      unfold unbindBehindTheSuite
      refine wpAny_onRaise (wpAny_unbindName_local hn hm6 hv (by rw [J'.ok.kind]; rfl) fun h7 u7 hn7 sb7 => ?_)
      have := J6.unbound hN hi hm6 hl6 hn7 sb7
      rw [List.set_set] at this
      exact q _ this
    cases fl5 with
    | next => obtain ⟨σ5, H5, J, q⟩ := hf; exact fin J fun s6 J6 => ⟨_, H5, J6, q⟩
    | brk => obtain ⟨σ5, H5, J, q⟩ := hf; exact fin J fun s6 J6 => ⟨_, H5, J6, q⟩
    | cont => obtain ⟨σ5, H5, J, q⟩ := hf; exact fin J fun s6 J6 => ⟨_, H5, J6, q⟩
    | ret u => obtain ⟨v, σ5, H5, J, r, q⟩ := hf; exact fin J fun s6 J6 => ⟨v, _, H5, J6, r, q⟩
end
end L2

/-! exceptions of one's own: made, their attributes, raised -/
namespace L2
open PySem PySem.Spec PyProof.Rows
/-- the dict of an exception -/
def XD (dx : Addr) (fs : List (Str × V)) : HO := .ext fun h => ∃ mA, h.Ns1 dx mA ∧ (∀ f, RelO (fs.lookup f) (mA f)) ∧ PySem.Within mA (fs.map (·.1))
theorem XD.ok {P : Program} {w : World} {H : Hp} {h : Heap} {dx : Addr} {fs : List (Str × V)} (a : ∃ mA, h.Ns1 dx mA ∧ (∀ f, RelO (fs.lookup f) (mA f)) ∧ PySem.Within mA (fs.map (·.1))) : ObjOk P w H h dx (XD dx fs) := by
  obtain ⟨mA, ⟨o, es, ep, ho, z⟩, r⟩ := id a
  exact ⟨a, ⟨o, ho⟩, fun h1 h2 ⟨mA, ⟨o, es, ep, ho, z⟩, r⟩ k => ⟨mA, ⟨o, es, ep, k _ ho, z⟩, r⟩⟩
theorem upd_id {H : Hp} {a : Addr} {o : HO} (e : H a = some o) : upd H a o = H := by
  funext b
  unfold upd
  split
  · rename_i q; rw [q, e]
  · rfl
section
variable {X : Cx} {pins : List (Addr × Obj)} {σ : St} {H : Hp} {s : Shared} {e C R fI dx : Addr}
/-- the first attribute comes -/
theorem Inv.xfirst {h' : Heap} {t' : Nat} {oe : Obj} {vs : Array Value} {fs : List (Str × V)} (I : Inv X pins σ H s) (he : H e = some (Ex0 e C none)) (hx : s.heap.objs.size ≤ dx) (ne : dx ≠ e) (g : h'.get? e = some oe) (oc : oe.cls = .ref C) (od : oe.dict = some dx) (hd : oe.data = .fields vs) (h1 : 1 < vs.size) (hv : vs[1]? = some .none)
    (hn : ∃ mA, h'.Ns1 dx mA ∧ (∀ f, RelO (fs.lookup f) (mA f)) ∧ PySem.Within mA (fs.map (·.1))) (k : ∀ b o, b ≠ e → s.heap.get? b = some o → h'.get? b = some o) :
    Inv X pins σ (upd (upd H dx (XD dx fs)) e (Ex0 e C (some dx))) { s with heap := h', toks := t' } := by
  have nx : H dx = none := I.hok.fresh hx
  have eqs : ∀ b u, H b = some u → b ≠ e → upd (upd H dx (XD dx fs)) e (Ex0 e C (some dx)) b = some u := fun b u q nb => by
    rw [upd_ne nb, upd_ne (ne_of_none q nx)]; exact q
  refine I.un ⟨fun b o q n _ _ => k b o (ne_of_none he n).symm q, fun b o q n _ _ => ⟨o.slots, k b o (ne_of_none he n).symm q⟩, fun b o q n _ => ?_, fun b o q _ => ?_, fun b xs q => ?_, fun b o u q => ?_, fun b ps q => ⟨#[], ?_⟩⟩ fun b u q => ?_
  · rw [upd_ne (ne_of_none he n).symm, upd_ne (Nat.ne_of_lt (Nat.lt_of_lt_of_le (Heap.lt_size q) hx))]; exact n
  · by_cases hb : b = e
    · exact ⟨oe, hb ▸ g⟩
    · exact ⟨o, k b o hb q⟩
  · exact eqs b _ q fun z => by rw [z, he] at q; cases q
  · exact eqs b _ q fun z => by rw [z, he] at q; cases q
  · rw [eqs b _ q fun z => by rw [z, he] at q; cases q]; simp
  · by_cases hb : b = e
    · subst hb; rw [upd_same] at q; cases q; exact Ex0.ok g oc od hd h1 hv
    · rw [upd_ne hb] at q
      by_cases hb2 : b = dx
      · subst hb2; rw [upd_same] at q; cases q; exact XD.ok hn
      · rw [upd_ne hb2] at q
        refine (I.hok b u q).stay (fun c v hc z => k c v ?_ z) (fun c z => eqs c _ z fun y => by rw [y, he] at z; cases z) fun c xs z => eqs c _ z fun y => by rw [y, he] at z; cases z
        rcases hc with y | y
        · rw [y]; exact hb
        · intro z; rw [z, he] at y; cases y
/-- self.f = value, in the __init__ of an exception -/
def sXfld (K : PySem.W.Frag) (ta tv : TE) (f : Str) : TS := fun D σ H => tv σ H fun y H1 => ta σ H1 fun x H2 => ∃ e C R fI, x = .ref e ∧ ExCl K C R fI ∧ PySem.W.findIn K (.ref C) f = some none ∧
  ((H2 e = some (Ex0 e C none) ∧ ∀ dx, H2 dx = none → D.nx σ (upd (upd H2 dx (XD dx [(f, y)])) e (Ex0 e C (some dx)))) ∨
   ∃ dx fs, H2 e = some (Ex0 e C (some dx)) ∧ H2 dx = some (XD dx fs) ∧ fs.length < 1000 ∧ D.nx σ (upd H2 dx (XD dx (putF f y fs))))
theorem xstore {y : V} {u : Value} {f : Str} {A : Around} {E : Value → Shared → Prop} {Q : Unit → Shared → Prop} (I : Inv X pins σ H s) (c : ExCl X.K C R fI) (hf : PySem.W.findIn X.K (.ref C) f = some none) (ry : RelV y u) {N : Hp → Prop}
    (h : (H e = some (Ex0 e C none) ∧ ∀ dx, H dx = none → N (upd (upd H dx (XD dx [(f, y)])) e (Ex0 e C (some dx)))) ∨ ∃ dx fs, H e = some (Ex0 e C (some dx)) ∧ H dx = some (XD dx fs) ∧ fs.length < 1000 ∧ N (upd H dx (XD dx (putF f y fs))))
    (q : ∀ s' H', Inv X pins σ H' s' → N H' → Q () s') : wpAny (model X.prog X.w) A (setAttr (.ref e) f u) Q E s := by
  rcases h with ⟨he, hN⟩ | ⟨dx, fs, he, hd, hl, hN⟩
  · obtain ⟨⟨oe, vs, g, oc, ox, od, h1, hv⟩, _⟩ := I.hok e _ he
    refine xset_first I.kIn c g oc od ox hf fun h' dx tk hx ne g' hn k => ?_
    refine q _ _ (I.xfirst he hx ne g' oc rfl od h1 hv ⟨_, hn, fun z => ?_, fun z hz => ?_⟩ k) (hN dx (I.hok.fresh hx))
    · show RelO (List.lookup z [(f, y)]) (if z = f then some u else none)
      by_cases hz : z = f
      · rw [if_pos hz, hz]; simp only [List.lookup, beq_self_eq_true]; exact ry
      · have hb : (z == f) = false := beq_eq_false_iff_ne.mpr hz
        rw [if_neg hz]; simp only [List.lookup, hb]; exact True.intro
    · by_cases hz' : z = f
      · rw [hz']; exact List.mem_singleton.mpr rfl
      · exact absurd (if_neg hz') hz
  · obtain ⟨⟨oe, vs, g, oc, ox, od, h1, hv⟩, _⟩ := I.hok e _ he
    obtain ⟨⟨mA, hn, r, wi⟩, _⟩ := I.hok dx _ hd
    refine xset_next I.kIn c g oc od ox hn wi (by rw [List.length_map, sizeLine_eq]; omega) hf fun h' hn' sb => ?_
    have ho : ∃ o, h'.get? dx = some o := let ⟨o, _, _, e', _⟩ := hn'; ⟨o, e'⟩
    refine q _ _ (I.write (x := dx) (e := dx) (o := XD dx (putF f y fs)) (by rw [hd]; exact True.intro) (.inl rfl) (fun b o hb z => (sb.2 b hb).trans z) ho (XD.ok ⟨_, hn', fun z => ?_, fun z hz => ?_⟩)) hN
    · show RelO ((putF f y fs).lookup z) (if z = f then some u else mA z)
      rw [lookup_putF]
      by_cases q : z = f
      · rw [if_pos q, if_pos q]; exact ry
      · rw [if_neg q, if_neg q]; exact r z
    · by_cases q : z = f
      · rw [q]; exact (keys_putF f y fs).1
      · refine (keys_putF f y fs).2 z (wi z fun y' => hz ?_)
        show (if z = f then some u else mA z) = none
        rw [if_neg q]; exact y'
theorem ps_xfld {o value : Expr} {f : Str} {pos pos' : Pos} {ta tv : TE} (ha : PE X o ta) (hv : PE X value tv) (hs : swapsWith value (some (.Attribute o f pos')) pos.line X.env = pure false := by rfl) : PS X (.Assign [.Attribute o f pos'] value pos) (sXfld X.K ta tv f) := by
  intro pins s σ H D I h
  refine plainObj_wpAny_Assign_Attribute (thn (hv pins s σ H _ I h) fun u s1 ⟨y, H1, I1, ry, h1⟩ => thn (ha pins s1 σ H1 _ I1 h1) fun ov s2 ⟨x, H2, I2, rx, e, C, R, fI, ex, c, hf, h2⟩ => ?_) hs
  subst ex
  obtain rfl : ov = Value.ref e := rx
  exact xstore I2 c hf ry h2 fun s' H' I' q => ⟨σ, H', I', q⟩
/-- e.f of an exception -/
def tXfld (K : PySem.W.Frag) (ta : TE) (f : Str) : TE := fun σ H Q => ta σ H fun x H1 => ∃ e C R fI dx fs v, x = .ref e ∧ (H1 e = some (ExF e C (some dx)) ∨ H1 e = some (Ex0 e C (some dx))) ∧ H1 dx = some (XD dx fs) ∧ ExCl K C R fI ∧ PySem.W.findIn K (.ref C) f = some none ∧ fs.lookup f = some v ∧ Q v H1
theorem pe_xfld {o : Expr} {f : Str} {pos : Pos} {ta : TE} (he : PE X o ta) (hb : attributeBase o f X.env (eval o X.env) = eval o X.env) : PE X (.Attribute o f pos) (tXfld X.K ta f) := by
  intro pins s σ H Q I h
  refine attr_of hb (thn (he pins s σ H _ I h) fun u s1 ⟨x, H1, I1, rx, e, C, R, fI, dx, fs, v, ex, ea, ed, c, hf, l, q⟩ => ?_)
  subst ex
  obtain rfl : u = Value.ref e := rx
  obtain ⟨⟨mA, hn, r, wi⟩, _⟩ := I1.hok dx _ ed
  obtain ⟨u', hu, ru⟩ := RelO.some_of (v := v) (o := mA f) (by rw [← l]; exact r f)
  obtain ⟨oe, vs, g, oc, ox, od⟩ : ∃ oe vs, s1.heap.get? e = some oe ∧ oe.cls = .ref C ∧ oe.dict = some dx ∧ oe.data = .fields vs := by
    rcases ea with ea | ea
    · obtain ⟨⟨oe, vs, g, oc, ox, od⟩, _⟩ := I1.hok e _ ea; exact ⟨oe, vs, g, oc, ox, od⟩
    · obtain ⟨⟨oe, vs, g, oc, ox, od, _⟩, _⟩ := I1.hok e _ ea; exact ⟨oe, vs, g, oc, ox, od⟩
  obtain ⟨o1, ho, hl⟩ := lookIn_ns hn
  obtain ⟨cd, hcd, hm, hh⟩ := c.clsIn
  have hh' : PySem.W.hasDictIn X.K C = true := by unfold PySem.W.hasDictIn; rw [hcd]; exact hh
  exact xget I1.kIn c (inst_of (od := some o1) g oc od (by rw [ox]; exact ho)) (PySem.W.findObj_own hh' hf rfl (by rw [hl, hu])) (handed_of ru) ⟨v, H1, I1.tok _, ru, q⟩
end
/-! ### the __init__ of the classes above -/
structure CInit (K : PySem.W.Frag) (B f : Addr) : Prop where
  r : PySem.W.readsIn K B (.type "type") = true
  fd : PySem.W.findCls K (.ref B) (.type "type") "__init__" = some (.val (.ref f))
  g : PySem.W.specialIn K (.ref B) "__getattribute__" = some (some (.builtin "type.__getattribute__"))
  k : PySem.W.keepIn K (.ref f) = true
structure VInit (K : PySem.W.Frag) : Prop where
  ga : PySem.W.findIn K (.type "type") "__getattribute__" = some (some (.builtin "type.__getattribute__"))
  sub : PySem.W.subIn K (.type "type") (.type "type") = some true
  f : PySem.W.findCls K (.type "ValueError") (.type "type") "__init__" = some (.val (.builtin "ValueError.__init__"))
theorem tov_VE : typeOf (.type "ValueError") = pure (.type "type") := by kernel_rfl
theorem oca_VE : opaqueClassAbove (.type "ValueError") = pure none := by kernel_rfl
theorem hkb_type : hookBefore (.type "type") = pure none := by kernel_rfl
theorem tga_type : typeLookup (.type "type") "__getattribute__" = pure (some (.builtin "type.__getattribute__")) := by rw [typeLookup_type, builtinLookup_eq_fast]; kernel_rfl
theorem spv_VE : specialOf (.type "ValueError") "__getattribute__" = pure (some (.builtin "type.__getattribute__")) := by
  unfold specialOf
  rw [tov_VE]
  show typeLookup (.type "type") "__getattribute__" = _
  exact tga_type
section
variable {X : Cx} {CX : CXT} {k : Nat} {f B C R : Addr} {fd : FuncData} {ps : List Str} {sp : Sp} {dvs : List V} {ds : List Value} {E : XK} {x : Str} {p pos apos : Pos} {e o : Expr} {es : List Expr} {t : TA}
theorem pe_cinit {pl : Sem Bool} (c : CInit X.K B f) (ho : PE X o (tC (.ref B))) (F : FnOk X.prog X.w X.K X.mg X.base CX k f fd ps sp) (hr : Room k X.A) (hb : Binds X.K fd ps ds) (hd : Vals dvs ds) (hx : Passes CX X E) (ha : PA X (e :: es) t)
    (hst : starEach (e :: es) X.env = (false, eval e X.env) :: starEach es X.env := by rfl) (hpl : (backTo pos (starEach es X.env)).any (·.1) = false := by rfl)
    (ht : eval (.Call (.Attribute o "__init__" apos) (e :: es) [] pos) X.env = (do
      let ov ← eval o X.env
      standAt apos.atName
      let (f, first) ← holding [ov] (getMethod ov "__init__" pl)
      callWith pos f first (backTo pos (starEach (e :: es) X.env)) (backToKw pos (keywordEach [] X.env))) := by rfl) :
    PE X (.Call (.Attribute o "__init__" apos) (e :: es) [] pos) (tCall sp dvs E t) := by
  intro pins s σ H Q I h
  refine PySem.W.methodCall_KW (pl := pl) (thn (ho pins s σ H (fun v H1 => v = .ref B ∧ tCall sp dvs E t σ H1 Q) I ⟨rfl, h⟩) fun u s1 ⟨x, H1, I1, rx, ex, q⟩ => ?_) ht
  subst ex
  obtain rfl : u = Value.ref B := rx
  refine PySem.W.method_cls I1.kIn c.g (PySem.W.cls_value I1.kIn c.r c.fd rfl ?_)
  refine PySem.W.callWith_K (first := []) (h₀ := X.base) I.ok.mod.kin c.k (thn (ha pos pins _ σ H1 _ (I1.tok _) q) fun us s2 ⟨vs, H2, I2, r, q2⟩ => ⟨I2.kIn, ?_⟩) hst hpl
  exact run_fn F hr hb hd hx I2 r q2
/-- ValueError.__init__(self, words) -/
def tVinit (K : PySem.W.Frag) (t : TA) : TE := fun σ H Q => t σ H fun vs H1 => ∃ e v C R fI dx, vs = [.ref e, v] ∧ H1 e = some (Ex0 e C dx) ∧ ExCl K C R fI ∧ Q .non H1
theorem pe_vinit {pl : Sem Bool} (c : VInit X.K) (ho : PE X o (tC (.ty "ValueError"))) (ha : PA X (e :: es) t)
    (hst : starEach (e :: es) X.env = (false, eval e X.env) :: starEach es X.env := by rfl) (hpl : (backTo pos (starEach es X.env)).any (·.1) = false := by rfl)
    (ht : eval (.Call (.Attribute o "__init__" apos) (e :: es) [] pos) X.env = (do
      let ov ← eval o X.env
      standAt apos.atName
      let (f, first) ← holding [ov] (getMethod ov "__init__" pl)
      callWith pos f first (backTo pos (starEach (e :: es) X.env)) (backToKw pos (keywordEach [] X.env))) := by rfl) :
    PE X (.Call (.Attribute o "__init__" apos) (e :: es) [] pos) (tVinit X.K t) := by
  intro pins s σ H Q I h
  refine PySem.W.methodCall_KW (pl := pl) (thn (ho pins s σ H (fun v H1 => v = .ty "ValueError" ∧ tVinit X.K t σ H1 Q) I ⟨rfl, h⟩) fun u s1 ⟨x, H1, I1, rx, ex, q⟩ => ?_) ht
  subst ex
  obtain rfl : u = Value.type "ValueError" := rx
  have key : ∀ {Q' : Value × List Value → Shared → Prop}, Q' (.builtin "ValueError.__init__", []) { s1 with toks := s1.toks + 1 } → wpAny (model X.prog X.w) X.A (getMethod (.type "ValueError") "__init__" pl) Q' X.xe s1 := fun {Q'} q' => by
    unfold getMethod
    refine wpAny_bind ((PySem.W.Looks.of_pure spv_VE).here ?_)
    dsimp only
    rw [if_pos PySem.W.canon_tga]
    refine wpAny_bind (PySem.W.cls_open (hook := none) I1.kIn (PySem.W.Looks.of_pure oca_VE) (PySem.W.Looks.of_pure tov_VE) c.ga (PySem.W.Looks.of_pure hkb_type) c.sub c.f (wpAny_pure ?_))
    show wpAny _ _ (handedOut (.builtin "ValueError.__init__")) _ _ _
    rw [PySem.W.handedOut_of (v := .builtin "ValueError.__init__") rfl]
    exact wpAny_pure (wpAny_pure q')
  refine key ?_
  refine PyProof.Rows.callWith_builtin1 (thn (ha pos pins _ σ H1 _ (I1.tok _) q) fun us s2 ⟨vs, H2, I2, r, e', v, C, R, fI, dx, ev, he, cx, q2⟩ => ?_) hst hpl
  subst ev
  cases r with
  | cons r1 r2 =>
    cases r2 with
    | cons r3 r4 =>
      cases r4
      cases r1
      obtain ⟨⟨oe, vs, g, oc, ox, od, h1, hv⟩, _⟩ := I2.hok e' _ he
      obtain ⟨nm, qn, N, bs, sn, sub, ab, col, dd, k0, k1, k2, k3, k5, mN, oI, hC, _⟩ := cx.cls I2.kIn
      obtain ⟨hh, gg, d, tk, os⟩ := s2
      refine xinit (xtail R) hC g oc od h1 fun h' oe' vs' kp g' oc' ox' od' sz hv' => ?_
      have I3 := I2.write (x := e') (e := e') (o := Ex0 e' C dx) (t' := tk) (h' := h') (by rw [he]; exact True.intro) (.inl rfl) (fun b o nb z => kp b o nb z) ⟨_, g'⟩ (Ex0.ok g' (oc'.trans oc) (ox'.trans ox) od' (by rw [sz]; exact h1) (hv'.trans hv))
      rw [upd_id he] at I3
      exact ⟨.non, H2, I3, rfl, q2⟩
/-- C(..), C an exception class of the text -/
theorem run_makeX {pins : List (Addr × Obj)} {σ : St} {H : Hp} {s : Shared} {Q : VK} {us : List Value} {vs : List V} (c : ExCl X.K C R f) (F : FnOk X.prog X.w X.K X.mg X.base CX k f fd ps sp) (hr : Room (k + 1) X.A) (hb : Binds X.K fd ps ds) (hd : Vals dvs ds)
    (hx : Passes CX X E) (I : Inv X pins σ H s) (r : Vals vs us) (hz : vs.length ≤ sizeLine) (h : ∀ e, H e = none → sp (.ref e :: (vs ++ dvs)) (upd H e (Ex0 e C none)) (fun v H2 => v = .non ∧ Q (.ref e) H2) E) :
    wpAny (model X.prog X.w) X.A (call (.ref C) us) (fun u s' => ∃ e H', u = .ref e ∧ X.s₀.heap.objs.size ≤ e ∧ Inv X pins σ H' s' ∧ Q (.ref e) H') X.xe s := by
  obtain ⟨nm, qn, N, bs, sn, sub, ab, col, dd, k0, k1, k2, k3, k5, mN, oI, hC, hN, hi, hf, hfc⟩ := c.cls I.kIn
  obtain ⟨hh, g, d, t, os⟩ := s
  refine xmake (xtail R) hC hN hi hf hfc (by rw [← r.length]; exact hz) fun h' e mk ye => ?_
  obtain ⟨kp, en, t0, e1, tn, e2⟩ := mk
  have hE : H e = none := I.hok.fresh ye
  have I2 : Inv X pins σ (upd H e (Ex0 e C none)) ⟨h', g, d, t, os⟩ := I.laid (a := e) (o := Ex0 e C none) (t' := t) kp ye (Ex0.ok e1 rfl rfl rfl (by show 1 < 6; decide) rfl)
  have hq := h e hE
  have r2 : Vals (V.ref e :: (vs ++ dvs)) (Value.ref e :: (us ++ ds)) := .cons rfl (r.append hd)
  have hl : (Value.ref e :: us ++ ds).length = ps.length := by
    have e' := r2.length
    rw [F.len _ _ _ _ hq] at e'
    exact e'.symm
  refine wpAny_call (codeAny_mono (F.run _ X.stack _ _ ⟨Value.ref e :: us, []⟩ (Value.ref e :: (us ++ ds)) _ _ E (hr.make C us []) (I2.env0.make C us []) (hb _ (Value.ref e :: us) I2.kIn hl) r2 hq) fun rr s' hq' => ?_)
  cases rr with
  | error ev => exact hx pins σ _ _ ev s' I2 hq'
  | ok fl =>
    cases fl with
    | ret u =>
      obtain ⟨v, H', I3, rv, ev, q3⟩ := I2.after hq'
      subst ev
      exact ⟨rv, e, H', rfl, Nat.le_trans I.sz ye, I3, q3⟩
    | next => exact False.elim hq'
    | brk => exact False.elim hq'
    | cont => exact False.elim hq'
/-- raise C(..) -/
def tRaise (S : St → Prop) (C : Addr) (sp : Sp) (dvs : List V) (E : XK) (t : TA) : TS := fun _ σ H => S σ ∧ t σ H fun vs H1 => vs.length ≤ 1000 ∧ ∀ e, H1 e = none →
  sp (.ref e :: (vs ++ dvs)) (upd H1 e (Ex0 e C none)) (fun v H2 => v = .non ∧ ∃ e' dx, V.ref e = .ref e' ∧ H2 e' = some (Ex0 e' C dx) ∧ E (.ref e') none (upd H2 e' (ExF e' C dx))) E0
theorem ps_raise {S : St → Prop} {rpos : Pos} (c : ExCl X.K C R f) (F : FnOk X.prog X.w X.K X.mg X.base (CXE X.prog X.w) k f fd ps sp) (hr : Room (k + 1) X.A) (hg : Gl X x) (hm : X.mg x = some (.ref C)) (hb : Binds X.K fd ps ds) (hd : Vals dvs ds) (hra : Raises X S E) (ha : PA X (e :: es) t)
    (hdb : (x == ("__debug__" : Str)) = false := by decide) (he : starEach (e :: es) X.env = (false, eval e X.env) :: starEach es X.env := by rfl) (hpl : (backTo pos (starEach es X.env)).any (·.1) = false := by rfl) :
    PS X (.Raise (some (.Call (.Name x p) (e :: es) [] pos)) none rpos) (tRaise S C sp dvs E t) := by
  intro pins s σ H D I h
  obtain ⟨hS, h⟩ := h
  refine xRaise hr.hd ?_
  refine wpAny_Call_Name_kw (ld_glob I hg hm ?_ hdb)
  refine PySem.W.callWith_K (h₀ := X.base) I.ok.mod.kin c.kp (thn (ha pos pins s σ H _ I h) fun us s1 ⟨vs, H1, I1, r, hz, q⟩ => ⟨I1.kIn, ?_⟩) he hpl
  refine thn (run_makeX (E := E0) (Q := fun v H2 => ∃ e' dx, v = .ref e' ∧ H2 e' = some (Ex0 e' C dx) ∧ E (.ref e') none (upd H2 e' (ExF e' C dx))) c F hr hb hd passX I1 r (by rw [sizeLine_eq]; omega) q) fun u s2 ⟨e', H2, eu, ye, I2, e'', dx, e3, h2, hE⟩ => ?_
  · cases e3
    obtain ⟨⟨oe, vs', g, oc, ox, od, h1, hv⟩, _⟩ := I2.hok e' _ h2
    obtain ⟨nm, qn, N, bs, sn, sub, ab, col, dd, k0, k1, k2, k3, k5, mN, oI, hC, _⟩ := c.cls I2.kIn
    obtain ⟨c1, d1, dt1, sl1⟩ := oe
    cases oc; cases ox; cases od
    exact ⟨e', C, N, nm, qn, bs, _, true, sn, sub, ab, col, dd, k0, k1, k2, k3, k5, _, vs', sl1, eu, xtail R, hC, g, hv, hra pins σ H2 s2 e' C _ hS I2 h2 ye hE⟩
end
end L2

/-! repr of data, isinstance of an exception, isinstance of an empty dict among the rest -/
namespace L2
open PySem PySem.Spec PyProof.Rows
theorem se_bin {l o r p} {es : List Expr} {env : Env} : starEach (.BinOp l o r p :: es) env = (false, eval (.BinOp l o r p) env) :: starEach es env := rfl
section
variable {X : Cx}
end
/-- data, the empty dict too -/
def DatE (K : PySem.W.Frag) (H : Hp) (x : V) (d : PyData) : Prop := (Dat K H x d ∧ d.hasDict = false) ∨ ((∃ a, x = .ref a ∧ H a = some (.dK [])) ∧ d = .dict [])
def rRepr (K : PySem.W.Frag) : List V → Hp → VK → Prop := fun xs H Q => ∃ x d, xs = [x] ∧ DatE K H x d ∧ d.showable = true ∧ d.depth ≤ 8 ∧ d.shown.length ≤ sizeLine ∧ Q (.str d.shown) H
section
variable {X : Cx}
/-- the type's name of a value, an empty dict's too -/
def tyM (K : PySem.W.Frag) (x : V) (H : Hp) (t : String) : Prop := tyN K x H t ∨ (t = "dict" ∧ ∃ p kvs, x = .ref p ∧ H p = some (.dK kvs))
end
end L2

/-! == of lists of the very same things; a class made within a try -/
namespace L2
open PySem PySem.Spec PyProof.Rows
/-- a thing that is the same as itself by ==: flat, or an object -/
def SelfV (v : V) : Prop := flatV v = true ∨ ∃ r, v = .ref r
theorem eqV_self : ∀ {v : V}, flatV v = true → eqV v v = true
  | .non, _ => rfl
  | .bl b, _ => by cases b <;> rfl
  | .int i, _ => by simp [eqV]
  | .str x, _ => by simp [eqV]
theorem eqAt_self {A : Around} {s : Shared} {v : V} {u u' : Value} (h : SelfV v) (r : RelV v u) (r' : RelV v u') : SeqAt.EqAt A s u u' true := by
  rcases h with h | ⟨a, rfl⟩
  · have := eqAt_V (A := A) (s := s) r r' h h
    rw [eqV_self h] at this
    exact this
  · cases r
    cases r'
    exact SeqAt.EqAt.same _
def rEqSame (K : PySem.W.Frag) : R2 := fun x y H Q => ∃ a b xs, x = .ref a ∧ y = .ref b ∧ SqL K H a xs ∧ SqL K H b xs ∧ (∀ v ∈ xs, SelfV v) ∧ Q (.bl true) H
section
variable {X : Cx}
theorem op_eqSame (hu : X.A.units + 64 < cLine) : OpR X (compareOp .Eq) (rEqSame X.K) := by
  intro pins s σ H x y v u Q I rx ry h
  obtain ⟨a, b, xs, rfl, rfl, ha, hb, hs, q⟩ := h
  cases rx
  cases ry
  obtain ⟨i1, r1, p1, _⟩ := I.list ha
  obtain ⟨i2, r2, p2, _⟩ := I.list hb
  have l1 := r1.length
  have l2 := r2.length
  refine SeqAt.eq_listAt (e := fun _ => true) p1.isList p2.isList (by rw [List.size_toArray, List.size_toArray]; omega) (by omega) (fun j h1 h2 => ?_) ?_
  · have hj : j < xs.length := by rw [List.size_toArray] at h1; omega
    obtain ⟨u1, e1, q1⟩ := r1.get (List.getElem?_eq_getElem hj)
    obtain ⟨u2, e2, q2⟩ := r2.get (List.getElem?_eq_getElem hj)
    have f1 : i1.toArray[j] = u1 := by
      have := (List.getElem?_eq_some_iff.mp e1).2
      simpa using this
    have f2 : i2.toArray[j] = u2 := by
      have := (List.getElem?_eq_some_iff.mp e2).2
      simpa using this
    rw [f1, f2]
    exact eqAt_self (hs _ (List.getElem_mem hj)) q1 q2
  · rw [show ((List.range i1.toArray.size).all fun _ => true) = true by simp]
    exact ⟨.bl true, H, I, rfl, q⟩
end
/-! ### C(..) within a try -/
section
variable {X : Cx} {CX : CXT} {k : Nat} {f C : Addr} {fd : FuncData} {ps : List Str} {sp : Sp} {dvs : List V} {ds : List Value} {E : XK} {S : St → Prop} {x : Str} {p pos : Pos} {e : Expr} {es : List Expr} {t : TA}
def tMakeS (S : St → Prop) (C : Addr) (sp : Sp) (dvs : List V) (E : XK) (t : TA) : TE := fun σ H Q => t σ H fun vs H1 => S σ ∧ ∀ x dx, H1 x = none → H1 dx = none → dx ≠ x → sp (.ref x :: (vs ++ dvs)) (upd (upd H1 dx (.own x)) x (.ins C dx [])) (fun v H2 => v = .non ∧ Q (.ref x) H2) E
end
end L2

/-! isinstance(e, another class) of an exception: no -/
namespace L2
open PySem PyProof.Rows
section
variable {prog : Program} {w : World} {A : Around} {E : Value → Shared → Prop} {s : Shared} {K : PySem.W.Frag} {e C R fI : Addr} {oe : Obj}
theorem xclass {od : Option Obj} {Q : Option Value → Shared → Prop} (X : K.In s.heap) (c : ExCl K C R fI) (I : PySem.W.InstAt s.heap e oe C od) (hf : PySem.W.findObj K C od "__class__" = some (.bind (.builtin "getset_descriptor.__get__") (.builtin "object.__class__"))) (hmo : PySem.W.mroIn K C (.type "object") = some true) (h : Q (some (.ref C)) { s with toks := s.toks + 1 }) :
    wpAny (model prog w) A (getAttr? (.ref e) "__class__") Q E s := by
  obtain ⟨cd, hcd, hm, _⟩ := c.clsIn
  have isB : PySem.W.Looks (model prog w) s.heap (isInstance (.ref e) (.type "BaseException")) true := I.type.andThen (PySem.W.looks_mroIn X (by
    unfold PySem.W.mroIn
    rw [hcd, Option.bind_some, hm, if_neg (by intro z; cases z)]
    rfl))
  have L0 := I.type (M := model prog w)
  have L1 := PySem.W.looks_findIn (M := model prog w) X c.ga
  have L2 := PySem.W.looks_findIn (M := model prog w) X c.gh
  have L3 := PySem.W.looks_find (M := model prog w) X I hf
  obtain ⟨hp, g, d, t, os⟩ := s
  unfold getAttr? getAttrBy? getAttrBy
  refine wpAny_bind (wpAny_mkText (wpAny_bind (wpAny_attempt (wpAny_holding (wpAny_bind (L0.at (wpAny_bind (L1.at ?_))))))))
  show wpAny _ _ (getAttrByItsOwn _ _ _ _ _ _) _ _ _
  unfold getAttrByItsOwn
  refine wpAny_bind (show wpAny _ _ (typeLookup (.ref C) "__getattr__") _ _ _ from L2.at ?_)
  have FB := PySem.F.attr_ValueError.ga
  have hk : builtinKind "BaseException.__getattribute__" = some .slot := by decide +kernel
  have hs : splitId "BaseException.__getattribute__" = some ("BaseException", "__getattribute__") := by decide +kernel
  refine wpAny_bind (wpAny_attempt (wpAny_holding ?_))
  unfold callGetattribute
  rw [if_neg (by intro z; cases z)]
  unfold boundAndCalled
  rw [FB.bind]
  refine wpAny_bind (wpAny_pure (wpAny_call ?_))
  show codeAny _ _ (.call (.builtin "BaseException.__getattribute__") ⟨[.ref e, .str "__class__" t], []⟩) _ _
  refine codeAny_call_builtin FB.plain PySem.F.entry_bexc_ga ?_
  refine @PySem.W.check_slot (model prog w) _ _ _ "BaseException.__getattribute__" "BaseException" "__getattribute__" (.ref e) [.str "__class__" t] [] _ hk hs isB (PySem.F.args_bexc_ga _ _) ?_
  unfold Builtin.«object.__getattribute__» slotArgs
  refine wpAny_bind (wpAny_pure ?_)
  refine wpAny_bind (wpAny_pure ?_)
  refine wpAny_bind (L0.at ?_)
  refine wpAny_bind (L3.at ?_)
  show wpAny _ _ (holding [Value.builtin "object.__class__"] (call (.builtin "getset_descriptor.__get__") [.builtin "object.__class__", .ref e, .ref C]) >>= ret) _ _ _
  refine wpAny_bind (wpAny_holding (wpAny_call ?_))
  refine PySem.W.class_get (s := ⟨hp, g, d, t + 1, os⟩) X I hmo ?_
  refine wpAny_pure ?_
  show wpAny _ _ (handedOut (.ref C)) _ _ _
  rw [PySem.W.handedOut_of rfl]
  exact wpAny_pure (wpAny_pure h)
/-- .. is of no other class -/
theorem xisnt {od : Option Obj} {D : Addr} {dep : Int} {tk : Tok} {Q : Fin → Shared → Prop} (X : K.In s.heap) (c : ExCl K C R fI) (I : PySem.W.InstAt s.heap e oe C od) (hf : PySem.W.findObj K C od "__class__" = some (.bind (.builtin "getset_descriptor.__get__") (.builtin "object.__class__"))) (hmo : PySem.W.mroIn K C (.type "object") = some true)
    (hn : PySem.W.kin_not K C D = true) (h : Q (.done (.ret (.bool false))) { s with toks := s.toks + 1 }) :
    wpAny (model prog w) A (Builtin.«isinstance.nested» ⟨[.ref e, .ref D, .int dep tk], []⟩) Q E s := by
  unfold PySem.W.kin_not at hn
  rw [Bool.and_eq_true, Bool.and_eq_true, Bool.and_eq_true] at hn
  obtain ⟨⟨⟨e0, e1⟩, e2⟩, e3⟩ := hn
  have hty := PySem.W.looks_typeIn (M := model prog w) X (beq_iff_eq.mp e2)
  have hsub := PySem.W.looks_subIn (M := model prog w) X (beq_iff_eq.mp e3)
  have isT : ∀ {B : Addr}, (PySem.W.clsIn K B).isSome = true → PySem.W.Looks (model prog w) s.heap (isType (.ref B)) true := fun {B} hB => by
    unfold PySem.W.clsIn at hB
    split at hB
    · rename_i c' d' cd' sl' ho
      intro A' Q' E' s' k q
      unfold isType loadHead
      exact wpAny_bind (wpAny_loadPart (k _ _ (X _ _ ho)) (wpAny_pure q))
    · cases hB
  have his := isT e1
  obtain ⟨cd, hcd, _⟩ := c.clsIn
  have hisD := isT (B := C) (by rw [hcd]; rfl)
  have hne : (Value.ref C == Value.ref D) = false := Bool.eq_false_iff.mpr fun q => of_decide_eq_true e0 (Value.ref.inj (beq_iff_eq.mp q))
  obtain ⟨h0, g, d, tt, os⟩ := s
  have L0 := I.type (M := model prog w)
  have LI : PySem.W.Looks (model prog w) h0 (isInstance (.ref e) (.ref D)) false := L0.andThen hsub
  unfold Builtin.«isinstance.nested»
  refine wpAny_bind (L0.at ?_)
  rw [if_neg (fun q => by rw [hne] at q; exact Bool.noConfusion q)]
  refine wpAny_bind (hty.at ?_)
  rw [if_pos (by decide)]
  k_delta "plainIsInstance"
  refine wpAny_bind (wpAny_bind (his.at ?_))
  simp only [Bool.not_true, Bool.false_eq_true, if_false]
  refine wpAny_bind (LI.at ?_)
  simp only [Bool.false_eq_true, if_false]
  refine wpAny_bind (xclass X c I hf hmo ?_)
  refine wpAny_bind (hisD.at ?_)
  simp only [Bool.not_true, Bool.false_eq_true, if_false]
  refine wpAny_bind (wpAny_rule ?_)
  refine hsub.at ?_
  first
    | exact wpAny_pure h
    | exact wpAny_pure (wpAny_pure h)
    | exact wpAny_bind (wpAny_pure (wpAny_pure h))
end
/-- facts by which an exception of C is none of D -/
structure XNot (K : PySem.W.Frag) (C D : Addr) : Prop where
  ha : PySem.W.findIn K (.ref C) "__class__" = some (some (.builtin "object.__class__"))
  hg : PySem.W.specialIn K (.builtin "object.__class__") "__get__" = some (some (.builtin "getset_descriptor.__get__"))
  ht : PySem.W.takesIn K (.builtin "object.__class__") = some true
  hm : PySem.W.mroIn K C (.type "object") = some true
  nt : PySem.W.kin_not K C D = true
section
variable {X : Cx}
end
/-! ### repr of a dict of flat things -/
def keyD : Key → PyData
  | .inl n => .int n
  | .inr x => .str x
def flatD : V → PyData
  | .bl b => .bool b
  | .int i => .int i
  | .str x => .str x
  | _ => .none
theorem reads_key {P : Program} {w : World} {h : Heap} {k : Key} {u : Value} (hk : (mixKind P w).is k u = true) : Reads h u (keyD k) [] := by
  rcases keyIs_shape hk with ⟨i, t, rfl, rfl⟩ | ⟨x, t, rfl, rfl⟩
  · exact .int _ _
  · exact .str _ _
/-- data, a dict of flat things too -/
def DatF (K : PySem.W.Frag) (H : Hp) (x : V) (d : PyData) : Prop := (Dat K H x d ∧ d.hasDict = false) ∨ ∃ a kvs, x = .ref a ∧ H a = some (.dK kvs) ∧ (∀ p ∈ kvs, flatV p.2 = true) ∧ d = .dict (kvs.map fun p => (keyD p.1, flatD p.2))
def rReprF (K : PySem.W.Frag) : List V → Hp → VK → Prop := fun xs H Q => ∃ x d, xs = [x] ∧ DatF K H x d ∧ d.showable = true ∧ d.depth ≤ 8 ∧ d.shown.length ≤ sizeLine ∧ Q (.str d.shown) H
section
variable {X : Cx}
end
end L2

/-! x == x of a thing, the empty dict too -/
namespace L2
open PySem PySem.Spec PyProof.Rows
section
variable {X : Cx}
/-- a thing held against itself -/
def rEqSelf (K : PySem.W.Frag) : R2 := fun x y H Q => x = y ∧ ((flatV x = true) ∨ (∃ d, Dat K H x d ∧ SeqAt.shaped d = true) ∨ ∃ a, x = .ref a ∧ H a = some (.dK [])) ∧ Q (.bl true) H
end
end L2

/-! for a, b in enumerate(a list): each turn's tuple is new -/
namespace L2
open PySem PySem.Spec PyProof.Rows
section
variable {X : Cx} {pins : List (Addr × Obj)} {σ : St} {H : Hp} {s : Shared} {h' : Heap}
end
def Ite (K : PySem.W.Frag) (a : Addr) : It :=
  ⟨fun i H => ∃ xs x, SqL K H a xs ∧ xs[i]? = some x, fun i H x H' => ∃ y p, x = .ref p ∧ H p = none ∧ H' = upd H p (.tup [.int (i : Int), y]) ∧ ∀ xs, SqL K H a xs → xs[i]? = some y, fun i H => ∃ xs, SqL K H a xs ∧ xs.length ≤ i⟩
def iEnum (K : PySem.W.Frag) (ta : TA) : TI := fun σ H R => ta σ H fun vs H1 => ∃ a xs, vs = [.ref a] ∧ SqL K H1 a xs ∧ R (Ite K a) H1
end L2

/-! A list comprehension that has another one within: its own names are cells. -/
namespace L2
open PySem PySem.Spec PyProof.Rows
abbrev Cx.compK (X : Cx) (scope : Scope) (cl : List (Str × Addr)) (ks : List Str) (N : List Str) (s : Shared) (H : Hp) (fp : List Addr) (C : Addr) : Cx where
  prog := X.prog
  w := X.w
  K := X.K
  mg := X.mg
  base := X.base
  A := X.A
  N := N
  s₀ := s
  H₀ := H
  env := compEnvC scope cl C X.env
  outer := X.stack
  stack := X.stack
  ex := fp
  fn := fun x => ks.contains x
  calm := X.calm
  pn := []
  xe := fun _ _ => False
/-- the names ys have the same cells in both -/
def sameL (cl cl' : List (Str × Addr)) : List Str → Prop
  | [] => True
  | y :: ys => cl'.lookup y = cl.lookup y ∧ sameL cl cl' ys
/-- the names ks have new cells -/
def newL (cl : List (Str × Addr)) (C : Nat) : List Str → Prop
  | [] => True
  | y :: ys => (∃ c, cl.lookup y = some c ∧ C < c) ∧ newL cl C ys
structure CK (h : Heap) (lo : Nat) (cl acc : List (Str × Addr)) : Prop where
  mem : ∀ n c, acc.lookup n = some c → cl.lookup n = some c ∨ (lo ≤ c ∧ h.IsCell c none)
  inj : ∀ x y c, acc.lookup x = some c → acc.lookup y = some c → lo ≤ c → x = y
section
variable {M : Model} {A : Around} {E : Value → Shared → Prop} {s : Shared}
end
section
variable {X : Cx} {elt tg iter : Expr} {ifs : List Expr} {scope : Scope} {cl : List (Str × Addr)} {ts ys : List Str} {js : List Nat} {pos : Pos} {wi : TI} {g : TG} {tc : TT} {te : TE}
end
end L2

/-! del xs[i]; set(xs) of a list of ints and its len -/
namespace L2
open PySem PySem.Spec PyProof.Rows
section
variable {X : Cx}
/-- del o[i] of a list -/
def tDel (to ti : TE) : TS := fun D σ H => to σ H fun o H1 => ti σ H1 fun j H2 => ∃ (l : Addr) (xs : List V) (k : Nat), o = .ref l ∧ j = .int (k : Int) ∧ H2 l = some (.lst xs) ∧ k < xs.length ∧ D.nx σ (upd H2 l (.lst (xs.eraseIdx k)))
/-- a set of n things -/
def SetN (a : Addr) (n : Nat) : HO := .ext fun h => ∃ o es ep t, h.get? a = some o ∧ o.ExactSet ∧ o.data = .set es ep t ∧ t.fits es.size = true ∧ es.size = n
/-- how many unlike ones -/
def unlike (ns : List Int) : Nat := (firstMet (fun i => ns.getD i 0) ns.length).length
end
end L2
namespace L2
open PySem
end L2
namespace L2
open PySem PySem.Spec PyProof.Rows
end L2

/-! zip of two lists or of two tuples -/
namespace L2
open PySem PySem.Spec PyProof.Rows
/-- b: tuples; else lists -/
def Sq2 (K : PySem.W.Frag) : Bool → Hp → Addr → List V → Prop
  | false, H, a, xs => SqL K H a xs
  | true, H, a, xs => SqT K H a xs
def IsIt2 : Bool → Heap → Addr → Addr → Nat → Prop
  | false, h, j, a, i => h.IsListIter j a i
  | true, h, j, a, i => h.IsTupleIter j a i
def IsSq2 : Bool → Heap → Addr → Array Value → Prop
  | false, h, a, xs => h.IsList a xs
  | true, h, a, xs => h.IsTuple a xs
section
variable {P : Program} {w : World} {A : Around} {E : Value → Shared → Prop} {s : Shared}
/-- the zip's own objects: itself, its iterators' tuple, the tuple it owns, the two iterators -/
structure Zp (b : Bool) (h : Heap) (z ti to j1 j2 a1 a2 : Addr) (n : Nat) : Prop where
  z : IsZip h z ti to .none
  ti : IsPair h ti (.ref j1) (.ref j2)
  to : ∃ p q, IsPair h to p q
  i1 : IsIt2 b h j1 a1 n
  i2 : IsIt2 b h j2 a2 n
end
abbrev itN (b : Bool) : String := if b then "tuple_iterator" else "list_iterator"
abbrev zp1 (b : Bool) (h : Heap) (a : Addr) : Heap := h.push { cls := .type (itN b), data := .fields #[.ref a, .int 0 0] }
abbrev zp3 (b : Bool) (h : Heap) (a1 a2 : Addr) : Heap := (zp1 b (zp1 b h a1) a2).push { cls := .type "tuple", data := .seq #[.ref h.objs.size, .ref (zp1 b h a1).objs.size] }
abbrev zp4 (b : Bool) (h : Heap) (a1 a2 : Addr) : Heap := (zp3 b h a1 a2).push { cls := .type "tuple", data := .seq #[.none, .none] }
abbrev zp5 (b : Bool) (h : Heap) (a1 a2 : Addr) : Heap := (zp4 b h a1 a2).push { cls := .type "zip", data := .fields #[.none, .bool false, .bool false, .ref (zp1 b (zp1 b h a1) a2).objs.size, .ref (zp3 b h a1 a2).objs.size] }
section
variable {P : Program} {w : World} {A : Around} {E : Value → Shared → Prop} {s : Shared}
end
section
variable {X : Cx} {pins : List (Addr × Obj)} {σ : St} {H : Hp} {s : Shared} {h' : Heap}
end
def Itz (K : PySem.W.Frag) (b : Bool) (a1 a2 : Addr) : It :=
  ⟨fun i H => ∃ xs ys x y, Sq2 K b H a1 xs ∧ Sq2 K b H a2 ys ∧ xs[i]? = some x ∧ ys[i]? = some y,
   fun i H v H' => ∃ x y p, v = .ref p ∧ H p = none ∧ H' = upd H p (.tup [x, y]) ∧ (∀ xs, Sq2 K b H a1 xs → xs[i]? = some x) ∧ ∀ ys, Sq2 K b H a2 ys → ys[i]? = some y,
   fun i H => ∃ xs ys, Sq2 K b H a1 xs ∧ Sq2 K b H a2 ys ∧ (xs.length ≤ i ∨ ys.length ≤ i)⟩
def iZip (K : PySem.W.Frag) (b : Bool) (ta : TA) : TI := fun σ H R => ta σ H fun vs H1 => ∃ a1 a2 xs ys, vs = [.ref a1, .ref a2] ∧ Sq2 K b H1 a1 xs ∧ Sq2 K b H1 a2 ys ∧ R (Itz K b a1 a2) H1
/-- of lists or of tuples: the reading says which -/
def iZip2 (K : PySem.W.Frag) (ta : TA) : TI := fun σ H R => ∃ b, iZip K b ta σ H R
end L2

/-! is, is not of truths; int of a truth; data with an empty dict among it -/
namespace L2
open PySem PySem.Spec PyProof.Rows
section
variable {X : Cx}
end
/-- data, or a dict at the top -/
def DatT (K : PySem.W.Frag) (H : Hp) (x : V) (d : PyData) : Prop := Dat K H x d ∨ (∃ a kvs, x = .ref a ∧ H a = some (.dK kvs)) ∧ d = .dict []
def tyD : PyData → String
  | .none => "NoneType"
  | .bool _ => "bool"
  | .int _ => "int"
  | .str _ => "str"
  | .list _ => "list"
  | .tuple _ => "tuple"
  | .dict _ => "dict"
end L2

namespace L2
open PySem
theorem new_facts {H H1 : Hp} {p : Addr} {o : HO} (e : upd H p o = H1) (hp : H p = none) : Same H H1 ∧ H1 p = some o := by
  subst e
  exact ⟨fun b u q => by rw [upd_ne (ne_of_none q hp)]; exact q, upd_same⟩
theorem Same.at {H H1 : Hp} {a : Addr} {o : HO} (g : Same H H1) (h : H a = some o) : H1 a = some o := g _ _ h
theorem Same.tp {K : PySem.W.Frag} {H H' : Hp} {a : Addr} {xs : List V} (e : Same H H') (h : SqT K H a xs) : SqT K H' a xs := by
  rcases h with (h | ⟨o, h⟩) | h
  · exact .inl (.inl (e _ _ h))
  · exact .inl (.inr ⟨o, e _ _ h⟩)
  · exact .inr h
end L2

local macro_rules | `(tactic| walk_at "hp") => `(tactic| first
  | assumption
  | exact L2.upd_same
  | exact L2.Same.refl _
  | (refine' L2.Same.at ?k1 ?_; (case k1 => assumption); walk_at "hp"; done)
  | (refine L2.SqL.of ?_; walk_at "hp"; done)
  | (refine L2.SqT.of ?_; walk_at "hp"; done)
  | (refine' L2.Same.seq ?k1 ?_; (case k1 => assumption); walk_at "hp"; done)
  | (refine' L2.Same.tp ?k1 ?_; (case k1 => assumption); walk_at "hp"; done)
  | (refine' L2.Same.dt ?k1 ?_; (case k1 => assumption); walk_at "hp"; done)
  | (refine' L2.Same.dts ?k1 ?_; (case k1 => assumption); walk_at "hp"; done)
  | (refine' L2.Same.dtt ?k1 ?_; (case k1 => assumption); walk_at "hp"; done)
  | (refine' L2.Same.trans ?_ ?k1; (case k1 => assumption); walk_at "hp"; done))
local macro_rules | `(tactic| walk_at "al") => `(tactic| (intro pX hX; generalize eX : L2.upd _ pX _ = HX; obtain ⟨gX, kX⟩ := L2.new_facts eX hX; clear eX))
local macro_rules | `(tactic| o_unpack $r:ident) => `(tactic| (intro $r:ident hX; generalize eX : L2.upd _ $r:ident _ = HX; obtain ⟨gX, kX⟩ := L2.new_facts eX hX; clear eX))
local macro_rules | `(tactic| walk_at "ch") => `(tactic| (generalize eX : L2.upd _ _ _ = HX; obtain ⟨gX, kX⟩ := L2.chg_facts eX; clear eX))
local macro_rules | `(tactic| walk_at "rd") => `(tactic| repeat first
  | (refine ⟨_, rfl, ?_⟩)
  | (refine ⟨_, _, rfl, rfl, ?_⟩)
  | (refine ⟨_, _, rfl, rfl, ⟨by decide, by decide⟩, ?_⟩)
  | (refine' ⟨_, _, rfl, .inl ?k1, ?_⟩; (case k1 => walk_at "hp"))
  | (refine' ⟨_, _, _, _, rfl, rfl, ?k1, ?k2, ?_⟩; (case k1 => walk_at "hp"); (case k2 => rfl)))
/-! isinstance of an own exception: one class, or a tuple of classes -/
namespace L2
open PySem PySem.Spec PyProof.Rows
section
variable {X : Cx}
/-- the exception at e, of the class at C, its dict at dx -/
def Exc (K : PySem.W.Frag) (H : Hp) (e C : Addr) (fs : List (Str × V)) : Prop := ∃ dx R fI, (H e = some (ExF e C (some dx)) ∨ H e = some (Ex0 e C (some dx))) ∧ H dx = some (XD dx fs) ∧ ExCl K C R fI
theorem Exc.obj {pins : List (Addr × Obj)} {σ : St} {H : Hp} {s : Shared} {e C : Addr} {fs : List (Str × V)} (I : Inv X pins σ H s) (h : Exc X.K H e C fs) :
    ∃ dx R fI oe vs o1, s.heap.get? e = some oe ∧ oe.cls = .ref C ∧ oe.dict = some dx ∧ oe.data = .fields vs ∧ s.heap.get? dx = some o1 ∧ ExCl X.K C R fI := by
  obtain ⟨dx, R, fI, he, hd, c⟩ := h
  obtain ⟨⟨mA, hn, _⟩, _⟩ := I.hok dx _ hd
  obtain ⟨o1, ho, _⟩ := lookIn_ns hn
  rcases he with he | he
  · obtain ⟨⟨oe, vs, g, oc, ox, od⟩, _⟩ := I.hok e _ he
    exact ⟨dx, R, fI, oe, vs, o1, g, oc, ox, od, ho, c⟩
  · obtain ⟨⟨oe, vs, g, oc, ox, od, _⟩, _⟩ := I.hok e _ he
    exact ⟨dx, R, fI, oe, vs, o1, g, oc, ox, od, ho, c⟩
structure ExP (K : PySem.W.Frag) (e C dx : Addr) (s : Shared) : Prop where
  k : K.In s.heap
  o : ∃ oe vs o1, s.heap.get? e = some oe ∧ oe.cls = .ref C ∧ oe.dict = some dx ∧ oe.data = .fields vs ∧ s.heap.get? dx = some o1
theorem ansSame {K : PySem.W.Frag} {e C dx : Addr} : Answers (ExP K e C dx) (.ref e) (.ref C) true := fun dep tk => Meets.of_wp fun prog w A R s hs => by
  obtain ⟨⟨_, oe, vs, o1, g, oc, _⟩, h⟩ := hs
  unfold Builtin.«isinstance.nested»
  refine wpAny_bind (m := typeOf (.ref e)) (wpAny_typeOf_ref g ?_)
  rw [oc]
  show wpAny _ _ (if (Value.ref C == Value.ref C) = true then _ else _) _ _ s
  rw [if_pos (by simp)]
  repeat (first | refine wpAny_pure ?_ | refine wpAny_rule ?_ | refine wpAny_bind ?_)
  exact ⟨_, rfl, h s.toks⟩
theorem ansNot {K : PySem.W.Frag} {e C D R fI dx : Addr} (c : ExCl K C R fI) (x : XNot K C D) : Answers (ExP K e C dx) (.ref e) (.ref D) false := fun dep tk => Meets.of_wp fun prog w A Rs s hs => by
  obtain ⟨⟨k, oe, vs, o1, g, oc, ox, od, ho⟩, h⟩ := hs
  obtain ⟨cd, hcd, _⟩ := c.clsIn
  exact xisnt (od := some o1) k c (inst_of g oc od (by rw [ox]; exact ho)) (PySem.W.findObj_data (by rw [hcd]; rfl) x.ha x.hg x.ht) x.hm x.nt ⟨_, rfl, h _⟩
theorem call_isE {K : PySem.W.Frag} (hK : X.K = K) : CallR X (.builtin "isinstance") (fun xs H Q => ∃ e C D fs b, xs = [.ref e, .ref D] ∧ Exc K H e C fs ∧ ((D = C ∧ b = true) ∨ (XNot K C D ∧ b = false)) ∧ Q (.bl b) H) := by
  subst hK
  intro pins s σ H xs us Q I r h
  obtain ⟨e, C, D, fs, b, rfl, he, hb, q⟩ := h
  obtain ⟨u, v, rfl, ru, rv⟩ := vals2 r
  cases ru
  cases rv
  obtain ⟨dx, R, fI, oe, vs, o1, g, oc, ox, od, ho, c⟩ := he.obj I
  have fin : Answers (ExP X.K e C dx) (.ref e) (.ref D) b := by
    rcases hb with ⟨rfl, rfl⟩ | ⟨hn, rfl⟩
    · exact ansSame
    · exact ansNot c hn
  refine call_isinstance_of ?_ (by intro z; cases z)
  exact fin 0 _ X.prog X.w X.A (fun r s' => match r with | .ok (.ret v) => EP X pins σ Q v s' | .ok _ => False | .error e => X.xe e s') s ⟨⟨I.kIn, oe, vs, o1, g, oc, ox, od, ho⟩, fun tk => ⟨.bl b, H, I.tok _, rfl, q⟩⟩
theorem isT_nested {P : Shared → Prop} {prog : Program} {w : World} {A : Around} {E : Value → Shared → Prop} (hP : ∀ s tk, P s → P { s with toks := tk }) {e C tp : Addr} {oe ot : Obj} {n : Nat} {cs : List Value} {bs : List Bool} {tk : Tok} {s : Shared} {Q : Fin → Shared → Prop}
    (he : s.heap.get? e = some oe) (hc : oe.cls = .ref C) (ne : C ≠ tp) (ht : s.heap.get? tp = some ot) (htc : ot.cls = .type "tuple") (htd : ot.data = .seq cs.toArray n) (ha : AnswersAll P (.ref e) cs bs) (hs : P s)
    (hq : ∀ tk', Q (.done (.ret (.bool (bs.any id)))) { s with toks := tk' }) : wpAny (model prog w) A (Builtin.«isinstance.nested» ⟨[.ref e, .ref tp, .int 0 tk], []⟩) Q E s := by
  unfold Builtin.«isinstance.nested»
  refine wpAny_bind (m := typeOf (.ref e)) (wpAny_typeOf_ref he ?_)
  rw [hc]
  show wpAny _ _ (if (Value.ref C == Value.ref tp) = true then _ else _) _ _ s
  rw [if_neg (by simp [ne])]
  refine wpAny_bind (m := typeOf (.ref tp)) (wpAny_typeOf_ref ht ?_)
  rw [htc]
  show wpAny _ _ (if (Value.type "tuple" == Value.type "type") = true then _ else _) _ _ s
  rw [if_neg (by decide)]
  refine wpAny_bind ?_
  unfold Builtin.Builtins.unionMembers
  refine wpAny_bind (m := typeOf (.ref tp)) (wpAny_typeOf_ref ht ?_)
  rw [htc]
  show wpAny _ _ (if (Value.type "tuple" == Value.type "types.UnionType") = true then _ else _) _ _ s
  rw [if_neg (by decide)]
  refine wpAny_pure ?_
  refine wpAny_bind (wpAny_isInstance (T := "tuple") (b := true) ⟨ot, ht, htc⟩ F.isi_sub_tuple ?_)
  rw [if_pos rfl]
  show wpAny _ _ (if (0 : Int) ≥ Builtin.Builtins.nestingLimit then _ else _) _ _ s
  rw [if_neg (by decide)]
  refine wpAny_bind (wpAny_seqItems ht htd ?_)
  refine wpAny_bind ?_
  refine wpAny_arrayLoop ?_
  simp only [Option.getD_some, List.toList_toArray]
  refine isinstance_items (dep := 0) hP cs bs _ _ ha hs fun tk' => ?_
  cases hv : bs.any id with
  | true =>
    simp only [if_true]
    exact wpAny_pure (hv ▸ hq tk')
  | false =>
    simp only [Bool.false_eq_true, if_false]
    exact wpAny_bind (wpAny_pure (wpAny_pure (hv ▸ hq tk')))
theorem ansAll {K : PySem.W.Frag} {e C R fI dx : Addr} (c : ExCl K C R fI) : ∀ {Ds : List Addr}, (∀ D ∈ Ds, D = C ∨ XNot K C D) → AnswersAll (ExP K e C dx) (.ref e) (Ds.map Value.ref) (Ds.map fun D => decide (D = C))
  | [], _ => trivial
  | D :: Ds, h => by
    refine ⟨?_, ansAll c fun x hx => h x (List.mem_cons_of_mem _ hx)⟩
    rcases h D (List.mem_cons_self ..) with rfl | hn
    · show Answers _ _ _ (decide (D = D)); rw [decide_eq_true rfl]; exact ansSame
    · show Answers _ _ _ (decide (D = C))
      by_cases z : D = C
      · rw [z, decide_eq_true rfl]; exact ansSame
      · rw [decide_eq_false z]; exact ansNot c hn
theorem refs_vals : ∀ {Ds : List Addr} {us : List Value}, Vals (Ds.map V.ref) us → us = Ds.map Value.ref
  | [], _, .nil => rfl
  | _ :: _, _, .cons r t => by cases r; rw [refs_vals t]; rfl
/-- isinstance(e, (A, B, ..)) -/
theorem call_isTup {K : PySem.W.Frag} (hK : X.K = K) : CallR X (.builtin "isinstance") (fun xs H Q => ∃ (e C tp : Addr) (fs : List (Str × V)) (Ds : List Addr), xs = [.ref e, .ref tp] ∧ Exc K H e C fs ∧ H tp = some (.tup (Ds.map V.ref)) ∧ (∀ D ∈ Ds, D = C ∨ XNot K C D) ∧ Q (.bl ((Ds.map fun D => decide (D = C)).any id)) H) := by
  subst hK
  intro pins s σ H xs us Q I r h
  obtain ⟨e, C, tp, fs, Ds, rfl, he, ht, hD, q⟩ := h
  obtain ⟨u, v, rfl, ru, rv⟩ := vals2 r
  cases ru
  cases rv
  obtain ⟨dx, R, fI, oe, vs, o1, g, oc, ox, od, ho, c⟩ := he.obj I
  obtain ⟨_, its, rv, ot, t1, t2, n, t3⟩ := I.hok tp _ ht
  rw [refs_vals rv] at t3
  obtain ⟨nm, qn, N, bs, sn, sub, ab, col, dd, k0, k1, k2, k3, k5, mN, oI, hC, _⟩ := c.cls I.kIn
  refine call_isinstance_of ?_ (by intro z; cases z)
  refine isT_nested (P := ExP X.K e C dx) (fun s tk z => ⟨z.k, z.o⟩) g oc (fun z => ?_) t1 t2 t3 (ansAll c hD) ⟨I.kIn, oe, vs, o1, g, oc, ox, od, ho⟩ fun tk => ⟨.bl _, H, I.tok _, rfl, q⟩
  rw [← z, hC] at t1
  cases t1
  cases t3
end
/-- equal things: the same, or lists or tuples of equal things (n deep) -/
inductive EqS (K : PySem.W.Frag) (H : Hp) : Nat → V → V → Prop
  | same {n : Nat} {v : V} : SelfV v → EqS K H n v v
  | lst {n : Nat} {a b : Addr} {xs ys : List V} : SqL K H a xs → SqL K H b ys → xs.length = ys.length → (∀ (i : Nat) x y, xs[i]? = some x → ys[i]? = some y → EqS K H n x y) → EqS K H (n + 1) (.ref a) (.ref b)
  | tup {n : Nat} {a b : Addr} {xs ys : List V} : SqT K H a xs → SqT K H b ys → xs.length = ys.length → (∀ (i : Nat) x y, xs[i]? = some x → ys[i]? = some y → EqS K H n x y) → EqS K H (n + 1) (.ref a) (.ref b)
section
variable {X : Cx}
theorem all_true {n : Nat} : ((List.range n).all fun _ => true) = true := by simp
theorem arr_get {us : List Value} {j : Nat} {u : Value} (h : us[j]? = some u) (hj : j < us.toArray.size) : us.toArray[j] = u := by
  have := (List.getElem?_eq_some_iff.mp h).2
  simpa using this
theorem Inv.eqs {pins : List (Addr × Obj)} {σ : St} {H : Hp} {s : Shared} (I : Inv X pins σ H s) : ∀ {n : Nat} {x y : V}, EqS X.K H n x y → ∀ {A : Around} {u v : Value}, RelV x u → RelV y v → A.units + n < cLine → SeqAt.EqAt A s u v true := by
  intro n x y h
  induction h with
  | same hs => intro A u v ru rv _; exact eqAt_self hs ru rv
  | @lst n a b xs ys ha hb hl _ ih =>
    intro A u v ru rv hu
    cases ru
    cases rv
    by_cases hab : a = b
    · subst hab; exact SeqAt.EqAt.same _
    obtain ⟨i1, r1, p1, _⟩ := I.list ha
    obtain ⟨i2, r2, p2, _⟩ := I.list hb
    have l1 := r1.length
    have l2 := r2.length
    refine SeqAt.EqAt.of_refs hab ?_
    have := SeqAt.RcAt.lists (A := A) (e := fun _ => true) p1.isList p2.isList (by rw [List.size_toArray, List.size_toArray]; omega) (by omega) (fun j h1 h2 => by
      have hj : j < xs.length := by rw [List.size_toArray] at h1; omega
      have hj2 : j < ys.length := by omega
      obtain ⟨u1, e1, q1⟩ := r1.get (List.getElem?_eq_getElem hj)
      obtain ⟨u2, e2, q2⟩ := r2.get (List.getElem?_eq_getElem hj2)
      rw [arr_get e1, arr_get e2]
      exact ih j _ _ (List.getElem?_eq_getElem hj) (List.getElem?_eq_getElem hj2) q1 q2 (by show A.units + 1 + n < cLine; omega))
    rw [all_true] at this
    exact this
  | @tup n a b xs ys ha hb hl _ ih =>
    intro A u v ru rv hu
    cases ru
    cases rv
    by_cases hab : a = b
    · subst hab; exact SeqAt.EqAt.same _
    obtain ⟨i1, r1, p1, _⟩ := I.tuple ha
    obtain ⟨i2, r2, p2, _⟩ := I.tuple hb
    have l1 := r1.length
    have l2 := r2.length
    refine SeqAt.EqAt.of_refs hab ?_
    have := SeqAt.RcAt.tuples (A := A) (e := fun _ => true) (show s.heap.IsTuple a i1.toArray from p1) (show s.heap.IsTuple b i2.toArray from p2) (by omega) (fun j h1 h2 => by
      have hj : j < xs.length := by rw [List.size_toArray] at h1; omega
      have hj2 : j < ys.length := by omega
      obtain ⟨u1, e1, q1⟩ := r1.get (List.getElem?_eq_getElem hj)
      obtain ⟨u2, e2, q2⟩ := r2.get (List.getElem?_eq_getElem hj2)
      rw [arr_get e1, arr_get e2]
      exact ih j _ _ (List.getElem?_eq_getElem hj) (List.getElem?_eq_getElem hj2) q1 q2 (by show A.units + 1 + n < cLine; omega))
    rw [all_true, show (i1.toArray.size == i2.toArray.size) = true by rw [List.size_toArray, List.size_toArray, show i1.length = i2.length by omega]; simp] at this
    exact this
/-- a list == an equal list -/
theorem op_eqE (hu : X.A.units + 64 < cLine) : OpR X (compareOp .Eq) (fun x y H Q => ∃ (a b : Addr) (xs ys : List V), x = .ref a ∧ y = .ref b ∧ SqL X.K H a xs ∧ SqL X.K H b ys ∧ xs.length = ys.length ∧ (∀ (i : Nat) x y, xs[i]? = some x → ys[i]? = some y → EqS X.K H 8 x y) ∧ Q (.bl true) H) := by
  intro pins s σ H x y v u Q I rx ry h
  obtain ⟨a, b, xs, ys, rfl, rfl, ha, hb, hl, he, q⟩ := h
  cases rx
  cases ry
  obtain ⟨i1, r1, p1, _⟩ := I.list ha
  obtain ⟨i2, r2, p2, _⟩ := I.list hb
  have l1 := r1.length
  have l2 := r2.length
  refine SeqAt.eq_listAt (e := fun _ => true) p1.isList p2.isList (by rw [List.size_toArray, List.size_toArray]; omega) (by omega) (fun j h1 h2 => ?_) ?_
  · have hj : j < xs.length := by rw [List.size_toArray] at h1; omega
    have hj2 : j < ys.length := by omega
    obtain ⟨u1, e1, q1⟩ := r1.get (List.getElem?_eq_getElem hj)
    obtain ⟨u2, e2, q2⟩ := r2.get (List.getElem?_eq_getElem hj2)
    rw [arr_get e1, arr_get e2]
    exact I.eqs (he j _ _ (List.getElem?_eq_getElem hj) (List.getElem?_eq_getElem hj2)) q1 q2 (by show X.A.units + 1 + 8 < cLine; omega)
  · rw [all_true]
    exact ⟨.bl true, H, I, rfl, q⟩
end
end L2

namespace L2
open PySem
/-- small data: how heavy, how deep -/
structure Sm (d : PyData) (n m : Nat) : Prop where
  sh : d.showable = true
  ls : d.leavesShort 200 = true
  wt : d.weight ≤ n
  dp : d.depth ≤ m
  nd : d.hasDict = false
theorem log2_lt100 {n : Nat} (h : n < 2 ^ 100) : n.log2 < 100 := by
  by_cases h0 : n = 0
  · subst h0; decide
  · exact (Nat.log2_lt h0).mpr h
theorem Sm.int {i : Int} (h : i.natAbs < 2 ^ 100) : Sm (.int i) 101 0 := by
  have hl := log2_lt100 h
  refine ⟨?_, ?_, ?_, Nat.le_refl _, rfl⟩
  · simp only [PyData.showable, decide_eq_true_eq]; omega
  · simp only [PyData.leavesShort, decide_eq_true_eq]
    have := int_text_length_le (a := i) (k := 100) (by decide) hl
    show (Str.ofString (toString i)).length ≤ 200
    rw [ofString_length]; omega
  · simp only [PyData.weight]
    split <;> omega
structure SmA (ds : List PyData) (n m : Nat) : Prop where
  sh : PyData.showableAll ds = true
  ls : PyData.leavesShortAll 200 ds = true
  wt : PyData.weightAll ds ≤ n
  dp : PyData.depthAll ds ≤ m
  nd : PyData.hasDictAll ds = false
end L2

/-! wrapped judgements: returns, tuples, lists, names -/
namespace L2
open PySem PySem.Spec PyProof.Rows
section
variable {X : Cx} {e : Expr} {es : List Expr} {te : TE} {t : TA}
theorem pex_lst {pos : Pos} (h : PAx X es t) : PEx X (.List es pos) (tLst t) := ⟨pe_lst h.h⟩
theorem pstx_ret {pos : Pos} (h : PEx X e te) : PStx X (.Return (some e) pos) (tRet te) := ⟨ps_ret h.h⟩
theorem pstx_lst {i : Nat} {x : Str} {pos' pos p1 : Pos} (hN : X.N.Nodup) (hi : X.N[i]? = some x) (hx : X.env.scope.names.lookup x = some .local) (he : PEx X (.List es p1) te) :
    PStx X (.Assign [.Name x pos'] (.List es p1) pos) (tAsg te (gName i)) := ⟨ps_set hN hi (.inl hx) he.h rfl (.inr hx)⟩
end
end L2

/-! own exceptions as values; data with dicts in it -/
namespace L2
open PySem PySem.Spec PyProof.Rows
section
variable {X : Cx} {es : List Expr} {t : TA} {pos : Pos}
/-- a new list, known to be no module's table -/
def tLstS (t : TA) : TE := fun σ H Q => t σ H fun xs H1 => xs.length ≤ sizeLine ∧ ∀ p, p ≠ sysModules → H1 p = none → Q (.ref p) (upd H1 p (.lst xs))
theorem pe_lstS (h : PA X es t) : PE X (.List es pos) (tLstS t) := by
  intro pins s σ H Q I hq
  refine wpAny_List_spliced (thn (h pos pins s σ H _ I hq) fun us s1 ⟨xs, H1, I1, r, z, q⟩ => ⟨by rw [← r.length]; exact z, ?_⟩)
  have hf : H1 s1.heap.objs.size = none := I1.hok.fresh (Nat.le_refl _)
  exact ⟨.ref s1.heap.objs.size, upd H1 s1.heap.objs.size (.lst xs), I1.laid (t' := s1.toks) (fun b u e => Heap.get?_push_of_some _ e) (Nat.le_refl _) ⟨z, us, 0, r, Heap.get?_push_size _ rfl⟩, rfl, q _ (Nat.ne_of_gt I1.big) hf⟩
def rSlS (K : PySem.W.Frag) : V → Option Int → Option Int → Hp → VK → Prop := fun x lo hi H Q => ∃ a xs, x = .ref a ∧ SqL K H a xs ∧ ∀ p, p ≠ sysModules → H p = none → Q (.ref p) (upd H p (.lst (cutV xs lo hi)))
theorem sl_listS : SlR X (rSlS X.K) := by
  intro pins s σ H x v vl vu lo hi sl Q I rx hs pl pu h
  obtain ⟨a, xs, rfl, hx, q⟩ := h
  cases rx
  obtain ⟨its, r, ht, hz⟩ := I.list hx
  have hl := r.length
  refine ⟨"list", _, slot_list_getitem.lookup, ht.isList.typeIs, wpAny_getItem_list_slice ht.isList hs pl pu .none (by simp) ?_ (by rw [List.size_toArray] <;> omega)⟩
  rw [slicePick_cut, ← hl]
  exact ⟨.ref s.heap.objs.size, _, I.laid (t' := s.toks) (o := .lst (cutV xs lo hi)) (fun b ob q => Heap.get?_push_of_some _ q) (Nat.le_refl _) ⟨Nat.le_trans (cutV_length xs lo hi) hz, _, 0, (r.drop (HT.sIx xs.length 0 lo)).take (HT.sIx xs.length xs.length hi - HT.sIx xs.length 0 lo), Heap.get?_push_size _ rfl⟩, rfl, q _ (Nat.ne_of_gt I.big) (I.hok.fresh (Nat.le_refl _))⟩
end
section
variable {X : Cx} {CX : CXT} {C R f : Addr} {k : Nat} {fd : FuncData} {ps : List Str} {sp : Sp} {ds : List Value} {dvs : List V} {E : XK} {e : Expr} {es : List Expr} {t : TA} {x : Str} {p pos : Pos}
/-- C(..) of an own exception's class, as a value -/
def tMakeX (C : Addr) (sp : Sp) (dvs : List V) (E : XK) (t : TA) : TE := fun σ H Q => t σ H fun vs H1 => vs.length ≤ 1000 ∧ ∀ e, H1 e = none → sp (.ref e :: (vs ++ dvs)) (upd H1 e (Ex0 e C none)) (fun v H2 => v = .non ∧ Q (.ref e) H2) E
theorem pe_makeX (c : ExCl X.K C R f) (F : FnOk X.prog X.w X.K X.mg X.base CX k f fd ps sp) (hr : Room (k + 1) X.A) (hg : Gl X x) (hm : X.mg x = some (.ref C)) (hb : Binds X.K fd ps ds) (hd : Vals dvs ds) (hx : Passes CX X E) (ha : PA X (e :: es) t)
    (hdb : (x == ("__debug__" : Str)) = false := by decide) (he : starEach (e :: es) X.env = (false, eval e X.env) :: starEach es X.env := by rfl) (hpl : (backTo pos (starEach es X.env)).any (·.1) = false := by rfl) :
    PE X (.Call (.Name x p) (e :: es) [] pos) (tMakeX C sp dvs E t) := by
  intro pins s σ H Q I h
  refine wpAny_Call_Name_kw (ld_glob I hg hm ?_ hdb)
  refine PySem.W.callWith_K (h₀ := X.base) I.ok.mod.kin c.kp (thn (ha pos pins s σ H _ I h) fun us s1 ⟨vs, H1, I1, r, hz, q⟩ => ⟨I1.kIn, ?_⟩) he hpl
  exact thn (run_makeX c F hr hb hd hx I1 r (by rw [sizeLine_eq]; omega) q) fun u s2 ⟨e', H2, eu, ye, I2, q2⟩ => ⟨.ref e', H2, I2, eu, q2⟩
end
section
variable {X : Cx}
/-- an exception is of a built-in class behind its own -/
theorem call_isVx {K : PySem.W.Frag} (hK : X.K = K) {T : String} (hty : typeOf (.type T) = pure (.type "type")) : CallR X (.builtin "isinstance") (fun xs H Q => ∃ e C fs bm, xs = [.ref e, .ty T] ∧ Exc K H e C fs ∧ XCls K C bm ∧ (Value.ref C :: bm).contains (.type T) = true ∧ Q (.bl true) H) := by
  subst hK
  intro pins s σ H xs us Q I r h
  obtain ⟨e, C, fs, bm, rfl, he, hxc, hc, q⟩ := h
  obtain ⟨u, v, rfl, ru, rv⟩ := vals2 r
  cases ru
  cases rv
  obtain ⟨dx, R, fI, oe, vs, o1, a1, a2, _⟩ := he.obj I
  obtain ⟨nm1, q1, N1, bs1, hd1, sn1, su1, ab1, co1, dd1, j0, j1, j2, j3, j5, ni1, lk1⟩ := hxc.obj
  have hC := I.kIn _ _ lk1
  refine call_isinstance_of ?_ (by intro z; cases z)
  unfold Builtin.«isinstance.nested»
  refine wpAny_bind (m := typeOf (.ref e)) (wpAny_typeOf_ref a1 ?_)
  rw [a2]
  show wpAny _ _ (if (Value.ref C == Value.type T) = true then _ else _) _ _ s
  rw [if_neg (by simp)]
  refine wpAny_bind (m := typeOf (.type T)) (wpAny_of_eq hty ?_)
  show wpAny _ _ (if (Value.type "type" == Value.type "type") = true then _ else _) _ _ s
  rw [if_pos (by decide)]
  refine wpAny_bind (wpAny_bind (m := isType (.type T)) (wpAny_pure (a := true) ?_))
  refine wpAny_bind (m := isInstance (.ref e) (.type T)) ?_
  unfold isInstance
  refine wpAny_bind (m := typeOf (.ref e)) (wpAny_typeOf_ref a1 ?_)
  rw [a2]
  obtain ⟨hp, g, d, t, os⟩ := s
  refine wpAny_isSubtype_exc hC ?_
  rw [hc]
  exact wpAny_pure (a := true) (wpAny_pure ⟨.bl true, H, I, rfl, q⟩)
/-- by which an own exception of C is one of B -/
def kinYes (K : PySem.W.Frag) (C B : Addr) : Bool := decide (C ≠ B) && (PySem.W.clsIn K B).isSome && (PySem.W.typeIn K (.ref B) == some (.type "type")) && (PySem.W.subIn K (.ref C) (.ref B) == some true)
theorem call_isR {K : PySem.W.Frag} (hK : X.K = K) : CallR X (.builtin "isinstance") (fun xs H Q => ∃ e C B fs, xs = [.ref e, .ref B] ∧ Exc K H e C fs ∧ kinYes K C B = true ∧ Q (.bl true) H) := by
  subst hK
  intro pins s σ H xs us Q I r h
  obtain ⟨e, C, B, fs, rfl, he, hn, q⟩ := h
  obtain ⟨u, v, rfl, ru, rv⟩ := vals2 r
  cases ru
  cases rv
  obtain ⟨dx, R, fI, oe, vs, o1, g, oc, ox, od, ho, c⟩ := he.obj I
  unfold kinYes at hn
  rw [Bool.and_eq_true, Bool.and_eq_true, Bool.and_eq_true] at hn
  obtain ⟨⟨⟨e0, e1⟩, e2⟩, e3⟩ := hn
  have hty := PySem.W.looks_typeIn (M := model X.prog X.w) I.kIn (beq_iff_eq.mp e2)
  have hsub := PySem.W.looks_subIn (M := model X.prog X.w) I.kIn (beq_iff_eq.mp e3)
  have his : PySem.W.Looks (model X.prog X.w) s.heap (isType (.ref B)) true := by
    unfold PySem.W.clsIn at e1
    split at e1
    · rename_i c' d' cd' sl' ho'
      intro A' Q' E' s' k q'
      unfold isType loadHead
      exact wpAny_bind (wpAny_loadPart (k _ _ (I.kIn _ _ ho')) (wpAny_pure q'))
    · cases e1
  have hne : (Value.ref C == Value.ref B) = false := Bool.eq_false_iff.mpr fun z => of_decide_eq_true e0 (Value.ref.inj (beq_iff_eq.mp z))
  have Ia : PySem.W.InstAt s.heap e oe C (some o1) := inst_of g oc od (by rw [ox]; exact ho)
  have L0 := Ia.type (M := model X.prog X.w)
  have LI : PySem.W.Looks (model X.prog X.w) s.heap (isInstance (.ref e) (.ref B)) true := L0.andThen hsub
  refine call_isinstance_of ?_ (by intro z; cases z)
  unfold Builtin.«isinstance.nested»
  refine wpAny_bind (L0.at ?_)
  rw [if_neg (fun z => by rw [hne] at z; exact Bool.noConfusion z)]
  refine wpAny_bind (hty.at ?_)
  rw [if_pos (by decide)]
  k_delta "plainIsInstance"
  refine wpAny_bind (wpAny_bind (his.at ?_))
  simp only [Bool.not_true, Bool.false_eq_true, if_false]
  refine wpAny_bind (LI.at ?_)
  simp only [if_true]
  first
    | exact wpAny_pure (wpAny_pure ⟨.bl true, H, I, rfl, q⟩)
    | exact wpAny_pure ⟨.bl true, H, I, rfl, q⟩
    | exact wpAny_bind (wpAny_pure (wpAny_pure ⟨.bl true, H, I, rfl, q⟩))
end
/-! ### data with dicts of one pair in it -/
mutual
inductive DatG (K : PySem.W.Frag) (H : Hp) : V → PyData → Prop
  | non : DatG K H .non .none
  | bl (b : Bool) : DatG K H (.bl b) (.bool b)
  | int (i : Int) : DatG K H (.int i) (.int i)
  | str (x : Str) : DatG K H (.str x) (.str x)
  | lst {a : Addr} {xs : List V} {ds : List PyData} : SqL K H a xs → a ≠ sysModules → DatGs K H xs ds → DatG K H (.ref a) (.list ds)
  | tup {a : Addr} {xs : List V} {ds : List PyData} : SqT K H a xs → DatGs K H xs ds → DatG K H (.ref a) (.tuple ds)
  | dct {a : Addr} {k : Str} {v : V} {d : PyData} : H a = some (.dK [(.inr k, v)]) → DatG K H v d → DatG K H (.ref a) (.dict [(.str k, d)])
inductive DatGs (K : PySem.W.Frag) (H : Hp) : List V → List PyData → Prop
  | nil : DatGs K H [] []
  | cons {x : V} {xs : List V} {d : PyData} {ds : List PyData} : DatG K H x d → DatGs K H xs ds → DatGs K H (x :: xs) (d :: ds)
end
mutual
theorem DatG.same {K : PySem.W.Frag} {H H' : Hp} (g : Same H H') : ∀ {x : V} {d : PyData}, DatG K H x d → DatG K H' x d
  | _, _, .non => .non
  | _, _, .bl b => .bl b
  | _, _, .int i => .int i
  | _, _, .str x => .str x
  | _, _, .lst h n t => .lst (g.seq h) n (DatGs.same g t)
  | _, _, .tup h t => .tup (g.tp h) (DatGs.same g t)
  | _, _, .dct h t => .dct (g _ _ h) (DatG.same g t)
theorem DatGs.same {K : PySem.W.Frag} {H H' : Hp} (g : Same H H') : ∀ {xs : List V} {ds : List PyData}, DatGs K H xs ds → DatGs K H' xs ds
  | _, _, .nil => .nil
  | _, _, .cons h t => .cons (DatG.same g h) (DatGs.same g t)
end
section
variable {X : Cx}
mutual
theorem Inv.readsG {pins : List (Addr × Obj)} {σ : St} {H : Hp} {s : Shared} (I : Inv X pins σ H s) : ∀ {x : V} {d : PyData} {u : Value}, DatG X.K H x d → RelV x u → ∃ as, Reads s.heap u d as ∧ sysModules ∉ as
  | _, _, _, .non, r => by cases r; exact ⟨_, .none, by simp⟩
  | _, _, _, .bl b, r => by cases r; exact ⟨_, .bool b, by simp⟩
  | _, _, _, .int i, r => by obtain ⟨t, rfl⟩ := r; exact ⟨_, .int i t, by simp⟩
  | _, _, _, .str x, r => by obtain ⟨t, rfl⟩ := r; exact ⟨_, .str x t, by simp⟩
  | _, _, _, .lst h n ds, r => by
    cases r
    obtain ⟨its, rv, ⟨o, m, e, hc, _, hd⟩, _⟩ := I.list h
    obtain ⟨as, ra, hn⟩ := Inv.readsGs I ds rv
    exact ⟨_, .list e hc hd ra, by simp only [List.mem_cons, not_or]; exact ⟨Ne.symm n, hn⟩⟩
  | _, _, _, .tup h ds, r => by
    cases r
    obtain ⟨its, rv, ⟨o, e, hc, n, hd⟩, _⟩ := I.tuple h
    obtain ⟨as, ra, hn⟩ := Inv.readsGs I ds rv
    exact ⟨_, .tuple e hc hd ra, hn⟩
  | _, _, _, .dct (a := a) (k := k) (d := d) h hv, r => by
    cases r
    obtain ⟨_, hsm, vs, kv, o, es, ep, e1, hx, e2, _, e3, _⟩ := dk_of I.hok h
    cases kv with
    | cons r1 r2 =>
      cases r2
      generalize he : es.toList = el at e3
      cases e3 with
      | cons p1 p2 p3 =>
        cases p3
        obtain ⟨bs, rb, hb⟩ := Inv.readsG I hv (by have z := r1.2; rw [← p2] at z; exact z)
        have rk := reads_key (h := s.heap) p1
        have e0 : (Sum.inr k : Key) = _ := r1.1
        rw [← e0] at rk
        refine ⟨_, .dict (kvs := [(.str k, d)]) e1 hx.1 e2 (by rw [he]; exact .cons rk .nil) (by rw [he]; exact .cons rb .nil), ?_⟩
        have ha : sysModules ≠ a := fun z => by rw [← z] at hsm; simp at hsm
        simp only [List.nil_append, List.append_nil, List.cons_append, List.mem_cons, not_or]
        exact ⟨ha, hb⟩
theorem Inv.readsGs {pins : List (Addr × Obj)} {σ : St} {H : Hp} {s : Shared} (I : Inv X pins σ H s) : ∀ {xs : List V} {ds : List PyData} {us : List Value}, DatGs X.K H xs ds → Vals xs us → ∃ as, ReadsAll s.heap us ds as ∧ sysModules ∉ as
  | _, _, _, .nil, r => by cases r; exact ⟨_, .nil, by simp⟩
  | _, _, _, .cons h t, r => by
    cases r with
    | cons r1 r2 =>
      obtain ⟨a1, e1, n1⟩ := Inv.readsG I h r1
      obtain ⟨a2, e2, n2⟩ := Inv.readsGs I t r2
      exact ⟨_, .cons e1 e2, by simp only [List.mem_append, not_or]; exact ⟨n1, n2⟩⟩
end
def rReprG (K : PySem.W.Frag) : List V → Hp → VK → Prop := fun xs H Q => ∃ x d, xs = [x] ∧ DatG K H x d ∧ d.showable = true ∧ d.depth ≤ 8 ∧ d.shown.length ≤ sizeLine ∧ Q (.str d.shown) H
theorem call_reprG {K : PySem.W.Frag} (hK : X.K = K) (hg : X.A.guards = some []) (hu : X.A.units + 64 < cLine) : CallR X (.builtin "repr") (rReprG K) := by
  subst hK
  intro pins s σ H xs us Q I r h
  obtain ⟨x, d, rfl, hd, hs, hdep, hsz, q⟩ := h
  obtain ⟨u, rfl, rx⟩ := r.one
  have fin : ∀ (h' : Heap) (u : Tok) (tk : Nat), (∀ b o, s.heap.get? b = some o → h'.get? b = some o) → EP X pins σ Q (.str d.shown u) { s with heap := h', toks := tk } := fun h' u tk hk => ⟨.str d.shown, H, I.kept hk, ⟨u, rfl⟩, q⟩
  cases x with
  | ref a =>
    cases rx
    obtain ⟨as, ra, hn⟩ := I.readsG hd rfl
    exact repr_of_reads' ra hs (fun _ => hn) hg (by omega) (fun _ _ e => e) fin hsz
  | non => cases hd; cases rx; exact P.repr_of_none (fin s.heap _ _ (fun _ _ e => e))
  | bl b => cases hd; cases rx; cases b <;> exact P.repr_of_bool (fin s.heap _ _ (fun _ _ e => e))
  | int i =>
    cases hd
    obtain ⟨t, rfl⟩ := rx
    exact P.repr_of_int (by simpa [PyData.showable] using hs) (fin s.heap _ _ (fun _ _ e => e))
  | str x =>
    cases hd
    obtain ⟨t, rfl⟩ := rx
    exact P.repr_of_str (fin s.heap _ _ (fun _ _ e => e)) hsz
  | byt _ => cases hd
  | flt _ => cases hd
  | ty _ => cases hd
/-- the ways in which two things are held to be equal here -/
def EqTop (K : PySem.W.Frag) (H : Hp) (x y : V) : Prop := (x = y ∧ flatV x = true) ∨ (∃ (a b : Addr) (xs : List V), x = .ref a ∧ y = .ref b ∧ SqL K H a xs ∧ SqL K H b xs ∧ ∀ v ∈ xs, SelfV v) ∨
  (∃ (a : Addr) (xs : List V), x = .ref a ∧ y = .ref a ∧ SqT K H a xs ∧ ∀ v ∈ xs, SelfV v) ∨ ∃ (a : Addr) (k : Key) (v : V), x = .ref a ∧ y = .ref a ∧ H a = some (.dK [(k, v)])
theorem op_eqG {K : PySem.W.Frag} (hK : X.K = K) (hu : X.A.units + 64 < cLine) : OpR X (compareOp .Eq) (fun x y H Q => EqTop K H x y ∧ Q (.bl true) H) := by
  subst hK
  intro pins s σ H x y v u Q I rx ry h
  obtain ⟨hx, q⟩ := h
  rcases hx with ⟨rfl, hf⟩ | ⟨a, b, xs, rfl, rfl, ha, hb, hs⟩ | ⟨a, xs, rfl, rfl, ha, hs⟩ | ⟨a, k, z, rfl, rfl, ha⟩
  · refine op_eq pins s σ H _ _ v u Q I rx ry ⟨?_, ?_⟩
    · cases x <;> first | rfl | cases hf
    · rw [decide_eq_true rfl]; exact q
  · exact op_eqSame hu pins s σ H _ _ v u Q I rx ry ⟨a, b, xs, rfl, rfl, ha, hb, hs, q⟩
  · cases rx
    cases ry
    obtain ⟨i1, r1, p1, _⟩ := I.tuple ha
    have l1 := r1.length
    refine SeqAt.eq_tupleAt (e := fun _ => true) (show s.heap.IsTuple a i1.toArray from p1) (show s.heap.IsTuple a i1.toArray from p1) (by omega) (fun j h1 h2 => ?_) ?_
    · exact SeqAt.EqAt.same _
    · rw [all_true, show (i1.toArray.size == i1.toArray.size) = true by simp]
      exact ⟨.bl true, H, I, rfl, q⟩
  · cases rx
    cases ry
    obtain ⟨_, hsm, vs, kv, dd⟩ := dk_of I.hok ha
    cases kv with
    | cons r1 r2 =>
      cases r2
      refine PySem.W.keq_eq (r := true) hsm hsm dd dd (by omega) (fun _ => ?_) ?_
      · exact .hit (e := true) (b := true) (by simp [valueAt]) (SeqAt.EqAt.same _) .nil
      · exact ⟨.bl true, H, I, by simp; rfl, q⟩
end
end L2

namespace L2
open PySem PySem.Spec PyProof.Rows
structure RoomH (k : Nat) (A : Around) : Prop where
  dp : A.depth + 3 * k + 5 < recursionLimit
  un : A.units + 16 * k + 200 < cLine
  gd : A.guards = some []
theorem RoomH.mono {j k : Nat} {A : Around} (r : RoomH k A) (h : j ≤ k) : RoomH j A := ⟨by have := r.dp; omega, by have := r.un; omega, r.gd⟩
theorem RoomH.deeper {k : Nat} {A : Around} (r : RoomH (k + 1) A) (env : Env) : RoomH k (A.deeper env) :=
  ⟨by have := r.dp; show A.depth + 1 + 3 * k + 5 < _; omega, by have := r.un; show A.units + 3 + 16 * k + 200 < _; omega, r.gd⟩
theorem RoomH.depth {k : Nat} {A : Around} (r : RoomH k A) : A.depth < recursionLimit := by have := r.dp; omega
theorem RoomH.units {k : Nat} {A : Around} (r : RoomH k A) : A.units + 64 < cLine := by have := r.un; omega
theorem Room.toH {k : Nat} {A : Around} (r : Room k A) : RoomH k A := ⟨r.dp, r.un, r.gd⟩
theorem Room.mark {k : Nat} {A : Around} (r : Room k A) (v : Option Value) : RoomH k (A.mark v) := ⟨r.dp, r.un, r.gd⟩
structure FnOkH (P : Program) (w : World) (K : PySem.W.Frag) (mg : Str → Option Value) (base : Heap) (CX : CXT) (k : Nat) (f : Addr) (fd : FuncData) (ps : List Str) (sp : Sp) : Prop where
  len : ∀ vs H Q E, sp vs H Q E → vs.length = ps.length
  run : ∀ (A : Around) (outer : List Env) (s : Shared) (H : Hp) (args : Args) (us : List Value) (vs : List V) (Q : VK) (E : XK), RoomH k A → Env0 P w K mg base A outer s H → BindsTo s fd args (ps.zip us) → Vals vs us → sp vs H Q E →
    codeAny (model P w) A (.call (.ref f) args) (CR CX outer P w H s Q E) s
section
variable {P : Program} {w : World} {K : PySem.W.Frag} {mg : Str → Option Value} {base : Heap} {CX : CXT} {f : Addr} {fd : FuncData} {ps : List Str} {sp : Sp}
theorem FnOkH.mono {j k : Nat} (F : FnOkH P w K mg base CX j f fd ps sp) (h : j ≤ k) : FnOkH P w K mg base CX k f fd ps sp := ⟨F.len, fun A outer s H args us vs Q E hr => F.run A outer s H args us vs Q E (hr.mono h)⟩
theorem FnOkH.fn {k : Nat} (F : FnOkH P w K mg base CX k f fd ps sp) : FnOk P w K mg base CX k f fd ps sp := ⟨F.len, fun A outer s H args us vs Q E hr => F.run A outer s H args us vs Q E hr.toH⟩
end
abbrev cxOfH (CX : CXT) (P : Program) (w : World) (K : PySem.W.Frag) (mg : Str → Option Value) (base : Heap) (N : List Str) (qual : Str) (scope : Scope) (f : Addr) (cd : Value) (A : Around) (outer : List Env) (s : Shared) (H : Hp) (E : XK) : Cx := { cxOf CX P w K mg base N qual scope f cd A outer s H E with calm := false }
theorem inv_startH {CX : CXT} {P : Program} {w : World} {K : PySem.W.Frag} {mg : Str → Option Value} {base : Heap} {N ps : List Str} {qual : Str} {scope : Scope} {f : Addr} {cd : Value} {A : Around} {outer : List Env} {s s1 : Shared} {H : Hp} {E : XK} {us : List Value} {vs : List V}
    (S : FnScope N ps scope) (e0 : Env0 P w K mg base A outer s H) (hl : vs.length = ps.length) (r : Vals vs us)
    (x : InCallC s s.heap.objs.size (bindL (envOfC qual scope s.heap.objs.size f cd).kindOf (ps.zip us) fun _ => none) (cellsFrom (s.heap.objs.size + 1) scope.names []) (bindC (envOfC qual scope s.heap.objs.size f cd).kindOf (ps.zip us) fun _ => none) s1) :
    Inv (cxOfH CX P w K mg base N qual scope f cd A outer s H E) [] (start N vs) H s1 := by
  have hpl : ps.length ≤ N.length := by have := congrArg List.length S.pre; rw [List.length_take] at this; omega
  obtain ⟨h1, tk, rfl, hk⟩ := x.done
  have noA : ∀ b : Addr, b ∉ (cxOfH CX P w K mg base N qual scope f cd A outer s H E).ex := fun b z => absurd (show b ∈ ([] : List Addr) from z) (by simp)
  refine ⟨⟨e0.mod, S.kind, rfl, rfl, Nat.le_refl _, fun y z c h1 h2 => ?_, fun y hy => ?_, fun y c _ h => ?_, (fun z => nomatch z), Around.frames_deeper e0.frames, .inr ⟨rfl, rfl⟩, fun b z => absurd z (noA b), e0.bs, e0.bsz, fun b _ _ => noA b, fun b z => absurd z (noA b), e0.funs, e0.frf⟩,
    rfl, e0.bare, Un.kept hk, ⟨_, x.toInCall.ns, fun i y v h1 h2 h3 => ?_⟩, fun y c h => ⟨_, x.cell y c h⟩, e0.hok.fresh (Nat.le_refl _), fun y c h => ?_, fun p hp => absurd (show p ∈ ([] : List (Addr × Obj)) from hp) (by simp), e0.hok.kept hk, ?_⟩
  · exact name_of_addr x.apart (PySem.mem_of_lookup h1) (PySem.mem_of_lookup h2)
  · have hy : scope.names.lookup y = some .cell ∨ scope.names.lookup y = some .free := hy
    rcases hy with hy | hy
    · exact cell_has hy
    · exact absurd rfl (S.nofree _ (PySem.mem_of_lookup hy))
  · exact Nat.le_of_lt (x.above y c (PySem.mem_of_lookup h))
  · have hi : i < vs.length := by
      unfold start at h2
      by_cases hi : i < vs.length
      · exact hi
      · rw [List.getElem?_append_right (by simpa using hi)] at h2
        rw [List.getElem?_replicate] at h2
        split at h2 <;> cases h2
    have ha : vs[i]? = some v := by
      unfold start at h2
      rw [List.getElem?_append_left (by simpa using hi), List.getElem?_map] at h2
      cases e : vs[i]? with
      | none => rw [e] at h2; cases h2
      | some a => rw [e] at h2; cases h2; rfl
    obtain ⟨u, hu, rv⟩ := r.get ha
    have hp : ps[i]? = some y := by
      rw [← S.pre, List.getElem?_take_of_lt (by omega)]; exact h1
    have ndP : ps.Nodup := by rw [← S.pre]; exact S.nd.sublist (List.take_sublist _ _)
    refine ⟨u, rv, ?_⟩
    rcases S.par y (List.mem_of_getElem? hp) with k | k
    · exact .inl ⟨k, bindL_get ndP hp hu k⟩
    · obtain ⟨c, e⟩ := cell_has (n := s.heap.objs.size + 1) k
      refine .inr ⟨.inl k, c, e, ?_⟩
      have q := x.cell y c e
      rw [bindC_get ndP hp hu (by show scope.names.lookup y ≠ _; rw [k]; decide)] at q
      exact q
  · exact e0.hok.fresh (Nat.le_of_lt (x.above y c (PySem.mem_of_lookup h)))
  · unfold start
    show _ = N.length
    rw [List.length_append, List.length_map, List.length_replicate]
    omega

theorem fn_ofH {CX : CXT} {P : Program} {w : World} {K : PySem.W.Frag} {mg : Str → Option Value} {base : Heap} {k : Nat} {f : Addr} {name qual : Str} {params : Arguments} {body : List Stmt} {scope : Scope} {dV kV doc pm cdv ct oc : Value} {an od : Option Addr}
    {osl : Array (Option Value)} {N ps : List Str} {sp : Sp} (lk : K.lookup f = some ⟨oc, od, .func (PySem.W.fnOf name qual params body scope dV kV doc pm an cdv ct), osl⟩) (hcd : PySem.W.codeIn K cdv qual = true) (S : FnScope N ps scope)
    (len : ∀ vs H Q E, sp vs H Q E → vs.length = ps.length)
    (hbody : ∀ (A : Around) (outer : List Env) (s : Shared) (H : Hp) (vs : List V) (Q : VK) (E : XK), RoomH k (A.deeper (envOfC qual scope s.heap.objs.size f cdv)) → sp vs H Q E →
      ∃ t, PSs (cxOfH CX P w K mg base N qual scope f cdv A outer s H E) body t ∧ t { nx := fun _ H' => Q .non H', rt := Q } (start N vs) H) :
    FnOkH P w K mg base CX (k + 1) f (PySem.W.fnOf name qual params body scope dV kV doc pm an cdv ct) ps sp := by
  refine ⟨len, fun A outer s H args us vs Q E hr e0 hb r hsp => ?_⟩
  have hl := len _ _ _ _ hsp
  have KX : K.In s.heap := e0.mod.kin.keeps fun b o e => (e0.bs b o e).1
  have lim : s.heap.NoLimit := e0.mod.nolimit.keeps fun b o e => (e0.bs b o e).1
  have hkind : ∀ y ∈ ps.zip us, scope.names.lookup y.1 = some .local ∨ (scope.names.lookup y.1 = some .cell ∧ ((cellsFrom (s.heap.objs.size + 1) scope.names []).lookup y.1).isSome = true) := fun ⟨n, v⟩ hy => by
    rcases S.par n (List.of_mem_zip hy).1 with q | q
    · exact .inl q
    · exact .inr ⟨q, PySem.W.cellsFrom_some _ _ _ (.inl q)⟩
  refine codeAny_call_function hr.depth (KX _ _ lk) rfl S.co S.gen rfl (PySem.W.codeRec_of KX hcd) (hb _ _ _ _ ?_)
  refine wpAny_newFunctionEnv_cells S.kind hkind fun env he s1 x => ?_
  subst he
  refine ⟨lim.keeps x.toInCall.keep, codeAny_func ?_⟩
  obtain ⟨t, ht, hq⟩ := hbody A outer s H vs Q E (hr.deeper _) hsp
  have I : Inv (cxOfH CX P w K mg base N qual scope f cdv A outer s H E) [] (start N vs) H s1 := inv_startH S e0 hl r x
  refine wpAny_mono (ht [] s1 (start N vs) H _ I hq) (fun fl s' hs => ?_) fun e s' hs => hs
  have fin : ∀ {σ' : St} {H' : Hp} {v : V} {u : Value}, Inv (cxOfH CX P w K mg base N qual scope f cdv A outer s H E) [] σ' H' s' → RelV v u → Q v H' → CE outer P w H s Q u s' :=
    fun {σ' H' v u} J rv q => ⟨v, H', J.os, J.bare, J.base, J.hok, rv, q⟩
  cases fl with
  | ret u =>
    obtain ⟨v, σ', H', J, rv, q⟩ := hs
    exact fin J rv q
  | next =>
    obtain ⟨σ', H', J, q⟩ := hs
    exact fin (v := V.non) (u := Value.none) J rfl q
  | brk =>
    obtain ⟨_, _, _, q⟩ := hs
    exact False.elim q
  | cont =>
    obtain ⟨_, _, _, q⟩ := hs
    exact False.elim q
section
variable {X : Cx} {CX : CXT} {k : Nat} {f C : Addr} {fd : FuncData} {ps : List Str} {sp : Sp} {dvs : List V} {ds : List Value} {E : XK} {x m : Str} {p pos apos : Pos} {e o : Expr} {es : List Expr} {ta : TE} {t : TA}
/-- the callee runs -/
theorem run_fnH {pins : List (Addr × Obj)} {σ : St} {H : Hp} {s : Shared} {Q : VK} {us : List Value} {vs : List V} (F : FnOkH X.prog X.w X.K X.mg X.base CX k f fd ps sp) (hr : RoomH k X.A) (hb : Binds X.K fd ps ds) (hd : Vals dvs ds) (hx : Passes CX X E)
    (I : Inv X pins σ H s) (r : Vals vs us) (h : sp (vs ++ dvs) H Q E) : wpAny (model X.prog X.w) X.A (call (.ref f) us) (EP X pins σ Q) X.xe s := by
  have r2 : Vals (vs ++ dvs) (us ++ ds) := r.append hd
  have hl : (us ++ ds).length = ps.length := by rw [← r2.length]; exact F.len _ _ _ _ h
  refine wpAny_call (codeAny_mono (F.run X.A X.stack s H ⟨us, []⟩ (us ++ ds) (vs ++ dvs) Q E hr I.env0 (hb s us I.kIn hl) r2 h) fun r s' hq => ?_)
  cases r with
  | error e => exact hx pins σ H s e s' I hq
  | ok fl =>
    cases fl with
    | ret u => exact I.after hq
    | next => exact False.elim hq
    | brk => exact False.elim hq
    | cont => exact False.elim hq

theorem pe_callH (F : FnOkH X.prog X.w X.K X.mg X.base CX k f fd ps sp) (hr : RoomH k X.A) (hg : Gl X x) (hm : X.mg x = some (.ref f)) (hk : PySem.W.keepIn X.K (.ref f) = true) (hb : Binds X.K fd ps ds) (hd : Vals dvs ds) (hx : Passes CX X E)
    (ha : PA X (e :: es) t) (hdb : (x == ("__debug__" : Str)) = false := by decide) (he : starEach (e :: es) X.env = (false, eval e X.env) :: starEach es X.env := by rfl) (hpl : (backTo pos (starEach es X.env)).any (·.1) = false := by rfl) :
    PE X (.Call (.Name x p) (e :: es) [] pos) (tCall sp dvs E t) := by
  intro pins s σ H Q I h
  refine wpAny_Call_Name_kw (ld_glob I hg hm ?_ hdb)
  refine PySem.W.callWith_K (h₀ := X.base) I.ok.mod.kin hk (thn (ha pos pins s σ H _ I h) fun us s1 ⟨vs, H1, I1, r, q⟩ => ⟨I1.kIn, ?_⟩) he hpl
  exact run_fnH F hr hb hd hx I1 r q
end
section
variable {P : Program} {w : World} {K : PySem.W.Frag} {mg : Str → Option Value} {base : Heap}
theorem Fun.okH {x qual : Str} {st : Stmt} {f : Addr} {fd : FuncData} {N ps : List Str} {k : Nat} {sp : Sp} (F : Fun K x qual st f fd) (S : FnScope N ps (defScope st)) (len : ∀ vs H Q E, sp vs H Q E → vs.length = ps.length)
    (hbody : ∀ (cdv : Value) (A : Around) (outer : List Env) (s : Shared) (H : Hp) (vs : List V) (Q : VK) (E : XK), RoomH k (A.deeper (envOfC qual (defScope st) s.heap.objs.size f cdv)) → sp vs H Q E →
      ∃ t, PSs (cxOfH CX0 P w K mg base N qual (defScope st) f cdv A outer s H E).nox (defBody st) t ∧ t { nx := fun _ H' => Q .non H', rt := Q } (start N vs) H) : FnOkH P w K mg base CX0 (k + 1) f fd ps sp := by
  obtain ⟨oc, od, kV, doc, pm, an, cdv, ct, osl, rfl, lk, hcd⟩ := F.ex
  refine fn_ofH lk hcd S len fun A outer s H vs Q E hr hsp => ?_
  obtain ⟨t, h, q⟩ := hbody cdv A outer s H vs Q E hr hsp
  exact ⟨t, h.nox, q⟩
end
end L2

namespace K05
open PySem L2
/-! the text by places -/
def top (i : Nat) : Stmt := PySem.Challenge.pw_roomslaid_k05_refusals_apart.main.body.getD i (.Pass ⟨0, 0, 0, 0⟩)
def inClass : Stmt → Nat → Stmt
  | .ClassDef _ _ _ body _ _ _ _ _ _ _, j => body.getD j (.Pass ⟨0, 0, 0, 0⟩)
  | s, _ => s

theorem iteP {c A B : Prop} [Decidable c] (hc : c) (h : A) : if c then A else B := by rw [if_pos hc]; exact h
theorem iteN {c A B : Prop} [Decidable c] (hc : ¬ c) (h : B) : if c then A else B := by rw [if_neg hc]; exact h
/-- the built-in names are as they were -/
structure Blt (mg : Str → Option Value) : Prop where
  range : mg "range" = none
  len : mg "len" = none
  isinstance : mg "isinstance" = none
  int : mg "int" = none
  bool : mg "bool" = none
  list : mg "list" = none
  all : mg "all" = none
  max : mg "max" = none
  min : mg "min" = none
  reversed : mg "reversed" = none
  tuple : mg "tuple" = none
  divmod : mg "divmod" = none
  ValueError : mg "ValueError" = none
  repr : mg "repr" = none
/-- a def as its callers see it -/
structure Df (K : PySem.W.Frag) (mg : Str → Option Value) (x : Str) (f : Addr) (fd : FuncData) (ps : List Str) : Prop where
  m : mg x = some (.ref f)
  k : PySem.W.keepIn K (.ref f) = true
  b : Binds K fd ps []
/-- the state of the draws: a list of three ints -/
def St3 (H : Hp) (p : Addr) : Prop := ∃ a b c : Int, H p = some (.lst [.int a, .int b, .int c])
/-- the state at p has turned, new things may have come, all else is as it was -/
def Drawn (p : Addr) (H H' : Hp) : Prop := St3 H' p ∧ ∀ b o, b ≠ p → H b = some o → H' b = some o
theorem Drawn.trans {p : Addr} {H H1 H2 : Hp} (a : Drawn p H H1) (b : Drawn p H1 H2) : Drawn p H H2 := ⟨b.1, fun c o n h => b.2 c o n (a.2 c o n h)⟩
theorem Drawn.refl {p : Addr} {H : Hp} (h : St3 H p) : Drawn p H H := ⟨h, fun _ _ _ q => q⟩
theorem Drawn.same {p : Addr} {H H' : Hp} (a : Drawn p H H') (hp : H p = none) : Same H H' := fun b o h => a.2 b o (ne_of_none h hp) h
theorem same_new {H : Hp} {p : Addr} (h : H p = none) (o : HO) : Same H (upd H p o) := fun b u q => by rw [upd_ne (ne_of_none q h)]; exact q
theorem atI_ints (ns : List Int) {i : Int} (h0 : 0 ≤ i) (h1 : i < ns.length) : ∃ v : Int, atI (ns.map V.int) i = some (.int v) := by
  have hk : i.toNat < ns.length := by omega
  have e : i = ((i.toNat : Nat) : Int) := by omega
  have q : atI (ns.map V.int) ((i.toNat : Nat) : Int) = some (.int ns[i.toNat]) := atI_nat (by rw [List.getElem?_map, List.getElem?_eq_getElem hk] <;> rfl)
  rw [← e] at q
  exact ⟨_, q⟩
def spDraw : Sp := fun vs H Q _ => ∃ (p : Addr) (m : Int), vs = [.ref p, .int m] ∧ 0 < m ∧ m < 1073741824 ∧ St3 H p ∧ ∀ (v : Int) (H' : Hp), 0 ≤ v → v < m → Drawn p H H' → Q (.int v) H'
def spCell (K : PySem.W.Frag) : Sp := fun vs H Q _ => ∃ (a : Addr) (ns : List Int) (k : Int), vs = [.ref a, .int k] ∧ SqL K H a (ns.map V.int) ∧ 0 ≤ k ∧ k < 64 ∧ ∀ v : Int, Q (.int v) H
def spBegun : Sp := fun vs H Q _ => ∃ c : Int, vs = [.int c] ∧ ∀ (p : Addr) (H' : Hp), H p = none → Drawn p H H' → Q (.ref p) H'
def spWhole : Sp := fun vs H Q _ => ∃ i : Int, vs = [.int i] ∧ Q (.bl true) H
def spLaw (K : PySem.W.Frag) : Sp := fun vs H Q _ => ∃ (a : Addr) (ns : List Int), vs = [.ref a] ∧ SqL K H a (ns.map V.int) ∧ ns.length ≤ 63 ∧ ∀ H', Q (.bl true) H'
structure TCls (K : PySem.W.Frag) (mg : Str → Option Value) (x : Str) (C fI : Addr) (as : List Str) : Prop where
  m : mg x = some (.ref C)
  cl : Cls K C
  ma : Mk K C fI
  na : ∀ a ∈ as, NoAttr K C a
structure DfM (K : PySem.W.Frag) (C : Addr) (m : Str) (f : Addr) (fd : FuncData) (ps : List Str) : Prop where
  me : Meth K C m f
  b : Binds K fd ps []
structure DfI (K : PySem.W.Frag) (fd : FuncData) (ps : List Str) : Prop where
  b : Binds K fd ps []
structure TX (K : PySem.W.Frag) (mg : Str → Option Value) (x : Str) (C R fI : Addr) (as : List Str) : Prop where
  m : mg x = some (.ref C)
  c : ExCl K C R fI
  x : XCls K C (.ref R :: VB)
  n : ∀ a ∈ as, PySem.W.findIn K (.ref C) a = some none
structure TXB (K : PySem.W.Frag) (mg : Str → Option Value) (C fI : Addr) : Prop where
  m : mg "RoomError" = some (.ref C)
  i : CInit K C fI
  x : XCls K C VB
theorem cut_first (xs : List V) (k : Nat) : cutV xs none (some (k : Int)) = xs.take k := by
  unfold cutV
  rw [HT.sIx_none, HT.sIx_nat, Nat.sub_zero, List.drop_zero]
  by_cases h : k ≤ xs.length
  · rw [Nat.min_eq_left h]
  · rw [Nat.min_eq_right (by omega), List.take_of_length_le (Nat.le_refl _), List.take_of_length_le (by omega)]

theorem se_call {fn as kws p} {es : List Expr} {env : Env} : starEach (.Call fn as kws p :: es) env = (false, eval (.Call fn as kws p) env) :: starEach es env := rfl
theorem pe_xfldK {X : Cx} {K : PySem.W.Frag} {o : Expr} {f : Str} {pos : Pos} {ta : TE} (hK : X.K = K) (he : PE X o ta) (hb : attributeBase o f X.env (eval o X.env) = eval o X.env) : PE X (.Attribute o f pos) (tXfld K ta f) := hK ▸ pe_xfld he hb
theorem same_upd {H H1 : Hp} {a : Addr} {o : HO} (g : Same H H1) (ha : H a = none) : Same H (upd H1 a o) := fun b u q => by
  rw [upd_ne (ne_of_none q ha)]; exact g _ _ q
theorem Exc.same {K : PySem.W.Frag} {H H' : Hp} {e C : Addr} {fs : List (Str × V)} (h : Exc K H e C fs) (g : Same H H') : Exc K H' e C fs := by
  obtain ⟨dx, R, fI, he, hd, c⟩ := h
  exact ⟨dx, R, fI, he.imp (g _ _) (g _ _), g _ _ hd, c⟩
theorem eqs_same {K : PySem.W.Frag} {H : Hp} {n : Nat} {xs ys : List V} (e : xs = ys) (h : ∀ v ∈ xs, SelfV v) : ∀ (i : Nat) x y, xs[i]? = some x → ys[i]? = some y → EqS K H n x y := fun i x y hx hy => by
  subst e
  rw [hx] at hy
  cases hy
  exact .same (h x (List.mem_of_getElem? hx))
def spRE (K : PySem.W.Frag) : Sp := fun vs H Q _ => ∃ (e : Addr) (v : V) (C R fI : Addr) (dx : Option Addr), vs = [.ref e, v] ∧ H e = some (Ex0 e C dx) ∧ ExCl K C R fI ∧ Q .non H
/-- the exception at e has got its fields -/
structure Fl (CN e dx : Addr) (H H' : Hp) (fs : List (Str × V)) : Prop where
  ne : dx ≠ e
  fr : H dx = none
  kp : ∀ b o, b ≠ e → H b = some o → H' b = some o
  ae : H' e = some (Ex0 e CN (some dx))
  ad : H' dx = some (XD dx fs)
theorem Fl.first {CN e dx : Addr} {H : Hp} {f : Str} {y : V} (he : H e = some (Ex0 e CN none)) (hd : H dx = none) : Fl CN e dx H (upd (upd H dx (XD dx [(f, y)])) e (Ex0 e CN (some dx))) [(f, y)] := by
  have ne : dx ≠ e := fun z => by rw [z, he] at hd; cases hd
  refine ⟨ne, hd, fun b o n q => ?_, upd_same, ?_⟩
  · rw [upd_ne n, upd_ne (ne_of_none q hd)]; exact q
  · rw [upd_ne ne, upd_same]
theorem Fl.next {CN e dx : Addr} {H H' : Hp} {fs fs' : List (Str × V)} (h : Fl CN e dx H H' fs) : Fl CN e dx H (upd H' dx (XD dx fs')) fs' :=
  ⟨h.ne, h.fr, fun b o n q => by rw [upd_ne (ne_of_none q h.fr)]; exact h.kp b o n q, by rw [upd_ne (Ne.symm h.ne)]; exact h.ae, upd_same⟩
def spXn (CN : Addr) (ns : List Str) : Sp := fun vs H Q _ => ∃ (e : Addr) (xs : List V), vs = .ref e :: xs ∧ xs.length = ns.length ∧ H e = some (Ex0 e CN none) ∧ ∀ dx H', Fl CN e dx H H' (ns.zip xs) → Q .non H'
theorem Fl.from {CN e dx : Addr} {H H' : Hp} {fs : List (Str × V)} (he : H e = none) (h : Fl CN e dx (upd H e (Ex0 e CN none)) H' fs) : Same H H' := fun b o q => by
  have n := ne_of_none q he
  exact h.kp b o n (by rw [upd_ne n]; exact q)
theorem Fl.fly {CN e dx : Addr} {H H' : Hp} {fs : List (Str × V)} (he : H e = none) (h : Fl CN e dx (upd H e (Ex0 e CN none)) H' fs) : Same H (upd H' e (ExF e CN (some dx))) ∧ upd H' e (ExF e CN (some dx)) e = some (ExF e CN (some dx)) ∧ upd H' e (ExF e CN (some dx)) dx = some (XD dx fs) := by
  refine ⟨fun b o q => ?_, upd_same, ?_⟩
  · rw [upd_ne (ne_of_none q he)]; exact h.from he b o q
  · rw [upd_ne h.ne]; exact h.ad
/-- the exception of the c-th class at e, and its fields -/
def Ob (K : PySem.W.Frag) (Cs : List Addr) (H : Hp) (e : Addr) (c : Nat) (fs : List (Str × V)) : Prop := ∃ C dx R fI, Cs[c]? = some C ∧ H e = some (Ex0 e C (some dx)) ∧ H dx = some (XD dx fs) ∧ ExCl K C R fI ∧ XCls K C (.ref R :: VB) ∧ ∀ p ∈ fs, PySem.W.findIn K (.ref C) p.1 = some none
theorem Ob.same {K : PySem.W.Frag} {Cs : List Addr} {H H' : Hp} {e : Addr} {c : Nat} {fs : List (Str × V)} (h : Ob K Cs H e c fs) (g : Same H H') : Ob K Cs H' e c fs := by
  obtain ⟨C, dx, R, fI, h1, h2, h3, h4, h5, h6⟩ := h
  exact ⟨C, dx, R, fI, h1, g _ _ h2, g _ _ h3, h4, h5, h6⟩
theorem Ob.mk {K : PySem.W.Frag} {mg : Str → Option Value} {x : Str} {Cs : List Addr} {H H' : Hp} {e C R fI dx : Addr} {c : Nat} {ns : List Str} {xs : List V} (T : TX K mg x C R fI ns) (hc : Cs[c]? = some C) (he : H e = none) (F : Fl C e dx (upd H e (Ex0 e C none)) H' (ns.zip xs)) : Ob K Cs H' e c (ns.zip xs) :=
  ⟨C, dx, R, fI, hc, F.ae, F.ad, T.c, T.x, fun p hp => T.n _ (List.of_mem_zip (show (p.1, p.2) ∈ ns.zip xs from hp)).1⟩
/-- the classes: none is another's, all are RoomError's -/
structure Kin (K : PySem.W.Frag) (R : Addr) (Cs : List Addr) : Prop where
  no : ∀ (i j : Nat) (C D : Addr), Cs[i]? = some C → Cs[j]? = some D → i ≠ j → XNot K C D
  ye : ∀ C ∈ Cs, kinYes K C R = true
theorem Kin.at {K : PySem.W.Frag} {R : Addr} {Cs : List Addr} (k : Kin K R Cs) {c : Nat} {C : Addr} (hc : Cs[c]? = some C) (j : Nat) (D : Addr) (hd : Cs[j]? = some D) : (D = C ∧ decide (j = c) = true) ∨ (XNot K C D ∧ decide (j = c) = false) := by
  by_cases h : j = c
  · subst h
    rw [hc] at hd
    cases hd
    exact .inl ⟨rfl, decide_eq_true rfl⟩
  · exact .inr ⟨k.no _ _ _ _ hc hd (Ne.symm h), decide_eq_false h⟩
def PL : List Int := [0, 1, 2, 5, 6, 7, 8, 9, 10, 13, 16, 18, 19, 20, 21, 22, 23, 24, 25, 26]
def PM : List Int := [3, 4, 11, 12, 14, 15, 17]
def plc (n : Nat) : Nat := [0, 1, 2, 5, 6, 7, 8, 9, 10, 13, 16, 18, 19, 20, 21, 22, 23, 24, 25, 26].getD n 0
def plm (n : Nat) : Nat := [3, 4, 11, 12, 14, 15, 17].getD n 0
def fn1 (n : Nat) : List Str := ([["found"], ["found"], ["line"], ["line"], ["found"], ["path"], ["found"], ["found"], ["line"], ["unit"], ["line"], ["name"], ["found"], ["found"], ["found"], ["found"], ["found"], ["found"], ["found"], ["line"]] : List (List Str)).getD n []
def fnm (n : Nat) : List Str := ([["line", "name"], ["line", "name"], ["line", "unit"], ["line", "unit"], ["unit", "thing", "cell"], ["unit", "thing", "second", "another"], ["line", "path"]] : List (List Str)).getD n []
def spOne (K : PySem.W.Frag) (Cs : List Addr) : Sp := fun vs H Q _ => ∃ (n : Nat) (x : V), vs = [.int n, x] ∧ n < 20 ∧ ∀ e H', Same H H' → Ob K Cs H' e (plc n) ((fn1 n).zip [x]) → Q (.ref e) H'
def spOneM (K : PySem.W.Frag) (Cs : List Addr) : Sp := fun vs H Q _ => ∃ (n : Nat) (x : V), vs = [.int n, x] ∧ 10 ≤ n ∧ n < 20 ∧ ∀ e H', Same H H' → Ob K Cs H' e (plc n) ((fn1 n).zip [x]) → Q (.ref e) H'
def spSome (K : PySem.W.Frag) (Cs : List Addr) : Sp := fun vs H Q _ => ∃ (n : Nat) (a : Addr) (x0 x1 x2 x3 : V), vs = [.int n, .ref a] ∧ n < 7 ∧ SqL K H a [x0, x1, x2, x3] ∧ ∀ e H', Same H H' → Ob K Cs H' e (plm n) ((fnm n).zip [x0, x1, x2, x3]) → Q (.ref e) H'
def kindsV (c : Nat) (n : Nat) : List V := (List.range n).map fun j => V.bl (decide (j = c))
theorem kindsV_succ (c n : Nat) : kindsV c (n + 1) = kindsV c n ++ [V.bl (decide (n = c))] := by
  unfold kindsV; rw [List.range_succ, List.map_append]; rfl
theorem kindsV_len (c n : Nat) : (kindsV c n).length = n := by unfold kindsV; rw [List.length_map, List.length_range]
theorem kindsV_self (c n : Nat) : ∀ v ∈ kindsV c n, SelfV v := fun v hv => by
  obtain ⟨j, _, rfl⟩ := List.mem_map.mp hv
  exact .inl rfl
def spKinds (K : PySem.W.Frag) (Cs : List Addr) : Sp := fun vs H Q _ => ∃ (e : Addr) (c : Nat) (fs : List (Str × V)), vs = [.ref e] ∧ Ob K Cs H e c fs ∧ ∀ l H', Same H H' → H' l = some (.lst (kindsV c 27)) → Q (.ref l) H'
def spOwn (K : PySem.W.Frag) (Cs : List Addr) : Sp := fun vs H Q _ => ∃ (e : Addr) (c : Nat) (fs : List (Str × V)), vs = [.ref e, .int c] ∧ Ob K Cs H e c fs ∧ ∀ H', Same H H' → Q (.bl true) H'
def spList (ns : List Int) : Sp := fun vs H Q _ => vs = [] ∧ ∀ l H', Same H H' → H' l = some (.lst (ns.map V.int)) → Q (.ref l) H'
def spField (K : PySem.W.Frag) (Cs : List Addr) : Sp := fun vs H Q _ => ∃ (n : Nat) (e : Addr) (x : V), vs = [.int n, .ref e] ∧ n < 20 ∧ Ob K Cs H e (plc n) ((fn1 n).zip [x]) ∧ ∀ H', Same H H' → Q x H'
def spFields (K : PySem.W.Frag) (Cs : List Addr) : Sp := fun vs H Q _ => ∃ (n : Nat) (e : Addr) (x0 x1 x2 x3 : V), vs = [.int n, .ref e] ∧ n < 7 ∧ Ob K Cs H e (plm n) ((fnm n).zip [x0, x1, x2, x3]) ∧ ∀ l H', l ≠ sysModules → Same H H' → H' l = some (.lst ([x0, x1, x2, x3].take (fnm n).length)) → Q (.ref l) H'
def spCounts : Sp := fun vs H Q _ => ∃ n : Nat, vs = [.int n] ∧ n < 7 ∧ ∀ H', Same H H' → Q (.int ((fnm n).length : Nat)) H'
/-- data that can be told -/
structure Tg (K : PySem.W.Frag) (H : Hp) (x : V) (d : PyData) : Prop where
  dat : DatG K H x d
  sh : d.showable = true
  dp : d.depth ≤ 8
  ln : d.shown.length ≤ sizeLine
theorem EqTop.same {K : PySem.W.Frag} {H H' : Hp} {x y : V} (h : EqTop K H x y) (g : Same H H') : EqTop K H' x y := by
  rcases h with h | ⟨a, b, xs, e1, e2, h1, h2, h3⟩ | ⟨a, xs, e1, e2, h1, h3⟩ | ⟨a, k, v, e1, e2, h1⟩
  · exact .inl h
  · exact .inr (.inl ⟨a, b, xs, e1, e2, g.seq h1, g.seq h2, h3⟩)
  · exact .inr (.inr (.inl ⟨a, xs, e1, e2, g.tp h1, h3⟩))
  · exact .inr (.inr (.inr ⟨a, k, v, e1, e2, g _ _ h1⟩))
def spSame (K : PySem.W.Frag) : Sp := fun vs H Q _ => ∃ (x y : V) (d : PyData), vs = [x, y] ∧ EqTop K H x y ∧ Tg K H x d ∧ Tg K H y d ∧ Q (.bl true) H
structure Sg (d : PyData) : Prop where
  sh : d.showable = true
  ls : d.leavesShort 200 = true
  wt : d.weight ≤ 1000
  dp : d.depth ≤ 3
theorem Sg.len {d : PyData} (h : Sg d) : d.shown.length ≤ sizeLine := by
  have h1 := PyData.shown_le 200 (by decide) d h.ls
  have h2 := h.wt
  rw [sizeLine_eq]
  omega
theorem Sg.int {i : Int} (h : i.natAbs < 2 ^ 100) : Sg (.int i) := by
  have s := Sm.int h
  exact ⟨s.sh, s.ls, Nat.le_trans s.wt (by decide), Nat.le_trans s.dp (by decide)⟩
/-- a thing that lies beside p -/
def Thing (p : Addr) (K : PySem.W.Frag) (H : Hp) (x : V) : Prop := ∃ Hs d, Hs p = none ∧ Same Hs H ∧ DatG K Hs x d ∧ Sg d ∧ EqTop K Hs x x
theorem Thing.drawn {p : Addr} {K : PySem.W.Frag} {H H' : Hp} {x : V} (h : Thing p K H x) (d : Drawn p H H') : Thing p K H' x := by
  obtain ⟨Hs, d', h1, h2, h3⟩ := h
  exact ⟨Hs, d', h1, fun b o q => d.2 b o (ne_of_none q h1) (h2 b o q), h3⟩
theorem Thing.same {p : Addr} {K : PySem.W.Frag} {H H' : Hp} {x : V} (h : Thing p K H x) (g : Same H H') : Thing p K H' x := by
  obtain ⟨Hs, d', h1, h2, h3⟩ := h
  exact ⟨Hs, d', h1, h2.trans g, h3⟩
theorem Thing.tg {p : Addr} {K : PySem.W.Frag} {H : Hp} {x : V} (h : Thing p K H x) : ∃ d, Tg K H x d ∧ EqTop K H x x := by
  obtain ⟨Hs, d', h1, h2, h3, h4, h5⟩ := h
  exact ⟨d', ⟨h3.same h2, h4.sh, Nat.le_trans h4.dp (by decide), h4.len⟩, EqTop.same h5 h2⟩
theorem DatG.self {K : PySem.W.Frag} {H : Hp} {x : V} {d : PyData} (h : DatG K H x d) : SelfV x := by
  cases h <;> first | exact .inl rfl | exact .inr ⟨_, rfl⟩
theorem Drawn.sm {p : Addr} {H H1 H2 : Hp} (a : Drawn p H H1) (g : Same H1 H2) : Drawn p H H2 := by
  obtain ⟨⟨x, y, z, e⟩, h⟩ := a
  exact ⟨⟨x, y, z, g _ _ e⟩, fun b o n q => g _ _ (h b o n q)⟩
structure SgA (ds : List PyData) (n : Nat) : Prop where
  sh : PyData.showableAll ds = true
  ls : PyData.leavesShortAll 200 ds = true
  wt : PyData.weightAll ds ≤ 1001 * n
  dp : PyData.depthAll ds ≤ 3
theorem things_of {p : Addr} {K : PySem.W.Frag} {H : Hp} : ∀ {xs : List V}, (∀ x ∈ xs, Thing p K H x) → ∃ ds, DatGs K H xs ds ∧ SgA ds xs.length
  | [], _ => ⟨[], .nil, rfl, rfl, Nat.zero_le _, Nat.zero_le _⟩
  | x :: xs, h => by
    obtain ⟨ds, h1, h2⟩ := things_of fun y hy => h y (List.mem_cons_of_mem _ hy)
    obtain ⟨Hs, d, _, g, hd, sg, _⟩ := h x (List.mem_cons_self ..)
    refine ⟨d :: ds, .cons (hd.same g) h1, ?_, ?_, ?_, ?_⟩
    · show (d.showable && PyData.showableAll ds) = true
      rw [sg.sh, h2.sh]; rfl
    · show (d.leavesShort 200 && PyData.leavesShortAll 200 ds) = true
      rw [sg.ls, h2.ls]; rfl
    · show d.weight + 1 + PyData.weightAll ds ≤ 1001 * (xs.length + 1)
      have := sg.wt; have := h2.wt; omega
    · show max d.depth (PyData.depthAll ds) ≤ _
      have := sg.dp; have := h2.dp; omega
/-- two lists of the same things -/
theorem same_lists {p : Addr} {K : PySem.W.Frag} {H : Hp} {xs : List V} {a b : Addr} (h : ∀ x ∈ xs, Thing p K H x) (hl : xs.length ≤ 4) (na : a ≠ sysModules) (nb : b ≠ sysModules) (ha : H a = some (.lst xs)) (hb : H b = some (.lst xs)) : ∃ d, EqTop K H (.ref a) (.ref b) ∧ Tg K H (.ref a) d ∧ Tg K H (.ref b) d := by
  obtain ⟨ds, h1, h2⟩ := things_of h
  have ln : (PyData.list ds).shown.length ≤ sizeLine := by
    have e1 := PyData.shown_le 200 (by decide) (PyData.list ds) h2.ls
    have e2 : (PyData.list ds).weight ≤ 1001 * xs.length := h2.wt
    rw [sizeLine_eq]; omega
  have dp : (PyData.list ds).depth ≤ 8 := by
    show PyData.depthAll ds + 1 ≤ 8
    have := h2.dp; omega
  refine ⟨.list ds, .inr (.inl ⟨a, b, xs, rfl, rfl, SqL.of ha, SqL.of hb, fun v hv => ?_⟩), ⟨.lst (SqL.of ha) na h1, h2.sh, dp, ln⟩, ⟨.lst (SqL.of hb) nb h1, h2.sh, dp, ln⟩⟩
  obtain ⟨Hs, d, _, g, hd, _⟩ := h v hv
  exact DatG.self hd
def offp (p : Addr) (H : Hp) : Hp := fun b => if b = p then none else H b
theorem offp_no {p : Addr} {H : Hp} : offp p H p = none := if_pos rfl
theorem offp_at {p a : Addr} {H : Hp} {o : HO} (n : a ≠ p) (h : H a = some o) : offp p H a = some o := by unfold offp; rw [if_neg n]; exact h
theorem offp_same {p : Addr} {H : Hp} : Same (offp p H) H := fun b o q => by
  unfold offp at q
  split at q
  · cases q
  · exact q
def spThing (K : PySem.W.Frag) : Sp := fun vs H Q _ => ∃ p : Addr, vs = [.ref p] ∧ St3 H p ∧ ∀ x H', Drawn p H H' → Thing p K H' x → Q x H'
def spTaken (K : PySem.W.Frag) : Sp := fun vs H Q _ => ∃ (n : Nat) (p : Addr) (x : V), vs = [.int n, x] ∧ Thing p K H x ∧ ∀ H', Same H H' → Q (.bl true) H'
/-- written whole numbers -/
def intsOf : List Expr → Option (List Int)
  | [] => some []
  | .Constant (.int n) _ _ :: es => (intsOf es).map (n :: ·)
  | _ => none
def tInts (ns : List Int) : TA := fun _ H Q => Q (ns.map V.int) H
theorem pa_ints {X : Cx} : ∀ {es : List Expr} {ns : List Int}, intsOf es = some ns → PA X es (tInts ns)
  | [], ns, h => by
    cases h
    exact pa_nil
  | .Constant (.int n) k p :: es, ns, h => by
    unfold intsOf at h
    cases e : intsOf es with
    | none => rw [e] at h; cases h
    | some ms =>
      rw [e] at h
      cases h
      exact pa_cons pe_int (pa_ints e) se_const
def AllC (p : Addr → Prop) : List Addr → Prop
  | [] => True
  | C :: Cs => p C ∧ AllC p Cs
theorem AllC.mem {p : Addr → Prop} : ∀ {Cs : List Addr}, AllC p Cs → ∀ C ∈ Cs, p C
  | [], _, C, h => absurd h (by simp)
  | D :: Ds, h, C, hc => by
    rcases List.mem_cons.mp hc with z | z
    · rw [z]; exact h.1
    · exact AllC.mem h.2 C z
def allNot (K : PySem.W.Frag) (Cs : List Addr) : Bool := (List.range Cs.length).all fun i => (List.range Cs.length).all fun j => decide (i = j) || PySem.W.kin_not K (Cs.getD i 0) (Cs.getD j 0)
theorem kin_mk {K : PySem.W.Frag} {R : Addr} {Cs : List Addr} (hn : allNot K Cs = true) (hy : (Cs.all fun C => kinYes K C R) = true) (hg : PySem.W.specialIn K (.builtin "object.__class__") "__get__" = some (some (.builtin "getset_descriptor.__get__")))
    (ht : PySem.W.takesIn K (.builtin "object.__class__") = some true) (ha : AllC (fun C => PySem.W.findIn K (.ref C) "__class__" = some (some (.builtin "object.__class__"))) Cs) (hm : AllC (fun C => PySem.W.mroIn K C (.type "object") = some true) Cs) : Kin K R Cs := by
  refine ⟨fun i j C D hi hj ne => ?_, fun C hC => List.all_eq_true.mp hy C hC⟩
  have i1 : i < Cs.length := (List.getElem?_eq_some_iff.mp hi).1
  have j1 : j < Cs.length := (List.getElem?_eq_some_iff.mp hj).1
  have h1 := List.all_eq_true.mp (List.all_eq_true.mp hn i (List.mem_range.mpr i1)) j (List.mem_range.mpr j1)
  rw [decide_eq_false ne, Bool.false_or, List.getD_eq_getElem?_getD, List.getD_eq_getElem?_getD, hi, hj] at h1
  exact ⟨ha.mem C (List.mem_of_getElem? hi), hg, ht, hm.mem C (List.mem_of_getElem? hi), h1⟩
end K05

namespace K05
open PySem L2 PyProof.Rows
abbrev s_law_draw : Stmt := top 32
theorem sc_law_draw : FnScope ["_law_state", "_law_many", "_law_found", "_law_number"] ["_law_state", "_law_many"] (defScope s_law_draw) := ⟨rfl, rfl, rfl, by decide +kernel, rfl, by decide +kernel, by decide +kernel⟩
section
variable {P : Program} {w : World} {K : PySem.W.Frag} {mg : Str → Option Value} {base : Heap}
theorem ok_law_draw {k : Nat} {f : Addr} {fd : FuncData} (F : Fun K "_law_draw" "_law_draw" s_law_draw f fd) (M : Blt mg) {C_RoomError f_RoomError_init : Addr} (T_RoomError : TXB K mg C_RoomError f_RoomError_init) (VI : VInit K) {C_Beyond f_Beyond_init : Addr} (T_Beyond : TX K mg "Beyond" C_Beyond C_RoomError f_Beyond_init ["found"]) {C_Lacking f_Lacking_init : Addr} (T_Lacking : TX K mg "Lacking" C_Lacking C_RoomError f_Lacking_init ["unit"]) {C_LaidTwice f_LaidTwice_init : Addr} (T_LaidTwice : TX K mg "LaidTwice" C_LaidTwice C_RoomError f_LaidTwice_init ["line", "unit"]) {C_Meets f_Meets_init : Addr} (T_Meets : TX K mg "Meets" C_Meets C_RoomError f_Meets_init ["unit", "thing", "second", "another"]) {C_NamedTwice f_NamedTwice_init : Addr} (T_NamedTwice : TX K mg "NamedTwice" C_NamedTwice C_RoomError f_NamedTwice_init ["line", "name"]) {C_NoBudget f_NoBudget_init : Addr} (T_NoBudget : TX K mg "NoBudget" C_NoBudget C_RoomError f_NoBudget_init ["found"]) {C_NoDesk f_NoDesk_init : Addr} (T_NoDesk : TX K mg "NoDesk" C_NoDesk C_RoomError f_NoDesk_init ["line"]) {C_NoInput f_NoInput_init : Addr} (T_NoInput : TX K mg "NoInput" C_NoInput C_RoomError f_NoInput_init ["name"]) {C_NoKeep f_NoKeep_init : Addr} (T_NoKeep : TX K mg "NoKeep" C_NoKeep C_RoomError f_NoKeep_init ["found"]) {C_NoLaying f_NoLaying_init : Addr} (T_NoLaying : TX K mg "NoLaying" C_NoLaying C_RoomError f_NoLaying_init ["line"]) {C_NoLayings f_NoLayings_init : Addr} (T_NoLayings : TX K mg "NoLayings" C_NoLayings C_RoomError f_NoLayings_init ["found"]) {C_NoLine f_NoLine_init : Addr} (T_NoLine : TX K mg "NoLine" C_NoLine C_RoomError f_NoLine_init ["found"]) {C_NoOpen f_NoOpen_init : Addr} (T_NoOpen : TX K mg "NoOpen" C_NoOpen C_RoomError f_NoOpen_init ["found"]) {C_NoPath f_NoPath_init : Addr} (T_NoPath : TX K mg "NoPath" C_NoPath C_RoomError f_NoPath_init ["path"]) {C_NoPlace f_NoPlace_init : Addr} (T_NoPlace : TX K mg "NoPlace" C_NoPlace C_RoomError f_NoPlace_init ["found"]) {C_NoProgram f_NoProgram_init : Addr} (T_NoProgram : TX K mg "NoProgram" C_NoProgram C_RoomError f_NoProgram_init ["line"]) {C_NoRecord f_NoRecord_init : Addr} (T_NoRecord : TX K mg "NoRecord" C_NoRecord C_RoomError f_NoRecord_init ["found"]) {C_NoRoom f_NoRoom_init : Addr} (T_NoRoom : TX K mg "NoRoom" C_NoRoom C_RoomError f_NoRoom_init ["found"]) {C_NoShapes f_NoShapes_init : Addr} (T_NoShapes : TX K mg "NoShapes" C_NoShapes C_RoomError f_NoShapes_init ["line"]) {C_NoThings f_NoThings_init : Addr} (T_NoThings : TX K mg "NoThings" C_NoThings C_RoomError f_NoThings_init ["found"]) {C_NoTurn f_NoTurn_init : Addr} (T_NoTurn : TX K mg "NoTurn" C_NoTurn C_RoomError f_NoTurn_init ["found"]) {C_Other f_Other_init : Addr} (T_Other : TX K mg "Other" C_Other C_RoomError f_Other_init ["found"]) {C_Past f_Past_init : Addr} (T_Past : TX K mg "Past" C_Past C_RoomError f_Past_init ["unit", "thing", "cell"]) {C_TooMuch f_TooMuch_init : Addr} (T_TooMuch : TX K mg "TooMuch" C_TooMuch C_RoomError f_TooMuch_init ["line"]) {C_UnknownShape f_UnknownShape_init : Addr} (T_UnknownShape : TX K mg "UnknownShape" C_UnknownShape C_RoomError f_UnknownShape_init ["line", "name"]) {C_UnknownUnit f_UnknownUnit_init : Addr} (T_UnknownUnit : TX K mg "UnknownUnit" C_UnknownUnit C_RoomError f_UnknownUnit_init ["line", "unit"]) {C_WrongPath f_WrongPath_init : Addr} (T_WrongPath : TX K mg "WrongPath" C_WrongPath C_RoomError f_WrongPath_init ["line", "path"]) : FnOk P w K mg base CX0 (k + 2) f fd ["_law_state", "_law_many"] spDraw := by
  refine F.ok sc_law_draw (fun vs H Q E h => ?_) (fun cdv A outer s0 H vs Q E hr0 h => ?_)
  · obtain ⟨p, m, rfl, _⟩ := h; rfl
  obtain ⟨p, m, rfl, hm, hm2, ⟨a, b, c, h⟩, q⟩ := h
  have hr := hr0.mono (Nat.le_succ _)
  refine ⟨_, (pss_cons (ps_if (pt_cmpR op_gt (pe_ix ix_list (pv 0) pe_int (fun _ _ => rfl)) pe_int (nomark _)) (pss_cons (ps_set (i := 2) sc_law_draw.nd rfl (by first | exact Or.inl rfl | exact Or.inr rfl) (pe_op op_mod (pe_ix ix_list (pv 0) pe_int (fun _ _ => rfl)) (pv 1)))
      (pss_cons (ps_asg (pe_op op_fdiv (pe_ix ix_list (pv 0) pe_int (fun _ _ => rfl)) (pv 1)) (pg_sub (pv 0) pe_int set_list))
      (pss_one (ps_ret (pv 2))))) pss_nil)
      (pss_cons (ps_asg (pe_op op_add (pe_ix ix_list (pv 0) pe_int (fun _ _ => rfl)) pe_int) (pg_sub (pv 0) pe_int set_list))
      (pss_cons (ps_set (i := 3) sc_law_draw.nd rfl (by first | exact Or.inl rfl | exact Or.inr rfl) (pe_op op_mod (pe_op op_add (pe_op op_mul (pe_ix ix_list (pv 0) pe_int (fun _ _ => rfl)) pe_int) (pe_op op_mul (pe_ix ix_list (pv 0) pe_int (fun _ _ => rfl)) pe_int)) pe_int))
      (pss_cons (ps_set (i := 3) sc_law_draw.nd rfl (by first | exact Or.inl rfl | exact Or.inr rfl) (pe_op op_mod (pe_op op_add (pe_op op_mul (pv 3) (pv 3)) (pe_op op_mul (pe_ix ix_list (pv 0) pe_int (fun _ _ => rfl)) pe_int)) pe_int))
      (pss_one (ps_ret (pe_op op_mod (pe_op op_mod (pe_op op_mul (pv 3) (pv 3)) pe_int) (pv 1)))))))), ?_⟩
  refine ⟨_, rfl, p, _, _, _, rfl, rfl, SqL.of h, rfl, _, _, rfl, rfl, _, rfl, ?_⟩
  refine ite2 (fun cc => ?_) (fun cc => ?_)
  · refine ⟨_, rfl, p, _, _, _, rfl, rfl, SqL.of h, rfl, _, rfl, _, _, rfl, rfl, hm, ?_⟩
    refine ⟨_, rfl, p, _, _, _, rfl, rfl, SqL.of h, rfl, _, rfl, _, _, rfl, rfl, ⟨hm, hm2⟩, _, rfl, p, _, _, 0, rfl, rfl, h, rfl, ?_⟩
    refine ⟨_, rfl, q _ _ (Int.emod_nonneg _ (by omega)) (Int.emod_lt_of_pos _ hm) ⟨⟨_, _, _, upd_same⟩, fun b' o n e => by rw [upd_ne n]; exact e⟩⟩
  · refine ⟨_, rfl, p, _, _, _, rfl, rfl, SqL.of h, rfl, _, _, rfl, rfl, _, rfl, p, _, _, 1, rfl, rfl, h, rfl, ?_⟩
    have h1 : upd H p (.lst [.int a, .int (b + 1), .int c]) p = some (.lst [.int a, .int (b + 1), .int c]) := upd_same
    refine ⟨_, rfl, p, _, _, _, rfl, rfl, SqL.of h1, rfl, _, _, rfl, rfl, .inr ⟨by omega, by omega⟩, _, rfl, p, _, _, _, rfl, rfl, SqL.of h1, rfl, _, _, rfl, rfl, .inr ⟨by omega, by omega⟩, _, _, rfl, rfl, _, _, rfl, rfl, (by show (0 : Int) < _; decide), ?_⟩
    refine ⟨_, rfl, _, rfl, _, _, rfl, rfl, .inl ⟨by omega, by omega⟩, _, rfl, p, _, _, _, rfl, rfl, SqL.of h1, rfl, _, _, rfl, rfl, .inr ⟨by omega, by omega⟩, _, _, rfl, rfl, _, _, rfl, rfl, (by show (0 : Int) < _; decide), ?_⟩
    refine ⟨_, rfl, _, rfl, _, _, rfl, rfl, .inl ⟨by omega, by omega⟩, _, _, rfl, rfl, (by show (0 : Int) < _; decide), _, rfl, _, _, rfl, rfl, hm, ?_⟩
    exact q _ _ (Int.emod_nonneg _ (by omega)) (Int.emod_lt_of_pos _ hm) ⟨⟨_, _, _, upd_same⟩, fun b' o n e => by rw [upd_ne n]; exact e⟩
end
end K05

namespace K05
open PySem L2 PyProof.Rows
abbrev s_law_cell : Stmt := top 30
theorem sc_law_cell : FnScope ["_law_script", "_law_k", "_law_number"] ["_law_script", "_law_k"] (defScope s_law_cell) := ⟨rfl, rfl, rfl, by decide +kernel, rfl, by decide +kernel, by decide +kernel⟩
section
variable {P : Program} {w : World} {K : PySem.W.Frag} {mg : Str → Option Value} {base : Heap}
theorem ok_law_cell {k : Nat} {f : Addr} {fd : FuncData} (F : Fun K "_law_cell" "_law_cell" s_law_cell f fd) (M : Blt mg) {C_RoomError f_RoomError_init : Addr} (T_RoomError : TXB K mg C_RoomError f_RoomError_init) (VI : VInit K) {C_Beyond f_Beyond_init : Addr} (T_Beyond : TX K mg "Beyond" C_Beyond C_RoomError f_Beyond_init ["found"]) {C_Lacking f_Lacking_init : Addr} (T_Lacking : TX K mg "Lacking" C_Lacking C_RoomError f_Lacking_init ["unit"]) {C_LaidTwice f_LaidTwice_init : Addr} (T_LaidTwice : TX K mg "LaidTwice" C_LaidTwice C_RoomError f_LaidTwice_init ["line", "unit"]) {C_Meets f_Meets_init : Addr} (T_Meets : TX K mg "Meets" C_Meets C_RoomError f_Meets_init ["unit", "thing", "second", "another"]) {C_NamedTwice f_NamedTwice_init : Addr} (T_NamedTwice : TX K mg "NamedTwice" C_NamedTwice C_RoomError f_NamedTwice_init ["line", "name"]) {C_NoBudget f_NoBudget_init : Addr} (T_NoBudget : TX K mg "NoBudget" C_NoBudget C_RoomError f_NoBudget_init ["found"]) {C_NoDesk f_NoDesk_init : Addr} (T_NoDesk : TX K mg "NoDesk" C_NoDesk C_RoomError f_NoDesk_init ["line"]) {C_NoInput f_NoInput_init : Addr} (T_NoInput : TX K mg "NoInput" C_NoInput C_RoomError f_NoInput_init ["name"]) {C_NoKeep f_NoKeep_init : Addr} (T_NoKeep : TX K mg "NoKeep" C_NoKeep C_RoomError f_NoKeep_init ["found"]) {C_NoLaying f_NoLaying_init : Addr} (T_NoLaying : TX K mg "NoLaying" C_NoLaying C_RoomError f_NoLaying_init ["line"]) {C_NoLayings f_NoLayings_init : Addr} (T_NoLayings : TX K mg "NoLayings" C_NoLayings C_RoomError f_NoLayings_init ["found"]) {C_NoLine f_NoLine_init : Addr} (T_NoLine : TX K mg "NoLine" C_NoLine C_RoomError f_NoLine_init ["found"]) {C_NoOpen f_NoOpen_init : Addr} (T_NoOpen : TX K mg "NoOpen" C_NoOpen C_RoomError f_NoOpen_init ["found"]) {C_NoPath f_NoPath_init : Addr} (T_NoPath : TX K mg "NoPath" C_NoPath C_RoomError f_NoPath_init ["path"]) {C_NoPlace f_NoPlace_init : Addr} (T_NoPlace : TX K mg "NoPlace" C_NoPlace C_RoomError f_NoPlace_init ["found"]) {C_NoProgram f_NoProgram_init : Addr} (T_NoProgram : TX K mg "NoProgram" C_NoProgram C_RoomError f_NoProgram_init ["line"]) {C_NoRecord f_NoRecord_init : Addr} (T_NoRecord : TX K mg "NoRecord" C_NoRecord C_RoomError f_NoRecord_init ["found"]) {C_NoRoom f_NoRoom_init : Addr} (T_NoRoom : TX K mg "NoRoom" C_NoRoom C_RoomError f_NoRoom_init ["found"]) {C_NoShapes f_NoShapes_init : Addr} (T_NoShapes : TX K mg "NoShapes" C_NoShapes C_RoomError f_NoShapes_init ["line"]) {C_NoThings f_NoThings_init : Addr} (T_NoThings : TX K mg "NoThings" C_NoThings C_RoomError f_NoThings_init ["found"]) {C_NoTurn f_NoTurn_init : Addr} (T_NoTurn : TX K mg "NoTurn" C_NoTurn C_RoomError f_NoTurn_init ["found"]) {C_Other f_Other_init : Addr} (T_Other : TX K mg "Other" C_Other C_RoomError f_Other_init ["found"]) {C_Past f_Past_init : Addr} (T_Past : TX K mg "Past" C_Past C_RoomError f_Past_init ["unit", "thing", "cell"]) {C_TooMuch f_TooMuch_init : Addr} (T_TooMuch : TX K mg "TooMuch" C_TooMuch C_RoomError f_TooMuch_init ["line"]) {C_UnknownShape f_UnknownShape_init : Addr} (T_UnknownShape : TX K mg "UnknownShape" C_UnknownShape C_RoomError f_UnknownShape_init ["line", "name"]) {C_UnknownUnit f_UnknownUnit_init : Addr} (T_UnknownUnit : TX K mg "UnknownUnit" C_UnknownUnit C_RoomError f_UnknownUnit_init ["line", "unit"]) {C_WrongPath f_WrongPath_init : Addr} (T_WrongPath : TX K mg "WrongPath" C_WrongPath C_RoomError f_WrongPath_init ["line", "path"]) : FnOk P w K mg base CX0 (k + 2) f fd ["_law_script", "_law_k"] (spCell K) := by
  refine F.ok sc_law_cell (fun vs H Q E h => ?_) (fun cdv A outer s0 H vs Q E hr0 h => ?_)
  · obtain ⟨a, ns, k, rfl, _⟩ := h; rfl
  obtain ⟨a, ns, k, rfl, hS, hk0, hk1, q⟩ := h
  have hr := hr0.mono (Nat.le_succ _)
  refine ⟨_, (pss_cons (ps_if (pt_cmpR op_lt (pv 1) (pe_callB call_len_seq rfl M.len PySem.boot_len (pa_cons (pv 0) pa_nil)) (nomark _)) (pss_one (ps_ret (pe_ix ix_list (pv 0) (pv 1) (fun _ _ => rfl)))) pss_nil)
      (pss_cons (ps_set (i := 2) sc_law_cell.nd rfl (by first | exact Or.inl rfl | exact Or.inr rfl) (pe_op op_add (pe_op op_mul (pv 1) pe_int) pe_int))
      (pss_cons (ps_if (pt_cmpR op_gt (pe_callB call_len_seq rfl M.len PySem.boot_len (pa_cons (pv 0) pa_nil)) pe_int (nomark _)) (pss_one (ps_set (i := 2) sc_law_cell.nd rfl (by first | exact Or.inl rfl | exact Or.inr rfl) (pe_op op_mod (pe_op op_add (pe_op op_mul (pe_ix ix_list (pv 0) (pe_op op_mod (pe_op op_mul (pv 1) pe_int) (pe_callB call_len_seq rfl M.len PySem.boot_len (pa_cons (pv 0) pa_nil))) (fun _ _ => rfl)) pe_int) (pe_op op_mul (pv 1) pe_int)) pe_int))) pss_nil)
      (pss_one (ps_ret (pe_op op_mod (pe_op op_mul (pv 2) (pv 2)) pe_int)))))), ?_⟩
  have hl : (ns.map V.int).length = ns.length := List.length_map _
  refine ⟨_, rfl, _, rfl, a, _, rfl, .inl hS, _, _, rfl, rfl, _, rfl, ?_⟩
  refine ite2 (fun c => ?_) (fun c => ?_)
  · have c' : k < (((ns.map V.int).length : Nat) : Int) := of_decide_eq_true c
    rw [hl] at c'
    obtain ⟨v, hv⟩ := atI_ints ns hk0 c'
    exact ⟨_, rfl, _, rfl, a, _, _, _, rfl, rfl, hS, hv, q _⟩
  · refine ⟨_, rfl, _, _, rfl, rfl, .inr ⟨by omega, by omega⟩, _, _, rfl, rfl, ?_⟩
    refine ⟨_, rfl, a, _, rfl, .inl hS, _, _, rfl, rfl, _, rfl, ?_⟩
    refine ite2 (fun c => ?_) (fun c => ?_)
    · have c' : (0 : Int) < (((ns.map V.int).length : Nat) : Int) := of_decide_eq_true c
      have c2 := c'
      rw [hl] at c2
      obtain ⟨v, hv⟩ := atI_ints ns (i := k * 7 % (((ns.map V.int).length : Nat) : Int)) (Int.emod_nonneg _ (by omega)) (by rw [hl]; exact Int.emod_lt_of_pos _ c2)
      refine ⟨_, rfl, _, rfl, _, _, rfl, rfl, .inr ⟨by omega, by omega⟩, _, rfl, a, _, rfl, .inl hS, _, _, rfl, rfl, c', a, _, _, _, rfl, rfl, hS, hv, _, _, rfl, rfl, .inr ⟨by omega, by omega⟩, _, rfl, _, _, rfl, rfl, .inr ⟨by omega, by omega⟩, _, _, rfl, rfl, _, _, rfl, rfl, (by show (0 : Int) < _; decide), ?_⟩
      exact ⟨_, rfl, _, rfl, _, _, rfl, rfl, .inl ⟨by omega, by omega⟩, _, _, rfl, rfl, (by show (0 : Int) < _; decide), q _⟩
    · exact ⟨_, rfl, _, rfl, _, _, rfl, rfl, .inl ⟨by omega, by omega⟩, _, _, rfl, rfl, (by show (0 : Int) < _; decide), q _⟩
end
end K05

namespace K05
open PySem L2 PyProof.Rows
abbrev s_law_begun : Stmt := top 31
theorem sc_law_begun : FnScope ["_law_cell_here", "_law_rest"] ["_law_cell_here"] (defScope s_law_begun) := ⟨rfl, rfl, rfl, by decide +kernel, rfl, by decide +kernel, by decide +kernel⟩
section
variable {P : Program} {w : World} {K : PySem.W.Frag} {mg : Str → Option Value} {base : Heap}
theorem ok_law_begun {k : Nat} {f : Addr} {fd : FuncData} (F : Fun K "_law_begun" "_law_begun" s_law_begun f fd) (M : Blt mg) {C_RoomError f_RoomError_init : Addr} (T_RoomError : TXB K mg C_RoomError f_RoomError_init) (VI : VInit K) {C_Beyond f_Beyond_init : Addr} (T_Beyond : TX K mg "Beyond" C_Beyond C_RoomError f_Beyond_init ["found"]) {C_Lacking f_Lacking_init : Addr} (T_Lacking : TX K mg "Lacking" C_Lacking C_RoomError f_Lacking_init ["unit"]) {C_LaidTwice f_LaidTwice_init : Addr} (T_LaidTwice : TX K mg "LaidTwice" C_LaidTwice C_RoomError f_LaidTwice_init ["line", "unit"]) {C_Meets f_Meets_init : Addr} (T_Meets : TX K mg "Meets" C_Meets C_RoomError f_Meets_init ["unit", "thing", "second", "another"]) {C_NamedTwice f_NamedTwice_init : Addr} (T_NamedTwice : TX K mg "NamedTwice" C_NamedTwice C_RoomError f_NamedTwice_init ["line", "name"]) {C_NoBudget f_NoBudget_init : Addr} (T_NoBudget : TX K mg "NoBudget" C_NoBudget C_RoomError f_NoBudget_init ["found"]) {C_NoDesk f_NoDesk_init : Addr} (T_NoDesk : TX K mg "NoDesk" C_NoDesk C_RoomError f_NoDesk_init ["line"]) {C_NoInput f_NoInput_init : Addr} (T_NoInput : TX K mg "NoInput" C_NoInput C_RoomError f_NoInput_init ["name"]) {C_NoKeep f_NoKeep_init : Addr} (T_NoKeep : TX K mg "NoKeep" C_NoKeep C_RoomError f_NoKeep_init ["found"]) {C_NoLaying f_NoLaying_init : Addr} (T_NoLaying : TX K mg "NoLaying" C_NoLaying C_RoomError f_NoLaying_init ["line"]) {C_NoLayings f_NoLayings_init : Addr} (T_NoLayings : TX K mg "NoLayings" C_NoLayings C_RoomError f_NoLayings_init ["found"]) {C_NoLine f_NoLine_init : Addr} (T_NoLine : TX K mg "NoLine" C_NoLine C_RoomError f_NoLine_init ["found"]) {C_NoOpen f_NoOpen_init : Addr} (T_NoOpen : TX K mg "NoOpen" C_NoOpen C_RoomError f_NoOpen_init ["found"]) {C_NoPath f_NoPath_init : Addr} (T_NoPath : TX K mg "NoPath" C_NoPath C_RoomError f_NoPath_init ["path"]) {C_NoPlace f_NoPlace_init : Addr} (T_NoPlace : TX K mg "NoPlace" C_NoPlace C_RoomError f_NoPlace_init ["found"]) {C_NoProgram f_NoProgram_init : Addr} (T_NoProgram : TX K mg "NoProgram" C_NoProgram C_RoomError f_NoProgram_init ["line"]) {C_NoRecord f_NoRecord_init : Addr} (T_NoRecord : TX K mg "NoRecord" C_NoRecord C_RoomError f_NoRecord_init ["found"]) {C_NoRoom f_NoRoom_init : Addr} (T_NoRoom : TX K mg "NoRoom" C_NoRoom C_RoomError f_NoRoom_init ["found"]) {C_NoShapes f_NoShapes_init : Addr} (T_NoShapes : TX K mg "NoShapes" C_NoShapes C_RoomError f_NoShapes_init ["line"]) {C_NoThings f_NoThings_init : Addr} (T_NoThings : TX K mg "NoThings" C_NoThings C_RoomError f_NoThings_init ["found"]) {C_NoTurn f_NoTurn_init : Addr} (T_NoTurn : TX K mg "NoTurn" C_NoTurn C_RoomError f_NoTurn_init ["found"]) {C_Other f_Other_init : Addr} (T_Other : TX K mg "Other" C_Other C_RoomError f_Other_init ["found"]) {C_Past f_Past_init : Addr} (T_Past : TX K mg "Past" C_Past C_RoomError f_Past_init ["unit", "thing", "cell"]) {C_TooMuch f_TooMuch_init : Addr} (T_TooMuch : TX K mg "TooMuch" C_TooMuch C_RoomError f_TooMuch_init ["line"]) {C_UnknownShape f_UnknownShape_init : Addr} (T_UnknownShape : TX K mg "UnknownShape" C_UnknownShape C_RoomError f_UnknownShape_init ["line", "name"]) {C_UnknownUnit f_UnknownUnit_init : Addr} (T_UnknownUnit : TX K mg "UnknownUnit" C_UnknownUnit C_RoomError f_UnknownUnit_init ["line", "unit"]) {C_WrongPath f_WrongPath_init : Addr} (T_WrongPath : TX K mg "WrongPath" C_WrongPath C_RoomError f_WrongPath_init ["line", "path"]) : FnOk P w K mg base CX0 (k + 2) f fd ["_law_cell_here"] spBegun := by
  refine F.ok sc_law_begun (fun vs H Q E h => ?_) (fun cdv A outer s0 H vs Q E hr0 h => ?_)
  · obtain ⟨c, rfl, _⟩ := h; rfl
  obtain ⟨c, rfl, q⟩ := h
  have hr := hr0.mono (Nat.le_succ _)
  refine ⟨_, (pss_cons (ps_set (i := 1) sc_law_begun.nd rfl (by first | exact Or.inl rfl | exact Or.inr rfl) pe_int)
      (pss_cons (ps_if (pt_cmpR op_ge (pv 0) (pe_op op_pow pe_int pe_int) (nomark _)) (pss_one (ps_set (i := 1) sc_law_begun.nd rfl (by first | exact Or.inl rfl | exact Or.inr rfl) (pv 0))) pss_nil)
      (pss_one (ps_ret (pe_lst (pa_cons (pv 1) (pa_cons pe_int (pa_cons (pe_op op_mod (pv 0) pe_int) pa_nil)))))))), ?_⟩
  refine ⟨_, rfl, _, _, rfl, rfl, ⟨by decide, by decide, by decide⟩, _, _, rfl, rfl, _, rfl, ?_⟩
  refine ite2 (fun cc => ?_) (fun cc => ?_)
  · exact ⟨_, rfl, _, rfl, _, rfl, _, _, rfl, rfl, (by show (0 : Int) < _; decide), (by show 3 ≤ sizeLine; decide), fun p hp => q p _ hp ⟨⟨_, _, _, upd_same⟩, fun b o n e => by rw [upd_ne n]; exact e⟩⟩
  · exact ⟨_, rfl, _, rfl, _, _, rfl, rfl, (by show (0 : Int) < _; decide), (by show 3 ≤ sizeLine; decide), fun p hp => q p _ hp ⟨⟨_, _, _, upd_same⟩, fun b o n e => by rw [upd_ne n]; exact e⟩⟩
end
end K05

namespace K05
open PySem L2 PyProof.Rows
abbrev s_RoomError_init : Stmt := inClass (top 1) 0
theorem sc_RoomError_init : FnScope ["self", "words"] ["self", "words"] (defScope s_RoomError_init) := ⟨rfl, rfl, rfl, by decide +kernel, rfl, by decide +kernel, by decide +kernel⟩
section
variable {P : Program} {w : World} {K : PySem.W.Frag} {mg : Str → Option Value} {base : Heap}
theorem ok_RoomError_init {k : Nat} {f : Addr} {fd : FuncData} (F : Fun K "__init__" "RoomError.__init__" s_RoomError_init f fd) (M : Blt mg) {C_RoomError f_RoomError_init : Addr} (T_RoomError : TXB K mg C_RoomError f_RoomError_init) (VI : VInit K) : FnOk P w K mg base CX0 (k + 2) f fd ["self", "words"] (spRE K) := by
  refine F.ok sc_RoomError_init (fun vs H Q E h => ?_) (fun cdv A outer s0 H vs Q E hr0 h => ?_)
  · obtain ⟨e, v, C', R, fI, dx, rfl, _⟩ := h; rfl
  obtain ⟨e, v, C', R, fI, dx, rfl, he, cx, q⟩ := h
  have hr := hr0.mono (Nat.le_succ _)
  refine ⟨_, (pss_one (ps_expr (pe_vinit VI (pe_bltn (v := .ty "ValueError") rfl M.ValueError (show bootBuiltins "ValueError" = some (.type "ValueError") from by decide +kernel) rfl) (pa_cons (pv 0) (pa_cons (pv 1) pa_nil))))), ?_⟩
  exact ⟨_, rfl, _, rfl, e, v, C', R, fI, dx, rfl, he, cx, q⟩
end
end K05

namespace K05
open PySem L2 PyProof.Rows
abbrev s_NoRoom_init : Stmt := inClass (top 2) 0
theorem sc_NoRoom_init : FnScope ["self", "found"] ["self", "found"] (defScope s_NoRoom_init) := ⟨rfl, rfl, rfl, by decide +kernel, rfl, by decide +kernel, by decide +kernel⟩
section
variable {P : Program} {w : World} {K : PySem.W.Frag} {mg : Str → Option Value} {base : Heap}
theorem ok_NoRoom_init {k : Nat} {f : Addr} {fd : FuncData} (F : Fun K "__init__" "NoRoom.__init__" s_NoRoom_init f fd) (M : Blt mg) {C_RoomError f_RoomError_init : Addr} (T_RoomError : TXB K mg C_RoomError f_RoomError_init) (VI : VInit K) {C_NoRoom f_NoRoom_init : Addr} (T_NoRoom : TX K mg "NoRoom" C_NoRoom C_RoomError f_NoRoom_init ["found"]) {fd_RoomError_init : FuncData} (D_RoomError_init : DfI K fd_RoomError_init ["self", "words"]) (G_RoomError_init : FnOk P w K mg base CX0 k f_RoomError_init fd_RoomError_init ["self", "words"] (spRE K)) : FnOk P w K mg base (CXE P w) (k + 2) f fd ["self", "found"] (spXn C_NoRoom ["found"]) := by
  refine F.okE sc_NoRoom_init (fun vs H Q E h => ?_) (fun cdv A outer s0 H vs Q E hr0 h => ?_)
  · obtain ⟨e, xs, rfl, hl, _⟩ := h; exact congrArg (· + 1) hl
  obtain ⟨e, xs, rfl, hl, he, q⟩ := h
  have hr := hr0.mono (Nat.le_succ _)
  refine ⟨_, (pss_cons (ps_expr (pe_cinit T_RoomError.i (pe_glob (v := .ref C_RoomError) rfl T_RoomError.m rfl) G_RoomError_init hr D_RoomError_init.b .nil pass0 (pa_cons (pv 0) (pa_cons pe_str pa_nil))))
      (pss_one (ps_xfld (pv 0) (pv 1) rfl))), ?_⟩
  match xs, hl, q with
  | [x0], _, q =>
    refine ⟨_, rfl, e, _, C_NoRoom, C_RoomError, f_NoRoom_init, none, rfl, he, T_NoRoom.c, ?_⟩
    refine ⟨_, rfl, _, rfl, e, C_NoRoom, C_RoomError, f_NoRoom_init, rfl, T_NoRoom.c, T_NoRoom.n _ (by simp), .inl ⟨he, fun dx hd => ?_⟩⟩
    have F1 := Fl.first (CN := C_NoRoom) (f := "found") (y := x0) he hd
    exact q dx _ F1
end
end K05

namespace K05
open PySem L2 PyProof.Rows
abbrev s_NoPlace_init : Stmt := inClass (top 3) 0
theorem sc_NoPlace_init : FnScope ["self", "found"] ["self", "found"] (defScope s_NoPlace_init) := ⟨rfl, rfl, rfl, by decide +kernel, rfl, by decide +kernel, by decide +kernel⟩
section
variable {P : Program} {w : World} {K : PySem.W.Frag} {mg : Str → Option Value} {base : Heap}
theorem ok_NoPlace_init {k : Nat} {f : Addr} {fd : FuncData} (F : Fun K "__init__" "NoPlace.__init__" s_NoPlace_init f fd) (M : Blt mg) {C_RoomError f_RoomError_init : Addr} (T_RoomError : TXB K mg C_RoomError f_RoomError_init) (VI : VInit K) {C_NoPlace f_NoPlace_init : Addr} (T_NoPlace : TX K mg "NoPlace" C_NoPlace C_RoomError f_NoPlace_init ["found"]) {fd_RoomError_init : FuncData} (D_RoomError_init : DfI K fd_RoomError_init ["self", "words"]) (G_RoomError_init : FnOk P w K mg base CX0 k f_RoomError_init fd_RoomError_init ["self", "words"] (spRE K)) : FnOk P w K mg base (CXE P w) (k + 2) f fd ["self", "found"] (spXn C_NoPlace ["found"]) := by
  refine F.okE sc_NoPlace_init (fun vs H Q E h => ?_) (fun cdv A outer s0 H vs Q E hr0 h => ?_)
  · obtain ⟨e, xs, rfl, hl, _⟩ := h; exact congrArg (· + 1) hl
  obtain ⟨e, xs, rfl, hl, he, q⟩ := h
  have hr := hr0.mono (Nat.le_succ _)
  refine ⟨_, (pss_cons (ps_expr (pe_cinit T_RoomError.i (pe_glob (v := .ref C_RoomError) rfl T_RoomError.m rfl) G_RoomError_init hr D_RoomError_init.b .nil pass0 (pa_cons (pv 0) (pa_cons pe_str pa_nil))))
      (pss_one (ps_xfld (pv 0) (pv 1) rfl))), ?_⟩
  match xs, hl, q with
  | [x0], _, q =>
    refine ⟨_, rfl, e, _, C_NoPlace, C_RoomError, f_NoPlace_init, none, rfl, he, T_NoPlace.c, ?_⟩
    refine ⟨_, rfl, _, rfl, e, C_NoPlace, C_RoomError, f_NoPlace_init, rfl, T_NoPlace.c, T_NoPlace.n _ (by simp), .inl ⟨he, fun dx hd => ?_⟩⟩
    have F1 := Fl.first (CN := C_NoPlace) (f := "found") (y := x0) he hd
    exact q dx _ F1
end
end K05

namespace K05
open PySem L2 PyProof.Rows
abbrev s_NoShapes_init : Stmt := inClass (top 4) 0
theorem sc_NoShapes_init : FnScope ["self", "line"] ["self", "line"] (defScope s_NoShapes_init) := ⟨rfl, rfl, rfl, by decide +kernel, rfl, by decide +kernel, by decide +kernel⟩
section
variable {P : Program} {w : World} {K : PySem.W.Frag} {mg : Str → Option Value} {base : Heap}
theorem ok_NoShapes_init {k : Nat} {f : Addr} {fd : FuncData} (F : Fun K "__init__" "NoShapes.__init__" s_NoShapes_init f fd) (M : Blt mg) {C_RoomError f_RoomError_init : Addr} (T_RoomError : TXB K mg C_RoomError f_RoomError_init) (VI : VInit K) {C_NoShapes f_NoShapes_init : Addr} (T_NoShapes : TX K mg "NoShapes" C_NoShapes C_RoomError f_NoShapes_init ["line"]) {fd_RoomError_init : FuncData} (D_RoomError_init : DfI K fd_RoomError_init ["self", "words"]) (G_RoomError_init : FnOk P w K mg base CX0 k f_RoomError_init fd_RoomError_init ["self", "words"] (spRE K)) : FnOk P w K mg base CX0 (k + 2) f fd ["self", "line"] (spXn C_NoShapes ["line"]) := by
  refine F.ok sc_NoShapes_init (fun vs H Q E h => ?_) (fun cdv A outer s0 H vs Q E hr0 h => ?_)
  · obtain ⟨e, xs, rfl, hl, _⟩ := h; exact congrArg (· + 1) hl
  obtain ⟨e, xs, rfl, hl, he, q⟩ := h
  have hr := hr0.mono (Nat.le_succ _)
  refine ⟨_, (pss_cons (ps_expr (pe_cinit T_RoomError.i (pe_glob (v := .ref C_RoomError) rfl T_RoomError.m rfl) G_RoomError_init hr D_RoomError_init.b .nil pass0 (pa_cons (pv 0) (pa_cons pe_str pa_nil))))
      (pss_one (ps_xfld (pv 0) (pv 1) rfl))), ?_⟩
  match xs, hl, q with
  | [x0], _, q =>
    refine ⟨_, rfl, e, _, C_NoShapes, C_RoomError, f_NoShapes_init, none, rfl, he, T_NoShapes.c, ?_⟩
    refine ⟨_, rfl, _, rfl, e, C_NoShapes, C_RoomError, f_NoShapes_init, rfl, T_NoShapes.c, T_NoShapes.n _ (by simp), .inl ⟨he, fun dx hd => ?_⟩⟩
    have F1 := Fl.first (CN := C_NoShapes) (f := "line") (y := x0) he hd
    exact q dx _ F1
end
end K05

namespace K05
open PySem L2 PyProof.Rows
abbrev s_UnknownShape_init : Stmt := inClass (top 5) 0
theorem sc_UnknownShape_init : FnScope ["self", "line", "name"] ["self", "line", "name"] (defScope s_UnknownShape_init) := ⟨rfl, rfl, rfl, by decide +kernel, rfl, by decide +kernel, by decide +kernel⟩
section
variable {P : Program} {w : World} {K : PySem.W.Frag} {mg : Str → Option Value} {base : Heap}
theorem ok_UnknownShape_init {k : Nat} {f : Addr} {fd : FuncData} (F : Fun K "__init__" "UnknownShape.__init__" s_UnknownShape_init f fd) (M : Blt mg) {C_RoomError f_RoomError_init : Addr} (T_RoomError : TXB K mg C_RoomError f_RoomError_init) (VI : VInit K) {C_UnknownShape f_UnknownShape_init : Addr} (T_UnknownShape : TX K mg "UnknownShape" C_UnknownShape C_RoomError f_UnknownShape_init ["line", "name"]) {fd_RoomError_init : FuncData} (D_RoomError_init : DfI K fd_RoomError_init ["self", "words"]) (G_RoomError_init : FnOk P w K mg base CX0 k f_RoomError_init fd_RoomError_init ["self", "words"] (spRE K)) : FnOk P w K mg base CX0 (k + 2) f fd ["self", "line", "name"] (spXn C_UnknownShape ["line", "name"]) := by
  refine F.ok sc_UnknownShape_init (fun vs H Q E h => ?_) (fun cdv A outer s0 H vs Q E hr0 h => ?_)
  · obtain ⟨e, xs, rfl, hl, _⟩ := h; exact congrArg (· + 1) hl
  obtain ⟨e, xs, rfl, hl, he, q⟩ := h
  have hr := hr0.mono (Nat.le_succ _)
  refine ⟨_, (pss_cons (ps_expr (pe_cinit T_RoomError.i (pe_glob (v := .ref C_RoomError) rfl T_RoomError.m rfl) G_RoomError_init hr D_RoomError_init.b .nil pass0 (pa_cons (pv 0) (pa_cons pe_str pa_nil))))
      (pss_cons (ps_xfld (pv 0) (pv 1) rfl)
      (pss_one (ps_xfld (pv 0) (pv 2) rfl)))), ?_⟩
  match xs, hl, q with
  | [x0, x1], _, q =>
    refine ⟨_, rfl, e, _, C_UnknownShape, C_RoomError, f_UnknownShape_init, none, rfl, he, T_UnknownShape.c, ?_⟩
    refine ⟨_, rfl, _, rfl, e, C_UnknownShape, C_RoomError, f_UnknownShape_init, rfl, T_UnknownShape.c, T_UnknownShape.n _ (by simp), .inl ⟨he, fun dx hd => ?_⟩⟩
    have F1 := Fl.first (CN := C_UnknownShape) (f := "line") (y := x0) he hd
    refine ⟨_, rfl, _, rfl, e, C_UnknownShape, C_RoomError, f_UnknownShape_init, rfl, T_UnknownShape.c, T_UnknownShape.n _ (by simp), .inr ⟨dx, _, F1.ae, F1.ad, (by simp), ?_⟩⟩
    have F2 := F1.next (fs' := [("line", x0), ("name", x1)])
    exact q dx _ F2
end
end K05

namespace K05
open PySem L2 PyProof.Rows
abbrev s_NamedTwice_init : Stmt := inClass (top 6) 0
theorem sc_NamedTwice_init : FnScope ["self", "line", "name"] ["self", "line", "name"] (defScope s_NamedTwice_init) := ⟨rfl, rfl, rfl, by decide +kernel, rfl, by decide +kernel, by decide +kernel⟩
section
variable {P : Program} {w : World} {K : PySem.W.Frag} {mg : Str → Option Value} {base : Heap}
theorem ok_NamedTwice_init {k : Nat} {f : Addr} {fd : FuncData} (F : Fun K "__init__" "NamedTwice.__init__" s_NamedTwice_init f fd) (M : Blt mg) {C_RoomError f_RoomError_init : Addr} (T_RoomError : TXB K mg C_RoomError f_RoomError_init) (VI : VInit K) {C_NamedTwice f_NamedTwice_init : Addr} (T_NamedTwice : TX K mg "NamedTwice" C_NamedTwice C_RoomError f_NamedTwice_init ["line", "name"]) {fd_RoomError_init : FuncData} (D_RoomError_init : DfI K fd_RoomError_init ["self", "words"]) (G_RoomError_init : FnOk P w K mg base CX0 k f_RoomError_init fd_RoomError_init ["self", "words"] (spRE K)) : FnOk P w K mg base CX0 (k + 2) f fd ["self", "line", "name"] (spXn C_NamedTwice ["line", "name"]) := by
  refine F.ok sc_NamedTwice_init (fun vs H Q E h => ?_) (fun cdv A outer s0 H vs Q E hr0 h => ?_)
  · obtain ⟨e, xs, rfl, hl, _⟩ := h; exact congrArg (· + 1) hl
  obtain ⟨e, xs, rfl, hl, he, q⟩ := h
  have hr := hr0.mono (Nat.le_succ _)
  refine ⟨_, (pss_cons (ps_expr (pe_cinit T_RoomError.i (pe_glob (v := .ref C_RoomError) rfl T_RoomError.m rfl) G_RoomError_init hr D_RoomError_init.b .nil pass0 (pa_cons (pv 0) (pa_cons pe_str pa_nil))))
      (pss_cons (ps_xfld (pv 0) (pv 1) rfl)
      (pss_one (ps_xfld (pv 0) (pv 2) rfl)))), ?_⟩
  match xs, hl, q with
  | [x0, x1], _, q =>
    refine ⟨_, rfl, e, _, C_NamedTwice, C_RoomError, f_NamedTwice_init, none, rfl, he, T_NamedTwice.c, ?_⟩
    refine ⟨_, rfl, _, rfl, e, C_NamedTwice, C_RoomError, f_NamedTwice_init, rfl, T_NamedTwice.c, T_NamedTwice.n _ (by simp), .inl ⟨he, fun dx hd => ?_⟩⟩
    have F1 := Fl.first (CN := C_NamedTwice) (f := "line") (y := x0) he hd
    refine ⟨_, rfl, _, rfl, e, C_NamedTwice, C_RoomError, f_NamedTwice_init, rfl, T_NamedTwice.c, T_NamedTwice.n _ (by simp), .inr ⟨dx, _, F1.ae, F1.ad, (by simp), ?_⟩⟩
    have F2 := F1.next (fs' := [("line", x0), ("name", x1)])
    exact q dx _ F2
end
end K05

namespace K05
open PySem L2 PyProof.Rows
abbrev s_TooMuch_init : Stmt := inClass (top 7) 0
theorem sc_TooMuch_init : FnScope ["self", "line"] ["self", "line"] (defScope s_TooMuch_init) := ⟨rfl, rfl, rfl, by decide +kernel, rfl, by decide +kernel, by decide +kernel⟩
section
variable {P : Program} {w : World} {K : PySem.W.Frag} {mg : Str → Option Value} {base : Heap}
theorem ok_TooMuch_init {k : Nat} {f : Addr} {fd : FuncData} (F : Fun K "__init__" "TooMuch.__init__" s_TooMuch_init f fd) (M : Blt mg) {C_RoomError f_RoomError_init : Addr} (T_RoomError : TXB K mg C_RoomError f_RoomError_init) (VI : VInit K) {C_TooMuch f_TooMuch_init : Addr} (T_TooMuch : TX K mg "TooMuch" C_TooMuch C_RoomError f_TooMuch_init ["line"]) {fd_RoomError_init : FuncData} (D_RoomError_init : DfI K fd_RoomError_init ["self", "words"]) (G_RoomError_init : FnOk P w K mg base CX0 k f_RoomError_init fd_RoomError_init ["self", "words"] (spRE K)) : FnOk P w K mg base CX0 (k + 2) f fd ["self", "line"] (spXn C_TooMuch ["line"]) := by
  refine F.ok sc_TooMuch_init (fun vs H Q E h => ?_) (fun cdv A outer s0 H vs Q E hr0 h => ?_)
  · obtain ⟨e, xs, rfl, hl, _⟩ := h; exact congrArg (· + 1) hl
  obtain ⟨e, xs, rfl, hl, he, q⟩ := h
  have hr := hr0.mono (Nat.le_succ _)
  refine ⟨_, (pss_cons (ps_expr (pe_cinit T_RoomError.i (pe_glob (v := .ref C_RoomError) rfl T_RoomError.m rfl) G_RoomError_init hr D_RoomError_init.b .nil pass0 (pa_cons (pv 0) (pa_cons pe_str pa_nil))))
      (pss_one (ps_xfld (pv 0) (pv 1) rfl))), ?_⟩
  match xs, hl, q with
  | [x0], _, q =>
    refine ⟨_, rfl, e, _, C_TooMuch, C_RoomError, f_TooMuch_init, none, rfl, he, T_TooMuch.c, ?_⟩
    refine ⟨_, rfl, _, rfl, e, C_TooMuch, C_RoomError, f_TooMuch_init, rfl, T_TooMuch.c, T_TooMuch.n _ (by simp), .inl ⟨he, fun dx hd => ?_⟩⟩
    have F1 := Fl.first (CN := C_TooMuch) (f := "line") (y := x0) he hd
    exact q dx _ F1
end
end K05

namespace K05
open PySem L2 PyProof.Rows
abbrev s_NoRecord_init : Stmt := inClass (top 8) 0
theorem sc_NoRecord_init : FnScope ["self", "found"] ["self", "found"] (defScope s_NoRecord_init) := ⟨rfl, rfl, rfl, by decide +kernel, rfl, by decide +kernel, by decide +kernel⟩
section
variable {P : Program} {w : World} {K : PySem.W.Frag} {mg : Str → Option Value} {base : Heap}
theorem ok_NoRecord_init {k : Nat} {f : Addr} {fd : FuncData} (F : Fun K "__init__" "NoRecord.__init__" s_NoRecord_init f fd) (M : Blt mg) {C_RoomError f_RoomError_init : Addr} (T_RoomError : TXB K mg C_RoomError f_RoomError_init) (VI : VInit K) {C_NoRecord f_NoRecord_init : Addr} (T_NoRecord : TX K mg "NoRecord" C_NoRecord C_RoomError f_NoRecord_init ["found"]) {fd_RoomError_init : FuncData} (D_RoomError_init : DfI K fd_RoomError_init ["self", "words"]) (G_RoomError_init : FnOk P w K mg base CX0 k f_RoomError_init fd_RoomError_init ["self", "words"] (spRE K)) : FnOk P w K mg base CX0 (k + 2) f fd ["self", "found"] (spXn C_NoRecord ["found"]) := by
  refine F.ok sc_NoRecord_init (fun vs H Q E h => ?_) (fun cdv A outer s0 H vs Q E hr0 h => ?_)
  · obtain ⟨e, xs, rfl, hl, _⟩ := h; exact congrArg (· + 1) hl
  obtain ⟨e, xs, rfl, hl, he, q⟩ := h
  have hr := hr0.mono (Nat.le_succ _)
  refine ⟨_, (pss_cons (ps_expr (pe_cinit T_RoomError.i (pe_glob (v := .ref C_RoomError) rfl T_RoomError.m rfl) G_RoomError_init hr D_RoomError_init.b .nil pass0 (pa_cons (pv 0) (pa_cons pe_str pa_nil))))
      (pss_one (ps_xfld (pv 0) (pv 1) rfl))), ?_⟩
  match xs, hl, q with
  | [x0], _, q =>
    refine ⟨_, rfl, e, _, C_NoRecord, C_RoomError, f_NoRecord_init, none, rfl, he, T_NoRecord.c, ?_⟩
    refine ⟨_, rfl, _, rfl, e, C_NoRecord, C_RoomError, f_NoRecord_init, rfl, T_NoRecord.c, T_NoRecord.n _ (by simp), .inl ⟨he, fun dx hd => ?_⟩⟩
    have F1 := Fl.first (CN := C_NoRecord) (f := "found") (y := x0) he hd
    exact q dx _ F1
end
end K05

namespace K05
open PySem L2 PyProof.Rows
abbrev s_NoPath_init : Stmt := inClass (top 9) 0
theorem sc_NoPath_init : FnScope ["self", "path"] ["self", "path"] (defScope s_NoPath_init) := ⟨rfl, rfl, rfl, by decide +kernel, rfl, by decide +kernel, by decide +kernel⟩
section
variable {P : Program} {w : World} {K : PySem.W.Frag} {mg : Str → Option Value} {base : Heap}
theorem ok_NoPath_init {k : Nat} {f : Addr} {fd : FuncData} (F : Fun K "__init__" "NoPath.__init__" s_NoPath_init f fd) (M : Blt mg) {C_RoomError f_RoomError_init : Addr} (T_RoomError : TXB K mg C_RoomError f_RoomError_init) (VI : VInit K) {C_NoPath f_NoPath_init : Addr} (T_NoPath : TX K mg "NoPath" C_NoPath C_RoomError f_NoPath_init ["path"]) {fd_RoomError_init : FuncData} (D_RoomError_init : DfI K fd_RoomError_init ["self", "words"]) (G_RoomError_init : FnOk P w K mg base CX0 k f_RoomError_init fd_RoomError_init ["self", "words"] (spRE K)) : FnOk P w K mg base CX0 (k + 2) f fd ["self", "path"] (spXn C_NoPath ["path"]) := by
  refine F.ok sc_NoPath_init (fun vs H Q E h => ?_) (fun cdv A outer s0 H vs Q E hr0 h => ?_)
  · obtain ⟨e, xs, rfl, hl, _⟩ := h; exact congrArg (· + 1) hl
  obtain ⟨e, xs, rfl, hl, he, q⟩ := h
  have hr := hr0.mono (Nat.le_succ _)
  refine ⟨_, (pss_cons (ps_expr (pe_cinit T_RoomError.i (pe_glob (v := .ref C_RoomError) rfl T_RoomError.m rfl) G_RoomError_init hr D_RoomError_init.b .nil pass0 (pa_cons (pv 0) (pa_cons pe_str pa_nil))))
      (pss_one (ps_xfld (pv 0) (pv 1) rfl))), ?_⟩
  match xs, hl, q with
  | [x0], _, q =>
    refine ⟨_, rfl, e, _, C_NoPath, C_RoomError, f_NoPath_init, none, rfl, he, T_NoPath.c, ?_⟩
    refine ⟨_, rfl, _, rfl, e, C_NoPath, C_RoomError, f_NoPath_init, rfl, T_NoPath.c, T_NoPath.n _ (by simp), .inl ⟨he, fun dx hd => ?_⟩⟩
    have F1 := Fl.first (CN := C_NoPath) (f := "path") (y := x0) he hd
    exact q dx _ F1
end
end K05

namespace K05
open PySem L2 PyProof.Rows
abbrev s_Beyond_init : Stmt := inClass (top 10) 0
theorem sc_Beyond_init : FnScope ["self", "found"] ["self", "found"] (defScope s_Beyond_init) := ⟨rfl, rfl, rfl, by decide +kernel, rfl, by decide +kernel, by decide +kernel⟩
section
variable {P : Program} {w : World} {K : PySem.W.Frag} {mg : Str → Option Value} {base : Heap}
theorem ok_Beyond_init {k : Nat} {f : Addr} {fd : FuncData} (F : Fun K "__init__" "Beyond.__init__" s_Beyond_init f fd) (M : Blt mg) {C_RoomError f_RoomError_init : Addr} (T_RoomError : TXB K mg C_RoomError f_RoomError_init) (VI : VInit K) {C_Beyond f_Beyond_init : Addr} (T_Beyond : TX K mg "Beyond" C_Beyond C_RoomError f_Beyond_init ["found"]) {fd_RoomError_init : FuncData} (D_RoomError_init : DfI K fd_RoomError_init ["self", "words"]) (G_RoomError_init : FnOk P w K mg base CX0 k f_RoomError_init fd_RoomError_init ["self", "words"] (spRE K)) : FnOk P w K mg base CX0 (k + 2) f fd ["self", "found"] (spXn C_Beyond ["found"]) := by
  refine F.ok sc_Beyond_init (fun vs H Q E h => ?_) (fun cdv A outer s0 H vs Q E hr0 h => ?_)
  · obtain ⟨e, xs, rfl, hl, _⟩ := h; exact congrArg (· + 1) hl
  obtain ⟨e, xs, rfl, hl, he, q⟩ := h
  have hr := hr0.mono (Nat.le_succ _)
  refine ⟨_, (pss_cons (ps_expr (pe_cinit T_RoomError.i (pe_glob (v := .ref C_RoomError) rfl T_RoomError.m rfl) G_RoomError_init hr D_RoomError_init.b .nil pass0 (pa_cons (pv 0) (pa_cons pe_str pa_nil))))
      (pss_one (ps_xfld (pv 0) (pv 1) rfl))), ?_⟩
  match xs, hl, q with
  | [x0], _, q =>
    refine ⟨_, rfl, e, _, C_Beyond, C_RoomError, f_Beyond_init, none, rfl, he, T_Beyond.c, ?_⟩
    refine ⟨_, rfl, _, rfl, e, C_Beyond, C_RoomError, f_Beyond_init, rfl, T_Beyond.c, T_Beyond.n _ (by simp), .inl ⟨he, fun dx hd => ?_⟩⟩
    have F1 := Fl.first (CN := C_Beyond) (f := "found") (y := x0) he hd
    exact q dx _ F1
end
end K05

namespace K05
open PySem L2 PyProof.Rows
abbrev s_Other_init : Stmt := inClass (top 11) 0
theorem sc_Other_init : FnScope ["self", "found"] ["self", "found"] (defScope s_Other_init) := ⟨rfl, rfl, rfl, by decide +kernel, rfl, by decide +kernel, by decide +kernel⟩
section
variable {P : Program} {w : World} {K : PySem.W.Frag} {mg : Str → Option Value} {base : Heap}
theorem ok_Other_init {k : Nat} {f : Addr} {fd : FuncData} (F : Fun K "__init__" "Other.__init__" s_Other_init f fd) (M : Blt mg) {C_RoomError f_RoomError_init : Addr} (T_RoomError : TXB K mg C_RoomError f_RoomError_init) (VI : VInit K) {C_Other f_Other_init : Addr} (T_Other : TX K mg "Other" C_Other C_RoomError f_Other_init ["found"]) {fd_RoomError_init : FuncData} (D_RoomError_init : DfI K fd_RoomError_init ["self", "words"]) (G_RoomError_init : FnOk P w K mg base CX0 k f_RoomError_init fd_RoomError_init ["self", "words"] (spRE K)) : FnOk P w K mg base CX0 (k + 2) f fd ["self", "found"] (spXn C_Other ["found"]) := by
  refine F.ok sc_Other_init (fun vs H Q E h => ?_) (fun cdv A outer s0 H vs Q E hr0 h => ?_)
  · obtain ⟨e, xs, rfl, hl, _⟩ := h; exact congrArg (· + 1) hl
  obtain ⟨e, xs, rfl, hl, he, q⟩ := h
  have hr := hr0.mono (Nat.le_succ _)
  refine ⟨_, (pss_cons (ps_expr (pe_cinit T_RoomError.i (pe_glob (v := .ref C_RoomError) rfl T_RoomError.m rfl) G_RoomError_init hr D_RoomError_init.b .nil pass0 (pa_cons (pv 0) (pa_cons pe_str pa_nil))))
      (pss_one (ps_xfld (pv 0) (pv 1) rfl))), ?_⟩
  match xs, hl, q with
  | [x0], _, q =>
    refine ⟨_, rfl, e, _, C_Other, C_RoomError, f_Other_init, none, rfl, he, T_Other.c, ?_⟩
    refine ⟨_, rfl, _, rfl, e, C_Other, C_RoomError, f_Other_init, rfl, T_Other.c, T_Other.n _ (by simp), .inl ⟨he, fun dx hd => ?_⟩⟩
    have F1 := Fl.first (CN := C_Other) (f := "found") (y := x0) he hd
    exact q dx _ F1
end
end K05

namespace K05
open PySem L2 PyProof.Rows
abbrev s_NoLaying_init : Stmt := inClass (top 12) 0
theorem sc_NoLaying_init : FnScope ["self", "line"] ["self", "line"] (defScope s_NoLaying_init) := ⟨rfl, rfl, rfl, by decide +kernel, rfl, by decide +kernel, by decide +kernel⟩
section
variable {P : Program} {w : World} {K : PySem.W.Frag} {mg : Str → Option Value} {base : Heap}
theorem ok_NoLaying_init {k : Nat} {f : Addr} {fd : FuncData} (F : Fun K "__init__" "NoLaying.__init__" s_NoLaying_init f fd) (M : Blt mg) {C_RoomError f_RoomError_init : Addr} (T_RoomError : TXB K mg C_RoomError f_RoomError_init) (VI : VInit K) {C_NoLaying f_NoLaying_init : Addr} (T_NoLaying : TX K mg "NoLaying" C_NoLaying C_RoomError f_NoLaying_init ["line"]) {fd_RoomError_init : FuncData} (D_RoomError_init : DfI K fd_RoomError_init ["self", "words"]) (G_RoomError_init : FnOk P w K mg base CX0 k f_RoomError_init fd_RoomError_init ["self", "words"] (spRE K)) : FnOk P w K mg base CX0 (k + 2) f fd ["self", "line"] (spXn C_NoLaying ["line"]) := by
  refine F.ok sc_NoLaying_init (fun vs H Q E h => ?_) (fun cdv A outer s0 H vs Q E hr0 h => ?_)
  · obtain ⟨e, xs, rfl, hl, _⟩ := h; exact congrArg (· + 1) hl
  obtain ⟨e, xs, rfl, hl, he, q⟩ := h
  have hr := hr0.mono (Nat.le_succ _)
  refine ⟨_, (pss_cons (ps_expr (pe_cinit T_RoomError.i (pe_glob (v := .ref C_RoomError) rfl T_RoomError.m rfl) G_RoomError_init hr D_RoomError_init.b .nil pass0 (pa_cons (pv 0) (pa_cons pe_str pa_nil))))
      (pss_one (ps_xfld (pv 0) (pv 1) rfl))), ?_⟩
  match xs, hl, q with
  | [x0], _, q =>
    refine ⟨_, rfl, e, _, C_NoLaying, C_RoomError, f_NoLaying_init, none, rfl, he, T_NoLaying.c, ?_⟩
    refine ⟨_, rfl, _, rfl, e, C_NoLaying, C_RoomError, f_NoLaying_init, rfl, T_NoLaying.c, T_NoLaying.n _ (by simp), .inl ⟨he, fun dx hd => ?_⟩⟩
    have F1 := Fl.first (CN := C_NoLaying) (f := "line") (y := x0) he hd
    exact q dx _ F1
end
end K05

namespace K05
open PySem L2 PyProof.Rows
abbrev s_UnknownUnit_init : Stmt := inClass (top 13) 0
theorem sc_UnknownUnit_init : FnScope ["self", "line", "unit"] ["self", "line", "unit"] (defScope s_UnknownUnit_init) := ⟨rfl, rfl, rfl, by decide +kernel, rfl, by decide +kernel, by decide +kernel⟩
section
variable {P : Program} {w : World} {K : PySem.W.Frag} {mg : Str → Option Value} {base : Heap}
theorem ok_UnknownUnit_init {k : Nat} {f : Addr} {fd : FuncData} (F : Fun K "__init__" "UnknownUnit.__init__" s_UnknownUnit_init f fd) (M : Blt mg) {C_RoomError f_RoomError_init : Addr} (T_RoomError : TXB K mg C_RoomError f_RoomError_init) (VI : VInit K) {C_UnknownUnit f_UnknownUnit_init : Addr} (T_UnknownUnit : TX K mg "UnknownUnit" C_UnknownUnit C_RoomError f_UnknownUnit_init ["line", "unit"]) {fd_RoomError_init : FuncData} (D_RoomError_init : DfI K fd_RoomError_init ["self", "words"]) (G_RoomError_init : FnOk P w K mg base CX0 k f_RoomError_init fd_RoomError_init ["self", "words"] (spRE K)) : FnOk P w K mg base CX0 (k + 2) f fd ["self", "line", "unit"] (spXn C_UnknownUnit ["line", "unit"]) := by
  refine F.ok sc_UnknownUnit_init (fun vs H Q E h => ?_) (fun cdv A outer s0 H vs Q E hr0 h => ?_)
  · obtain ⟨e, xs, rfl, hl, _⟩ := h; exact congrArg (· + 1) hl
  obtain ⟨e, xs, rfl, hl, he, q⟩ := h
  have hr := hr0.mono (Nat.le_succ _)
  refine ⟨_, (pss_cons (ps_expr (pe_cinit T_RoomError.i (pe_glob (v := .ref C_RoomError) rfl T_RoomError.m rfl) G_RoomError_init hr D_RoomError_init.b .nil pass0 (pa_cons (pv 0) (pa_cons pe_str pa_nil))))
      (pss_cons (ps_xfld (pv 0) (pv 1) rfl)
      (pss_one (ps_xfld (pv 0) (pv 2) rfl)))), ?_⟩
  match xs, hl, q with
  | [x0, x1], _, q =>
    refine ⟨_, rfl, e, _, C_UnknownUnit, C_RoomError, f_UnknownUnit_init, none, rfl, he, T_UnknownUnit.c, ?_⟩
    refine ⟨_, rfl, _, rfl, e, C_UnknownUnit, C_RoomError, f_UnknownUnit_init, rfl, T_UnknownUnit.c, T_UnknownUnit.n _ (by simp), .inl ⟨he, fun dx hd => ?_⟩⟩
    have F1 := Fl.first (CN := C_UnknownUnit) (f := "line") (y := x0) he hd
    refine ⟨_, rfl, _, rfl, e, C_UnknownUnit, C_RoomError, f_UnknownUnit_init, rfl, T_UnknownUnit.c, T_UnknownUnit.n _ (by simp), .inr ⟨dx, _, F1.ae, F1.ad, (by simp), ?_⟩⟩
    have F2 := F1.next (fs' := [("line", x0), ("unit", x1)])
    exact q dx _ F2
end
end K05

namespace K05
open PySem L2 PyProof.Rows
abbrev s_LaidTwice_init : Stmt := inClass (top 14) 0
theorem sc_LaidTwice_init : FnScope ["self", "line", "unit"] ["self", "line", "unit"] (defScope s_LaidTwice_init) := ⟨rfl, rfl, rfl, by decide +kernel, rfl, by decide +kernel, by decide +kernel⟩
section
variable {P : Program} {w : World} {K : PySem.W.Frag} {mg : Str → Option Value} {base : Heap}
theorem ok_LaidTwice_init {k : Nat} {f : Addr} {fd : FuncData} (F : Fun K "__init__" "LaidTwice.__init__" s_LaidTwice_init f fd) (M : Blt mg) {C_RoomError f_RoomError_init : Addr} (T_RoomError : TXB K mg C_RoomError f_RoomError_init) (VI : VInit K) {C_LaidTwice f_LaidTwice_init : Addr} (T_LaidTwice : TX K mg "LaidTwice" C_LaidTwice C_RoomError f_LaidTwice_init ["line", "unit"]) {fd_RoomError_init : FuncData} (D_RoomError_init : DfI K fd_RoomError_init ["self", "words"]) (G_RoomError_init : FnOk P w K mg base CX0 k f_RoomError_init fd_RoomError_init ["self", "words"] (spRE K)) : FnOk P w K mg base CX0 (k + 2) f fd ["self", "line", "unit"] (spXn C_LaidTwice ["line", "unit"]) := by
  refine F.ok sc_LaidTwice_init (fun vs H Q E h => ?_) (fun cdv A outer s0 H vs Q E hr0 h => ?_)
  · obtain ⟨e, xs, rfl, hl, _⟩ := h; exact congrArg (· + 1) hl
  obtain ⟨e, xs, rfl, hl, he, q⟩ := h
  have hr := hr0.mono (Nat.le_succ _)
  refine ⟨_, (pss_cons (ps_expr (pe_cinit T_RoomError.i (pe_glob (v := .ref C_RoomError) rfl T_RoomError.m rfl) G_RoomError_init hr D_RoomError_init.b .nil pass0 (pa_cons (pv 0) (pa_cons pe_str pa_nil))))
      (pss_cons (ps_xfld (pv 0) (pv 1) rfl)
      (pss_one (ps_xfld (pv 0) (pv 2) rfl)))), ?_⟩
  match xs, hl, q with
  | [x0, x1], _, q =>
    refine ⟨_, rfl, e, _, C_LaidTwice, C_RoomError, f_LaidTwice_init, none, rfl, he, T_LaidTwice.c, ?_⟩
    refine ⟨_, rfl, _, rfl, e, C_LaidTwice, C_RoomError, f_LaidTwice_init, rfl, T_LaidTwice.c, T_LaidTwice.n _ (by simp), .inl ⟨he, fun dx hd => ?_⟩⟩
    have F1 := Fl.first (CN := C_LaidTwice) (f := "line") (y := x0) he hd
    refine ⟨_, rfl, _, rfl, e, C_LaidTwice, C_RoomError, f_LaidTwice_init, rfl, T_LaidTwice.c, T_LaidTwice.n _ (by simp), .inr ⟨dx, _, F1.ae, F1.ad, (by simp), ?_⟩⟩
    have F2 := F1.next (fs' := [("line", x0), ("unit", x1)])
    exact q dx _ F2
end
end K05

namespace K05
open PySem L2 PyProof.Rows
abbrev s_Lacking_init : Stmt := inClass (top 15) 0
theorem sc_Lacking_init : FnScope ["self", "unit"] ["self", "unit"] (defScope s_Lacking_init) := ⟨rfl, rfl, rfl, by decide +kernel, rfl, by decide +kernel, by decide +kernel⟩
section
variable {P : Program} {w : World} {K : PySem.W.Frag} {mg : Str → Option Value} {base : Heap}
theorem ok_Lacking_init {k : Nat} {f : Addr} {fd : FuncData} (F : Fun K "__init__" "Lacking.__init__" s_Lacking_init f fd) (M : Blt mg) {C_RoomError f_RoomError_init : Addr} (T_RoomError : TXB K mg C_RoomError f_RoomError_init) (VI : VInit K) {C_Lacking f_Lacking_init : Addr} (T_Lacking : TX K mg "Lacking" C_Lacking C_RoomError f_Lacking_init ["unit"]) {fd_RoomError_init : FuncData} (D_RoomError_init : DfI K fd_RoomError_init ["self", "words"]) (G_RoomError_init : FnOk P w K mg base CX0 k f_RoomError_init fd_RoomError_init ["self", "words"] (spRE K)) : FnOk P w K mg base CX0 (k + 2) f fd ["self", "unit"] (spXn C_Lacking ["unit"]) := by
  refine F.ok sc_Lacking_init (fun vs H Q E h => ?_) (fun cdv A outer s0 H vs Q E hr0 h => ?_)
  · obtain ⟨e, xs, rfl, hl, _⟩ := h; exact congrArg (· + 1) hl
  obtain ⟨e, xs, rfl, hl, he, q⟩ := h
  have hr := hr0.mono (Nat.le_succ _)
  refine ⟨_, (pss_cons (ps_expr (pe_cinit T_RoomError.i (pe_glob (v := .ref C_RoomError) rfl T_RoomError.m rfl) G_RoomError_init hr D_RoomError_init.b .nil pass0 (pa_cons (pv 0) (pa_cons pe_str pa_nil))))
      (pss_one (ps_xfld (pv 0) (pv 1) rfl))), ?_⟩
  match xs, hl, q with
  | [x0], _, q =>
    refine ⟨_, rfl, e, _, C_Lacking, C_RoomError, f_Lacking_init, none, rfl, he, T_Lacking.c, ?_⟩
    refine ⟨_, rfl, _, rfl, e, C_Lacking, C_RoomError, f_Lacking_init, rfl, T_Lacking.c, T_Lacking.n _ (by simp), .inl ⟨he, fun dx hd => ?_⟩⟩
    have F1 := Fl.first (CN := C_Lacking) (f := "unit") (y := x0) he hd
    exact q dx _ F1
end
end K05

namespace K05
open PySem L2 PyProof.Rows
abbrev s_Past_init : Stmt := inClass (top 16) 0
theorem sc_Past_init : FnScope ["self", "unit", "thing", "cell"] ["self", "unit", "thing", "cell"] (defScope s_Past_init) := ⟨rfl, rfl, rfl, by decide +kernel, rfl, by decide +kernel, by decide +kernel⟩
section
variable {P : Program} {w : World} {K : PySem.W.Frag} {mg : Str → Option Value} {base : Heap}
theorem ok_Past_init {k : Nat} {f : Addr} {fd : FuncData} (F : Fun K "__init__" "Past.__init__" s_Past_init f fd) (M : Blt mg) {C_RoomError f_RoomError_init : Addr} (T_RoomError : TXB K mg C_RoomError f_RoomError_init) (VI : VInit K) {C_Past f_Past_init : Addr} (T_Past : TX K mg "Past" C_Past C_RoomError f_Past_init ["unit", "thing", "cell"]) {fd_RoomError_init : FuncData} (D_RoomError_init : DfI K fd_RoomError_init ["self", "words"]) (G_RoomError_init : FnOk P w K mg base CX0 k f_RoomError_init fd_RoomError_init ["self", "words"] (spRE K)) : FnOk P w K mg base CX0 (k + 2) f fd ["self", "unit", "thing", "cell"] (spXn C_Past ["unit", "thing", "cell"]) := by
  refine F.ok sc_Past_init (fun vs H Q E h => ?_) (fun cdv A outer s0 H vs Q E hr0 h => ?_)
  · obtain ⟨e, xs, rfl, hl, _⟩ := h; exact congrArg (· + 1) hl
  obtain ⟨e, xs, rfl, hl, he, q⟩ := h
  have hr := hr0.mono (Nat.le_succ _)
  refine ⟨_, (pss_cons (ps_expr (pe_cinit T_RoomError.i (pe_glob (v := .ref C_RoomError) rfl T_RoomError.m rfl) G_RoomError_init hr D_RoomError_init.b .nil pass0 (pa_cons (pv 0) (pa_cons pe_str pa_nil))))
      (pss_cons (ps_xfld (pv 0) (pv 1) rfl)
      (pss_cons (ps_xfld (pv 0) (pv 2) rfl)
      (pss_one (ps_xfld (pv 0) (pv 3) rfl))))), ?_⟩
  match xs, hl, q with
  | [x0, x1, x2], _, q =>
    refine ⟨_, rfl, e, _, C_Past, C_RoomError, f_Past_init, none, rfl, he, T_Past.c, ?_⟩
    refine ⟨_, rfl, _, rfl, e, C_Past, C_RoomError, f_Past_init, rfl, T_Past.c, T_Past.n _ (by simp), .inl ⟨he, fun dx hd => ?_⟩⟩
    have F1 := Fl.first (CN := C_Past) (f := "unit") (y := x0) he hd
    refine ⟨_, rfl, _, rfl, e, C_Past, C_RoomError, f_Past_init, rfl, T_Past.c, T_Past.n _ (by simp), .inr ⟨dx, _, F1.ae, F1.ad, (by simp), ?_⟩⟩
    have F2 := F1.next (fs' := [("unit", x0), ("thing", x1)])
    refine ⟨_, rfl, _, rfl, e, C_Past, C_RoomError, f_Past_init, rfl, T_Past.c, T_Past.n _ (by simp), .inr ⟨dx, _, F2.ae, F2.ad, (by simp), ?_⟩⟩
    have F3 := F2.next (fs' := [("unit", x0), ("thing", x1), ("cell", x2)])
    exact q dx _ F3
end
end K05

namespace K05
open PySem L2 PyProof.Rows
abbrev s_Meets_init : Stmt := inClass (top 17) 0
theorem sc_Meets_init : FnScope ["self", "unit", "thing", "second", "another"] ["self", "unit", "thing", "second", "another"] (defScope s_Meets_init) := ⟨rfl, rfl, rfl, by decide +kernel, rfl, by decide +kernel, by decide +kernel⟩
section
variable {P : Program} {w : World} {K : PySem.W.Frag} {mg : Str → Option Value} {base : Heap}
theorem ok_Meets_init {k : Nat} {f : Addr} {fd : FuncData} (F : Fun K "__init__" "Meets.__init__" s_Meets_init f fd) (M : Blt mg) {C_RoomError f_RoomError_init : Addr} (T_RoomError : TXB K mg C_RoomError f_RoomError_init) (VI : VInit K) {C_Meets f_Meets_init : Addr} (T_Meets : TX K mg "Meets" C_Meets C_RoomError f_Meets_init ["unit", "thing", "second", "another"]) {fd_RoomError_init : FuncData} (D_RoomError_init : DfI K fd_RoomError_init ["self", "words"]) (G_RoomError_init : FnOk P w K mg base CX0 k f_RoomError_init fd_RoomError_init ["self", "words"] (spRE K)) : FnOk P w K mg base CX0 (k + 2) f fd ["self", "unit", "thing", "second", "another"] (spXn C_Meets ["unit", "thing", "second", "another"]) := by
  refine F.ok sc_Meets_init (fun vs H Q E h => ?_) (fun cdv A outer s0 H vs Q E hr0 h => ?_)
  · obtain ⟨e, xs, rfl, hl, _⟩ := h; exact congrArg (· + 1) hl
  obtain ⟨e, xs, rfl, hl, he, q⟩ := h
  have hr := hr0.mono (Nat.le_succ _)
  refine ⟨_, (pss_cons (ps_expr (pe_cinit T_RoomError.i (pe_glob (v := .ref C_RoomError) rfl T_RoomError.m rfl) G_RoomError_init hr D_RoomError_init.b .nil pass0 (pa_cons (pv 0) (pa_cons pe_str pa_nil))))
      (pss_cons (ps_xfld (pv 0) (pv 1) rfl)
      (pss_cons (ps_xfld (pv 0) (pv 2) rfl)
      (pss_cons (ps_xfld (pv 0) (pv 3) rfl)
      (pss_one (ps_xfld (pv 0) (pv 4) rfl)))))), ?_⟩
  match xs, hl, q with
  | [x0, x1, x2, x3], _, q =>
    refine ⟨_, rfl, e, _, C_Meets, C_RoomError, f_Meets_init, none, rfl, he, T_Meets.c, ?_⟩
    refine ⟨_, rfl, _, rfl, e, C_Meets, C_RoomError, f_Meets_init, rfl, T_Meets.c, T_Meets.n _ (by simp), .inl ⟨he, fun dx hd => ?_⟩⟩
    have F1 := Fl.first (CN := C_Meets) (f := "unit") (y := x0) he hd
    refine ⟨_, rfl, _, rfl, e, C_Meets, C_RoomError, f_Meets_init, rfl, T_Meets.c, T_Meets.n _ (by simp), .inr ⟨dx, _, F1.ae, F1.ad, (by simp), ?_⟩⟩
    have F2 := F1.next (fs' := [("unit", x0), ("thing", x1)])
    refine ⟨_, rfl, _, rfl, e, C_Meets, C_RoomError, f_Meets_init, rfl, T_Meets.c, T_Meets.n _ (by simp), .inr ⟨dx, _, F2.ae, F2.ad, (by simp), ?_⟩⟩
    have F3 := F2.next (fs' := [("unit", x0), ("thing", x1), ("second", x2)])
    refine ⟨_, rfl, _, rfl, e, C_Meets, C_RoomError, f_Meets_init, rfl, T_Meets.c, T_Meets.n _ (by simp), .inr ⟨dx, _, F3.ae, F3.ad, (by simp), ?_⟩⟩
    have F4 := F3.next (fs' := [("unit", x0), ("thing", x1), ("second", x2), ("another", x3)])
    exact q dx _ F4
end
end K05

namespace K05
open PySem L2 PyProof.Rows
abbrev s_NoProgram_init : Stmt := inClass (top 18) 0
theorem sc_NoProgram_init : FnScope ["self", "line"] ["self", "line"] (defScope s_NoProgram_init) := ⟨rfl, rfl, rfl, by decide +kernel, rfl, by decide +kernel, by decide +kernel⟩
section
variable {P : Program} {w : World} {K : PySem.W.Frag} {mg : Str → Option Value} {base : Heap}
theorem ok_NoProgram_init {k : Nat} {f : Addr} {fd : FuncData} (F : Fun K "__init__" "NoProgram.__init__" s_NoProgram_init f fd) (M : Blt mg) {C_RoomError f_RoomError_init : Addr} (T_RoomError : TXB K mg C_RoomError f_RoomError_init) (VI : VInit K) {C_NoProgram f_NoProgram_init : Addr} (T_NoProgram : TX K mg "NoProgram" C_NoProgram C_RoomError f_NoProgram_init ["line"]) {fd_RoomError_init : FuncData} (D_RoomError_init : DfI K fd_RoomError_init ["self", "words"]) (G_RoomError_init : FnOk P w K mg base CX0 k f_RoomError_init fd_RoomError_init ["self", "words"] (spRE K)) : FnOk P w K mg base CX0 (k + 2) f fd ["self", "line"] (spXn C_NoProgram ["line"]) := by
  refine F.ok sc_NoProgram_init (fun vs H Q E h => ?_) (fun cdv A outer s0 H vs Q E hr0 h => ?_)
  · obtain ⟨e, xs, rfl, hl, _⟩ := h; exact congrArg (· + 1) hl
  obtain ⟨e, xs, rfl, hl, he, q⟩ := h
  have hr := hr0.mono (Nat.le_succ _)
  refine ⟨_, (pss_cons (ps_expr (pe_cinit T_RoomError.i (pe_glob (v := .ref C_RoomError) rfl T_RoomError.m rfl) G_RoomError_init hr D_RoomError_init.b .nil pass0 (pa_cons (pv 0) (pa_cons pe_str pa_nil))))
      (pss_one (ps_xfld (pv 0) (pv 1) rfl))), ?_⟩
  match xs, hl, q with
  | [x0], _, q =>
    refine ⟨_, rfl, e, _, C_NoProgram, C_RoomError, f_NoProgram_init, none, rfl, he, T_NoProgram.c, ?_⟩
    refine ⟨_, rfl, _, rfl, e, C_NoProgram, C_RoomError, f_NoProgram_init, rfl, T_NoProgram.c, T_NoProgram.n _ (by simp), .inl ⟨he, fun dx hd => ?_⟩⟩
    have F1 := Fl.first (CN := C_NoProgram) (f := "line") (y := x0) he hd
    exact q dx _ F1
end
end K05

namespace K05
open PySem L2 PyProof.Rows
abbrev s_WrongPath_init : Stmt := inClass (top 19) 0
theorem sc_WrongPath_init : FnScope ["self", "line", "path"] ["self", "line", "path"] (defScope s_WrongPath_init) := ⟨rfl, rfl, rfl, by decide +kernel, rfl, by decide +kernel, by decide +kernel⟩
section
variable {P : Program} {w : World} {K : PySem.W.Frag} {mg : Str → Option Value} {base : Heap}
theorem ok_WrongPath_init {k : Nat} {f : Addr} {fd : FuncData} (F : Fun K "__init__" "WrongPath.__init__" s_WrongPath_init f fd) (M : Blt mg) {C_RoomError f_RoomError_init : Addr} (T_RoomError : TXB K mg C_RoomError f_RoomError_init) (VI : VInit K) {C_WrongPath f_WrongPath_init : Addr} (T_WrongPath : TX K mg "WrongPath" C_WrongPath C_RoomError f_WrongPath_init ["line", "path"]) {fd_RoomError_init : FuncData} (D_RoomError_init : DfI K fd_RoomError_init ["self", "words"]) (G_RoomError_init : FnOk P w K mg base CX0 k f_RoomError_init fd_RoomError_init ["self", "words"] (spRE K)) : FnOk P w K mg base CX0 (k + 2) f fd ["self", "line", "path"] (spXn C_WrongPath ["line", "path"]) := by
  refine F.ok sc_WrongPath_init (fun vs H Q E h => ?_) (fun cdv A outer s0 H vs Q E hr0 h => ?_)
  · obtain ⟨e, xs, rfl, hl, _⟩ := h; exact congrArg (· + 1) hl
  obtain ⟨e, xs, rfl, hl, he, q⟩ := h
  have hr := hr0.mono (Nat.le_succ _)
  refine ⟨_, (pss_cons (ps_expr (pe_cinit T_RoomError.i (pe_glob (v := .ref C_RoomError) rfl T_RoomError.m rfl) G_RoomError_init hr D_RoomError_init.b .nil pass0 (pa_cons (pv 0) (pa_cons pe_str pa_nil))))
      (pss_cons (ps_xfld (pv 0) (pv 1) rfl)
      (pss_one (ps_xfld (pv 0) (pv 2) rfl)))), ?_⟩
  match xs, hl, q with
  | [x0, x1], _, q =>
    refine ⟨_, rfl, e, _, C_WrongPath, C_RoomError, f_WrongPath_init, none, rfl, he, T_WrongPath.c, ?_⟩
    refine ⟨_, rfl, _, rfl, e, C_WrongPath, C_RoomError, f_WrongPath_init, rfl, T_WrongPath.c, T_WrongPath.n _ (by simp), .inl ⟨he, fun dx hd => ?_⟩⟩
    have F1 := Fl.first (CN := C_WrongPath) (f := "line") (y := x0) he hd
    refine ⟨_, rfl, _, rfl, e, C_WrongPath, C_RoomError, f_WrongPath_init, rfl, T_WrongPath.c, T_WrongPath.n _ (by simp), .inr ⟨dx, _, F1.ae, F1.ad, (by simp), ?_⟩⟩
    have F2 := F1.next (fs' := [("line", x0), ("path", x1)])
    exact q dx _ F2
end
end K05

namespace K05
open PySem L2 PyProof.Rows
abbrev s_NoInput_init : Stmt := inClass (top 20) 0
theorem sc_NoInput_init : FnScope ["self", "name"] ["self", "name"] (defScope s_NoInput_init) := ⟨rfl, rfl, rfl, by decide +kernel, rfl, by decide +kernel, by decide +kernel⟩
section
variable {P : Program} {w : World} {K : PySem.W.Frag} {mg : Str → Option Value} {base : Heap}
theorem ok_NoInput_init {k : Nat} {f : Addr} {fd : FuncData} (F : Fun K "__init__" "NoInput.__init__" s_NoInput_init f fd) (M : Blt mg) {C_RoomError f_RoomError_init : Addr} (T_RoomError : TXB K mg C_RoomError f_RoomError_init) (VI : VInit K) {C_NoInput f_NoInput_init : Addr} (T_NoInput : TX K mg "NoInput" C_NoInput C_RoomError f_NoInput_init ["name"]) {fd_RoomError_init : FuncData} (D_RoomError_init : DfI K fd_RoomError_init ["self", "words"]) (G_RoomError_init : FnOk P w K mg base CX0 k f_RoomError_init fd_RoomError_init ["self", "words"] (spRE K)) : FnOk P w K mg base CX0 (k + 2) f fd ["self", "name"] (spXn C_NoInput ["name"]) := by
  refine F.ok sc_NoInput_init (fun vs H Q E h => ?_) (fun cdv A outer s0 H vs Q E hr0 h => ?_)
  · obtain ⟨e, xs, rfl, hl, _⟩ := h; exact congrArg (· + 1) hl
  obtain ⟨e, xs, rfl, hl, he, q⟩ := h
  have hr := hr0.mono (Nat.le_succ _)
  refine ⟨_, (pss_cons (ps_expr (pe_cinit T_RoomError.i (pe_glob (v := .ref C_RoomError) rfl T_RoomError.m rfl) G_RoomError_init hr D_RoomError_init.b .nil pass0 (pa_cons (pv 0) (pa_cons pe_str pa_nil))))
      (pss_one (ps_xfld (pv 0) (pv 1) rfl))), ?_⟩
  match xs, hl, q with
  | [x0], _, q =>
    refine ⟨_, rfl, e, _, C_NoInput, C_RoomError, f_NoInput_init, none, rfl, he, T_NoInput.c, ?_⟩
    refine ⟨_, rfl, _, rfl, e, C_NoInput, C_RoomError, f_NoInput_init, rfl, T_NoInput.c, T_NoInput.n _ (by simp), .inl ⟨he, fun dx hd => ?_⟩⟩
    have F1 := Fl.first (CN := C_NoInput) (f := "name") (y := x0) he hd
    exact q dx _ F1
end
end K05

namespace K05
open PySem L2 PyProof.Rows
abbrev s_NoThings_init : Stmt := inClass (top 21) 0
theorem sc_NoThings_init : FnScope ["self", "found"] ["self", "found"] (defScope s_NoThings_init) := ⟨rfl, rfl, rfl, by decide +kernel, rfl, by decide +kernel, by decide +kernel⟩
section
variable {P : Program} {w : World} {K : PySem.W.Frag} {mg : Str → Option Value} {base : Heap}
theorem ok_NoThings_init {k : Nat} {f : Addr} {fd : FuncData} (F : Fun K "__init__" "NoThings.__init__" s_NoThings_init f fd) (M : Blt mg) {C_RoomError f_RoomError_init : Addr} (T_RoomError : TXB K mg C_RoomError f_RoomError_init) (VI : VInit K) {C_NoThings f_NoThings_init : Addr} (T_NoThings : TX K mg "NoThings" C_NoThings C_RoomError f_NoThings_init ["found"]) {fd_RoomError_init : FuncData} (D_RoomError_init : DfI K fd_RoomError_init ["self", "words"]) (G_RoomError_init : FnOk P w K mg base CX0 k f_RoomError_init fd_RoomError_init ["self", "words"] (spRE K)) : FnOk P w K mg base CX0 (k + 2) f fd ["self", "found"] (spXn C_NoThings ["found"]) := by
  refine F.ok sc_NoThings_init (fun vs H Q E h => ?_) (fun cdv A outer s0 H vs Q E hr0 h => ?_)
  · obtain ⟨e, xs, rfl, hl, _⟩ := h; exact congrArg (· + 1) hl
  obtain ⟨e, xs, rfl, hl, he, q⟩ := h
  have hr := hr0.mono (Nat.le_succ _)
  refine ⟨_, (pss_cons (ps_expr (pe_cinit T_RoomError.i (pe_glob (v := .ref C_RoomError) rfl T_RoomError.m rfl) G_RoomError_init hr D_RoomError_init.b .nil pass0 (pa_cons (pv 0) (pa_cons pe_str pa_nil))))
      (pss_one (ps_xfld (pv 0) (pv 1) rfl))), ?_⟩
  match xs, hl, q with
  | [x0], _, q =>
    refine ⟨_, rfl, e, _, C_NoThings, C_RoomError, f_NoThings_init, none, rfl, he, T_NoThings.c, ?_⟩
    refine ⟨_, rfl, _, rfl, e, C_NoThings, C_RoomError, f_NoThings_init, rfl, T_NoThings.c, T_NoThings.n _ (by simp), .inl ⟨he, fun dx hd => ?_⟩⟩
    have F1 := Fl.first (CN := C_NoThings) (f := "found") (y := x0) he hd
    exact q dx _ F1
end
end K05

namespace K05
open PySem L2 PyProof.Rows
abbrev s_NoBudget_init : Stmt := inClass (top 22) 0
theorem sc_NoBudget_init : FnScope ["self", "found"] ["self", "found"] (defScope s_NoBudget_init) := ⟨rfl, rfl, rfl, by decide +kernel, rfl, by decide +kernel, by decide +kernel⟩
section
variable {P : Program} {w : World} {K : PySem.W.Frag} {mg : Str → Option Value} {base : Heap}
theorem ok_NoBudget_init {k : Nat} {f : Addr} {fd : FuncData} (F : Fun K "__init__" "NoBudget.__init__" s_NoBudget_init f fd) (M : Blt mg) {C_RoomError f_RoomError_init : Addr} (T_RoomError : TXB K mg C_RoomError f_RoomError_init) (VI : VInit K) {C_NoBudget f_NoBudget_init : Addr} (T_NoBudget : TX K mg "NoBudget" C_NoBudget C_RoomError f_NoBudget_init ["found"]) {fd_RoomError_init : FuncData} (D_RoomError_init : DfI K fd_RoomError_init ["self", "words"]) (G_RoomError_init : FnOk P w K mg base CX0 k f_RoomError_init fd_RoomError_init ["self", "words"] (spRE K)) : FnOk P w K mg base CX0 (k + 2) f fd ["self", "found"] (spXn C_NoBudget ["found"]) := by
  refine F.ok sc_NoBudget_init (fun vs H Q E h => ?_) (fun cdv A outer s0 H vs Q E hr0 h => ?_)
  · obtain ⟨e, xs, rfl, hl, _⟩ := h; exact congrArg (· + 1) hl
  obtain ⟨e, xs, rfl, hl, he, q⟩ := h
  have hr := hr0.mono (Nat.le_succ _)
  refine ⟨_, (pss_cons (ps_expr (pe_cinit T_RoomError.i (pe_glob (v := .ref C_RoomError) rfl T_RoomError.m rfl) G_RoomError_init hr D_RoomError_init.b .nil pass0 (pa_cons (pv 0) (pa_cons pe_str pa_nil))))
      (pss_one (ps_xfld (pv 0) (pv 1) rfl))), ?_⟩
  match xs, hl, q with
  | [x0], _, q =>
    refine ⟨_, rfl, e, _, C_NoBudget, C_RoomError, f_NoBudget_init, none, rfl, he, T_NoBudget.c, ?_⟩
    refine ⟨_, rfl, _, rfl, e, C_NoBudget, C_RoomError, f_NoBudget_init, rfl, T_NoBudget.c, T_NoBudget.n _ (by simp), .inl ⟨he, fun dx hd => ?_⟩⟩
    have F1 := Fl.first (CN := C_NoBudget) (f := "found") (y := x0) he hd
    exact q dx _ F1
end
end K05

namespace K05
open PySem L2 PyProof.Rows
abbrev s_NoLine_init : Stmt := inClass (top 23) 0
theorem sc_NoLine_init : FnScope ["self", "found"] ["self", "found"] (defScope s_NoLine_init) := ⟨rfl, rfl, rfl, by decide +kernel, rfl, by decide +kernel, by decide +kernel⟩
section
variable {P : Program} {w : World} {K : PySem.W.Frag} {mg : Str → Option Value} {base : Heap}
theorem ok_NoLine_init {k : Nat} {f : Addr} {fd : FuncData} (F : Fun K "__init__" "NoLine.__init__" s_NoLine_init f fd) (M : Blt mg) {C_RoomError f_RoomError_init : Addr} (T_RoomError : TXB K mg C_RoomError f_RoomError_init) (VI : VInit K) {C_NoLine f_NoLine_init : Addr} (T_NoLine : TX K mg "NoLine" C_NoLine C_RoomError f_NoLine_init ["found"]) {fd_RoomError_init : FuncData} (D_RoomError_init : DfI K fd_RoomError_init ["self", "words"]) (G_RoomError_init : FnOk P w K mg base CX0 k f_RoomError_init fd_RoomError_init ["self", "words"] (spRE K)) : FnOk P w K mg base CX0 (k + 2) f fd ["self", "found"] (spXn C_NoLine ["found"]) := by
  refine F.ok sc_NoLine_init (fun vs H Q E h => ?_) (fun cdv A outer s0 H vs Q E hr0 h => ?_)
  · obtain ⟨e, xs, rfl, hl, _⟩ := h; exact congrArg (· + 1) hl
  obtain ⟨e, xs, rfl, hl, he, q⟩ := h
  have hr := hr0.mono (Nat.le_succ _)
  refine ⟨_, (pss_cons (ps_expr (pe_cinit T_RoomError.i (pe_glob (v := .ref C_RoomError) rfl T_RoomError.m rfl) G_RoomError_init hr D_RoomError_init.b .nil pass0 (pa_cons (pv 0) (pa_cons pe_str pa_nil))))
      (pss_one (ps_xfld (pv 0) (pv 1) rfl))), ?_⟩
  match xs, hl, q with
  | [x0], _, q =>
    refine ⟨_, rfl, e, _, C_NoLine, C_RoomError, f_NoLine_init, none, rfl, he, T_NoLine.c, ?_⟩
    refine ⟨_, rfl, _, rfl, e, C_NoLine, C_RoomError, f_NoLine_init, rfl, T_NoLine.c, T_NoLine.n _ (by simp), .inl ⟨he, fun dx hd => ?_⟩⟩
    have F1 := Fl.first (CN := C_NoLine) (f := "found") (y := x0) he hd
    exact q dx _ F1
end
end K05

namespace K05
open PySem L2 PyProof.Rows
abbrev s_NoKeep_init : Stmt := inClass (top 24) 0
theorem sc_NoKeep_init : FnScope ["self", "found"] ["self", "found"] (defScope s_NoKeep_init) := ⟨rfl, rfl, rfl, by decide +kernel, rfl, by decide +kernel, by decide +kernel⟩
section
variable {P : Program} {w : World} {K : PySem.W.Frag} {mg : Str → Option Value} {base : Heap}
theorem ok_NoKeep_init {k : Nat} {f : Addr} {fd : FuncData} (F : Fun K "__init__" "NoKeep.__init__" s_NoKeep_init f fd) (M : Blt mg) {C_RoomError f_RoomError_init : Addr} (T_RoomError : TXB K mg C_RoomError f_RoomError_init) (VI : VInit K) {C_NoKeep f_NoKeep_init : Addr} (T_NoKeep : TX K mg "NoKeep" C_NoKeep C_RoomError f_NoKeep_init ["found"]) {fd_RoomError_init : FuncData} (D_RoomError_init : DfI K fd_RoomError_init ["self", "words"]) (G_RoomError_init : FnOk P w K mg base CX0 k f_RoomError_init fd_RoomError_init ["self", "words"] (spRE K)) : FnOk P w K mg base CX0 (k + 2) f fd ["self", "found"] (spXn C_NoKeep ["found"]) := by
  refine F.ok sc_NoKeep_init (fun vs H Q E h => ?_) (fun cdv A outer s0 H vs Q E hr0 h => ?_)
  · obtain ⟨e, xs, rfl, hl, _⟩ := h; exact congrArg (· + 1) hl
  obtain ⟨e, xs, rfl, hl, he, q⟩ := h
  have hr := hr0.mono (Nat.le_succ _)
  refine ⟨_, (pss_cons (ps_expr (pe_cinit T_RoomError.i (pe_glob (v := .ref C_RoomError) rfl T_RoomError.m rfl) G_RoomError_init hr D_RoomError_init.b .nil pass0 (pa_cons (pv 0) (pa_cons pe_str pa_nil))))
      (pss_one (ps_xfld (pv 0) (pv 1) rfl))), ?_⟩
  match xs, hl, q with
  | [x0], _, q =>
    refine ⟨_, rfl, e, _, C_NoKeep, C_RoomError, f_NoKeep_init, none, rfl, he, T_NoKeep.c, ?_⟩
    refine ⟨_, rfl, _, rfl, e, C_NoKeep, C_RoomError, f_NoKeep_init, rfl, T_NoKeep.c, T_NoKeep.n _ (by simp), .inl ⟨he, fun dx hd => ?_⟩⟩
    have F1 := Fl.first (CN := C_NoKeep) (f := "found") (y := x0) he hd
    exact q dx _ F1
end
end K05

namespace K05
open PySem L2 PyProof.Rows
abbrev s_NoLayings_init : Stmt := inClass (top 25) 0
theorem sc_NoLayings_init : FnScope ["self", "found"] ["self", "found"] (defScope s_NoLayings_init) := ⟨rfl, rfl, rfl, by decide +kernel, rfl, by decide +kernel, by decide +kernel⟩
section
variable {P : Program} {w : World} {K : PySem.W.Frag} {mg : Str → Option Value} {base : Heap}
theorem ok_NoLayings_init {k : Nat} {f : Addr} {fd : FuncData} (F : Fun K "__init__" "NoLayings.__init__" s_NoLayings_init f fd) (M : Blt mg) {C_RoomError f_RoomError_init : Addr} (T_RoomError : TXB K mg C_RoomError f_RoomError_init) (VI : VInit K) {C_NoLayings f_NoLayings_init : Addr} (T_NoLayings : TX K mg "NoLayings" C_NoLayings C_RoomError f_NoLayings_init ["found"]) {fd_RoomError_init : FuncData} (D_RoomError_init : DfI K fd_RoomError_init ["self", "words"]) (G_RoomError_init : FnOk P w K mg base CX0 k f_RoomError_init fd_RoomError_init ["self", "words"] (spRE K)) : FnOk P w K mg base CX0 (k + 2) f fd ["self", "found"] (spXn C_NoLayings ["found"]) := by
  refine F.ok sc_NoLayings_init (fun vs H Q E h => ?_) (fun cdv A outer s0 H vs Q E hr0 h => ?_)
  · obtain ⟨e, xs, rfl, hl, _⟩ := h; exact congrArg (· + 1) hl
  obtain ⟨e, xs, rfl, hl, he, q⟩ := h
  have hr := hr0.mono (Nat.le_succ _)
  refine ⟨_, (pss_cons (ps_expr (pe_cinit T_RoomError.i (pe_glob (v := .ref C_RoomError) rfl T_RoomError.m rfl) G_RoomError_init hr D_RoomError_init.b .nil pass0 (pa_cons (pv 0) (pa_cons pe_str pa_nil))))
      (pss_one (ps_xfld (pv 0) (pv 1) rfl))), ?_⟩
  match xs, hl, q with
  | [x0], _, q =>
    refine ⟨_, rfl, e, _, C_NoLayings, C_RoomError, f_NoLayings_init, none, rfl, he, T_NoLayings.c, ?_⟩
    refine ⟨_, rfl, _, rfl, e, C_NoLayings, C_RoomError, f_NoLayings_init, rfl, T_NoLayings.c, T_NoLayings.n _ (by simp), .inl ⟨he, fun dx hd => ?_⟩⟩
    have F1 := Fl.first (CN := C_NoLayings) (f := "found") (y := x0) he hd
    exact q dx _ F1
end
end K05

namespace K05
open PySem L2 PyProof.Rows
abbrev s_NoTurn_init : Stmt := inClass (top 26) 0
theorem sc_NoTurn_init : FnScope ["self", "found"] ["self", "found"] (defScope s_NoTurn_init) := ⟨rfl, rfl, rfl, by decide +kernel, rfl, by decide +kernel, by decide +kernel⟩
section
variable {P : Program} {w : World} {K : PySem.W.Frag} {mg : Str → Option Value} {base : Heap}
theorem ok_NoTurn_init {k : Nat} {f : Addr} {fd : FuncData} (F : Fun K "__init__" "NoTurn.__init__" s_NoTurn_init f fd) (M : Blt mg) {C_RoomError f_RoomError_init : Addr} (T_RoomError : TXB K mg C_RoomError f_RoomError_init) (VI : VInit K) {C_NoTurn f_NoTurn_init : Addr} (T_NoTurn : TX K mg "NoTurn" C_NoTurn C_RoomError f_NoTurn_init ["found"]) {fd_RoomError_init : FuncData} (D_RoomError_init : DfI K fd_RoomError_init ["self", "words"]) (G_RoomError_init : FnOk P w K mg base CX0 k f_RoomError_init fd_RoomError_init ["self", "words"] (spRE K)) : FnOk P w K mg base CX0 (k + 2) f fd ["self", "found"] (spXn C_NoTurn ["found"]) := by
  refine F.ok sc_NoTurn_init (fun vs H Q E h => ?_) (fun cdv A outer s0 H vs Q E hr0 h => ?_)
  · obtain ⟨e, xs, rfl, hl, _⟩ := h; exact congrArg (· + 1) hl
  obtain ⟨e, xs, rfl, hl, he, q⟩ := h
  have hr := hr0.mono (Nat.le_succ _)
  refine ⟨_, (pss_cons (ps_expr (pe_cinit T_RoomError.i (pe_glob (v := .ref C_RoomError) rfl T_RoomError.m rfl) G_RoomError_init hr D_RoomError_init.b .nil pass0 (pa_cons (pv 0) (pa_cons pe_str pa_nil))))
      (pss_one (ps_xfld (pv 0) (pv 1) rfl))), ?_⟩
  match xs, hl, q with
  | [x0], _, q =>
    refine ⟨_, rfl, e, _, C_NoTurn, C_RoomError, f_NoTurn_init, none, rfl, he, T_NoTurn.c, ?_⟩
    refine ⟨_, rfl, _, rfl, e, C_NoTurn, C_RoomError, f_NoTurn_init, rfl, T_NoTurn.c, T_NoTurn.n _ (by simp), .inl ⟨he, fun dx hd => ?_⟩⟩
    have F1 := Fl.first (CN := C_NoTurn) (f := "found") (y := x0) he hd
    exact q dx _ F1
end
end K05

namespace K05
open PySem L2 PyProof.Rows
abbrev s_NoOpen_init : Stmt := inClass (top 27) 0
theorem sc_NoOpen_init : FnScope ["self", "found"] ["self", "found"] (defScope s_NoOpen_init) := ⟨rfl, rfl, rfl, by decide +kernel, rfl, by decide +kernel, by decide +kernel⟩
section
variable {P : Program} {w : World} {K : PySem.W.Frag} {mg : Str → Option Value} {base : Heap}
theorem ok_NoOpen_init {k : Nat} {f : Addr} {fd : FuncData} (F : Fun K "__init__" "NoOpen.__init__" s_NoOpen_init f fd) (M : Blt mg) {C_RoomError f_RoomError_init : Addr} (T_RoomError : TXB K mg C_RoomError f_RoomError_init) (VI : VInit K) {C_NoOpen f_NoOpen_init : Addr} (T_NoOpen : TX K mg "NoOpen" C_NoOpen C_RoomError f_NoOpen_init ["found"]) {fd_RoomError_init : FuncData} (D_RoomError_init : DfI K fd_RoomError_init ["self", "words"]) (G_RoomError_init : FnOk P w K mg base CX0 k f_RoomError_init fd_RoomError_init ["self", "words"] (spRE K)) : FnOk P w K mg base CX0 (k + 2) f fd ["self", "found"] (spXn C_NoOpen ["found"]) := by
  refine F.ok sc_NoOpen_init (fun vs H Q E h => ?_) (fun cdv A outer s0 H vs Q E hr0 h => ?_)
  · obtain ⟨e, xs, rfl, hl, _⟩ := h; exact congrArg (· + 1) hl
  obtain ⟨e, xs, rfl, hl, he, q⟩ := h
  have hr := hr0.mono (Nat.le_succ _)
  refine ⟨_, (pss_cons (ps_expr (pe_cinit T_RoomError.i (pe_glob (v := .ref C_RoomError) rfl T_RoomError.m rfl) G_RoomError_init hr D_RoomError_init.b .nil pass0 (pa_cons (pv 0) (pa_cons pe_str pa_nil))))
      (pss_one (ps_xfld (pv 0) (pv 1) rfl))), ?_⟩
  match xs, hl, q with
  | [x0], _, q =>
    refine ⟨_, rfl, e, _, C_NoOpen, C_RoomError, f_NoOpen_init, none, rfl, he, T_NoOpen.c, ?_⟩
    refine ⟨_, rfl, _, rfl, e, C_NoOpen, C_RoomError, f_NoOpen_init, rfl, T_NoOpen.c, T_NoOpen.n _ (by simp), .inl ⟨he, fun dx hd => ?_⟩⟩
    have F1 := Fl.first (CN := C_NoOpen) (f := "found") (y := x0) he hd
    exact q dx _ F1
end
end K05

namespace K05
open PySem L2 PyProof.Rows
abbrev s_NoDesk_init : Stmt := inClass (top 28) 0
theorem sc_NoDesk_init : FnScope ["self", "line"] ["self", "line"] (defScope s_NoDesk_init) := ⟨rfl, rfl, rfl, by decide +kernel, rfl, by decide +kernel, by decide +kernel⟩
section
variable {P : Program} {w : World} {K : PySem.W.Frag} {mg : Str → Option Value} {base : Heap}
theorem ok_NoDesk_init {k : Nat} {f : Addr} {fd : FuncData} (F : Fun K "__init__" "NoDesk.__init__" s_NoDesk_init f fd) (M : Blt mg) {C_RoomError f_RoomError_init : Addr} (T_RoomError : TXB K mg C_RoomError f_RoomError_init) (VI : VInit K) {C_NoDesk f_NoDesk_init : Addr} (T_NoDesk : TX K mg "NoDesk" C_NoDesk C_RoomError f_NoDesk_init ["line"]) {fd_RoomError_init : FuncData} (D_RoomError_init : DfI K fd_RoomError_init ["self", "words"]) (G_RoomError_init : FnOk P w K mg base CX0 k f_RoomError_init fd_RoomError_init ["self", "words"] (spRE K)) : FnOk P w K mg base CX0 (k + 2) f fd ["self", "line"] (spXn C_NoDesk ["line"]) := by
  refine F.ok sc_NoDesk_init (fun vs H Q E h => ?_) (fun cdv A outer s0 H vs Q E hr0 h => ?_)
  · obtain ⟨e, xs, rfl, hl, _⟩ := h; exact congrArg (· + 1) hl
  obtain ⟨e, xs, rfl, hl, he, q⟩ := h
  have hr := hr0.mono (Nat.le_succ _)
  refine ⟨_, (pss_cons (ps_expr (pe_cinit T_RoomError.i (pe_glob (v := .ref C_RoomError) rfl T_RoomError.m rfl) G_RoomError_init hr D_RoomError_init.b .nil pass0 (pa_cons (pv 0) (pa_cons pe_str pa_nil))))
      (pss_one (ps_xfld (pv 0) (pv 1) rfl))), ?_⟩
  match xs, hl, q with
  | [x0], _, q =>
    refine ⟨_, rfl, e, _, C_NoDesk, C_RoomError, f_NoDesk_init, none, rfl, he, T_NoDesk.c, ?_⟩
    refine ⟨_, rfl, _, rfl, e, C_NoDesk, C_RoomError, f_NoDesk_init, rfl, T_NoDesk.c, T_NoDesk.n _ (by simp), .inl ⟨he, fun dx hd => ?_⟩⟩
    have F1 := Fl.first (CN := C_NoDesk) (f := "line") (y := x0) he hd
    exact q dx _ F1
end
end K05

namespace K05
open PySem L2 PyProof.Rows
abbrev s_law_of_one : Stmt := top 33
theorem sc_law_of_one : FnScope ["_law_at", "_law_thing_here"] ["_law_at", "_law_thing_here"] (defScope s_law_of_one) := ⟨rfl, rfl, rfl, by decide +kernel, rfl, by decide +kernel, by decide +kernel⟩
section
variable {P : Program} {w : World} {K : PySem.W.Frag} {mg : Str → Option Value} {base : Heap}
theorem ok_law_of_one {k : Nat} {f : Addr} {fd : FuncData} (F : Fun K "_law_of_one" "_law_of_one" s_law_of_one f fd) (M : Blt mg) {C_RoomError f_RoomError_init : Addr} (T_RoomError : TXB K mg C_RoomError f_RoomError_init) (VI : VInit K) {C_Beyond f_Beyond_init : Addr} (T_Beyond : TX K mg "Beyond" C_Beyond C_RoomError f_Beyond_init ["found"]) {C_Lacking f_Lacking_init : Addr} (T_Lacking : TX K mg "Lacking" C_Lacking C_RoomError f_Lacking_init ["unit"]) {C_LaidTwice f_LaidTwice_init : Addr} (T_LaidTwice : TX K mg "LaidTwice" C_LaidTwice C_RoomError f_LaidTwice_init ["line", "unit"]) {C_Meets f_Meets_init : Addr} (T_Meets : TX K mg "Meets" C_Meets C_RoomError f_Meets_init ["unit", "thing", "second", "another"]) {C_NamedTwice f_NamedTwice_init : Addr} (T_NamedTwice : TX K mg "NamedTwice" C_NamedTwice C_RoomError f_NamedTwice_init ["line", "name"]) {C_NoBudget f_NoBudget_init : Addr} (T_NoBudget : TX K mg "NoBudget" C_NoBudget C_RoomError f_NoBudget_init ["found"]) {C_NoDesk f_NoDesk_init : Addr} (T_NoDesk : TX K mg "NoDesk" C_NoDesk C_RoomError f_NoDesk_init ["line"]) {C_NoInput f_NoInput_init : Addr} (T_NoInput : TX K mg "NoInput" C_NoInput C_RoomError f_NoInput_init ["name"]) {C_NoKeep f_NoKeep_init : Addr} (T_NoKeep : TX K mg "NoKeep" C_NoKeep C_RoomError f_NoKeep_init ["found"]) {C_NoLaying f_NoLaying_init : Addr} (T_NoLaying : TX K mg "NoLaying" C_NoLaying C_RoomError f_NoLaying_init ["line"]) {C_NoLayings f_NoLayings_init : Addr} (T_NoLayings : TX K mg "NoLayings" C_NoLayings C_RoomError f_NoLayings_init ["found"]) {C_NoLine f_NoLine_init : Addr} (T_NoLine : TX K mg "NoLine" C_NoLine C_RoomError f_NoLine_init ["found"]) {C_NoOpen f_NoOpen_init : Addr} (T_NoOpen : TX K mg "NoOpen" C_NoOpen C_RoomError f_NoOpen_init ["found"]) {C_NoPath f_NoPath_init : Addr} (T_NoPath : TX K mg "NoPath" C_NoPath C_RoomError f_NoPath_init ["path"]) {C_NoPlace f_NoPlace_init : Addr} (T_NoPlace : TX K mg "NoPlace" C_NoPlace C_RoomError f_NoPlace_init ["found"]) {C_NoProgram f_NoProgram_init : Addr} (T_NoProgram : TX K mg "NoProgram" C_NoProgram C_RoomError f_NoProgram_init ["line"]) {C_NoRecord f_NoRecord_init : Addr} (T_NoRecord : TX K mg "NoRecord" C_NoRecord C_RoomError f_NoRecord_init ["found"]) {C_NoRoom f_NoRoom_init : Addr} (T_NoRoom : TX K mg "NoRoom" C_NoRoom C_RoomError f_NoRoom_init ["found"]) {C_NoShapes f_NoShapes_init : Addr} (T_NoShapes : TX K mg "NoShapes" C_NoShapes C_RoomError f_NoShapes_init ["line"]) {C_NoThings f_NoThings_init : Addr} (T_NoThings : TX K mg "NoThings" C_NoThings C_RoomError f_NoThings_init ["found"]) {C_NoTurn f_NoTurn_init : Addr} (T_NoTurn : TX K mg "NoTurn" C_NoTurn C_RoomError f_NoTurn_init ["found"]) {C_Other f_Other_init : Addr} (T_Other : TX K mg "Other" C_Other C_RoomError f_Other_init ["found"]) {C_Past f_Past_init : Addr} (T_Past : TX K mg "Past" C_Past C_RoomError f_Past_init ["unit", "thing", "cell"]) {C_TooMuch f_TooMuch_init : Addr} (T_TooMuch : TX K mg "TooMuch" C_TooMuch C_RoomError f_TooMuch_init ["line"]) {C_UnknownShape f_UnknownShape_init : Addr} (T_UnknownShape : TX K mg "UnknownShape" C_UnknownShape C_RoomError f_UnknownShape_init ["line", "name"]) {C_UnknownUnit f_UnknownUnit_init : Addr} (T_UnknownUnit : TX K mg "UnknownUnit" C_UnknownUnit C_RoomError f_UnknownUnit_init ["line", "unit"]) {C_WrongPath f_WrongPath_init : Addr} (T_WrongPath : TX K mg "WrongPath" C_WrongPath C_RoomError f_WrongPath_init ["line", "path"]) {fd_NoRoom_init : FuncData} (D_NoRoom_init : DfI K fd_NoRoom_init ["self", "found"]) (G_NoRoom_init : FnOk P w K mg base (CXE P w) k f_NoRoom_init fd_NoRoom_init ["self", "found"] (spXn C_NoRoom ["found"])) {fd_NoPlace_init : FuncData} (D_NoPlace_init : DfI K fd_NoPlace_init ["self", "found"]) (G_NoPlace_init : FnOk P w K mg base (CXE P w) k f_NoPlace_init fd_NoPlace_init ["self", "found"] (spXn C_NoPlace ["found"])) {fd_NoShapes_init : FuncData} (D_NoShapes_init : DfI K fd_NoShapes_init ["self", "line"]) (G_NoShapes_init : FnOk P w K mg base CX0 k f_NoShapes_init fd_NoShapes_init ["self", "line"] (spXn C_NoShapes ["line"])) {fd_TooMuch_init : FuncData} (D_TooMuch_init : DfI K fd_TooMuch_init ["self", "line"]) (G_TooMuch_init : FnOk P w K mg base CX0 k f_TooMuch_init fd_TooMuch_init ["self", "line"] (spXn C_TooMuch ["line"])) {fd_NoRecord_init : FuncData} (D_NoRecord_init : DfI K fd_NoRecord_init ["self", "found"]) (G_NoRecord_init : FnOk P w K mg base CX0 k f_NoRecord_init fd_NoRecord_init ["self", "found"] (spXn C_NoRecord ["found"])) {fd_NoPath_init : FuncData} (D_NoPath_init : DfI K fd_NoPath_init ["self", "path"]) (G_NoPath_init : FnOk P w K mg base CX0 k f_NoPath_init fd_NoPath_init ["self", "path"] (spXn C_NoPath ["path"])) {fd_Beyond_init : FuncData} (D_Beyond_init : DfI K fd_Beyond_init ["self", "found"]) (G_Beyond_init : FnOk P w K mg base CX0 k f_Beyond_init fd_Beyond_init ["self", "found"] (spXn C_Beyond ["found"])) {fd_Other_init : FuncData} (D_Other_init : DfI K fd_Other_init ["self", "found"]) (G_Other_init : FnOk P w K mg base CX0 k f_Other_init fd_Other_init ["self", "found"] (spXn C_Other ["found"])) {fd_NoLaying_init : FuncData} (D_NoLaying_init : DfI K fd_NoLaying_init ["self", "line"]) (G_NoLaying_init : FnOk P w K mg base CX0 k f_NoLaying_init fd_NoLaying_init ["self", "line"] (spXn C_NoLaying ["line"])) {fd_Lacking_init : FuncData} (D_Lacking_init : DfI K fd_Lacking_init ["self", "unit"]) (G_Lacking_init : FnOk P w K mg base CX0 k f_Lacking_init fd_Lacking_init ["self", "unit"] (spXn C_Lacking ["unit"])) {f_law_of_one_more : Addr} {fd_law_of_one_more : FuncData} (D_law_of_one_more : Df K mg "_law_of_one_more" f_law_of_one_more fd_law_of_one_more ["_law_at", "_law_thing_here"]) (G_law_of_one_more : FnOk P w K mg base CX0 k f_law_of_one_more fd_law_of_one_more ["_law_at", "_law_thing_here"] (spOneM K [C_NoRoom, C_NoPlace, C_NoShapes, C_UnknownShape, C_NamedTwice, C_TooMuch, C_NoRecord, C_NoPath, C_Beyond, C_Other, C_NoLaying, C_UnknownUnit, C_LaidTwice, C_Lacking, C_Past, C_Meets, C_NoProgram, C_WrongPath, C_NoInput, C_NoThings, C_NoBudget, C_NoLine, C_NoKeep, C_NoLayings, C_NoTurn, C_NoOpen, C_NoDesk])) : FnOk P w K mg base CX0 (k + 2) f fd ["_law_at", "_law_thing_here"] (spOne K [C_NoRoom, C_NoPlace, C_NoShapes, C_UnknownShape, C_NamedTwice, C_TooMuch, C_NoRecord, C_NoPath, C_Beyond, C_Other, C_NoLaying, C_UnknownUnit, C_LaidTwice, C_Lacking, C_Past, C_Meets, C_NoProgram, C_WrongPath, C_NoInput, C_NoThings, C_NoBudget, C_NoLine, C_NoKeep, C_NoLayings, C_NoTurn, C_NoOpen, C_NoDesk]) := by
  refine F.ok sc_law_of_one (fun vs H Q E h => ?_) (fun cdv A outer s0 H vs Q E hr0 h => ?_)
  · obtain ⟨n, x, rfl, _⟩ := h; rfl
  obtain ⟨n, x, rfl, hn, q⟩ := h
  have hr := hr0.mono (Nat.le_succ _)
  refine ⟨_, (pss_cons (ps_if (pt_cmpR op_eq (pv 0) pe_int (nomark _)) (pss_one (ps_ret (pe_makeX T_NoRoom.c G_NoRoom_init hr0 rfl T_NoRoom.m D_NoRoom_init.b .nil passX (pa_cons (pv 1) pa_nil)))) pss_nil)
      (pss_cons (ps_if (pt_cmpR op_eq (pv 0) pe_int (nomark _)) (pss_one (ps_ret (pe_makeX T_NoPlace.c G_NoPlace_init hr0 rfl T_NoPlace.m D_NoPlace_init.b .nil passX (pa_cons (pv 1) pa_nil)))) pss_nil)
      (pss_cons (ps_if (pt_cmpR op_eq (pv 0) pe_int (nomark _)) (pss_one (ps_ret (pe_makeX T_NoShapes.c G_NoShapes_init hr0 rfl T_NoShapes.m D_NoShapes_init.b .nil pass0 (pa_cons (pv 1) pa_nil)))) pss_nil)
      (pss_cons (ps_if (pt_cmpR op_eq (pv 0) pe_int (nomark _)) (pss_one (ps_ret (pe_makeX T_TooMuch.c G_TooMuch_init hr0 rfl T_TooMuch.m D_TooMuch_init.b .nil pass0 (pa_cons (pv 1) pa_nil)))) pss_nil)
      (pss_cons (ps_if (pt_cmpR op_eq (pv 0) pe_int (nomark _)) (pss_one (ps_ret (pe_makeX T_NoRecord.c G_NoRecord_init hr0 rfl T_NoRecord.m D_NoRecord_init.b .nil pass0 (pa_cons (pv 1) pa_nil)))) pss_nil)
      (pss_cons (ps_if (pt_cmpR op_eq (pv 0) pe_int (nomark _)) (pss_one (ps_ret (pe_makeX T_NoPath.c G_NoPath_init hr0 rfl T_NoPath.m D_NoPath_init.b .nil pass0 (pa_cons (pv 1) pa_nil)))) pss_nil)
      (pss_cons (ps_if (pt_cmpR op_eq (pv 0) pe_int (nomark _)) (pss_one (ps_ret (pe_makeX T_Beyond.c G_Beyond_init hr0 rfl T_Beyond.m D_Beyond_init.b .nil pass0 (pa_cons (pv 1) pa_nil)))) pss_nil)
      (pss_cons (ps_if (pt_cmpR op_eq (pv 0) pe_int (nomark _)) (pss_one (ps_ret (pe_makeX T_Other.c G_Other_init hr0 rfl T_Other.m D_Other_init.b .nil pass0 (pa_cons (pv 1) pa_nil)))) pss_nil)
      (pss_cons (ps_if (pt_cmpR op_eq (pv 0) pe_int (nomark _)) (pss_one (ps_ret (pe_makeX T_NoLaying.c G_NoLaying_init hr0 rfl T_NoLaying.m D_NoLaying_init.b .nil pass0 (pa_cons (pv 1) pa_nil)))) pss_nil)
      (pss_cons (ps_if (pt_cmpR op_eq (pv 0) pe_int (nomark _)) (pss_one (ps_ret (pe_makeX T_Lacking.c G_Lacking_init hr0 rfl T_Lacking.m D_Lacking_init.b .nil pass0 (pa_cons (pv 1) pa_nil)))) pss_nil)
      (pss_one (ps_ret (pe_call G_law_of_one_more hr rfl D_law_of_one_more.m D_law_of_one_more.k D_law_of_one_more.b .nil pass0 (pa_cons (pv 0) (pa_cons (pv 1) pa_nil))))))))))))))), ?_⟩
  obtain rfl | rfl | rfl | rfl | rfl | rfl | rfl | rfl | rfl | rfl | rfl | rfl | rfl | rfl | rfl | rfl | rfl | rfl | rfl | rfl : n = 0 ∨ n = 1 ∨ n = 2 ∨ n = 3 ∨ n = 4 ∨ n = 5 ∨ n = 6 ∨ n = 7 ∨ n = 8 ∨ n = 9 ∨ n = 10 ∨ n = 11 ∨ n = 12 ∨ n = 13 ∨ n = 14 ∨ n = 15 ∨ n = 16 ∨ n = 17 ∨ n = 18 ∨ n = 19 := by omega
  · exact ⟨_, rfl, rfl, _, rfl, iteP rfl ⟨_, rfl, (by show 1 ≤ 1000; decide), fun e he => ⟨e, [x], rfl, rfl, upd_same, fun dx H1 F => ⟨rfl, q e H1 (F.from he) (Ob.mk T_NoRoom rfl he F)⟩⟩⟩⟩
  · exact ⟨_, rfl, rfl, _, rfl, iteN (by decide) ⟨_, rfl, rfl, _, rfl, iteP rfl ⟨_, rfl, (by show 1 ≤ 1000; decide), fun e he => ⟨e, [x], rfl, rfl, upd_same, fun dx H1 F => ⟨rfl, q e H1 (F.from he) (Ob.mk T_NoPlace rfl he F)⟩⟩⟩⟩⟩
  · exact ⟨_, rfl, rfl, _, rfl, iteN (by decide) ⟨_, rfl, rfl, _, rfl, iteN (by decide) ⟨_, rfl, rfl, _, rfl, iteP rfl ⟨_, rfl, (by show 1 ≤ 1000; decide), fun e he => ⟨e, [x], rfl, rfl, upd_same, fun dx H1 F => ⟨rfl, q e H1 (F.from he) (Ob.mk T_NoShapes rfl he F)⟩⟩⟩⟩⟩⟩
  · exact ⟨_, rfl, rfl, _, rfl, iteN (by decide) ⟨_, rfl, rfl, _, rfl, iteN (by decide) ⟨_, rfl, rfl, _, rfl, iteN (by decide) ⟨_, rfl, rfl, _, rfl, iteP rfl ⟨_, rfl, (by show 1 ≤ 1000; decide), fun e he => ⟨e, [x], rfl, rfl, upd_same, fun dx H1 F => ⟨rfl, q e H1 (F.from he) (Ob.mk T_TooMuch rfl he F)⟩⟩⟩⟩⟩⟩⟩
  · exact ⟨_, rfl, rfl, _, rfl, iteN (by decide) ⟨_, rfl, rfl, _, rfl, iteN (by decide) ⟨_, rfl, rfl, _, rfl, iteN (by decide) ⟨_, rfl, rfl, _, rfl, iteN (by decide) ⟨_, rfl, rfl, _, rfl, iteP rfl ⟨_, rfl, (by show 1 ≤ 1000; decide), fun e he => ⟨e, [x], rfl, rfl, upd_same, fun dx H1 F => ⟨rfl, q e H1 (F.from he) (Ob.mk T_NoRecord rfl he F)⟩⟩⟩⟩⟩⟩⟩⟩
  · exact ⟨_, rfl, rfl, _, rfl, iteN (by decide) ⟨_, rfl, rfl, _, rfl, iteN (by decide) ⟨_, rfl, rfl, _, rfl, iteN (by decide) ⟨_, rfl, rfl, _, rfl, iteN (by decide) ⟨_, rfl, rfl, _, rfl, iteN (by decide) ⟨_, rfl, rfl, _, rfl, iteP rfl ⟨_, rfl, (by show 1 ≤ 1000; decide), fun e he => ⟨e, [x], rfl, rfl, upd_same, fun dx H1 F => ⟨rfl, q e H1 (F.from he) (Ob.mk T_NoPath rfl he F)⟩⟩⟩⟩⟩⟩⟩⟩⟩
  · exact ⟨_, rfl, rfl, _, rfl, iteN (by decide) ⟨_, rfl, rfl, _, rfl, iteN (by decide) ⟨_, rfl, rfl, _, rfl, iteN (by decide) ⟨_, rfl, rfl, _, rfl, iteN (by decide) ⟨_, rfl, rfl, _, rfl, iteN (by decide) ⟨_, rfl, rfl, _, rfl, iteN (by decide) ⟨_, rfl, rfl, _, rfl, iteP rfl ⟨_, rfl, (by show 1 ≤ 1000; decide), fun e he => ⟨e, [x], rfl, rfl, upd_same, fun dx H1 F => ⟨rfl, q e H1 (F.from he) (Ob.mk T_Beyond rfl he F)⟩⟩⟩⟩⟩⟩⟩⟩⟩⟩
  · exact ⟨_, rfl, rfl, _, rfl, iteN (by decide) ⟨_, rfl, rfl, _, rfl, iteN (by decide) ⟨_, rfl, rfl, _, rfl, iteN (by decide) ⟨_, rfl, rfl, _, rfl, iteN (by decide) ⟨_, rfl, rfl, _, rfl, iteN (by decide) ⟨_, rfl, rfl, _, rfl, iteN (by decide) ⟨_, rfl, rfl, _, rfl, iteN (by decide) ⟨_, rfl, rfl, _, rfl, iteP rfl ⟨_, rfl, (by show 1 ≤ 1000; decide), fun e he => ⟨e, [x], rfl, rfl, upd_same, fun dx H1 F => ⟨rfl, q e H1 (F.from he) (Ob.mk T_Other rfl he F)⟩⟩⟩⟩⟩⟩⟩⟩⟩⟩⟩
  · exact ⟨_, rfl, rfl, _, rfl, iteN (by decide) ⟨_, rfl, rfl, _, rfl, iteN (by decide) ⟨_, rfl, rfl, _, rfl, iteN (by decide) ⟨_, rfl, rfl, _, rfl, iteN (by decide) ⟨_, rfl, rfl, _, rfl, iteN (by decide) ⟨_, rfl, rfl, _, rfl, iteN (by decide) ⟨_, rfl, rfl, _, rfl, iteN (by decide) ⟨_, rfl, rfl, _, rfl, iteN (by decide) ⟨_, rfl, rfl, _, rfl, iteP rfl ⟨_, rfl, (by show 1 ≤ 1000; decide), fun e he => ⟨e, [x], rfl, rfl, upd_same, fun dx H1 F => ⟨rfl, q e H1 (F.from he) (Ob.mk T_NoLaying rfl he F)⟩⟩⟩⟩⟩⟩⟩⟩⟩⟩⟩⟩
  · exact ⟨_, rfl, rfl, _, rfl, iteN (by decide) ⟨_, rfl, rfl, _, rfl, iteN (by decide) ⟨_, rfl, rfl, _, rfl, iteN (by decide) ⟨_, rfl, rfl, _, rfl, iteN (by decide) ⟨_, rfl, rfl, _, rfl, iteN (by decide) ⟨_, rfl, rfl, _, rfl, iteN (by decide) ⟨_, rfl, rfl, _, rfl, iteN (by decide) ⟨_, rfl, rfl, _, rfl, iteN (by decide) ⟨_, rfl, rfl, _, rfl, iteN (by decide) ⟨_, rfl, rfl, _, rfl, iteP rfl ⟨_, rfl, (by show 1 ≤ 1000; decide), fun e he => ⟨e, [x], rfl, rfl, upd_same, fun dx H1 F => ⟨rfl, q e H1 (F.from he) (Ob.mk T_Lacking rfl he F)⟩⟩⟩⟩⟩⟩⟩⟩⟩⟩⟩⟩⟩
  · exact ⟨_, rfl, rfl, _, rfl, iteN (by decide) ⟨_, rfl, rfl, _, rfl, iteN (by decide) ⟨_, rfl, rfl, _, rfl, iteN (by decide) ⟨_, rfl, rfl, _, rfl, iteN (by decide) ⟨_, rfl, rfl, _, rfl, iteN (by decide) ⟨_, rfl, rfl, _, rfl, iteN (by decide) ⟨_, rfl, rfl, _, rfl, iteN (by decide) ⟨_, rfl, rfl, _, rfl, iteN (by decide) ⟨_, rfl, rfl, _, rfl, iteN (by decide) ⟨_, rfl, rfl, _, rfl, iteN (by decide) ⟨_, rfl, _, rfl, 10, x, rfl, by decide, by decide, q⟩⟩⟩⟩⟩⟩⟩⟩⟩⟩⟩
  · exact ⟨_, rfl, rfl, _, rfl, iteN (by decide) ⟨_, rfl, rfl, _, rfl, iteN (by decide) ⟨_, rfl, rfl, _, rfl, iteN (by decide) ⟨_, rfl, rfl, _, rfl, iteN (by decide) ⟨_, rfl, rfl, _, rfl, iteN (by decide) ⟨_, rfl, rfl, _, rfl, iteN (by decide) ⟨_, rfl, rfl, _, rfl, iteN (by decide) ⟨_, rfl, rfl, _, rfl, iteN (by decide) ⟨_, rfl, rfl, _, rfl, iteN (by decide) ⟨_, rfl, rfl, _, rfl, iteN (by decide) ⟨_, rfl, _, rfl, 11, x, rfl, by decide, by decide, q⟩⟩⟩⟩⟩⟩⟩⟩⟩⟩⟩
  · exact ⟨_, rfl, rfl, _, rfl, iteN (by decide) ⟨_, rfl, rfl, _, rfl, iteN (by decide) ⟨_, rfl, rfl, _, rfl, iteN (by decide) ⟨_, rfl, rfl, _, rfl, iteN (by decide) ⟨_, rfl, rfl, _, rfl, iteN (by decide) ⟨_, rfl, rfl, _, rfl, iteN (by decide) ⟨_, rfl, rfl, _, rfl, iteN (by decide) ⟨_, rfl, rfl, _, rfl, iteN (by decide) ⟨_, rfl, rfl, _, rfl, iteN (by decide) ⟨_, rfl, rfl, _, rfl, iteN (by decide) ⟨_, rfl, _, rfl, 12, x, rfl, by decide, by decide, q⟩⟩⟩⟩⟩⟩⟩⟩⟩⟩⟩
  · exact ⟨_, rfl, rfl, _, rfl, iteN (by decide) ⟨_, rfl, rfl, _, rfl, iteN (by decide) ⟨_, rfl, rfl, _, rfl, iteN (by decide) ⟨_, rfl, rfl, _, rfl, iteN (by decide) ⟨_, rfl, rfl, _, rfl, iteN (by decide) ⟨_, rfl, rfl, _, rfl, iteN (by decide) ⟨_, rfl, rfl, _, rfl, iteN (by decide) ⟨_, rfl, rfl, _, rfl, iteN (by decide) ⟨_, rfl, rfl, _, rfl, iteN (by decide) ⟨_, rfl, rfl, _, rfl, iteN (by decide) ⟨_, rfl, _, rfl, 13, x, rfl, by decide, by decide, q⟩⟩⟩⟩⟩⟩⟩⟩⟩⟩⟩
  · exact ⟨_, rfl, rfl, _, rfl, iteN (by decide) ⟨_, rfl, rfl, _, rfl, iteN (by decide) ⟨_, rfl, rfl, _, rfl, iteN (by decide) ⟨_, rfl, rfl, _, rfl, iteN (by decide) ⟨_, rfl, rfl, _, rfl, iteN (by decide) ⟨_, rfl, rfl, _, rfl, iteN (by decide) ⟨_, rfl, rfl, _, rfl, iteN (by decide) ⟨_, rfl, rfl, _, rfl, iteN (by decide) ⟨_, rfl, rfl, _, rfl, iteN (by decide) ⟨_, rfl, rfl, _, rfl, iteN (by decide) ⟨_, rfl, _, rfl, 14, x, rfl, by decide, by decide, q⟩⟩⟩⟩⟩⟩⟩⟩⟩⟩⟩
  · exact ⟨_, rfl, rfl, _, rfl, iteN (by decide) ⟨_, rfl, rfl, _, rfl, iteN (by decide) ⟨_, rfl, rfl, _, rfl, iteN (by decide) ⟨_, rfl, rfl, _, rfl, iteN (by decide) ⟨_, rfl, rfl, _, rfl, iteN (by decide) ⟨_, rfl, rfl, _, rfl, iteN (by decide) ⟨_, rfl, rfl, _, rfl, iteN (by decide) ⟨_, rfl, rfl, _, rfl, iteN (by decide) ⟨_, rfl, rfl, _, rfl, iteN (by decide) ⟨_, rfl, rfl, _, rfl, iteN (by decide) ⟨_, rfl, _, rfl, 15, x, rfl, by decide, by decide, q⟩⟩⟩⟩⟩⟩⟩⟩⟩⟩⟩
  · exact ⟨_, rfl, rfl, _, rfl, iteN (by decide) ⟨_, rfl, rfl, _, rfl, iteN (by decide) ⟨_, rfl, rfl, _, rfl, iteN (by decide) ⟨_, rfl, rfl, _, rfl, iteN (by decide) ⟨_, rfl, rfl, _, rfl, iteN (by decide) ⟨_, rfl, rfl, _, rfl, iteN (by decide) ⟨_, rfl, rfl, _, rfl, iteN (by decide) ⟨_, rfl, rfl, _, rfl, iteN (by decide) ⟨_, rfl, rfl, _, rfl, iteN (by decide) ⟨_, rfl, rfl, _, rfl, iteN (by decide) ⟨_, rfl, _, rfl, 16, x, rfl, by decide, by decide, q⟩⟩⟩⟩⟩⟩⟩⟩⟩⟩⟩
  · exact ⟨_, rfl, rfl, _, rfl, iteN (by decide) ⟨_, rfl, rfl, _, rfl, iteN (by decide) ⟨_, rfl, rfl, _, rfl, iteN (by decide) ⟨_, rfl, rfl, _, rfl, iteN (by decide) ⟨_, rfl, rfl, _, rfl, iteN (by decide) ⟨_, rfl, rfl, _, rfl, iteN (by decide) ⟨_, rfl, rfl, _, rfl, iteN (by decide) ⟨_, rfl, rfl, _, rfl, iteN (by decide) ⟨_, rfl, rfl, _, rfl, iteN (by decide) ⟨_, rfl, rfl, _, rfl, iteN (by decide) ⟨_, rfl, _, rfl, 17, x, rfl, by decide, by decide, q⟩⟩⟩⟩⟩⟩⟩⟩⟩⟩⟩
  · exact ⟨_, rfl, rfl, _, rfl, iteN (by decide) ⟨_, rfl, rfl, _, rfl, iteN (by decide) ⟨_, rfl, rfl, _, rfl, iteN (by decide) ⟨_, rfl, rfl, _, rfl, iteN (by decide) ⟨_, rfl, rfl, _, rfl, iteN (by decide) ⟨_, rfl, rfl, _, rfl, iteN (by decide) ⟨_, rfl, rfl, _, rfl, iteN (by decide) ⟨_, rfl, rfl, _, rfl, iteN (by decide) ⟨_, rfl, rfl, _, rfl, iteN (by decide) ⟨_, rfl, rfl, _, rfl, iteN (by decide) ⟨_, rfl, _, rfl, 18, x, rfl, by decide, by decide, q⟩⟩⟩⟩⟩⟩⟩⟩⟩⟩⟩
  · exact ⟨_, rfl, rfl, _, rfl, iteN (by decide) ⟨_, rfl, rfl, _, rfl, iteN (by decide) ⟨_, rfl, rfl, _, rfl, iteN (by decide) ⟨_, rfl, rfl, _, rfl, iteN (by decide) ⟨_, rfl, rfl, _, rfl, iteN (by decide) ⟨_, rfl, rfl, _, rfl, iteN (by decide) ⟨_, rfl, rfl, _, rfl, iteN (by decide) ⟨_, rfl, rfl, _, rfl, iteN (by decide) ⟨_, rfl, rfl, _, rfl, iteN (by decide) ⟨_, rfl, rfl, _, rfl, iteN (by decide) ⟨_, rfl, _, rfl, 19, x, rfl, by decide, by decide, q⟩⟩⟩⟩⟩⟩⟩⟩⟩⟩⟩

end
end K05

namespace K05
open PySem L2 PyProof.Rows
abbrev s_law_of_one_more : Stmt := top 34
theorem sc_law_of_one_more : FnScope ["_law_at", "_law_thing_here"] ["_law_at", "_law_thing_here"] (defScope s_law_of_one_more) := ⟨rfl, rfl, rfl, by decide +kernel, rfl, by decide +kernel, by decide +kernel⟩
section
variable {P : Program} {w : World} {K : PySem.W.Frag} {mg : Str → Option Value} {base : Heap}
theorem ok_law_of_one_more {k : Nat} {f : Addr} {fd : FuncData} (F : Fun K "_law_of_one_more" "_law_of_one_more" s_law_of_one_more f fd) (M : Blt mg) {C_RoomError f_RoomError_init : Addr} (T_RoomError : TXB K mg C_RoomError f_RoomError_init) (VI : VInit K) {C_Beyond f_Beyond_init : Addr} (T_Beyond : TX K mg "Beyond" C_Beyond C_RoomError f_Beyond_init ["found"]) {C_Lacking f_Lacking_init : Addr} (T_Lacking : TX K mg "Lacking" C_Lacking C_RoomError f_Lacking_init ["unit"]) {C_LaidTwice f_LaidTwice_init : Addr} (T_LaidTwice : TX K mg "LaidTwice" C_LaidTwice C_RoomError f_LaidTwice_init ["line", "unit"]) {C_Meets f_Meets_init : Addr} (T_Meets : TX K mg "Meets" C_Meets C_RoomError f_Meets_init ["unit", "thing", "second", "another"]) {C_NamedTwice f_NamedTwice_init : Addr} (T_NamedTwice : TX K mg "NamedTwice" C_NamedTwice C_RoomError f_NamedTwice_init ["line", "name"]) {C_NoBudget f_NoBudget_init : Addr} (T_NoBudget : TX K mg "NoBudget" C_NoBudget C_RoomError f_NoBudget_init ["found"]) {C_NoDesk f_NoDesk_init : Addr} (T_NoDesk : TX K mg "NoDesk" C_NoDesk C_RoomError f_NoDesk_init ["line"]) {C_NoInput f_NoInput_init : Addr} (T_NoInput : TX K mg "NoInput" C_NoInput C_RoomError f_NoInput_init ["name"]) {C_NoKeep f_NoKeep_init : Addr} (T_NoKeep : TX K mg "NoKeep" C_NoKeep C_RoomError f_NoKeep_init ["found"]) {C_NoLaying f_NoLaying_init : Addr} (T_NoLaying : TX K mg "NoLaying" C_NoLaying C_RoomError f_NoLaying_init ["line"]) {C_NoLayings f_NoLayings_init : Addr} (T_NoLayings : TX K mg "NoLayings" C_NoLayings C_RoomError f_NoLayings_init ["found"]) {C_NoLine f_NoLine_init : Addr} (T_NoLine : TX K mg "NoLine" C_NoLine C_RoomError f_NoLine_init ["found"]) {C_NoOpen f_NoOpen_init : Addr} (T_NoOpen : TX K mg "NoOpen" C_NoOpen C_RoomError f_NoOpen_init ["found"]) {C_NoPath f_NoPath_init : Addr} (T_NoPath : TX K mg "NoPath" C_NoPath C_RoomError f_NoPath_init ["path"]) {C_NoPlace f_NoPlace_init : Addr} (T_NoPlace : TX K mg "NoPlace" C_NoPlace C_RoomError f_NoPlace_init ["found"]) {C_NoProgram f_NoProgram_init : Addr} (T_NoProgram : TX K mg "NoProgram" C_NoProgram C_RoomError f_NoProgram_init ["line"]) {C_NoRecord f_NoRecord_init : Addr} (T_NoRecord : TX K mg "NoRecord" C_NoRecord C_RoomError f_NoRecord_init ["found"]) {C_NoRoom f_NoRoom_init : Addr} (T_NoRoom : TX K mg "NoRoom" C_NoRoom C_RoomError f_NoRoom_init ["found"]) {C_NoShapes f_NoShapes_init : Addr} (T_NoShapes : TX K mg "NoShapes" C_NoShapes C_RoomError f_NoShapes_init ["line"]) {C_NoThings f_NoThings_init : Addr} (T_NoThings : TX K mg "NoThings" C_NoThings C_RoomError f_NoThings_init ["found"]) {C_NoTurn f_NoTurn_init : Addr} (T_NoTurn : TX K mg "NoTurn" C_NoTurn C_RoomError f_NoTurn_init ["found"]) {C_Other f_Other_init : Addr} (T_Other : TX K mg "Other" C_Other C_RoomError f_Other_init ["found"]) {C_Past f_Past_init : Addr} (T_Past : TX K mg "Past" C_Past C_RoomError f_Past_init ["unit", "thing", "cell"]) {C_TooMuch f_TooMuch_init : Addr} (T_TooMuch : TX K mg "TooMuch" C_TooMuch C_RoomError f_TooMuch_init ["line"]) {C_UnknownShape f_UnknownShape_init : Addr} (T_UnknownShape : TX K mg "UnknownShape" C_UnknownShape C_RoomError f_UnknownShape_init ["line", "name"]) {C_UnknownUnit f_UnknownUnit_init : Addr} (T_UnknownUnit : TX K mg "UnknownUnit" C_UnknownUnit C_RoomError f_UnknownUnit_init ["line", "unit"]) {C_WrongPath f_WrongPath_init : Addr} (T_WrongPath : TX K mg "WrongPath" C_WrongPath C_RoomError f_WrongPath_init ["line", "path"]) {fd_NoProgram_init : FuncData} (D_NoProgram_init : DfI K fd_NoProgram_init ["self", "line"]) (G_NoProgram_init : FnOk P w K mg base CX0 k f_NoProgram_init fd_NoProgram_init ["self", "line"] (spXn C_NoProgram ["line"])) {fd_NoInput_init : FuncData} (D_NoInput_init : DfI K fd_NoInput_init ["self", "name"]) (G_NoInput_init : FnOk P w K mg base CX0 k f_NoInput_init fd_NoInput_init ["self", "name"] (spXn C_NoInput ["name"])) {fd_NoThings_init : FuncData} (D_NoThings_init : DfI K fd_NoThings_init ["self", "found"]) (G_NoThings_init : FnOk P w K mg base CX0 k f_NoThings_init fd_NoThings_init ["self", "found"] (spXn C_NoThings ["found"])) {fd_NoBudget_init : FuncData} (D_NoBudget_init : DfI K fd_NoBudget_init ["self", "found"]) (G_NoBudget_init : FnOk P w K mg base CX0 k f_NoBudget_init fd_NoBudget_init ["self", "found"] (spXn C_NoBudget ["found"])) {fd_NoLine_init : FuncData} (D_NoLine_init : DfI K fd_NoLine_init ["self", "found"]) (G_NoLine_init : FnOk P w K mg base CX0 k f_NoLine_init fd_NoLine_init ["self", "found"] (spXn C_NoLine ["found"])) {fd_NoKeep_init : FuncData} (D_NoKeep_init : DfI K fd_NoKeep_init ["self", "found"]) (G_NoKeep_init : FnOk P w K mg base CX0 k f_NoKeep_init fd_NoKeep_init ["self", "found"] (spXn C_NoKeep ["found"])) {fd_NoLayings_init : FuncData} (D_NoLayings_init : DfI K fd_NoLayings_init ["self", "found"]) (G_NoLayings_init : FnOk P w K mg base CX0 k f_NoLayings_init fd_NoLayings_init ["self", "found"] (spXn C_NoLayings ["found"])) {fd_NoTurn_init : FuncData} (D_NoTurn_init : DfI K fd_NoTurn_init ["self", "found"]) (G_NoTurn_init : FnOk P w K mg base CX0 k f_NoTurn_init fd_NoTurn_init ["self", "found"] (spXn C_NoTurn ["found"])) {fd_NoOpen_init : FuncData} (D_NoOpen_init : DfI K fd_NoOpen_init ["self", "found"]) (G_NoOpen_init : FnOk P w K mg base CX0 k f_NoOpen_init fd_NoOpen_init ["self", "found"] (spXn C_NoOpen ["found"])) {fd_NoDesk_init : FuncData} (D_NoDesk_init : DfI K fd_NoDesk_init ["self", "line"]) (G_NoDesk_init : FnOk P w K mg base CX0 k f_NoDesk_init fd_NoDesk_init ["self", "line"] (spXn C_NoDesk ["line"])) : FnOk P w K mg base CX0 (k + 2) f fd ["_law_at", "_law_thing_here"] (spOneM K [C_NoRoom, C_NoPlace, C_NoShapes, C_UnknownShape, C_NamedTwice, C_TooMuch, C_NoRecord, C_NoPath, C_Beyond, C_Other, C_NoLaying, C_UnknownUnit, C_LaidTwice, C_Lacking, C_Past, C_Meets, C_NoProgram, C_WrongPath, C_NoInput, C_NoThings, C_NoBudget, C_NoLine, C_NoKeep, C_NoLayings, C_NoTurn, C_NoOpen, C_NoDesk]) := by
  refine F.ok sc_law_of_one_more (fun vs H Q E h => ?_) (fun cdv A outer s0 H vs Q E hr0 h => ?_)
  · obtain ⟨n, x, rfl, _⟩ := h; rfl
  obtain ⟨n, x, rfl, hn1, hn, q⟩ := h
  have hr := hr0.mono (Nat.le_succ _)
  refine ⟨_, (pss_cons (ps_if (pt_cmpR op_eq (pv 0) pe_int (nomark _)) (pss_one (ps_ret (pe_makeX T_NoProgram.c G_NoProgram_init hr0 rfl T_NoProgram.m D_NoProgram_init.b .nil pass0 (pa_cons (pv 1) pa_nil)))) pss_nil)
      (pss_cons (ps_if (pt_cmpR op_eq (pv 0) pe_int (nomark _)) (pss_one (ps_ret (pe_makeX T_NoInput.c G_NoInput_init hr0 rfl T_NoInput.m D_NoInput_init.b .nil pass0 (pa_cons (pv 1) pa_nil)))) pss_nil)
      (pss_cons (ps_if (pt_cmpR op_eq (pv 0) pe_int (nomark _)) (pss_one (ps_ret (pe_makeX T_NoThings.c G_NoThings_init hr0 rfl T_NoThings.m D_NoThings_init.b .nil pass0 (pa_cons (pv 1) pa_nil)))) pss_nil)
      (pss_cons (ps_if (pt_cmpR op_eq (pv 0) pe_int (nomark _)) (pss_one (ps_ret (pe_makeX T_NoBudget.c G_NoBudget_init hr0 rfl T_NoBudget.m D_NoBudget_init.b .nil pass0 (pa_cons (pv 1) pa_nil)))) pss_nil)
      (pss_cons (ps_if (pt_cmpR op_eq (pv 0) pe_int (nomark _)) (pss_one (ps_ret (pe_makeX T_NoLine.c G_NoLine_init hr0 rfl T_NoLine.m D_NoLine_init.b .nil pass0 (pa_cons (pv 1) pa_nil)))) pss_nil)
      (pss_cons (ps_if (pt_cmpR op_eq (pv 0) pe_int (nomark _)) (pss_one (ps_ret (pe_makeX T_NoKeep.c G_NoKeep_init hr0 rfl T_NoKeep.m D_NoKeep_init.b .nil pass0 (pa_cons (pv 1) pa_nil)))) pss_nil)
      (pss_cons (ps_if (pt_cmpR op_eq (pv 0) pe_int (nomark _)) (pss_one (ps_ret (pe_makeX T_NoLayings.c G_NoLayings_init hr0 rfl T_NoLayings.m D_NoLayings_init.b .nil pass0 (pa_cons (pv 1) pa_nil)))) pss_nil)
      (pss_cons (ps_if (pt_cmpR op_eq (pv 0) pe_int (nomark _)) (pss_one (ps_ret (pe_makeX T_NoTurn.c G_NoTurn_init hr0 rfl T_NoTurn.m D_NoTurn_init.b .nil pass0 (pa_cons (pv 1) pa_nil)))) pss_nil)
      (pss_cons (ps_if (pt_cmpR op_eq (pv 0) pe_int (nomark _)) (pss_one (ps_ret (pe_makeX T_NoOpen.c G_NoOpen_init hr0 rfl T_NoOpen.m D_NoOpen_init.b .nil pass0 (pa_cons (pv 1) pa_nil)))) pss_nil)
      (pss_one (ps_ret (pe_makeX T_NoDesk.c G_NoDesk_init hr0 rfl T_NoDesk.m D_NoDesk_init.b .nil pass0 (pa_cons (pv 1) pa_nil))))))))))))), ?_⟩
  obtain rfl | rfl | rfl | rfl | rfl | rfl | rfl | rfl | rfl | rfl : n = 10 ∨ n = 11 ∨ n = 12 ∨ n = 13 ∨ n = 14 ∨ n = 15 ∨ n = 16 ∨ n = 17 ∨ n = 18 ∨ n = 19 := by omega
  · exact ⟨_, rfl, rfl, _, rfl, iteP rfl ⟨_, rfl, (by show 1 ≤ 1000; decide), fun e he => ⟨e, [x], rfl, rfl, upd_same, fun dx H1 F => ⟨rfl, q e H1 (F.from he) (Ob.mk T_NoProgram rfl he F)⟩⟩⟩⟩
  · exact ⟨_, rfl, rfl, _, rfl, iteN (by decide) ⟨_, rfl, rfl, _, rfl, iteP rfl ⟨_, rfl, (by show 1 ≤ 1000; decide), fun e he => ⟨e, [x], rfl, rfl, upd_same, fun dx H1 F => ⟨rfl, q e H1 (F.from he) (Ob.mk T_NoInput rfl he F)⟩⟩⟩⟩⟩
  · exact ⟨_, rfl, rfl, _, rfl, iteN (by decide) ⟨_, rfl, rfl, _, rfl, iteN (by decide) ⟨_, rfl, rfl, _, rfl, iteP rfl ⟨_, rfl, (by show 1 ≤ 1000; decide), fun e he => ⟨e, [x], rfl, rfl, upd_same, fun dx H1 F => ⟨rfl, q e H1 (F.from he) (Ob.mk T_NoThings rfl he F)⟩⟩⟩⟩⟩⟩
  · exact ⟨_, rfl, rfl, _, rfl, iteN (by decide) ⟨_, rfl, rfl, _, rfl, iteN (by decide) ⟨_, rfl, rfl, _, rfl, iteN (by decide) ⟨_, rfl, rfl, _, rfl, iteP rfl ⟨_, rfl, (by show 1 ≤ 1000; decide), fun e he => ⟨e, [x], rfl, rfl, upd_same, fun dx H1 F => ⟨rfl, q e H1 (F.from he) (Ob.mk T_NoBudget rfl he F)⟩⟩⟩⟩⟩⟩⟩
  · exact ⟨_, rfl, rfl, _, rfl, iteN (by decide) ⟨_, rfl, rfl, _, rfl, iteN (by decide) ⟨_, rfl, rfl, _, rfl, iteN (by decide) ⟨_, rfl, rfl, _, rfl, iteN (by decide) ⟨_, rfl, rfl, _, rfl, iteP rfl ⟨_, rfl, (by show 1 ≤ 1000; decide), fun e he => ⟨e, [x], rfl, rfl, upd_same, fun dx H1 F => ⟨rfl, q e H1 (F.from he) (Ob.mk T_NoLine rfl he F)⟩⟩⟩⟩⟩⟩⟩⟩
  · exact ⟨_, rfl, rfl, _, rfl, iteN (by decide) ⟨_, rfl, rfl, _, rfl, iteN (by decide) ⟨_, rfl, rfl, _, rfl, iteN (by decide) ⟨_, rfl, rfl, _, rfl, iteN (by decide) ⟨_, rfl, rfl, _, rfl, iteN (by decide) ⟨_, rfl, rfl, _, rfl, iteP rfl ⟨_, rfl, (by show 1 ≤ 1000; decide), fun e he => ⟨e, [x], rfl, rfl, upd_same, fun dx H1 F => ⟨rfl, q e H1 (F.from he) (Ob.mk T_NoKeep rfl he F)⟩⟩⟩⟩⟩⟩⟩⟩⟩
  · exact ⟨_, rfl, rfl, _, rfl, iteN (by decide) ⟨_, rfl, rfl, _, rfl, iteN (by decide) ⟨_, rfl, rfl, _, rfl, iteN (by decide) ⟨_, rfl, rfl, _, rfl, iteN (by decide) ⟨_, rfl, rfl, _, rfl, iteN (by decide) ⟨_, rfl, rfl, _, rfl, iteN (by decide) ⟨_, rfl, rfl, _, rfl, iteP rfl ⟨_, rfl, (by show 1 ≤ 1000; decide), fun e he => ⟨e, [x], rfl, rfl, upd_same, fun dx H1 F => ⟨rfl, q e H1 (F.from he) (Ob.mk T_NoLayings rfl he F)⟩⟩⟩⟩⟩⟩⟩⟩⟩⟩
  · exact ⟨_, rfl, rfl, _, rfl, iteN (by decide) ⟨_, rfl, rfl, _, rfl, iteN (by decide) ⟨_, rfl, rfl, _, rfl, iteN (by decide) ⟨_, rfl, rfl, _, rfl, iteN (by decide) ⟨_, rfl, rfl, _, rfl, iteN (by decide) ⟨_, rfl, rfl, _, rfl, iteN (by decide) ⟨_, rfl, rfl, _, rfl, iteN (by decide) ⟨_, rfl, rfl, _, rfl, iteP rfl ⟨_, rfl, (by show 1 ≤ 1000; decide), fun e he => ⟨e, [x], rfl, rfl, upd_same, fun dx H1 F => ⟨rfl, q e H1 (F.from he) (Ob.mk T_NoTurn rfl he F)⟩⟩⟩⟩⟩⟩⟩⟩⟩⟩⟩
  · exact ⟨_, rfl, rfl, _, rfl, iteN (by decide) ⟨_, rfl, rfl, _, rfl, iteN (by decide) ⟨_, rfl, rfl, _, rfl, iteN (by decide) ⟨_, rfl, rfl, _, rfl, iteN (by decide) ⟨_, rfl, rfl, _, rfl, iteN (by decide) ⟨_, rfl, rfl, _, rfl, iteN (by decide) ⟨_, rfl, rfl, _, rfl, iteN (by decide) ⟨_, rfl, rfl, _, rfl, iteN (by decide) ⟨_, rfl, rfl, _, rfl, iteP rfl ⟨_, rfl, (by show 1 ≤ 1000; decide), fun e he => ⟨e, [x], rfl, rfl, upd_same, fun dx H1 F => ⟨rfl, q e H1 (F.from he) (Ob.mk T_NoOpen rfl he F)⟩⟩⟩⟩⟩⟩⟩⟩⟩⟩⟩⟩
  · exact ⟨_, rfl, rfl, _, rfl, iteN (by decide) ⟨_, rfl, rfl, _, rfl, iteN (by decide) ⟨_, rfl, rfl, _, rfl, iteN (by decide) ⟨_, rfl, rfl, _, rfl, iteN (by decide) ⟨_, rfl, rfl, _, rfl, iteN (by decide) ⟨_, rfl, rfl, _, rfl, iteN (by decide) ⟨_, rfl, rfl, _, rfl, iteN (by decide) ⟨_, rfl, rfl, _, rfl, iteN (by decide) ⟨_, rfl, rfl, _, rfl, iteN (by decide) ⟨_, rfl, (by show 1 ≤ 1000; decide), fun e he => ⟨e, [x], rfl, rfl, upd_same, fun dx H1 F => ⟨rfl, q e H1 (F.from he) (Ob.mk T_NoDesk rfl he F)⟩⟩⟩⟩⟩⟩⟩⟩⟩⟩⟩⟩

end
end K05

namespace K05
open PySem L2 PyProof.Rows
abbrev s_law_of_some : Stmt := top 35
theorem sc_law_of_some : FnScope ["_law_at", "_law_things"] ["_law_at", "_law_things"] (defScope s_law_of_some) := ⟨rfl, rfl, rfl, by decide +kernel, rfl, by decide +kernel, by decide +kernel⟩
section
variable {P : Program} {w : World} {K : PySem.W.Frag} {mg : Str → Option Value} {base : Heap}
theorem ok_law_of_some {k : Nat} {f : Addr} {fd : FuncData} (F : Fun K "_law_of_some" "_law_of_some" s_law_of_some f fd) (M : Blt mg) {C_RoomError f_RoomError_init : Addr} (T_RoomError : TXB K mg C_RoomError f_RoomError_init) (VI : VInit K) {C_Beyond f_Beyond_init : Addr} (T_Beyond : TX K mg "Beyond" C_Beyond C_RoomError f_Beyond_init ["found"]) {C_Lacking f_Lacking_init : Addr} (T_Lacking : TX K mg "Lacking" C_Lacking C_RoomError f_Lacking_init ["unit"]) {C_LaidTwice f_LaidTwice_init : Addr} (T_LaidTwice : TX K mg "LaidTwice" C_LaidTwice C_RoomError f_LaidTwice_init ["line", "unit"]) {C_Meets f_Meets_init : Addr} (T_Meets : TX K mg "Meets" C_Meets C_RoomError f_Meets_init ["unit", "thing", "second", "another"]) {C_NamedTwice f_NamedTwice_init : Addr} (T_NamedTwice : TX K mg "NamedTwice" C_NamedTwice C_RoomError f_NamedTwice_init ["line", "name"]) {C_NoBudget f_NoBudget_init : Addr} (T_NoBudget : TX K mg "NoBudget" C_NoBudget C_RoomError f_NoBudget_init ["found"]) {C_NoDesk f_NoDesk_init : Addr} (T_NoDesk : TX K mg "NoDesk" C_NoDesk C_RoomError f_NoDesk_init ["line"]) {C_NoInput f_NoInput_init : Addr} (T_NoInput : TX K mg "NoInput" C_NoInput C_RoomError f_NoInput_init ["name"]) {C_NoKeep f_NoKeep_init : Addr} (T_NoKeep : TX K mg "NoKeep" C_NoKeep C_RoomError f_NoKeep_init ["found"]) {C_NoLaying f_NoLaying_init : Addr} (T_NoLaying : TX K mg "NoLaying" C_NoLaying C_RoomError f_NoLaying_init ["line"]) {C_NoLayings f_NoLayings_init : Addr} (T_NoLayings : TX K mg "NoLayings" C_NoLayings C_RoomError f_NoLayings_init ["found"]) {C_NoLine f_NoLine_init : Addr} (T_NoLine : TX K mg "NoLine" C_NoLine C_RoomError f_NoLine_init ["found"]) {C_NoOpen f_NoOpen_init : Addr} (T_NoOpen : TX K mg "NoOpen" C_NoOpen C_RoomError f_NoOpen_init ["found"]) {C_NoPath f_NoPath_init : Addr} (T_NoPath : TX K mg "NoPath" C_NoPath C_RoomError f_NoPath_init ["path"]) {C_NoPlace f_NoPlace_init : Addr} (T_NoPlace : TX K mg "NoPlace" C_NoPlace C_RoomError f_NoPlace_init ["found"]) {C_NoProgram f_NoProgram_init : Addr} (T_NoProgram : TX K mg "NoProgram" C_NoProgram C_RoomError f_NoProgram_init ["line"]) {C_NoRecord f_NoRecord_init : Addr} (T_NoRecord : TX K mg "NoRecord" C_NoRecord C_RoomError f_NoRecord_init ["found"]) {C_NoRoom f_NoRoom_init : Addr} (T_NoRoom : TX K mg "NoRoom" C_NoRoom C_RoomError f_NoRoom_init ["found"]) {C_NoShapes f_NoShapes_init : Addr} (T_NoShapes : TX K mg "NoShapes" C_NoShapes C_RoomError f_NoShapes_init ["line"]) {C_NoThings f_NoThings_init : Addr} (T_NoThings : TX K mg "NoThings" C_NoThings C_RoomError f_NoThings_init ["found"]) {C_NoTurn f_NoTurn_init : Addr} (T_NoTurn : TX K mg "NoTurn" C_NoTurn C_RoomError f_NoTurn_init ["found"]) {C_Other f_Other_init : Addr} (T_Other : TX K mg "Other" C_Other C_RoomError f_Other_init ["found"]) {C_Past f_Past_init : Addr} (T_Past : TX K mg "Past" C_Past C_RoomError f_Past_init ["unit", "thing", "cell"]) {C_TooMuch f_TooMuch_init : Addr} (T_TooMuch : TX K mg "TooMuch" C_TooMuch C_RoomError f_TooMuch_init ["line"]) {C_UnknownShape f_UnknownShape_init : Addr} (T_UnknownShape : TX K mg "UnknownShape" C_UnknownShape C_RoomError f_UnknownShape_init ["line", "name"]) {C_UnknownUnit f_UnknownUnit_init : Addr} (T_UnknownUnit : TX K mg "UnknownUnit" C_UnknownUnit C_RoomError f_UnknownUnit_init ["line", "unit"]) {C_WrongPath f_WrongPath_init : Addr} (T_WrongPath : TX K mg "WrongPath" C_WrongPath C_RoomError f_WrongPath_init ["line", "path"]) {fd_UnknownShape_init : FuncData} (D_UnknownShape_init : DfI K fd_UnknownShape_init ["self", "line", "name"]) (G_UnknownShape_init : FnOk P w K mg base CX0 k f_UnknownShape_init fd_UnknownShape_init ["self", "line", "name"] (spXn C_UnknownShape ["line", "name"])) {fd_NamedTwice_init : FuncData} (D_NamedTwice_init : DfI K fd_NamedTwice_init ["self", "line", "name"]) (G_NamedTwice_init : FnOk P w K mg base CX0 k f_NamedTwice_init fd_NamedTwice_init ["self", "line", "name"] (spXn C_NamedTwice ["line", "name"])) {fd_UnknownUnit_init : FuncData} (D_UnknownUnit_init : DfI K fd_UnknownUnit_init ["self", "line", "unit"]) (G_UnknownUnit_init : FnOk P w K mg base CX0 k f_UnknownUnit_init fd_UnknownUnit_init ["self", "line", "unit"] (spXn C_UnknownUnit ["line", "unit"])) {fd_LaidTwice_init : FuncData} (D_LaidTwice_init : DfI K fd_LaidTwice_init ["self", "line", "unit"]) (G_LaidTwice_init : FnOk P w K mg base CX0 k f_LaidTwice_init fd_LaidTwice_init ["self", "line", "unit"] (spXn C_LaidTwice ["line", "unit"])) {fd_Past_init : FuncData} (D_Past_init : DfI K fd_Past_init ["self", "unit", "thing", "cell"]) (G_Past_init : FnOk P w K mg base CX0 k f_Past_init fd_Past_init ["self", "unit", "thing", "cell"] (spXn C_Past ["unit", "thing", "cell"])) {fd_Meets_init : FuncData} (D_Meets_init : DfI K fd_Meets_init ["self", "unit", "thing", "second", "another"]) (G_Meets_init : FnOk P w K mg base CX0 k f_Meets_init fd_Meets_init ["self", "unit", "thing", "second", "another"] (spXn C_Meets ["unit", "thing", "second", "another"])) {fd_WrongPath_init : FuncData} (D_WrongPath_init : DfI K fd_WrongPath_init ["self", "line", "path"]) (G_WrongPath_init : FnOk P w K mg base CX0 k f_WrongPath_init fd_WrongPath_init ["self", "line", "path"] (spXn C_WrongPath ["line", "path"])) : FnOk P w K mg base CX0 (k + 2) f fd ["_law_at", "_law_things"] (spSome K [C_NoRoom, C_NoPlace, C_NoShapes, C_UnknownShape, C_NamedTwice, C_TooMuch, C_NoRecord, C_NoPath, C_Beyond, C_Other, C_NoLaying, C_UnknownUnit, C_LaidTwice, C_Lacking, C_Past, C_Meets, C_NoProgram, C_WrongPath, C_NoInput, C_NoThings, C_NoBudget, C_NoLine, C_NoKeep, C_NoLayings, C_NoTurn, C_NoOpen, C_NoDesk]) := by
  refine F.ok sc_law_of_some (fun vs H Q E h => ?_) (fun cdv A outer s0 H vs Q E hr0 h => ?_)
  · obtain ⟨n, a, x0, x1, x2, x3, rfl, _⟩ := h; rfl
  obtain ⟨n, a, x0, x1, x2, x3, rfl, hn, hS, q⟩ := h
  have hr := hr0.mono (Nat.le_succ _)
  refine ⟨_, (pss_cons (ps_if (pt_cmpR op_eq (pv 0) pe_int (nomark _)) (pss_one (ps_ret (pe_makeX T_UnknownShape.c G_UnknownShape_init hr0 rfl T_UnknownShape.m D_UnknownShape_init.b .nil pass0 (pa_cons (pe_ix ix_list (pv 1) pe_int (fun _ _ => rfl)) (pa_cons (pe_ix ix_list (pv 1) pe_int (fun _ _ => rfl)) pa_nil))))) pss_nil)
      (pss_cons (ps_if (pt_cmpR op_eq (pv 0) pe_int (nomark _)) (pss_one (ps_ret (pe_makeX T_NamedTwice.c G_NamedTwice_init hr0 rfl T_NamedTwice.m D_NamedTwice_init.b .nil pass0 (pa_cons (pe_ix ix_list (pv 1) pe_int (fun _ _ => rfl)) (pa_cons (pe_ix ix_list (pv 1) pe_int (fun _ _ => rfl)) pa_nil))))) pss_nil)
      (pss_cons (ps_if (pt_cmpR op_eq (pv 0) pe_int (nomark _)) (pss_one (ps_ret (pe_makeX T_UnknownUnit.c G_UnknownUnit_init hr0 rfl T_UnknownUnit.m D_UnknownUnit_init.b .nil pass0 (pa_cons (pe_ix ix_list (pv 1) pe_int (fun _ _ => rfl)) (pa_cons (pe_ix ix_list (pv 1) pe_int (fun _ _ => rfl)) pa_nil))))) pss_nil)
      (pss_cons (ps_if (pt_cmpR op_eq (pv 0) pe_int (nomark _)) (pss_one (ps_ret (pe_makeX T_LaidTwice.c G_LaidTwice_init hr0 rfl T_LaidTwice.m D_LaidTwice_init.b .nil pass0 (pa_cons (pe_ix ix_list (pv 1) pe_int (fun _ _ => rfl)) (pa_cons (pe_ix ix_list (pv 1) pe_int (fun _ _ => rfl)) pa_nil))))) pss_nil)
      (pss_cons (ps_if (pt_cmpR op_eq (pv 0) pe_int (nomark _)) (pss_one (ps_ret (pe_makeX T_Past.c G_Past_init hr0 rfl T_Past.m D_Past_init.b .nil pass0 (pa_cons (pe_ix ix_list (pv 1) pe_int (fun _ _ => rfl)) (pa_cons (pe_ix ix_list (pv 1) pe_int (fun _ _ => rfl)) (pa_cons (pe_ix ix_list (pv 1) pe_int (fun _ _ => rfl)) pa_nil)))))) pss_nil)
      (pss_cons (ps_if (pt_cmpR op_eq (pv 0) pe_int (nomark _)) (pss_one (ps_ret (pe_makeX T_Meets.c G_Meets_init hr0 rfl T_Meets.m D_Meets_init.b .nil pass0 (pa_cons (pe_ix ix_list (pv 1) pe_int (fun _ _ => rfl)) (pa_cons (pe_ix ix_list (pv 1) pe_int (fun _ _ => rfl)) (pa_cons (pe_ix ix_list (pv 1) pe_int (fun _ _ => rfl)) (pa_cons (pe_ix ix_list (pv 1) pe_int (fun _ _ => rfl)) pa_nil))))))) pss_nil)
      (pss_one (ps_ret (pe_makeX T_WrongPath.c G_WrongPath_init hr0 rfl T_WrongPath.m D_WrongPath_init.b .nil pass0 (pa_cons (pe_ix ix_list (pv 1) pe_int (fun _ _ => rfl)) (pa_cons (pe_ix ix_list (pv 1) pe_int (fun _ _ => rfl)) pa_nil))))))))))), ?_⟩
  obtain rfl | rfl | rfl | rfl | rfl | rfl | rfl : n = 0 ∨ n = 1 ∨ n = 2 ∨ n = 3 ∨ n = 4 ∨ n = 5 ∨ n = 6 := by omega
  · exact ⟨_, rfl, rfl, _, rfl, iteP rfl ⟨_, rfl, a, _, _, _, rfl, rfl, hS, rfl, _, rfl, a, _, _, _, rfl, rfl, hS, rfl, (by show 2 ≤ 1000; decide), fun e he => ⟨e, [x0, x1], rfl, rfl, upd_same, fun dx H1 F => ⟨rfl, q e H1 (F.from he) (Ob.mk T_UnknownShape rfl he F)⟩⟩⟩⟩
  · exact ⟨_, rfl, rfl, _, rfl, iteN (by decide) ⟨_, rfl, rfl, _, rfl, iteP rfl ⟨_, rfl, a, _, _, _, rfl, rfl, hS, rfl, _, rfl, a, _, _, _, rfl, rfl, hS, rfl, (by show 2 ≤ 1000; decide), fun e he => ⟨e, [x0, x1], rfl, rfl, upd_same, fun dx H1 F => ⟨rfl, q e H1 (F.from he) (Ob.mk T_NamedTwice rfl he F)⟩⟩⟩⟩⟩
  · exact ⟨_, rfl, rfl, _, rfl, iteN (by decide) ⟨_, rfl, rfl, _, rfl, iteN (by decide) ⟨_, rfl, rfl, _, rfl, iteP rfl ⟨_, rfl, a, _, _, _, rfl, rfl, hS, rfl, _, rfl, a, _, _, _, rfl, rfl, hS, rfl, (by show 2 ≤ 1000; decide), fun e he => ⟨e, [x0, x1], rfl, rfl, upd_same, fun dx H1 F => ⟨rfl, q e H1 (F.from he) (Ob.mk T_UnknownUnit rfl he F)⟩⟩⟩⟩⟩⟩
  · exact ⟨_, rfl, rfl, _, rfl, iteN (by decide) ⟨_, rfl, rfl, _, rfl, iteN (by decide) ⟨_, rfl, rfl, _, rfl, iteN (by decide) ⟨_, rfl, rfl, _, rfl, iteP rfl ⟨_, rfl, a, _, _, _, rfl, rfl, hS, rfl, _, rfl, a, _, _, _, rfl, rfl, hS, rfl, (by show 2 ≤ 1000; decide), fun e he => ⟨e, [x0, x1], rfl, rfl, upd_same, fun dx H1 F => ⟨rfl, q e H1 (F.from he) (Ob.mk T_LaidTwice rfl he F)⟩⟩⟩⟩⟩⟩⟩
  · exact ⟨_, rfl, rfl, _, rfl, iteN (by decide) ⟨_, rfl, rfl, _, rfl, iteN (by decide) ⟨_, rfl, rfl, _, rfl, iteN (by decide) ⟨_, rfl, rfl, _, rfl, iteN (by decide) ⟨_, rfl, rfl, _, rfl, iteP rfl ⟨_, rfl, a, _, _, _, rfl, rfl, hS, rfl, _, rfl, a, _, _, _, rfl, rfl, hS, rfl, _, rfl, a, _, _, _, rfl, rfl, hS, rfl, (by show 3 ≤ 1000; decide), fun e he => ⟨e, [x0, x1, x2], rfl, rfl, upd_same, fun dx H1 F => ⟨rfl, q e H1 (F.from he) (Ob.mk T_Past rfl he F)⟩⟩⟩⟩⟩⟩⟩⟩
  · exact ⟨_, rfl, rfl, _, rfl, iteN (by decide) ⟨_, rfl, rfl, _, rfl, iteN (by decide) ⟨_, rfl, rfl, _, rfl, iteN (by decide) ⟨_, rfl, rfl, _, rfl, iteN (by decide) ⟨_, rfl, rfl, _, rfl, iteN (by decide) ⟨_, rfl, rfl, _, rfl, iteP rfl ⟨_, rfl, a, _, _, _, rfl, rfl, hS, rfl, _, rfl, a, _, _, _, rfl, rfl, hS, rfl, _, rfl, a, _, _, _, rfl, rfl, hS, rfl, _, rfl, a, _, _, _, rfl, rfl, hS, rfl, (by show 4 ≤ 1000; decide), fun e he => ⟨e, [x0, x1, x2, x3], rfl, rfl, upd_same, fun dx H1 F => ⟨rfl, q e H1 (F.from he) (Ob.mk T_Meets rfl he F)⟩⟩⟩⟩⟩⟩⟩⟩⟩
  · exact ⟨_, rfl, rfl, _, rfl, iteN (by decide) ⟨_, rfl, rfl, _, rfl, iteN (by decide) ⟨_, rfl, rfl, _, rfl, iteN (by decide) ⟨_, rfl, rfl, _, rfl, iteN (by decide) ⟨_, rfl, rfl, _, rfl, iteN (by decide) ⟨_, rfl, rfl, _, rfl, iteN (by decide) ⟨_, rfl, a, _, _, _, rfl, rfl, hS, rfl, _, rfl, a, _, _, _, rfl, rfl, hS, rfl, (by show 2 ≤ 1000; decide), fun e he => ⟨e, [x0, x1], rfl, rfl, upd_same, fun dx H1 F => ⟨rfl, q e H1 (F.from he) (Ob.mk T_WrongPath rfl he F)⟩⟩⟩⟩⟩⟩⟩⟩⟩

end
end K05

namespace K05
open PySem L2 PyProof.Rows
abbrev s_law_kinds : Stmt := top 36
theorem sc_law_kinds : FnScope ["_law_e", "_law_kinds_here"] ["_law_e"] (defScope s_law_kinds) := ⟨rfl, rfl, rfl, by decide +kernel, rfl, by decide +kernel, by decide +kernel⟩
section
variable {P : Program} {w : World} {K : PySem.W.Frag} {mg : Str → Option Value} {base : Heap}
theorem ok_law_kinds {k : Nat} {f : Addr} {fd : FuncData} (F : Fun K "_law_kinds" "_law_kinds" s_law_kinds f fd) (M : Blt mg) {C_RoomError f_RoomError_init : Addr} (T_RoomError : TXB K mg C_RoomError f_RoomError_init) (VI : VInit K) {C_Beyond f_Beyond_init : Addr} (T_Beyond : TX K mg "Beyond" C_Beyond C_RoomError f_Beyond_init ["found"]) {C_Lacking f_Lacking_init : Addr} (T_Lacking : TX K mg "Lacking" C_Lacking C_RoomError f_Lacking_init ["unit"]) {C_LaidTwice f_LaidTwice_init : Addr} (T_LaidTwice : TX K mg "LaidTwice" C_LaidTwice C_RoomError f_LaidTwice_init ["line", "unit"]) {C_Meets f_Meets_init : Addr} (T_Meets : TX K mg "Meets" C_Meets C_RoomError f_Meets_init ["unit", "thing", "second", "another"]) {C_NamedTwice f_NamedTwice_init : Addr} (T_NamedTwice : TX K mg "NamedTwice" C_NamedTwice C_RoomError f_NamedTwice_init ["line", "name"]) {C_NoBudget f_NoBudget_init : Addr} (T_NoBudget : TX K mg "NoBudget" C_NoBudget C_RoomError f_NoBudget_init ["found"]) {C_NoDesk f_NoDesk_init : Addr} (T_NoDesk : TX K mg "NoDesk" C_NoDesk C_RoomError f_NoDesk_init ["line"]) {C_NoInput f_NoInput_init : Addr} (T_NoInput : TX K mg "NoInput" C_NoInput C_RoomError f_NoInput_init ["name"]) {C_NoKeep f_NoKeep_init : Addr} (T_NoKeep : TX K mg "NoKeep" C_NoKeep C_RoomError f_NoKeep_init ["found"]) {C_NoLaying f_NoLaying_init : Addr} (T_NoLaying : TX K mg "NoLaying" C_NoLaying C_RoomError f_NoLaying_init ["line"]) {C_NoLayings f_NoLayings_init : Addr} (T_NoLayings : TX K mg "NoLayings" C_NoLayings C_RoomError f_NoLayings_init ["found"]) {C_NoLine f_NoLine_init : Addr} (T_NoLine : TX K mg "NoLine" C_NoLine C_RoomError f_NoLine_init ["found"]) {C_NoOpen f_NoOpen_init : Addr} (T_NoOpen : TX K mg "NoOpen" C_NoOpen C_RoomError f_NoOpen_init ["found"]) {C_NoPath f_NoPath_init : Addr} (T_NoPath : TX K mg "NoPath" C_NoPath C_RoomError f_NoPath_init ["path"]) {C_NoPlace f_NoPlace_init : Addr} (T_NoPlace : TX K mg "NoPlace" C_NoPlace C_RoomError f_NoPlace_init ["found"]) {C_NoProgram f_NoProgram_init : Addr} (T_NoProgram : TX K mg "NoProgram" C_NoProgram C_RoomError f_NoProgram_init ["line"]) {C_NoRecord f_NoRecord_init : Addr} (T_NoRecord : TX K mg "NoRecord" C_NoRecord C_RoomError f_NoRecord_init ["found"]) {C_NoRoom f_NoRoom_init : Addr} (T_NoRoom : TX K mg "NoRoom" C_NoRoom C_RoomError f_NoRoom_init ["found"]) {C_NoShapes f_NoShapes_init : Addr} (T_NoShapes : TX K mg "NoShapes" C_NoShapes C_RoomError f_NoShapes_init ["line"]) {C_NoThings f_NoThings_init : Addr} (T_NoThings : TX K mg "NoThings" C_NoThings C_RoomError f_NoThings_init ["found"]) {C_NoTurn f_NoTurn_init : Addr} (T_NoTurn : TX K mg "NoTurn" C_NoTurn C_RoomError f_NoTurn_init ["found"]) {C_Other f_Other_init : Addr} (T_Other : TX K mg "Other" C_Other C_RoomError f_Other_init ["found"]) {C_Past f_Past_init : Addr} (T_Past : TX K mg "Past" C_Past C_RoomError f_Past_init ["unit", "thing", "cell"]) {C_TooMuch f_TooMuch_init : Addr} (T_TooMuch : TX K mg "TooMuch" C_TooMuch C_RoomError f_TooMuch_init ["line"]) {C_UnknownShape f_UnknownShape_init : Addr} (T_UnknownShape : TX K mg "UnknownShape" C_UnknownShape C_RoomError f_UnknownShape_init ["line", "name"]) {C_UnknownUnit f_UnknownUnit_init : Addr} (T_UnknownUnit : TX K mg "UnknownUnit" C_UnknownUnit C_RoomError f_UnknownUnit_init ["line", "unit"]) {C_WrongPath f_WrongPath_init : Addr} (T_WrongPath : TX K mg "WrongPath" C_WrongPath C_RoomError f_WrongPath_init ["line", "path"]) (KN : Kin K C_RoomError [C_NoRoom, C_NoPlace, C_NoShapes, C_UnknownShape, C_NamedTwice, C_TooMuch, C_NoRecord, C_NoPath, C_Beyond, C_Other, C_NoLaying, C_UnknownUnit, C_LaidTwice, C_Lacking, C_Past, C_Meets, C_NoProgram, C_WrongPath, C_NoInput, C_NoThings, C_NoBudget, C_NoLine, C_NoKeep, C_NoLayings, C_NoTurn, C_NoOpen, C_NoDesk]) : FnOk P w K mg base CX0 (k + 2) f fd ["_law_e"] (spKinds K [C_NoRoom, C_NoPlace, C_NoShapes, C_UnknownShape, C_NamedTwice, C_TooMuch, C_NoRecord, C_NoPath, C_Beyond, C_Other, C_NoLaying, C_UnknownUnit, C_LaidTwice, C_Lacking, C_Past, C_Meets, C_NoProgram, C_WrongPath, C_NoInput, C_NoThings, C_NoBudget, C_NoLine, C_NoKeep, C_NoLayings, C_NoTurn, C_NoOpen, C_NoDesk]) := by
  refine F.ok sc_law_kinds (fun vs H Q E h => ?_) (fun cdv A outer s0 H vs Q E hr0 h => ?_)
  · obtain ⟨e, c, fs, rfl, _⟩ := h; rfl
  obtain ⟨e, c, fs, rfl, ob, q⟩ := h
  have hr := hr0.mono (Nat.le_succ _)
  refine ⟨_, (pss_cons (ps_set (i := 1) sc_law_kinds.nd rfl (by first | exact Or.inl rfl | exact Or.inr rfl) (pe_lst (pa_cons (pe_callB (call_isE (K := K) rfl) rfl M.isinstance boot_isinstance (pa_cons (pv 0) (pa_cons (pe_glob (v := .ref C_NoRoom) rfl T_NoRoom.m rfl) pa_nil))) (pa_cons (pe_callB (call_isE (K := K) rfl) rfl M.isinstance boot_isinstance (pa_cons (pv 0) (pa_cons (pe_glob (v := .ref C_NoPlace) rfl T_NoPlace.m rfl) pa_nil))) (pa_cons (pe_callB (call_isE (K := K) rfl) rfl M.isinstance boot_isinstance (pa_cons (pv 0) (pa_cons (pe_glob (v := .ref C_NoShapes) rfl T_NoShapes.m rfl) pa_nil))) (pa_cons (pe_callB (call_isE (K := K) rfl) rfl M.isinstance boot_isinstance (pa_cons (pv 0) (pa_cons (pe_glob (v := .ref C_UnknownShape) rfl T_UnknownShape.m rfl) pa_nil))) pa_nil))))))
      (pss_cons (ps_set (i := 1) sc_law_kinds.nd rfl (by first | exact Or.inl rfl | exact Or.inr rfl) (pe_op op_cat (pv 1) (pe_lst (pa_cons (pe_callB (call_isE (K := K) rfl) rfl M.isinstance boot_isinstance (pa_cons (pv 0) (pa_cons (pe_glob (v := .ref C_NamedTwice) rfl T_NamedTwice.m rfl) pa_nil))) (pa_cons (pe_callB (call_isE (K := K) rfl) rfl M.isinstance boot_isinstance (pa_cons (pv 0) (pa_cons (pe_glob (v := .ref C_TooMuch) rfl T_TooMuch.m rfl) pa_nil))) (pa_cons (pe_callB (call_isE (K := K) rfl) rfl M.isinstance boot_isinstance (pa_cons (pv 0) (pa_cons (pe_glob (v := .ref C_NoRecord) rfl T_NoRecord.m rfl) pa_nil))) (pa_cons (pe_callB (call_isE (K := K) rfl) rfl M.isinstance boot_isinstance (pa_cons (pv 0) (pa_cons (pe_glob (v := .ref C_NoPath) rfl T_NoPath.m rfl) pa_nil))) pa_nil)))))))
      (pss_cons (ps_set (i := 1) sc_law_kinds.nd rfl (by first | exact Or.inl rfl | exact Or.inr rfl) (pe_op op_cat (pv 1) (pe_lst (pa_cons (pe_callB (call_isE (K := K) rfl) rfl M.isinstance boot_isinstance (pa_cons (pv 0) (pa_cons (pe_glob (v := .ref C_Beyond) rfl T_Beyond.m rfl) pa_nil))) (pa_cons (pe_callB (call_isE (K := K) rfl) rfl M.isinstance boot_isinstance (pa_cons (pv 0) (pa_cons (pe_glob (v := .ref C_Other) rfl T_Other.m rfl) pa_nil))) (pa_cons (pe_callB (call_isE (K := K) rfl) rfl M.isinstance boot_isinstance (pa_cons (pv 0) (pa_cons (pe_glob (v := .ref C_NoLaying) rfl T_NoLaying.m rfl) pa_nil))) (pa_cons (pe_callB (call_isE (K := K) rfl) rfl M.isinstance boot_isinstance (pa_cons (pv 0) (pa_cons (pe_glob (v := .ref C_UnknownUnit) rfl T_UnknownUnit.m rfl) pa_nil))) pa_nil)))))))
      (pss_cons (ps_set (i := 1) sc_law_kinds.nd rfl (by first | exact Or.inl rfl | exact Or.inr rfl) (pe_op op_cat (pv 1) (pe_lst (pa_cons (pe_callB (call_isE (K := K) rfl) rfl M.isinstance boot_isinstance (pa_cons (pv 0) (pa_cons (pe_glob (v := .ref C_LaidTwice) rfl T_LaidTwice.m rfl) pa_nil))) (pa_cons (pe_callB (call_isE (K := K) rfl) rfl M.isinstance boot_isinstance (pa_cons (pv 0) (pa_cons (pe_glob (v := .ref C_Lacking) rfl T_Lacking.m rfl) pa_nil))) (pa_cons (pe_callB (call_isE (K := K) rfl) rfl M.isinstance boot_isinstance (pa_cons (pv 0) (pa_cons (pe_glob (v := .ref C_Past) rfl T_Past.m rfl) pa_nil))) (pa_cons (pe_callB (call_isE (K := K) rfl) rfl M.isinstance boot_isinstance (pa_cons (pv 0) (pa_cons (pe_glob (v := .ref C_Meets) rfl T_Meets.m rfl) pa_nil))) pa_nil)))))))
      (pss_cons (ps_set (i := 1) sc_law_kinds.nd rfl (by first | exact Or.inl rfl | exact Or.inr rfl) (pe_op op_cat (pv 1) (pe_lst (pa_cons (pe_callB (call_isE (K := K) rfl) rfl M.isinstance boot_isinstance (pa_cons (pv 0) (pa_cons (pe_glob (v := .ref C_NoProgram) rfl T_NoProgram.m rfl) pa_nil))) (pa_cons (pe_callB (call_isE (K := K) rfl) rfl M.isinstance boot_isinstance (pa_cons (pv 0) (pa_cons (pe_glob (v := .ref C_WrongPath) rfl T_WrongPath.m rfl) pa_nil))) (pa_cons (pe_callB (call_isE (K := K) rfl) rfl M.isinstance boot_isinstance (pa_cons (pv 0) (pa_cons (pe_glob (v := .ref C_NoInput) rfl T_NoInput.m rfl) pa_nil))) pa_nil))))))
      (pss_cons (ps_set (i := 1) sc_law_kinds.nd rfl (by first | exact Or.inl rfl | exact Or.inr rfl) (pe_op op_cat (pv 1) (pe_lst (pa_cons (pe_callB (call_isE (K := K) rfl) rfl M.isinstance boot_isinstance (pa_cons (pv 0) (pa_cons (pe_glob (v := .ref C_NoThings) rfl T_NoThings.m rfl) pa_nil))) (pa_cons (pe_callB (call_isE (K := K) rfl) rfl M.isinstance boot_isinstance (pa_cons (pv 0) (pa_cons (pe_glob (v := .ref C_NoBudget) rfl T_NoBudget.m rfl) pa_nil))) (pa_cons (pe_callB (call_isE (K := K) rfl) rfl M.isinstance boot_isinstance (pa_cons (pv 0) (pa_cons (pe_glob (v := .ref C_NoLine) rfl T_NoLine.m rfl) pa_nil))) (pa_cons (pe_callB (call_isE (K := K) rfl) rfl M.isinstance boot_isinstance (pa_cons (pv 0) (pa_cons (pe_glob (v := .ref C_NoKeep) rfl T_NoKeep.m rfl) pa_nil))) pa_nil)))))))
      (pss_cons (ps_expr (pe_bm PySem.F.plainAttrs_list PySem.F.slot_list_append PySem.F.type_list_append mt_append (pv 1) (pa_cons (pe_callB (call_isE (K := K) rfl) rfl M.isinstance boot_isinstance (pa_cons (pv 0) (pa_cons (pe_glob (v := .ref C_NoLayings) rfl T_NoLayings.m rfl) pa_nil))) pa_nil)))
      (pss_cons (ps_set (i := 1) sc_law_kinds.nd rfl (by first | exact Or.inl rfl | exact Or.inr rfl) (pe_op op_cat (pv 1) (pe_lst (pa_cons (pe_callB (call_isE (K := K) rfl) rfl M.isinstance boot_isinstance (pa_cons (pv 0) (pa_cons (pe_glob (v := .ref C_NoTurn) rfl T_NoTurn.m rfl) pa_nil))) (pa_cons (pe_callB (call_isE (K := K) rfl) rfl M.isinstance boot_isinstance (pa_cons (pv 0) (pa_cons (pe_glob (v := .ref C_NoOpen) rfl T_NoOpen.m rfl) pa_nil))) (pa_cons (pe_callB (call_isE (K := K) rfl) rfl M.isinstance boot_isinstance (pa_cons (pv 0) (pa_cons (pe_glob (v := .ref C_NoDesk) rfl T_NoDesk.m rfl) pa_nil))) pa_nil))))))
      (pss_one (ps_ret (pv 1))))))))))), ?_⟩
  obtain ⟨C, dx, R', fI, hc, he, hX, hcl, hxc, hn⟩ := ob
  have kd := KN.at hc
  have hEx : Exc K H e C fs := ⟨dx, R', fI, .inr he, hX, hcl⟩
  refine ⟨_, rfl, e, C, _, _, _, rfl, hEx, kd 0 _ rfl, _, rfl, e, C, _, _, _, rfl, hEx, kd 1 _ rfl, _, rfl, e, C, _, _, _, rfl, hEx, kd 2 _ rfl, _, rfl, e, C, _, _, _, rfl, hEx, kd 3 _ rfl, (by show 4 ≤ sizeLine; decide), ?_⟩; o_unpack p0
  have hEx := Exc.same hEx (by assumption)
  refine ⟨_, rfl, _, rfl, e, C, _, _, _, rfl, hEx, kd 4 _ rfl, _, rfl, e, C, _, _, _, rfl, hEx, kd 5 _ rfl, _, rfl, e, C, _, _, _, rfl, hEx, kd 6 _ rfl, _, rfl, e, C, _, _, _, rfl, hEx, kd 7 _ rfl, (by show 4 ≤ sizeLine; decide), ?_⟩; o_unpack q1
  have hEx := Exc.same hEx (by assumption)
  refine ⟨p0, q1, _, _, rfl, rfl, (by walk_at "hp"), (by assumption), (by show 8 ≤ sizeLine; decide), ?_⟩; o_unpack p1
  have hEx := Exc.same hEx (by assumption)
  refine ⟨_, rfl, _, rfl, e, C, _, _, _, rfl, hEx, kd 8 _ rfl, _, rfl, e, C, _, _, _, rfl, hEx, kd 9 _ rfl, _, rfl, e, C, _, _, _, rfl, hEx, kd 10 _ rfl, _, rfl, e, C, _, _, _, rfl, hEx, kd 11 _ rfl, (by show 4 ≤ sizeLine; decide), ?_⟩; o_unpack q2
  have hEx := Exc.same hEx (by assumption)
  refine ⟨p1, q2, _, _, rfl, rfl, (by walk_at "hp"), (by assumption), (by show 12 ≤ sizeLine; decide), ?_⟩; o_unpack p2
  have hEx := Exc.same hEx (by assumption)
  refine ⟨_, rfl, _, rfl, e, C, _, _, _, rfl, hEx, kd 12 _ rfl, _, rfl, e, C, _, _, _, rfl, hEx, kd 13 _ rfl, _, rfl, e, C, _, _, _, rfl, hEx, kd 14 _ rfl, _, rfl, e, C, _, _, _, rfl, hEx, kd 15 _ rfl, (by show 4 ≤ sizeLine; decide), ?_⟩; o_unpack q3
  have hEx := Exc.same hEx (by assumption)
  refine ⟨p2, q3, _, _, rfl, rfl, (by walk_at "hp"), (by assumption), (by show 16 ≤ sizeLine; decide), ?_⟩; o_unpack p3
  have hEx := Exc.same hEx (by assumption)
  refine ⟨_, rfl, _, rfl, e, C, _, _, _, rfl, hEx, kd 16 _ rfl, _, rfl, e, C, _, _, _, rfl, hEx, kd 17 _ rfl, _, rfl, e, C, _, _, _, rfl, hEx, kd 18 _ rfl, (by show 3 ≤ sizeLine; decide), ?_⟩; o_unpack q4
  have hEx := Exc.same hEx (by assumption)
  refine ⟨p3, q4, _, _, rfl, rfl, (by walk_at "hp"), (by assumption), (by show 19 ≤ sizeLine; decide), ?_⟩; o_unpack p4
  have hEx := Exc.same hEx (by assumption)
  refine ⟨_, rfl, _, rfl, e, C, _, _, _, rfl, hEx, kd 19 _ rfl, _, rfl, e, C, _, _, _, rfl, hEx, kd 20 _ rfl, _, rfl, e, C, _, _, _, rfl, hEx, kd 21 _ rfl, _, rfl, e, C, _, _, _, rfl, hEx, kd 22 _ rfl, (by show 4 ≤ sizeLine; decide), ?_⟩
  intro q5 h_q5
  generalize eX : upd _ q5 _ = H5
  obtain ⟨g_q5, k_q5⟩ := new_facts eX h_q5
  clear eX
  have hEx := Exc.same hEx g_q5
  refine ⟨p4, q5, _, _, rfl, rfl, (by walk_at "hp"), k_q5, (by show 23 ≤ sizeLine; decide), ?_⟩
  intro p5 h_p5
  have hEx6 : ∀ o, Exc K (upd H5 p5 o) e C fs := fun o => Exc.same hEx (same_new h_p5 o)
  refine ⟨_, rfl, .inl ⟨rfl, _, SqL.of upd_same⟩, _, rfl, e, C, _, _, _, rfl, hEx6 _, kd 23 _ rfl, p5, _, _, rfl, rfl, upd_same, (by show 23 < sizeLine; decide), ?_⟩
  rw [upd_upd]
  generalize eX : upd _ p5 _ = H6
  obtain ⟨g_p5, k_p5⟩ := new_facts eX h_p5
  clear eX
  have hEx := Exc.same hEx g_p5
  refine ⟨_, rfl, _, rfl, e, C, _, _, _, rfl, hEx, kd 24 _ rfl, _, rfl, e, C, _, _, _, rfl, hEx, kd 25 _ rfl, _, rfl, e, C, _, _, _, rfl, hEx, kd 26 _ rfl, (by show 3 ≤ sizeLine; decide), ?_⟩
  intro q6 h_q6
  generalize eX : upd _ q6 _ = H7
  obtain ⟨g_q6, k_q6⟩ := new_facts eX h_q6
  clear eX
  refine ⟨p5, q6, _, _, rfl, rfl, (by walk_at "hp"), k_q6, (by show 27 ≤ sizeLine; decide), ?_⟩
  intro p7 h_p7
  generalize eX : upd _ p7 _ = H8
  obtain ⟨g_p7, k_p7⟩ := new_facts eX h_p7
  clear eX
  exact ⟨_, rfl, q p7 H8 (by walk_at "hp") k_p7⟩
end
end K05

namespace K05
open PySem L2 PyProof.Rows
abbrev s_law_places : Stmt := top 37
theorem body_law_places : ∃ es pos pos2, defBody s_law_places = [.Return (some (.List es pos)) pos2] ∧ intsOf es = some PL := ⟨_, _, _, rfl, by first | decide +kernel | rfl⟩
theorem sc_law_places : FnScope [] [] (defScope s_law_places) := ⟨rfl, rfl, rfl, by decide +kernel, rfl, by decide +kernel, by decide +kernel⟩
section
variable {P : Program} {w : World} {K : PySem.W.Frag} {mg : Str → Option Value} {base : Heap}
theorem ok_law_places {k : Nat} {f : Addr} {fd : FuncData} (F : Fun K "_law_places" "_law_places" s_law_places f fd) (M : Blt mg) {C_RoomError f_RoomError_init : Addr} (T_RoomError : TXB K mg C_RoomError f_RoomError_init) (VI : VInit K) {C_Beyond f_Beyond_init : Addr} (T_Beyond : TX K mg "Beyond" C_Beyond C_RoomError f_Beyond_init ["found"]) {C_Lacking f_Lacking_init : Addr} (T_Lacking : TX K mg "Lacking" C_Lacking C_RoomError f_Lacking_init ["unit"]) {C_LaidTwice f_LaidTwice_init : Addr} (T_LaidTwice : TX K mg "LaidTwice" C_LaidTwice C_RoomError f_LaidTwice_init ["line", "unit"]) {C_Meets f_Meets_init : Addr} (T_Meets : TX K mg "Meets" C_Meets C_RoomError f_Meets_init ["unit", "thing", "second", "another"]) {C_NamedTwice f_NamedTwice_init : Addr} (T_NamedTwice : TX K mg "NamedTwice" C_NamedTwice C_RoomError f_NamedTwice_init ["line", "name"]) {C_NoBudget f_NoBudget_init : Addr} (T_NoBudget : TX K mg "NoBudget" C_NoBudget C_RoomError f_NoBudget_init ["found"]) {C_NoDesk f_NoDesk_init : Addr} (T_NoDesk : TX K mg "NoDesk" C_NoDesk C_RoomError f_NoDesk_init ["line"]) {C_NoInput f_NoInput_init : Addr} (T_NoInput : TX K mg "NoInput" C_NoInput C_RoomError f_NoInput_init ["name"]) {C_NoKeep f_NoKeep_init : Addr} (T_NoKeep : TX K mg "NoKeep" C_NoKeep C_RoomError f_NoKeep_init ["found"]) {C_NoLaying f_NoLaying_init : Addr} (T_NoLaying : TX K mg "NoLaying" C_NoLaying C_RoomError f_NoLaying_init ["line"]) {C_NoLayings f_NoLayings_init : Addr} (T_NoLayings : TX K mg "NoLayings" C_NoLayings C_RoomError f_NoLayings_init ["found"]) {C_NoLine f_NoLine_init : Addr} (T_NoLine : TX K mg "NoLine" C_NoLine C_RoomError f_NoLine_init ["found"]) {C_NoOpen f_NoOpen_init : Addr} (T_NoOpen : TX K mg "NoOpen" C_NoOpen C_RoomError f_NoOpen_init ["found"]) {C_NoPath f_NoPath_init : Addr} (T_NoPath : TX K mg "NoPath" C_NoPath C_RoomError f_NoPath_init ["path"]) {C_NoPlace f_NoPlace_init : Addr} (T_NoPlace : TX K mg "NoPlace" C_NoPlace C_RoomError f_NoPlace_init ["found"]) {C_NoProgram f_NoProgram_init : Addr} (T_NoProgram : TX K mg "NoProgram" C_NoProgram C_RoomError f_NoProgram_init ["line"]) {C_NoRecord f_NoRecord_init : Addr} (T_NoRecord : TX K mg "NoRecord" C_NoRecord C_RoomError f_NoRecord_init ["found"]) {C_NoRoom f_NoRoom_init : Addr} (T_NoRoom : TX K mg "NoRoom" C_NoRoom C_RoomError f_NoRoom_init ["found"]) {C_NoShapes f_NoShapes_init : Addr} (T_NoShapes : TX K mg "NoShapes" C_NoShapes C_RoomError f_NoShapes_init ["line"]) {C_NoThings f_NoThings_init : Addr} (T_NoThings : TX K mg "NoThings" C_NoThings C_RoomError f_NoThings_init ["found"]) {C_NoTurn f_NoTurn_init : Addr} (T_NoTurn : TX K mg "NoTurn" C_NoTurn C_RoomError f_NoTurn_init ["found"]) {C_Other f_Other_init : Addr} (T_Other : TX K mg "Other" C_Other C_RoomError f_Other_init ["found"]) {C_Past f_Past_init : Addr} (T_Past : TX K mg "Past" C_Past C_RoomError f_Past_init ["unit", "thing", "cell"]) {C_TooMuch f_TooMuch_init : Addr} (T_TooMuch : TX K mg "TooMuch" C_TooMuch C_RoomError f_TooMuch_init ["line"]) {C_UnknownShape f_UnknownShape_init : Addr} (T_UnknownShape : TX K mg "UnknownShape" C_UnknownShape C_RoomError f_UnknownShape_init ["line", "name"]) {C_UnknownUnit f_UnknownUnit_init : Addr} (T_UnknownUnit : TX K mg "UnknownUnit" C_UnknownUnit C_RoomError f_UnknownUnit_init ["line", "unit"]) {C_WrongPath f_WrongPath_init : Addr} (T_WrongPath : TX K mg "WrongPath" C_WrongPath C_RoomError f_WrongPath_init ["line", "path"]) : FnOk P w K mg base CX0 (k + 2) f fd [] (spList PL) := by
  refine F.ok sc_law_places (fun vs H Q E h => ?_) (fun cdv A outer s0 H vs Q E hr0 h => ?_)
  · obtain ⟨rfl, _⟩ := h; rfl
  obtain ⟨rfl, q⟩ := h
  have hr := hr0.mono (Nat.le_succ _)
  obtain ⟨es, pos, pos2, hb, hi⟩ := body_law_places
  refine ⟨tRet (tLst (tInts PL)), ?_, ?_⟩
  · rw [hb]; exact pss_one (ps_ret (pe_lst (pa_ints hi)))
  refine ⟨(by show 20 ≤ sizeLine; decide), ?_⟩; o_unpack l
  exact q _ _ (by assumption) (by assumption)
end
end K05

namespace K05
open PySem L2 PyProof.Rows
abbrev s_law_more_places : Stmt := top 38
theorem sc_law_more_places : FnScope [] [] (defScope s_law_more_places) := ⟨rfl, rfl, rfl, by decide +kernel, rfl, by decide +kernel, by decide +kernel⟩
section
variable {P : Program} {w : World} {K : PySem.W.Frag} {mg : Str → Option Value} {base : Heap}
theorem ok_law_more_places {k : Nat} {f : Addr} {fd : FuncData} (F : Fun K "_law_more_places" "_law_more_places" s_law_more_places f fd) (M : Blt mg) {C_RoomError f_RoomError_init : Addr} (T_RoomError : TXB K mg C_RoomError f_RoomError_init) (VI : VInit K) {C_Beyond f_Beyond_init : Addr} (T_Beyond : TX K mg "Beyond" C_Beyond C_RoomError f_Beyond_init ["found"]) {C_Lacking f_Lacking_init : Addr} (T_Lacking : TX K mg "Lacking" C_Lacking C_RoomError f_Lacking_init ["unit"]) {C_LaidTwice f_LaidTwice_init : Addr} (T_LaidTwice : TX K mg "LaidTwice" C_LaidTwice C_RoomError f_LaidTwice_init ["line", "unit"]) {C_Meets f_Meets_init : Addr} (T_Meets : TX K mg "Meets" C_Meets C_RoomError f_Meets_init ["unit", "thing", "second", "another"]) {C_NamedTwice f_NamedTwice_init : Addr} (T_NamedTwice : TX K mg "NamedTwice" C_NamedTwice C_RoomError f_NamedTwice_init ["line", "name"]) {C_NoBudget f_NoBudget_init : Addr} (T_NoBudget : TX K mg "NoBudget" C_NoBudget C_RoomError f_NoBudget_init ["found"]) {C_NoDesk f_NoDesk_init : Addr} (T_NoDesk : TX K mg "NoDesk" C_NoDesk C_RoomError f_NoDesk_init ["line"]) {C_NoInput f_NoInput_init : Addr} (T_NoInput : TX K mg "NoInput" C_NoInput C_RoomError f_NoInput_init ["name"]) {C_NoKeep f_NoKeep_init : Addr} (T_NoKeep : TX K mg "NoKeep" C_NoKeep C_RoomError f_NoKeep_init ["found"]) {C_NoLaying f_NoLaying_init : Addr} (T_NoLaying : TX K mg "NoLaying" C_NoLaying C_RoomError f_NoLaying_init ["line"]) {C_NoLayings f_NoLayings_init : Addr} (T_NoLayings : TX K mg "NoLayings" C_NoLayings C_RoomError f_NoLayings_init ["found"]) {C_NoLine f_NoLine_init : Addr} (T_NoLine : TX K mg "NoLine" C_NoLine C_RoomError f_NoLine_init ["found"]) {C_NoOpen f_NoOpen_init : Addr} (T_NoOpen : TX K mg "NoOpen" C_NoOpen C_RoomError f_NoOpen_init ["found"]) {C_NoPath f_NoPath_init : Addr} (T_NoPath : TX K mg "NoPath" C_NoPath C_RoomError f_NoPath_init ["path"]) {C_NoPlace f_NoPlace_init : Addr} (T_NoPlace : TX K mg "NoPlace" C_NoPlace C_RoomError f_NoPlace_init ["found"]) {C_NoProgram f_NoProgram_init : Addr} (T_NoProgram : TX K mg "NoProgram" C_NoProgram C_RoomError f_NoProgram_init ["line"]) {C_NoRecord f_NoRecord_init : Addr} (T_NoRecord : TX K mg "NoRecord" C_NoRecord C_RoomError f_NoRecord_init ["found"]) {C_NoRoom f_NoRoom_init : Addr} (T_NoRoom : TX K mg "NoRoom" C_NoRoom C_RoomError f_NoRoom_init ["found"]) {C_NoShapes f_NoShapes_init : Addr} (T_NoShapes : TX K mg "NoShapes" C_NoShapes C_RoomError f_NoShapes_init ["line"]) {C_NoThings f_NoThings_init : Addr} (T_NoThings : TX K mg "NoThings" C_NoThings C_RoomError f_NoThings_init ["found"]) {C_NoTurn f_NoTurn_init : Addr} (T_NoTurn : TX K mg "NoTurn" C_NoTurn C_RoomError f_NoTurn_init ["found"]) {C_Other f_Other_init : Addr} (T_Other : TX K mg "Other" C_Other C_RoomError f_Other_init ["found"]) {C_Past f_Past_init : Addr} (T_Past : TX K mg "Past" C_Past C_RoomError f_Past_init ["unit", "thing", "cell"]) {C_TooMuch f_TooMuch_init : Addr} (T_TooMuch : TX K mg "TooMuch" C_TooMuch C_RoomError f_TooMuch_init ["line"]) {C_UnknownShape f_UnknownShape_init : Addr} (T_UnknownShape : TX K mg "UnknownShape" C_UnknownShape C_RoomError f_UnknownShape_init ["line", "name"]) {C_UnknownUnit f_UnknownUnit_init : Addr} (T_UnknownUnit : TX K mg "UnknownUnit" C_UnknownUnit C_RoomError f_UnknownUnit_init ["line", "unit"]) {C_WrongPath f_WrongPath_init : Addr} (T_WrongPath : TX K mg "WrongPath" C_WrongPath C_RoomError f_WrongPath_init ["line", "path"]) : FnOk P w K mg base CX0 (k + 2) f fd [] (spList PM) := by
  refine F.ok sc_law_more_places (fun vs H Q E h => ?_) (fun cdv A outer s0 H vs Q E hr0 h => ?_)
  · obtain ⟨rfl, _⟩ := h; rfl
  obtain ⟨rfl, q⟩ := h
  have hr := hr0.mono (Nat.le_succ _)
  refine ⟨_, (pss_one (ps_ret (pe_lst (pa_cons pe_int (pa_cons pe_int (pa_cons pe_int (pa_cons pe_int (pa_cons pe_int (pa_cons pe_int (pa_cons pe_int pa_nil se_const) se_const) se_const) se_const) se_const) se_const) se_const)))), ?_⟩
  refine ⟨(by show 7 ≤ sizeLine; decide), ?_⟩; o_unpack l
  exact q _ _ (by assumption) (by assumption)
end
end K05

namespace K05
open PySem L2 PyProof.Rows
abbrev s_law_field : Stmt := top 39
theorem sc_law_field : FnScope ["_law_at", "_law_e"] ["_law_at", "_law_e"] (defScope s_law_field) := ⟨rfl, rfl, rfl, by decide +kernel, rfl, by decide +kernel, by decide +kernel⟩
section
variable {P : Program} {w : World} {K : PySem.W.Frag} {mg : Str → Option Value} {base : Heap}
theorem ok_law_field {k : Nat} {f : Addr} {fd : FuncData} (F : Fun K "_law_field" "_law_field" s_law_field f fd) (M : Blt mg) {C_RoomError f_RoomError_init : Addr} (T_RoomError : TXB K mg C_RoomError f_RoomError_init) (VI : VInit K) {C_Beyond f_Beyond_init : Addr} (T_Beyond : TX K mg "Beyond" C_Beyond C_RoomError f_Beyond_init ["found"]) {C_Lacking f_Lacking_init : Addr} (T_Lacking : TX K mg "Lacking" C_Lacking C_RoomError f_Lacking_init ["unit"]) {C_LaidTwice f_LaidTwice_init : Addr} (T_LaidTwice : TX K mg "LaidTwice" C_LaidTwice C_RoomError f_LaidTwice_init ["line", "unit"]) {C_Meets f_Meets_init : Addr} (T_Meets : TX K mg "Meets" C_Meets C_RoomError f_Meets_init ["unit", "thing", "second", "another"]) {C_NamedTwice f_NamedTwice_init : Addr} (T_NamedTwice : TX K mg "NamedTwice" C_NamedTwice C_RoomError f_NamedTwice_init ["line", "name"]) {C_NoBudget f_NoBudget_init : Addr} (T_NoBudget : TX K mg "NoBudget" C_NoBudget C_RoomError f_NoBudget_init ["found"]) {C_NoDesk f_NoDesk_init : Addr} (T_NoDesk : TX K mg "NoDesk" C_NoDesk C_RoomError f_NoDesk_init ["line"]) {C_NoInput f_NoInput_init : Addr} (T_NoInput : TX K mg "NoInput" C_NoInput C_RoomError f_NoInput_init ["name"]) {C_NoKeep f_NoKeep_init : Addr} (T_NoKeep : TX K mg "NoKeep" C_NoKeep C_RoomError f_NoKeep_init ["found"]) {C_NoLaying f_NoLaying_init : Addr} (T_NoLaying : TX K mg "NoLaying" C_NoLaying C_RoomError f_NoLaying_init ["line"]) {C_NoLayings f_NoLayings_init : Addr} (T_NoLayings : TX K mg "NoLayings" C_NoLayings C_RoomError f_NoLayings_init ["found"]) {C_NoLine f_NoLine_init : Addr} (T_NoLine : TX K mg "NoLine" C_NoLine C_RoomError f_NoLine_init ["found"]) {C_NoOpen f_NoOpen_init : Addr} (T_NoOpen : TX K mg "NoOpen" C_NoOpen C_RoomError f_NoOpen_init ["found"]) {C_NoPath f_NoPath_init : Addr} (T_NoPath : TX K mg "NoPath" C_NoPath C_RoomError f_NoPath_init ["path"]) {C_NoPlace f_NoPlace_init : Addr} (T_NoPlace : TX K mg "NoPlace" C_NoPlace C_RoomError f_NoPlace_init ["found"]) {C_NoProgram f_NoProgram_init : Addr} (T_NoProgram : TX K mg "NoProgram" C_NoProgram C_RoomError f_NoProgram_init ["line"]) {C_NoRecord f_NoRecord_init : Addr} (T_NoRecord : TX K mg "NoRecord" C_NoRecord C_RoomError f_NoRecord_init ["found"]) {C_NoRoom f_NoRoom_init : Addr} (T_NoRoom : TX K mg "NoRoom" C_NoRoom C_RoomError f_NoRoom_init ["found"]) {C_NoShapes f_NoShapes_init : Addr} (T_NoShapes : TX K mg "NoShapes" C_NoShapes C_RoomError f_NoShapes_init ["line"]) {C_NoThings f_NoThings_init : Addr} (T_NoThings : TX K mg "NoThings" C_NoThings C_RoomError f_NoThings_init ["found"]) {C_NoTurn f_NoTurn_init : Addr} (T_NoTurn : TX K mg "NoTurn" C_NoTurn C_RoomError f_NoTurn_init ["found"]) {C_Other f_Other_init : Addr} (T_Other : TX K mg "Other" C_Other C_RoomError f_Other_init ["found"]) {C_Past f_Past_init : Addr} (T_Past : TX K mg "Past" C_Past C_RoomError f_Past_init ["unit", "thing", "cell"]) {C_TooMuch f_TooMuch_init : Addr} (T_TooMuch : TX K mg "TooMuch" C_TooMuch C_RoomError f_TooMuch_init ["line"]) {C_UnknownShape f_UnknownShape_init : Addr} (T_UnknownShape : TX K mg "UnknownShape" C_UnknownShape C_RoomError f_UnknownShape_init ["line", "name"]) {C_UnknownUnit f_UnknownUnit_init : Addr} (T_UnknownUnit : TX K mg "UnknownUnit" C_UnknownUnit C_RoomError f_UnknownUnit_init ["line", "unit"]) {C_WrongPath f_WrongPath_init : Addr} (T_WrongPath : TX K mg "WrongPath" C_WrongPath C_RoomError f_WrongPath_init ["line", "path"]) : FnOk P w K mg base CX0 (k + 2) f fd ["_law_at", "_law_e"] (spField K [C_NoRoom, C_NoPlace, C_NoShapes, C_UnknownShape, C_NamedTwice, C_TooMuch, C_NoRecord, C_NoPath, C_Beyond, C_Other, C_NoLaying, C_UnknownUnit, C_LaidTwice, C_Lacking, C_Past, C_Meets, C_NoProgram, C_WrongPath, C_NoInput, C_NoThings, C_NoBudget, C_NoLine, C_NoKeep, C_NoLayings, C_NoTurn, C_NoOpen, C_NoDesk]) := by
  refine F.ok sc_law_field (fun vs H Q E h => ?_) (fun cdv A outer s0 H vs Q E hr0 h => ?_)
  · obtain ⟨n, e, x, rfl, _⟩ := h; rfl
  obtain ⟨n, e, x, rfl, hn, ob, q⟩ := h
  have hr := hr0.mono (Nat.le_succ _)
  refine ⟨_, (pss_cons (ps_if (pt_cmpR op_inI (pv 0) (pe_lst (pa_cons pe_int (pa_cons pe_int (pa_cons pe_int (pa_cons pe_int (pa_cons pe_int (pa_cons pe_int (pa_cons pe_int (pa_cons pe_int (pa_cons pe_int (pa_cons pe_int (pa_cons pe_int (pa_cons pe_int pa_nil se_const) se_const) se_const) se_const) se_const) se_const) se_const) se_const) se_const) se_const) se_const) se_const)) (by with_unfolding_all rfl)) (pss_one (ps_ret (pe_xfldK (K := K) rfl (pv 1) rfl))) pss_nil)
      (pss_cons (ps_if (pt_cmpR op_inI (pv 0) (pe_lst (pa_cons pe_int (pa_cons pe_int (pa_cons pe_int (pa_cons pe_int (pa_cons pe_int pa_nil se_const) se_const) se_const) se_const) se_const)) (by with_unfolding_all rfl)) (pss_one (ps_ret (pe_xfldK (K := K) rfl (pv 1) rfl))) pss_nil)
      (pss_cons (ps_if (pt_cmpR op_inI (pv 0) (pe_lst (pa_cons pe_int pa_nil)) (by with_unfolding_all rfl)) (pss_one (ps_ret (pe_xfldK (K := K) rfl (pv 1) rfl))) pss_nil)
      (pss_cons (ps_if (pt_cmpR op_inI (pv 0) (pe_lst (pa_cons pe_int pa_nil)) (by with_unfolding_all rfl)) (pss_one (ps_ret (pe_xfldK (K := K) rfl (pv 1) rfl))) pss_nil)
      (pss_one (ps_ret (pe_xfldK (K := K) rfl (pv 1) rfl))))))), ?_⟩
  obtain ⟨C, dx, R', fI, hc, he, hX, hcl, hxc, hn'⟩ := ob
  obtain rfl | rfl | rfl | rfl | rfl | rfl | rfl | rfl | rfl | rfl | rfl | rfl | rfl | rfl | rfl | rfl | rfl | rfl | rfl | rfl : n = 0 ∨ n = 1 ∨ n = 2 ∨ n = 3 ∨ n = 4 ∨ n = 5 ∨ n = 6 ∨ n = 7 ∨ n = 8 ∨ n = 9 ∨ n = 10 ∨ n = 11 ∨ n = 12 ∨ n = 13 ∨ n = 14 ∨ n = 15 ∨ n = 16 ∨ n = 17 ∨ n = 18 ∨ n = 19 := by omega
  · refine ⟨_, rfl, (by show 12 ≤ sizeLine; decide), ?_⟩; o_unpack l
    refine ⟨l, _, [0, 1, 4, 6, 7, 12, 13, 14, 15, 16, 17, 18], rfl, rfl, SqL.of (by assumption), _, rfl, iteP (by decide) ?_⟩
    exact ⟨_, rfl, e, C, R', fI, dx, _, x, rfl, .inr (by walk_at "hp"), (by walk_at "hp"), hcl, hn' _ (List.mem_singleton.mpr rfl), rfl, q _ (by walk_at "hp")⟩
  · refine ⟨_, rfl, (by show 12 ≤ sizeLine; decide), ?_⟩; o_unpack l
    refine ⟨l, _, [0, 1, 4, 6, 7, 12, 13, 14, 15, 16, 17, 18], rfl, rfl, SqL.of (by assumption), _, rfl, iteP (by decide) ?_⟩
    exact ⟨_, rfl, e, C, R', fI, dx, _, x, rfl, .inr (by walk_at "hp"), (by walk_at "hp"), hcl, hn' _ (List.mem_singleton.mpr rfl), rfl, q _ (by walk_at "hp")⟩
  · refine ⟨_, rfl, (by show 12 ≤ sizeLine; decide), ?_⟩; o_unpack l
    refine ⟨l, _, [0, 1, 4, 6, 7, 12, 13, 14, 15, 16, 17, 18], rfl, rfl, SqL.of (by assumption), _, rfl, iteN (by decide) ?_⟩
    refine ⟨_, rfl, (by show 5 ≤ sizeLine; decide), ?_⟩; o_unpack l
    refine ⟨l, _, [2, 3, 8, 10, 19], rfl, rfl, SqL.of (by assumption), _, rfl, iteP (by decide) ?_⟩
    exact ⟨_, rfl, e, C, R', fI, dx, _, x, rfl, .inr (by walk_at "hp"), (by walk_at "hp"), hcl, hn' _ (List.mem_singleton.mpr rfl), rfl, q _ (by walk_at "hp")⟩
  · refine ⟨_, rfl, (by show 12 ≤ sizeLine; decide), ?_⟩; o_unpack l
    refine ⟨l, _, [0, 1, 4, 6, 7, 12, 13, 14, 15, 16, 17, 18], rfl, rfl, SqL.of (by assumption), _, rfl, iteN (by decide) ?_⟩
    refine ⟨_, rfl, (by show 5 ≤ sizeLine; decide), ?_⟩; o_unpack l
    refine ⟨l, _, [2, 3, 8, 10, 19], rfl, rfl, SqL.of (by assumption), _, rfl, iteP (by decide) ?_⟩
    exact ⟨_, rfl, e, C, R', fI, dx, _, x, rfl, .inr (by walk_at "hp"), (by walk_at "hp"), hcl, hn' _ (List.mem_singleton.mpr rfl), rfl, q _ (by walk_at "hp")⟩
  · refine ⟨_, rfl, (by show 12 ≤ sizeLine; decide), ?_⟩; o_unpack l
    refine ⟨l, _, [0, 1, 4, 6, 7, 12, 13, 14, 15, 16, 17, 18], rfl, rfl, SqL.of (by assumption), _, rfl, iteP (by decide) ?_⟩
    exact ⟨_, rfl, e, C, R', fI, dx, _, x, rfl, .inr (by walk_at "hp"), (by walk_at "hp"), hcl, hn' _ (List.mem_singleton.mpr rfl), rfl, q _ (by walk_at "hp")⟩
  · refine ⟨_, rfl, (by show 12 ≤ sizeLine; decide), ?_⟩; o_unpack l
    refine ⟨l, _, [0, 1, 4, 6, 7, 12, 13, 14, 15, 16, 17, 18], rfl, rfl, SqL.of (by assumption), _, rfl, iteN (by decide) ?_⟩
    refine ⟨_, rfl, (by show 5 ≤ sizeLine; decide), ?_⟩; o_unpack l
    refine ⟨l, _, [2, 3, 8, 10, 19], rfl, rfl, SqL.of (by assumption), _, rfl, iteN (by decide) ?_⟩
    refine ⟨_, rfl, (by show 1 ≤ sizeLine; decide), ?_⟩; o_unpack l
    refine ⟨l, _, [5], rfl, rfl, SqL.of (by assumption), _, rfl, iteP (by decide) ?_⟩
    exact ⟨_, rfl, e, C, R', fI, dx, _, x, rfl, .inr (by walk_at "hp"), (by walk_at "hp"), hcl, hn' _ (List.mem_singleton.mpr rfl), rfl, q _ (by walk_at "hp")⟩
  · refine ⟨_, rfl, (by show 12 ≤ sizeLine; decide), ?_⟩; o_unpack l
    refine ⟨l, _, [0, 1, 4, 6, 7, 12, 13, 14, 15, 16, 17, 18], rfl, rfl, SqL.of (by assumption), _, rfl, iteP (by decide) ?_⟩
    exact ⟨_, rfl, e, C, R', fI, dx, _, x, rfl, .inr (by walk_at "hp"), (by walk_at "hp"), hcl, hn' _ (List.mem_singleton.mpr rfl), rfl, q _ (by walk_at "hp")⟩
  · refine ⟨_, rfl, (by show 12 ≤ sizeLine; decide), ?_⟩; o_unpack l
    refine ⟨l, _, [0, 1, 4, 6, 7, 12, 13, 14, 15, 16, 17, 18], rfl, rfl, SqL.of (by assumption), _, rfl, iteP (by decide) ?_⟩
    exact ⟨_, rfl, e, C, R', fI, dx, _, x, rfl, .inr (by walk_at "hp"), (by walk_at "hp"), hcl, hn' _ (List.mem_singleton.mpr rfl), rfl, q _ (by walk_at "hp")⟩
  · refine ⟨_, rfl, (by show 12 ≤ sizeLine; decide), ?_⟩; o_unpack l
    refine ⟨l, _, [0, 1, 4, 6, 7, 12, 13, 14, 15, 16, 17, 18], rfl, rfl, SqL.of (by assumption), _, rfl, iteN (by decide) ?_⟩
    refine ⟨_, rfl, (by show 5 ≤ sizeLine; decide), ?_⟩; o_unpack l
    refine ⟨l, _, [2, 3, 8, 10, 19], rfl, rfl, SqL.of (by assumption), _, rfl, iteP (by decide) ?_⟩
    exact ⟨_, rfl, e, C, R', fI, dx, _, x, rfl, .inr (by walk_at "hp"), (by walk_at "hp"), hcl, hn' _ (List.mem_singleton.mpr rfl), rfl, q _ (by walk_at "hp")⟩
  · refine ⟨_, rfl, (by show 12 ≤ sizeLine; decide), ?_⟩; o_unpack l
    refine ⟨l, _, [0, 1, 4, 6, 7, 12, 13, 14, 15, 16, 17, 18], rfl, rfl, SqL.of (by assumption), _, rfl, iteN (by decide) ?_⟩
    refine ⟨_, rfl, (by show 5 ≤ sizeLine; decide), ?_⟩; o_unpack l
    refine ⟨l, _, [2, 3, 8, 10, 19], rfl, rfl, SqL.of (by assumption), _, rfl, iteN (by decide) ?_⟩
    refine ⟨_, rfl, (by show 1 ≤ sizeLine; decide), ?_⟩; o_unpack l
    refine ⟨l, _, [5], rfl, rfl, SqL.of (by assumption), _, rfl, iteN (by decide) ?_⟩
    refine ⟨_, rfl, (by show 1 ≤ sizeLine; decide), ?_⟩; o_unpack l
    refine ⟨l, _, [9], rfl, rfl, SqL.of (by assumption), _, rfl, iteP (by decide) ?_⟩
    exact ⟨_, rfl, e, C, R', fI, dx, _, x, rfl, .inr (by walk_at "hp"), (by walk_at "hp"), hcl, hn' _ (List.mem_singleton.mpr rfl), rfl, q _ (by walk_at "hp")⟩
  · refine ⟨_, rfl, (by show 12 ≤ sizeLine; decide), ?_⟩; o_unpack l
    refine ⟨l, _, [0, 1, 4, 6, 7, 12, 13, 14, 15, 16, 17, 18], rfl, rfl, SqL.of (by assumption), _, rfl, iteN (by decide) ?_⟩
    refine ⟨_, rfl, (by show 5 ≤ sizeLine; decide), ?_⟩; o_unpack l
    refine ⟨l, _, [2, 3, 8, 10, 19], rfl, rfl, SqL.of (by assumption), _, rfl, iteP (by decide) ?_⟩
    exact ⟨_, rfl, e, C, R', fI, dx, _, x, rfl, .inr (by walk_at "hp"), (by walk_at "hp"), hcl, hn' _ (List.mem_singleton.mpr rfl), rfl, q _ (by walk_at "hp")⟩
  · refine ⟨_, rfl, (by show 12 ≤ sizeLine; decide), ?_⟩; o_unpack l
    refine ⟨l, _, [0, 1, 4, 6, 7, 12, 13, 14, 15, 16, 17, 18], rfl, rfl, SqL.of (by assumption), _, rfl, iteN (by decide) ?_⟩
    refine ⟨_, rfl, (by show 5 ≤ sizeLine; decide), ?_⟩; o_unpack l
    refine ⟨l, _, [2, 3, 8, 10, 19], rfl, rfl, SqL.of (by assumption), _, rfl, iteN (by decide) ?_⟩
    refine ⟨_, rfl, (by show 1 ≤ sizeLine; decide), ?_⟩; o_unpack l
    refine ⟨l, _, [5], rfl, rfl, SqL.of (by assumption), _, rfl, iteN (by decide) ?_⟩
    refine ⟨_, rfl, (by show 1 ≤ sizeLine; decide), ?_⟩; o_unpack l
    refine ⟨l, _, [9], rfl, rfl, SqL.of (by assumption), _, rfl, iteN (by decide) ?_⟩
    exact ⟨_, rfl, e, C, R', fI, dx, _, x, rfl, .inr (by walk_at "hp"), (by walk_at "hp"), hcl, hn' _ (List.mem_singleton.mpr rfl), rfl, q _ (by walk_at "hp")⟩
  · refine ⟨_, rfl, (by show 12 ≤ sizeLine; decide), ?_⟩; o_unpack l
    refine ⟨l, _, [0, 1, 4, 6, 7, 12, 13, 14, 15, 16, 17, 18], rfl, rfl, SqL.of (by assumption), _, rfl, iteP (by decide) ?_⟩
    exact ⟨_, rfl, e, C, R', fI, dx, _, x, rfl, .inr (by walk_at "hp"), (by walk_at "hp"), hcl, hn' _ (List.mem_singleton.mpr rfl), rfl, q _ (by walk_at "hp")⟩
  · refine ⟨_, rfl, (by show 12 ≤ sizeLine; decide), ?_⟩; o_unpack l
    refine ⟨l, _, [0, 1, 4, 6, 7, 12, 13, 14, 15, 16, 17, 18], rfl, rfl, SqL.of (by assumption), _, rfl, iteP (by decide) ?_⟩
    exact ⟨_, rfl, e, C, R', fI, dx, _, x, rfl, .inr (by walk_at "hp"), (by walk_at "hp"), hcl, hn' _ (List.mem_singleton.mpr rfl), rfl, q _ (by walk_at "hp")⟩
  · refine ⟨_, rfl, (by show 12 ≤ sizeLine; decide), ?_⟩; o_unpack l
    refine ⟨l, _, [0, 1, 4, 6, 7, 12, 13, 14, 15, 16, 17, 18], rfl, rfl, SqL.of (by assumption), _, rfl, iteP (by decide) ?_⟩
    exact ⟨_, rfl, e, C, R', fI, dx, _, x, rfl, .inr (by walk_at "hp"), (by walk_at "hp"), hcl, hn' _ (List.mem_singleton.mpr rfl), rfl, q _ (by walk_at "hp")⟩
  · refine ⟨_, rfl, (by show 12 ≤ sizeLine; decide), ?_⟩; o_unpack l
    refine ⟨l, _, [0, 1, 4, 6, 7, 12, 13, 14, 15, 16, 17, 18], rfl, rfl, SqL.of (by assumption), _, rfl, iteP (by decide) ?_⟩
    exact ⟨_, rfl, e, C, R', fI, dx, _, x, rfl, .inr (by walk_at "hp"), (by walk_at "hp"), hcl, hn' _ (List.mem_singleton.mpr rfl), rfl, q _ (by walk_at "hp")⟩
  · refine ⟨_, rfl, (by show 12 ≤ sizeLine; decide), ?_⟩; o_unpack l
    refine ⟨l, _, [0, 1, 4, 6, 7, 12, 13, 14, 15, 16, 17, 18], rfl, rfl, SqL.of (by assumption), _, rfl, iteP (by decide) ?_⟩
    exact ⟨_, rfl, e, C, R', fI, dx, _, x, rfl, .inr (by walk_at "hp"), (by walk_at "hp"), hcl, hn' _ (List.mem_singleton.mpr rfl), rfl, q _ (by walk_at "hp")⟩
  · refine ⟨_, rfl, (by show 12 ≤ sizeLine; decide), ?_⟩; o_unpack l
    refine ⟨l, _, [0, 1, 4, 6, 7, 12, 13, 14, 15, 16, 17, 18], rfl, rfl, SqL.of (by assumption), _, rfl, iteP (by decide) ?_⟩
    exact ⟨_, rfl, e, C, R', fI, dx, _, x, rfl, .inr (by walk_at "hp"), (by walk_at "hp"), hcl, hn' _ (List.mem_singleton.mpr rfl), rfl, q _ (by walk_at "hp")⟩
  · refine ⟨_, rfl, (by show 12 ≤ sizeLine; decide), ?_⟩; o_unpack l
    refine ⟨l, _, [0, 1, 4, 6, 7, 12, 13, 14, 15, 16, 17, 18], rfl, rfl, SqL.of (by assumption), _, rfl, iteP (by decide) ?_⟩
    exact ⟨_, rfl, e, C, R', fI, dx, _, x, rfl, .inr (by walk_at "hp"), (by walk_at "hp"), hcl, hn' _ (List.mem_singleton.mpr rfl), rfl, q _ (by walk_at "hp")⟩
  · refine ⟨_, rfl, (by show 12 ≤ sizeLine; decide), ?_⟩; o_unpack l
    refine ⟨l, _, [0, 1, 4, 6, 7, 12, 13, 14, 15, 16, 17, 18], rfl, rfl, SqL.of (by assumption), _, rfl, iteN (by decide) ?_⟩
    refine ⟨_, rfl, (by show 5 ≤ sizeLine; decide), ?_⟩; o_unpack l
    refine ⟨l, _, [2, 3, 8, 10, 19], rfl, rfl, SqL.of (by assumption), _, rfl, iteP (by decide) ?_⟩
    exact ⟨_, rfl, e, C, R', fI, dx, _, x, rfl, .inr (by walk_at "hp"), (by walk_at "hp"), hcl, hn' _ (List.mem_singleton.mpr rfl), rfl, q _ (by walk_at "hp")⟩

end
end K05

namespace K05
open PySem L2 PyProof.Rows
abbrev s_law_fields : Stmt := top 40
theorem sc_law_fields : FnScope ["_law_at", "_law_e"] ["_law_at", "_law_e"] (defScope s_law_fields) := ⟨rfl, rfl, rfl, by decide +kernel, rfl, by decide +kernel, by decide +kernel⟩
section
variable {P : Program} {w : World} {K : PySem.W.Frag} {mg : Str → Option Value} {base : Heap}
theorem ok_law_fields {k : Nat} {f : Addr} {fd : FuncData} (F : Fun K "_law_fields" "_law_fields" s_law_fields f fd) (M : Blt mg) {C_RoomError f_RoomError_init : Addr} (T_RoomError : TXB K mg C_RoomError f_RoomError_init) (VI : VInit K) {C_Beyond f_Beyond_init : Addr} (T_Beyond : TX K mg "Beyond" C_Beyond C_RoomError f_Beyond_init ["found"]) {C_Lacking f_Lacking_init : Addr} (T_Lacking : TX K mg "Lacking" C_Lacking C_RoomError f_Lacking_init ["unit"]) {C_LaidTwice f_LaidTwice_init : Addr} (T_LaidTwice : TX K mg "LaidTwice" C_LaidTwice C_RoomError f_LaidTwice_init ["line", "unit"]) {C_Meets f_Meets_init : Addr} (T_Meets : TX K mg "Meets" C_Meets C_RoomError f_Meets_init ["unit", "thing", "second", "another"]) {C_NamedTwice f_NamedTwice_init : Addr} (T_NamedTwice : TX K mg "NamedTwice" C_NamedTwice C_RoomError f_NamedTwice_init ["line", "name"]) {C_NoBudget f_NoBudget_init : Addr} (T_NoBudget : TX K mg "NoBudget" C_NoBudget C_RoomError f_NoBudget_init ["found"]) {C_NoDesk f_NoDesk_init : Addr} (T_NoDesk : TX K mg "NoDesk" C_NoDesk C_RoomError f_NoDesk_init ["line"]) {C_NoInput f_NoInput_init : Addr} (T_NoInput : TX K mg "NoInput" C_NoInput C_RoomError f_NoInput_init ["name"]) {C_NoKeep f_NoKeep_init : Addr} (T_NoKeep : TX K mg "NoKeep" C_NoKeep C_RoomError f_NoKeep_init ["found"]) {C_NoLaying f_NoLaying_init : Addr} (T_NoLaying : TX K mg "NoLaying" C_NoLaying C_RoomError f_NoLaying_init ["line"]) {C_NoLayings f_NoLayings_init : Addr} (T_NoLayings : TX K mg "NoLayings" C_NoLayings C_RoomError f_NoLayings_init ["found"]) {C_NoLine f_NoLine_init : Addr} (T_NoLine : TX K mg "NoLine" C_NoLine C_RoomError f_NoLine_init ["found"]) {C_NoOpen f_NoOpen_init : Addr} (T_NoOpen : TX K mg "NoOpen" C_NoOpen C_RoomError f_NoOpen_init ["found"]) {C_NoPath f_NoPath_init : Addr} (T_NoPath : TX K mg "NoPath" C_NoPath C_RoomError f_NoPath_init ["path"]) {C_NoPlace f_NoPlace_init : Addr} (T_NoPlace : TX K mg "NoPlace" C_NoPlace C_RoomError f_NoPlace_init ["found"]) {C_NoProgram f_NoProgram_init : Addr} (T_NoProgram : TX K mg "NoProgram" C_NoProgram C_RoomError f_NoProgram_init ["line"]) {C_NoRecord f_NoRecord_init : Addr} (T_NoRecord : TX K mg "NoRecord" C_NoRecord C_RoomError f_NoRecord_init ["found"]) {C_NoRoom f_NoRoom_init : Addr} (T_NoRoom : TX K mg "NoRoom" C_NoRoom C_RoomError f_NoRoom_init ["found"]) {C_NoShapes f_NoShapes_init : Addr} (T_NoShapes : TX K mg "NoShapes" C_NoShapes C_RoomError f_NoShapes_init ["line"]) {C_NoThings f_NoThings_init : Addr} (T_NoThings : TX K mg "NoThings" C_NoThings C_RoomError f_NoThings_init ["found"]) {C_NoTurn f_NoTurn_init : Addr} (T_NoTurn : TX K mg "NoTurn" C_NoTurn C_RoomError f_NoTurn_init ["found"]) {C_Other f_Other_init : Addr} (T_Other : TX K mg "Other" C_Other C_RoomError f_Other_init ["found"]) {C_Past f_Past_init : Addr} (T_Past : TX K mg "Past" C_Past C_RoomError f_Past_init ["unit", "thing", "cell"]) {C_TooMuch f_TooMuch_init : Addr} (T_TooMuch : TX K mg "TooMuch" C_TooMuch C_RoomError f_TooMuch_init ["line"]) {C_UnknownShape f_UnknownShape_init : Addr} (T_UnknownShape : TX K mg "UnknownShape" C_UnknownShape C_RoomError f_UnknownShape_init ["line", "name"]) {C_UnknownUnit f_UnknownUnit_init : Addr} (T_UnknownUnit : TX K mg "UnknownUnit" C_UnknownUnit C_RoomError f_UnknownUnit_init ["line", "unit"]) {C_WrongPath f_WrongPath_init : Addr} (T_WrongPath : TX K mg "WrongPath" C_WrongPath C_RoomError f_WrongPath_init ["line", "path"]) : FnOk P w K mg base CX0 (k + 2) f fd ["_law_at", "_law_e"] (spFields K [C_NoRoom, C_NoPlace, C_NoShapes, C_UnknownShape, C_NamedTwice, C_TooMuch, C_NoRecord, C_NoPath, C_Beyond, C_Other, C_NoLaying, C_UnknownUnit, C_LaidTwice, C_Lacking, C_Past, C_Meets, C_NoProgram, C_WrongPath, C_NoInput, C_NoThings, C_NoBudget, C_NoLine, C_NoKeep, C_NoLayings, C_NoTurn, C_NoOpen, C_NoDesk]) := by
  refine F.ok sc_law_fields (fun vs H Q E h => ?_) (fun cdv A outer s0 H vs Q E hr0 h => ?_)
  · obtain ⟨n, e, x0, x1, x2, x3, rfl, _⟩ := h; rfl
  obtain ⟨n, e, x0, x1, x2, x3, rfl, hn, ob, q⟩ := h
  have hr := hr0.mono (Nat.le_succ _)
  refine ⟨_, (pss_cons (ps_if (pt_cmpR op_eq (pv 0) pe_int (nomark _)) (pss_one (ps_ret (pe_lstS (pa_cons (pe_xfldK (K := K) rfl (pv 1) rfl) (pa_cons (pe_xfldK (K := K) rfl (pv 1) rfl) pa_nil))))) pss_nil)
      (pss_cons (ps_if (pt_cmpR op_eq (pv 0) pe_int (nomark _)) (pss_one (ps_ret (pe_lstS (pa_cons (pe_xfldK (K := K) rfl (pv 1) rfl) (pa_cons (pe_xfldK (K := K) rfl (pv 1) rfl) pa_nil))))) pss_nil)
      (pss_cons (ps_if (pt_cmpR op_eq (pv 0) pe_int (nomark _)) (pss_one (ps_ret (pe_lstS (pa_cons (pe_xfldK (K := K) rfl (pv 1) rfl) (pa_cons (pe_xfldK (K := K) rfl (pv 1) rfl) pa_nil))))) pss_nil)
      (pss_cons (ps_if (pt_cmpR op_eq (pv 0) pe_int (nomark _)) (pss_one (ps_ret (pe_lstS (pa_cons (pe_xfldK (K := K) rfl (pv 1) rfl) (pa_cons (pe_xfldK (K := K) rfl (pv 1) rfl) pa_nil))))) pss_nil)
      (pss_cons (ps_if (pt_cmpR op_eq (pv 0) pe_int (nomark _)) (pss_one (ps_ret (pe_lstS (pa_cons (pe_xfldK (K := K) rfl (pv 1) rfl) (pa_cons (pe_xfldK (K := K) rfl (pv 1) rfl) (pa_cons (pe_xfldK (K := K) rfl (pv 1) rfl) pa_nil)))))) pss_nil)
      (pss_cons (ps_if (pt_cmpR op_eq (pv 0) pe_int (nomark _)) (pss_one (ps_ret (pe_lstS (pa_cons (pe_xfldK (K := K) rfl (pv 1) rfl) (pa_cons (pe_xfldK (K := K) rfl (pv 1) rfl) (pa_cons (pe_xfldK (K := K) rfl (pv 1) rfl) (pa_cons (pe_xfldK (K := K) rfl (pv 1) rfl) pa_nil))))))) pss_nil)
      (pss_one (ps_ret (pe_lstS (pa_cons (pe_xfldK (K := K) rfl (pv 1) rfl) (pa_cons (pe_xfldK (K := K) rfl (pv 1) rfl) pa_nil))))))))))), ?_⟩
  obtain ⟨C, dx, R', fI, hc, he, hX, hcl, hxc, hn'⟩ := ob
  obtain rfl | rfl | rfl | rfl | rfl | rfl | rfl : n = 0 ∨ n = 1 ∨ n = 2 ∨ n = 3 ∨ n = 4 ∨ n = 5 ∨ n = 6 := by omega
  · refine ⟨_, rfl, rfl, _, rfl, iteP rfl ⟨_, rfl, e, C, R', fI, dx, _, x0, rfl, .inr he, hX, hcl, hn' ("line", x0) (by simp [fnm]), rfl, _, rfl, e, C, R', fI, dx, _, x1, rfl, .inr he, hX, hcl, hn' ("name", x1) (by simp [fnm]), rfl, (by show 2 ≤ sizeLine; decide), ?_⟩⟩
    intro l nl hl0
    exact q l _ nl (same_new hl0 _) upd_same
  · refine ⟨_, rfl, rfl, _, rfl, iteN (by decide) ⟨_, rfl, rfl, _, rfl, iteP rfl ⟨_, rfl, e, C, R', fI, dx, _, x0, rfl, .inr he, hX, hcl, hn' ("line", x0) (by simp [fnm]), rfl, _, rfl, e, C, R', fI, dx, _, x1, rfl, .inr he, hX, hcl, hn' ("name", x1) (by simp [fnm]), rfl, (by show 2 ≤ sizeLine; decide), ?_⟩⟩⟩
    intro l nl hl0
    exact q l _ nl (same_new hl0 _) upd_same
  · refine ⟨_, rfl, rfl, _, rfl, iteN (by decide) ⟨_, rfl, rfl, _, rfl, iteN (by decide) ⟨_, rfl, rfl, _, rfl, iteP rfl ⟨_, rfl, e, C, R', fI, dx, _, x0, rfl, .inr he, hX, hcl, hn' ("line", x0) (by simp [fnm]), rfl, _, rfl, e, C, R', fI, dx, _, x1, rfl, .inr he, hX, hcl, hn' ("unit", x1) (by simp [fnm]), rfl, (by show 2 ≤ sizeLine; decide), ?_⟩⟩⟩⟩
    intro l nl hl0
    exact q l _ nl (same_new hl0 _) upd_same
  · refine ⟨_, rfl, rfl, _, rfl, iteN (by decide) ⟨_, rfl, rfl, _, rfl, iteN (by decide) ⟨_, rfl, rfl, _, rfl, iteN (by decide) ⟨_, rfl, rfl, _, rfl, iteP rfl ⟨_, rfl, e, C, R', fI, dx, _, x0, rfl, .inr he, hX, hcl, hn' ("line", x0) (by simp [fnm]), rfl, _, rfl, e, C, R', fI, dx, _, x1, rfl, .inr he, hX, hcl, hn' ("unit", x1) (by simp [fnm]), rfl, (by show 2 ≤ sizeLine; decide), ?_⟩⟩⟩⟩⟩
    intro l nl hl0
    exact q l _ nl (same_new hl0 _) upd_same
  · refine ⟨_, rfl, rfl, _, rfl, iteN (by decide) ⟨_, rfl, rfl, _, rfl, iteN (by decide) ⟨_, rfl, rfl, _, rfl, iteN (by decide) ⟨_, rfl, rfl, _, rfl, iteN (by decide) ⟨_, rfl, rfl, _, rfl, iteP rfl ⟨_, rfl, e, C, R', fI, dx, _, x0, rfl, .inr he, hX, hcl, hn' ("unit", x0) (by simp [fnm]), rfl, _, rfl, e, C, R', fI, dx, _, x1, rfl, .inr he, hX, hcl, hn' ("thing", x1) (by simp [fnm]), rfl, _, rfl, e, C, R', fI, dx, _, x2, rfl, .inr he, hX, hcl, hn' ("cell", x2) (by simp [fnm]), rfl, (by show 3 ≤ sizeLine; decide), ?_⟩⟩⟩⟩⟩⟩
    intro l nl hl0
    exact q l _ nl (same_new hl0 _) upd_same
  · refine ⟨_, rfl, rfl, _, rfl, iteN (by decide) ⟨_, rfl, rfl, _, rfl, iteN (by decide) ⟨_, rfl, rfl, _, rfl, iteN (by decide) ⟨_, rfl, rfl, _, rfl, iteN (by decide) ⟨_, rfl, rfl, _, rfl, iteN (by decide) ⟨_, rfl, rfl, _, rfl, iteP rfl ⟨_, rfl, e, C, R', fI, dx, _, x0, rfl, .inr he, hX, hcl, hn' ("unit", x0) (by simp [fnm]), rfl, _, rfl, e, C, R', fI, dx, _, x1, rfl, .inr he, hX, hcl, hn' ("thing", x1) (by simp [fnm]), rfl, _, rfl, e, C, R', fI, dx, _, x2, rfl, .inr he, hX, hcl, hn' ("second", x2) (by simp [fnm]), rfl, _, rfl, e, C, R', fI, dx, _, x3, rfl, .inr he, hX, hcl, hn' ("another", x3) (by simp [fnm]), rfl, (by show 4 ≤ sizeLine; decide), ?_⟩⟩⟩⟩⟩⟩⟩
    intro l nl hl0
    exact q l _ nl (same_new hl0 _) upd_same
  · refine ⟨_, rfl, rfl, _, rfl, iteN (by decide) ⟨_, rfl, rfl, _, rfl, iteN (by decide) ⟨_, rfl, rfl, _, rfl, iteN (by decide) ⟨_, rfl, rfl, _, rfl, iteN (by decide) ⟨_, rfl, rfl, _, rfl, iteN (by decide) ⟨_, rfl, rfl, _, rfl, iteN (by decide) ⟨_, rfl, e, C, R', fI, dx, _, x0, rfl, .inr he, hX, hcl, hn' ("line", x0) (by simp [fnm]), rfl, _, rfl, e, C, R', fI, dx, _, x1, rfl, .inr he, hX, hcl, hn' ("path", x1) (by simp [fnm]), rfl, (by show 2 ≤ sizeLine; decide), ?_⟩⟩⟩⟩⟩⟩⟩
    intro l nl hl0
    exact q l _ nl (same_new hl0 _) upd_same

end
end K05

namespace K05
open PySem L2 PyProof.Rows
abbrev s_law_counts : Stmt := top 41
theorem sc_law_counts : FnScope ["_law_at"] ["_law_at"] (defScope s_law_counts) := ⟨rfl, rfl, rfl, by decide +kernel, rfl, by decide +kernel, by decide +kernel⟩
section
variable {P : Program} {w : World} {K : PySem.W.Frag} {mg : Str → Option Value} {base : Heap}
theorem ok_law_counts {k : Nat} {f : Addr} {fd : FuncData} (F : Fun K "_law_counts" "_law_counts" s_law_counts f fd) (M : Blt mg) {C_RoomError f_RoomError_init : Addr} (T_RoomError : TXB K mg C_RoomError f_RoomError_init) (VI : VInit K) {C_Beyond f_Beyond_init : Addr} (T_Beyond : TX K mg "Beyond" C_Beyond C_RoomError f_Beyond_init ["found"]) {C_Lacking f_Lacking_init : Addr} (T_Lacking : TX K mg "Lacking" C_Lacking C_RoomError f_Lacking_init ["unit"]) {C_LaidTwice f_LaidTwice_init : Addr} (T_LaidTwice : TX K mg "LaidTwice" C_LaidTwice C_RoomError f_LaidTwice_init ["line", "unit"]) {C_Meets f_Meets_init : Addr} (T_Meets : TX K mg "Meets" C_Meets C_RoomError f_Meets_init ["unit", "thing", "second", "another"]) {C_NamedTwice f_NamedTwice_init : Addr} (T_NamedTwice : TX K mg "NamedTwice" C_NamedTwice C_RoomError f_NamedTwice_init ["line", "name"]) {C_NoBudget f_NoBudget_init : Addr} (T_NoBudget : TX K mg "NoBudget" C_NoBudget C_RoomError f_NoBudget_init ["found"]) {C_NoDesk f_NoDesk_init : Addr} (T_NoDesk : TX K mg "NoDesk" C_NoDesk C_RoomError f_NoDesk_init ["line"]) {C_NoInput f_NoInput_init : Addr} (T_NoInput : TX K mg "NoInput" C_NoInput C_RoomError f_NoInput_init ["name"]) {C_NoKeep f_NoKeep_init : Addr} (T_NoKeep : TX K mg "NoKeep" C_NoKeep C_RoomError f_NoKeep_init ["found"]) {C_NoLaying f_NoLaying_init : Addr} (T_NoLaying : TX K mg "NoLaying" C_NoLaying C_RoomError f_NoLaying_init ["line"]) {C_NoLayings f_NoLayings_init : Addr} (T_NoLayings : TX K mg "NoLayings" C_NoLayings C_RoomError f_NoLayings_init ["found"]) {C_NoLine f_NoLine_init : Addr} (T_NoLine : TX K mg "NoLine" C_NoLine C_RoomError f_NoLine_init ["found"]) {C_NoOpen f_NoOpen_init : Addr} (T_NoOpen : TX K mg "NoOpen" C_NoOpen C_RoomError f_NoOpen_init ["found"]) {C_NoPath f_NoPath_init : Addr} (T_NoPath : TX K mg "NoPath" C_NoPath C_RoomError f_NoPath_init ["path"]) {C_NoPlace f_NoPlace_init : Addr} (T_NoPlace : TX K mg "NoPlace" C_NoPlace C_RoomError f_NoPlace_init ["found"]) {C_NoProgram f_NoProgram_init : Addr} (T_NoProgram : TX K mg "NoProgram" C_NoProgram C_RoomError f_NoProgram_init ["line"]) {C_NoRecord f_NoRecord_init : Addr} (T_NoRecord : TX K mg "NoRecord" C_NoRecord C_RoomError f_NoRecord_init ["found"]) {C_NoRoom f_NoRoom_init : Addr} (T_NoRoom : TX K mg "NoRoom" C_NoRoom C_RoomError f_NoRoom_init ["found"]) {C_NoShapes f_NoShapes_init : Addr} (T_NoShapes : TX K mg "NoShapes" C_NoShapes C_RoomError f_NoShapes_init ["line"]) {C_NoThings f_NoThings_init : Addr} (T_NoThings : TX K mg "NoThings" C_NoThings C_RoomError f_NoThings_init ["found"]) {C_NoTurn f_NoTurn_init : Addr} (T_NoTurn : TX K mg "NoTurn" C_NoTurn C_RoomError f_NoTurn_init ["found"]) {C_Other f_Other_init : Addr} (T_Other : TX K mg "Other" C_Other C_RoomError f_Other_init ["found"]) {C_Past f_Past_init : Addr} (T_Past : TX K mg "Past" C_Past C_RoomError f_Past_init ["unit", "thing", "cell"]) {C_TooMuch f_TooMuch_init : Addr} (T_TooMuch : TX K mg "TooMuch" C_TooMuch C_RoomError f_TooMuch_init ["line"]) {C_UnknownShape f_UnknownShape_init : Addr} (T_UnknownShape : TX K mg "UnknownShape" C_UnknownShape C_RoomError f_UnknownShape_init ["line", "name"]) {C_UnknownUnit f_UnknownUnit_init : Addr} (T_UnknownUnit : TX K mg "UnknownUnit" C_UnknownUnit C_RoomError f_UnknownUnit_init ["line", "unit"]) {C_WrongPath f_WrongPath_init : Addr} (T_WrongPath : TX K mg "WrongPath" C_WrongPath C_RoomError f_WrongPath_init ["line", "path"]) : FnOk P w K mg base CX0 (k + 2) f fd ["_law_at"] spCounts := by
  refine F.ok sc_law_counts (fun vs H Q E h => ?_) (fun cdv A outer s0 H vs Q E hr0 h => ?_)
  · obtain ⟨n, rfl, _⟩ := h; rfl
  obtain ⟨n, rfl, hn, q⟩ := h
  have hr := hr0.mono (Nat.le_succ _)
  refine ⟨_, (pss_one (ps_ret (pe_ix ix_list (pe_lst (pa_cons pe_int (pa_cons pe_int (pa_cons pe_int (pa_cons pe_int (pa_cons pe_int (pa_cons pe_int (pa_cons pe_int pa_nil se_const) se_const) se_const) se_const) se_const) se_const) se_const)) (pv 0) (fun _ _ => rfl)))), ?_⟩
  refine ⟨(by show 7 ≤ sizeLine; decide), ?_⟩; o_unpack l
  obtain rfl | rfl | rfl | rfl | rfl | rfl | rfl : n = 0 ∨ n = 1 ∨ n = 2 ∨ n = 3 ∨ n = 4 ∨ n = 5 ∨ n = 6 := by omega
  · exact ⟨_, rfl, l, _, _, _, rfl, rfl, SqL.of (by assumption), rfl, q _ (by assumption)⟩
  · exact ⟨_, rfl, l, _, _, _, rfl, rfl, SqL.of (by assumption), rfl, q _ (by assumption)⟩
  · exact ⟨_, rfl, l, _, _, _, rfl, rfl, SqL.of (by assumption), rfl, q _ (by assumption)⟩
  · exact ⟨_, rfl, l, _, _, _, rfl, rfl, SqL.of (by assumption), rfl, q _ (by assumption)⟩
  · exact ⟨_, rfl, l, _, _, _, rfl, rfl, SqL.of (by assumption), rfl, q _ (by assumption)⟩
  · exact ⟨_, rfl, l, _, _, _, rfl, rfl, SqL.of (by assumption), rfl, q _ (by assumption)⟩
  · exact ⟨_, rfl, l, _, _, _, rfl, rfl, SqL.of (by assumption), rfl, q _ (by assumption)⟩

end
end K05

namespace K05
open PySem L2 PyProof.Rows
abbrev s_law_own : Stmt := top 42
theorem sc_law_own : FnScope ["_law_e", "_law_place"] ["_law_e", "_law_place"] (defScope s_law_own) := ⟨rfl, rfl, rfl, by decide +kernel, rfl, by decide +kernel, by decide +kernel⟩
section
variable {P : Program} {w : World} {K : PySem.W.Frag} {mg : Str → Option Value} {base : Heap}
theorem ok_law_own {k : Nat} {f : Addr} {fd : FuncData} (F : Fun K "_law_own" "_law_own" s_law_own f fd) (M : Blt mg) {C_RoomError f_RoomError_init : Addr} (T_RoomError : TXB K mg C_RoomError f_RoomError_init) (VI : VInit K) {C_Beyond f_Beyond_init : Addr} (T_Beyond : TX K mg "Beyond" C_Beyond C_RoomError f_Beyond_init ["found"]) {C_Lacking f_Lacking_init : Addr} (T_Lacking : TX K mg "Lacking" C_Lacking C_RoomError f_Lacking_init ["unit"]) {C_LaidTwice f_LaidTwice_init : Addr} (T_LaidTwice : TX K mg "LaidTwice" C_LaidTwice C_RoomError f_LaidTwice_init ["line", "unit"]) {C_Meets f_Meets_init : Addr} (T_Meets : TX K mg "Meets" C_Meets C_RoomError f_Meets_init ["unit", "thing", "second", "another"]) {C_NamedTwice f_NamedTwice_init : Addr} (T_NamedTwice : TX K mg "NamedTwice" C_NamedTwice C_RoomError f_NamedTwice_init ["line", "name"]) {C_NoBudget f_NoBudget_init : Addr} (T_NoBudget : TX K mg "NoBudget" C_NoBudget C_RoomError f_NoBudget_init ["found"]) {C_NoDesk f_NoDesk_init : Addr} (T_NoDesk : TX K mg "NoDesk" C_NoDesk C_RoomError f_NoDesk_init ["line"]) {C_NoInput f_NoInput_init : Addr} (T_NoInput : TX K mg "NoInput" C_NoInput C_RoomError f_NoInput_init ["name"]) {C_NoKeep f_NoKeep_init : Addr} (T_NoKeep : TX K mg "NoKeep" C_NoKeep C_RoomError f_NoKeep_init ["found"]) {C_NoLaying f_NoLaying_init : Addr} (T_NoLaying : TX K mg "NoLaying" C_NoLaying C_RoomError f_NoLaying_init ["line"]) {C_NoLayings f_NoLayings_init : Addr} (T_NoLayings : TX K mg "NoLayings" C_NoLayings C_RoomError f_NoLayings_init ["found"]) {C_NoLine f_NoLine_init : Addr} (T_NoLine : TX K mg "NoLine" C_NoLine C_RoomError f_NoLine_init ["found"]) {C_NoOpen f_NoOpen_init : Addr} (T_NoOpen : TX K mg "NoOpen" C_NoOpen C_RoomError f_NoOpen_init ["found"]) {C_NoPath f_NoPath_init : Addr} (T_NoPath : TX K mg "NoPath" C_NoPath C_RoomError f_NoPath_init ["path"]) {C_NoPlace f_NoPlace_init : Addr} (T_NoPlace : TX K mg "NoPlace" C_NoPlace C_RoomError f_NoPlace_init ["found"]) {C_NoProgram f_NoProgram_init : Addr} (T_NoProgram : TX K mg "NoProgram" C_NoProgram C_RoomError f_NoProgram_init ["line"]) {C_NoRecord f_NoRecord_init : Addr} (T_NoRecord : TX K mg "NoRecord" C_NoRecord C_RoomError f_NoRecord_init ["found"]) {C_NoRoom f_NoRoom_init : Addr} (T_NoRoom : TX K mg "NoRoom" C_NoRoom C_RoomError f_NoRoom_init ["found"]) {C_NoShapes f_NoShapes_init : Addr} (T_NoShapes : TX K mg "NoShapes" C_NoShapes C_RoomError f_NoShapes_init ["line"]) {C_NoThings f_NoThings_init : Addr} (T_NoThings : TX K mg "NoThings" C_NoThings C_RoomError f_NoThings_init ["found"]) {C_NoTurn f_NoTurn_init : Addr} (T_NoTurn : TX K mg "NoTurn" C_NoTurn C_RoomError f_NoTurn_init ["found"]) {C_Other f_Other_init : Addr} (T_Other : TX K mg "Other" C_Other C_RoomError f_Other_init ["found"]) {C_Past f_Past_init : Addr} (T_Past : TX K mg "Past" C_Past C_RoomError f_Past_init ["unit", "thing", "cell"]) {C_TooMuch f_TooMuch_init : Addr} (T_TooMuch : TX K mg "TooMuch" C_TooMuch C_RoomError f_TooMuch_init ["line"]) {C_UnknownShape f_UnknownShape_init : Addr} (T_UnknownShape : TX K mg "UnknownShape" C_UnknownShape C_RoomError f_UnknownShape_init ["line", "name"]) {C_UnknownUnit f_UnknownUnit_init : Addr} (T_UnknownUnit : TX K mg "UnknownUnit" C_UnknownUnit C_RoomError f_UnknownUnit_init ["line", "unit"]) {C_WrongPath f_WrongPath_init : Addr} (T_WrongPath : TX K mg "WrongPath" C_WrongPath C_RoomError f_WrongPath_init ["line", "path"]) {f_law_kinds : Addr} {fd_law_kinds : FuncData} (D_law_kinds : Df K mg "_law_kinds" f_law_kinds fd_law_kinds ["_law_e"]) (G_law_kinds : FnOk P w K mg base CX0 k f_law_kinds fd_law_kinds ["_law_e"] (spKinds K [C_NoRoom, C_NoPlace, C_NoShapes, C_UnknownShape, C_NamedTwice, C_TooMuch, C_NoRecord, C_NoPath, C_Beyond, C_Other, C_NoLaying, C_UnknownUnit, C_LaidTwice, C_Lacking, C_Past, C_Meets, C_NoProgram, C_WrongPath, C_NoInput, C_NoThings, C_NoBudget, C_NoLine, C_NoKeep, C_NoLayings, C_NoTurn, C_NoOpen, C_NoDesk])) (KN : Kin K C_RoomError [C_NoRoom, C_NoPlace, C_NoShapes, C_UnknownShape, C_NamedTwice, C_TooMuch, C_NoRecord, C_NoPath, C_Beyond, C_Other, C_NoLaying, C_UnknownUnit, C_LaidTwice, C_Lacking, C_Past, C_Meets, C_NoProgram, C_WrongPath, C_NoInput, C_NoThings, C_NoBudget, C_NoLine, C_NoKeep, C_NoLayings, C_NoTurn, C_NoOpen, C_NoDesk]) : FnOk P w K mg base CX0 (k + 2) f fd ["_law_e", "_law_place"] (spOwn K [C_NoRoom, C_NoPlace, C_NoShapes, C_UnknownShape, C_NamedTwice, C_TooMuch, C_NoRecord, C_NoPath, C_Beyond, C_Other, C_NoLaying, C_UnknownUnit, C_LaidTwice, C_Lacking, C_Past, C_Meets, C_NoProgram, C_WrongPath, C_NoInput, C_NoThings, C_NoBudget, C_NoLine, C_NoKeep, C_NoLayings, C_NoTurn, C_NoOpen, C_NoDesk]) := by
  refine F.ok sc_law_own (fun vs H Q E h => ?_) (fun cdv A outer s0 H vs Q E hr0 h => ?_)
  · obtain ⟨e, c, fs, rfl, _⟩ := h; rfl
  obtain ⟨e, c, fs, rfl, ob, q⟩ := h
  have hr := hr0.mono (Nat.le_succ _)
  refine ⟨_, (pss_cons (ps_if (PW.pt (pw_or (pt_not (pt_val (pe_callB (call_isR (K := K) rfl) rfl M.isinstance boot_isinstance (pa_cons (pv 0) (pa_cons (pe_glob (v := .ref C_RoomError) rfl T_RoomError.m rfl) pa_nil))))) (pw_or1 (pt_not (pt_val (pe_callB (call_isVx (K := K) rfl tov_VE) rfl M.isinstance boot_isinstance (pa_cons (pv 0) (pa_cons (pe_bltn (v := .ty "ValueError") rfl M.ValueError (show bootBuiltins "ValueError" = some (.type "ValueError") from by decide +kernel) rfl) pa_nil)))))))) (pss_one (ps_ret pe_bl)) pss_nil)
      (pss_one (ps_ret (pe_cmpR (op_eqE hr.units) (pe_call G_law_kinds hr rfl D_law_kinds.m D_law_kinds.k D_law_kinds.b .nil pass0 (pa_cons (pv 0) pa_nil)) (pe_comp ["_law_k"] ["_law_place"] [1] rfl (pi_range1 rfl M.range (pa_cons pe_int pa_nil)) rfl ⟨rfl, trivial⟩ ⟨⟨rfl, rfl, rfl, _, rfl⟩, trivial⟩ (fun _ _ _ _ => (pg_name (i := 0) (show List.Nodup (["_law_k", "_law_place"] : List Str) from by decide +kernel) rfl (Or.inl rfl))) (fun _ _ _ _ => pif_nil) (fun _ _ _ _ => (pe_cmpR op_eq (pv 0) (pv 1) (nomark _)))) (nomark _))))), ?_⟩
  obtain ⟨C, dx, R', fI, hc, he, hX, hcl, hxc, hn⟩ := id ob
  have hEx : Exc K H e C fs := ⟨dx, R', fI, .inr he, hX, hcl⟩
  refine ⟨_, rfl, e, C, C_RoomError, fs, rfl, hEx, KN.ye _ (List.mem_of_getElem? hc), _, rfl, iteN (by decide) ?_⟩
  refine ⟨_, rfl, e, C, fs, _, rfl, hEx, hxc, (by simp [VB]), _, rfl, iteN (by decide) ?_⟩
  refine ⟨_, rfl, e, c, fs, rfl, ob, fun l H1 g1 k1 => ?_⟩
  refine ⟨_, rfl, by decide, by decide, comp_range (n := 27) (fun i ys H' => H' = H1 ∧ ys = kindsV c i) ⟨rfl, rfl⟩ (fun i ys H' _ z => by rw [z.2, kindsV_len]; exact Nat.le_refl _) (by decide) (fun i ys H' hi z => ?_) (fun ys H' z => ?_)⟩
  · obtain ⟨rfl, rfl⟩ := z
    rw [Int.zero_add]
    refine ⟨_, rfl, _, rfl, rfl, ⟨rfl, ?_⟩, _, rfl⟩
    rw [kindsV_succ]
    congr 3
    exact decide_eq_decide.mpr ⟨fun z => by have := V.int.inj z; omega, fun z => by rw [z]⟩
  · obtain ⟨rfl, rfl⟩ := z
    intro b hb
    exact ⟨l, b, _, _, rfl, rfl, SqL.of ((same_new hb _) _ _ k1), SqL.of upd_same, rfl, eqs_same rfl (kindsV_self c 27), q _ (g1.trans (same_new hb _))⟩
end
end K05

namespace K05
open PySem L2 PyProof.Rows
abbrev s_law_same : Stmt := top 43
theorem sc_law_same : FnScope ["_law_found", "_law_thing_here"] ["_law_found", "_law_thing_here"] (defScope s_law_same) := ⟨rfl, rfl, rfl, by decide +kernel, rfl, by decide +kernel, by decide +kernel⟩
section
variable {P : Program} {w : World} {K : PySem.W.Frag} {mg : Str → Option Value} {base : Heap}
theorem ok_law_same {k : Nat} {f : Addr} {fd : FuncData} (F : Fun K "_law_same" "_law_same" s_law_same f fd) (M : Blt mg) {C_RoomError f_RoomError_init : Addr} (T_RoomError : TXB K mg C_RoomError f_RoomError_init) (VI : VInit K) {C_Beyond f_Beyond_init : Addr} (T_Beyond : TX K mg "Beyond" C_Beyond C_RoomError f_Beyond_init ["found"]) {C_Lacking f_Lacking_init : Addr} (T_Lacking : TX K mg "Lacking" C_Lacking C_RoomError f_Lacking_init ["unit"]) {C_LaidTwice f_LaidTwice_init : Addr} (T_LaidTwice : TX K mg "LaidTwice" C_LaidTwice C_RoomError f_LaidTwice_init ["line", "unit"]) {C_Meets f_Meets_init : Addr} (T_Meets : TX K mg "Meets" C_Meets C_RoomError f_Meets_init ["unit", "thing", "second", "another"]) {C_NamedTwice f_NamedTwice_init : Addr} (T_NamedTwice : TX K mg "NamedTwice" C_NamedTwice C_RoomError f_NamedTwice_init ["line", "name"]) {C_NoBudget f_NoBudget_init : Addr} (T_NoBudget : TX K mg "NoBudget" C_NoBudget C_RoomError f_NoBudget_init ["found"]) {C_NoDesk f_NoDesk_init : Addr} (T_NoDesk : TX K mg "NoDesk" C_NoDesk C_RoomError f_NoDesk_init ["line"]) {C_NoInput f_NoInput_init : Addr} (T_NoInput : TX K mg "NoInput" C_NoInput C_RoomError f_NoInput_init ["name"]) {C_NoKeep f_NoKeep_init : Addr} (T_NoKeep : TX K mg "NoKeep" C_NoKeep C_RoomError f_NoKeep_init ["found"]) {C_NoLaying f_NoLaying_init : Addr} (T_NoLaying : TX K mg "NoLaying" C_NoLaying C_RoomError f_NoLaying_init ["line"]) {C_NoLayings f_NoLayings_init : Addr} (T_NoLayings : TX K mg "NoLayings" C_NoLayings C_RoomError f_NoLayings_init ["found"]) {C_NoLine f_NoLine_init : Addr} (T_NoLine : TX K mg "NoLine" C_NoLine C_RoomError f_NoLine_init ["found"]) {C_NoOpen f_NoOpen_init : Addr} (T_NoOpen : TX K mg "NoOpen" C_NoOpen C_RoomError f_NoOpen_init ["found"]) {C_NoPath f_NoPath_init : Addr} (T_NoPath : TX K mg "NoPath" C_NoPath C_RoomError f_NoPath_init ["path"]) {C_NoPlace f_NoPlace_init : Addr} (T_NoPlace : TX K mg "NoPlace" C_NoPlace C_RoomError f_NoPlace_init ["found"]) {C_NoProgram f_NoProgram_init : Addr} (T_NoProgram : TX K mg "NoProgram" C_NoProgram C_RoomError f_NoProgram_init ["line"]) {C_NoRecord f_NoRecord_init : Addr} (T_NoRecord : TX K mg "NoRecord" C_NoRecord C_RoomError f_NoRecord_init ["found"]) {C_NoRoom f_NoRoom_init : Addr} (T_NoRoom : TX K mg "NoRoom" C_NoRoom C_RoomError f_NoRoom_init ["found"]) {C_NoShapes f_NoShapes_init : Addr} (T_NoShapes : TX K mg "NoShapes" C_NoShapes C_RoomError f_NoShapes_init ["line"]) {C_NoThings f_NoThings_init : Addr} (T_NoThings : TX K mg "NoThings" C_NoThings C_RoomError f_NoThings_init ["found"]) {C_NoTurn f_NoTurn_init : Addr} (T_NoTurn : TX K mg "NoTurn" C_NoTurn C_RoomError f_NoTurn_init ["found"]) {C_Other f_Other_init : Addr} (T_Other : TX K mg "Other" C_Other C_RoomError f_Other_init ["found"]) {C_Past f_Past_init : Addr} (T_Past : TX K mg "Past" C_Past C_RoomError f_Past_init ["unit", "thing", "cell"]) {C_TooMuch f_TooMuch_init : Addr} (T_TooMuch : TX K mg "TooMuch" C_TooMuch C_RoomError f_TooMuch_init ["line"]) {C_UnknownShape f_UnknownShape_init : Addr} (T_UnknownShape : TX K mg "UnknownShape" C_UnknownShape C_RoomError f_UnknownShape_init ["line", "name"]) {C_UnknownUnit f_UnknownUnit_init : Addr} (T_UnknownUnit : TX K mg "UnknownUnit" C_UnknownUnit C_RoomError f_UnknownUnit_init ["line", "unit"]) {C_WrongPath f_WrongPath_init : Addr} (T_WrongPath : TX K mg "WrongPath" C_WrongPath C_RoomError f_WrongPath_init ["line", "path"]) : FnOkH P w K mg base CX0 (k + 2) f fd ["_law_found", "_law_thing_here"] (spSame K) := by
  refine F.okH sc_law_same (fun vs H Q E h => ?_) (fun cdv A outer s0 H vs Q E hr0 h => ?_)
  · obtain ⟨x, y, d, rfl, _⟩ := h; rfl
  obtain ⟨x, y, d, rfl, hE, t1, t2, q⟩ := h
  have hr := hr0.mono (Nat.le_succ _)
  refine ⟨_, (pss_one (ps_ret (pe_and (pe_cmpR (op_eqG (K := K) rfl hr.units) (pv 0) (pv 1) (nomark _)) (pe_one (pe_cmpR op_eq (pe_callB (call_reprG (K := K) rfl hr.gd hr.units) rfl M.repr (show bootBuiltins "repr" = some (.builtin "repr") from by decide +kernel) (pa_cons (pv 0) pa_nil)) (pe_callB (call_reprG (K := K) rfl hr.gd hr.units) rfl M.repr (show bootBuiltins "repr" = some (.builtin "repr") from by decide +kernel) (pa_cons (pv 1) pa_nil)) (nomark _)))))), ?_⟩
  refine ⟨_, rfl, _, rfl, hE, _, rfl, iteP rfl ⟨_, rfl, x, d, rfl, t1.dat, t1.sh, t1.dp, t1.ln, _, rfl, y, d, rfl, t2.dat, t2.sh, t2.dp, t2.ln, rfl, ?_⟩⟩
  rw [decide_eq_true rfl]
  exact q
end
end K05

namespace K05
open PySem L2 PyProof.Rows
abbrev s_law_taken : Stmt := top 44
theorem sc_law_taken : FnScope ["_law_at", "_law_thing_here", "_law_taken_here", "_law_e"] ["_law_at", "_law_thing_here"] (defScope s_law_taken) := ⟨rfl, rfl, rfl, by decide +kernel, rfl, by decide +kernel, by decide +kernel⟩
section
variable {P : Program} {w : World} {K : PySem.W.Frag} {mg : Str → Option Value} {base : Heap}
theorem ok_law_taken {k : Nat} {f : Addr} {fd : FuncData} (F : Fun K "_law_taken" "_law_taken" s_law_taken f fd) (M : Blt mg) {C_RoomError f_RoomError_init : Addr} (T_RoomError : TXB K mg C_RoomError f_RoomError_init) (VI : VInit K) {C_Beyond f_Beyond_init : Addr} (T_Beyond : TX K mg "Beyond" C_Beyond C_RoomError f_Beyond_init ["found"]) {C_Lacking f_Lacking_init : Addr} (T_Lacking : TX K mg "Lacking" C_Lacking C_RoomError f_Lacking_init ["unit"]) {C_LaidTwice f_LaidTwice_init : Addr} (T_LaidTwice : TX K mg "LaidTwice" C_LaidTwice C_RoomError f_LaidTwice_init ["line", "unit"]) {C_Meets f_Meets_init : Addr} (T_Meets : TX K mg "Meets" C_Meets C_RoomError f_Meets_init ["unit", "thing", "second", "another"]) {C_NamedTwice f_NamedTwice_init : Addr} (T_NamedTwice : TX K mg "NamedTwice" C_NamedTwice C_RoomError f_NamedTwice_init ["line", "name"]) {C_NoBudget f_NoBudget_init : Addr} (T_NoBudget : TX K mg "NoBudget" C_NoBudget C_RoomError f_NoBudget_init ["found"]) {C_NoDesk f_NoDesk_init : Addr} (T_NoDesk : TX K mg "NoDesk" C_NoDesk C_RoomError f_NoDesk_init ["line"]) {C_NoInput f_NoInput_init : Addr} (T_NoInput : TX K mg "NoInput" C_NoInput C_RoomError f_NoInput_init ["name"]) {C_NoKeep f_NoKeep_init : Addr} (T_NoKeep : TX K mg "NoKeep" C_NoKeep C_RoomError f_NoKeep_init ["found"]) {C_NoLaying f_NoLaying_init : Addr} (T_NoLaying : TX K mg "NoLaying" C_NoLaying C_RoomError f_NoLaying_init ["line"]) {C_NoLayings f_NoLayings_init : Addr} (T_NoLayings : TX K mg "NoLayings" C_NoLayings C_RoomError f_NoLayings_init ["found"]) {C_NoLine f_NoLine_init : Addr} (T_NoLine : TX K mg "NoLine" C_NoLine C_RoomError f_NoLine_init ["found"]) {C_NoOpen f_NoOpen_init : Addr} (T_NoOpen : TX K mg "NoOpen" C_NoOpen C_RoomError f_NoOpen_init ["found"]) {C_NoPath f_NoPath_init : Addr} (T_NoPath : TX K mg "NoPath" C_NoPath C_RoomError f_NoPath_init ["path"]) {C_NoPlace f_NoPlace_init : Addr} (T_NoPlace : TX K mg "NoPlace" C_NoPlace C_RoomError f_NoPlace_init ["found"]) {C_NoProgram f_NoProgram_init : Addr} (T_NoProgram : TX K mg "NoProgram" C_NoProgram C_RoomError f_NoProgram_init ["line"]) {C_NoRecord f_NoRecord_init : Addr} (T_NoRecord : TX K mg "NoRecord" C_NoRecord C_RoomError f_NoRecord_init ["found"]) {C_NoRoom f_NoRoom_init : Addr} (T_NoRoom : TX K mg "NoRoom" C_NoRoom C_RoomError f_NoRoom_init ["found"]) {C_NoShapes f_NoShapes_init : Addr} (T_NoShapes : TX K mg "NoShapes" C_NoShapes C_RoomError f_NoShapes_init ["line"]) {C_NoThings f_NoThings_init : Addr} (T_NoThings : TX K mg "NoThings" C_NoThings C_RoomError f_NoThings_init ["found"]) {C_NoTurn f_NoTurn_init : Addr} (T_NoTurn : TX K mg "NoTurn" C_NoTurn C_RoomError f_NoTurn_init ["found"]) {C_Other f_Other_init : Addr} (T_Other : TX K mg "Other" C_Other C_RoomError f_Other_init ["found"]) {C_Past f_Past_init : Addr} (T_Past : TX K mg "Past" C_Past C_RoomError f_Past_init ["unit", "thing", "cell"]) {C_TooMuch f_TooMuch_init : Addr} (T_TooMuch : TX K mg "TooMuch" C_TooMuch C_RoomError f_TooMuch_init ["line"]) {C_UnknownShape f_UnknownShape_init : Addr} (T_UnknownShape : TX K mg "UnknownShape" C_UnknownShape C_RoomError f_UnknownShape_init ["line", "name"]) {C_UnknownUnit f_UnknownUnit_init : Addr} (T_UnknownUnit : TX K mg "UnknownUnit" C_UnknownUnit C_RoomError f_UnknownUnit_init ["line", "unit"]) {C_WrongPath f_WrongPath_init : Addr} (T_WrongPath : TX K mg "WrongPath" C_WrongPath C_RoomError f_WrongPath_init ["line", "path"]) {fd_NoPlace_init : FuncData} (D_NoPlace_init : DfI K fd_NoPlace_init ["self", "found"]) (G_NoPlace_init : FnOk P w K mg base (CXE P w) k f_NoPlace_init fd_NoPlace_init ["self", "found"] (spXn C_NoPlace ["found"])) {fd_NoRoom_init : FuncData} (D_NoRoom_init : DfI K fd_NoRoom_init ["self", "found"]) (G_NoRoom_init : FnOk P w K mg base (CXE P w) k f_NoRoom_init fd_NoRoom_init ["self", "found"] (spXn C_NoRoom ["found"])) {f_law_same : Addr} {fd_law_same : FuncData} (D_law_same : Df K mg "_law_same" f_law_same fd_law_same ["_law_found", "_law_thing_here"]) (G_law_same : FnOkH P w K mg base CX0 k f_law_same fd_law_same ["_law_found", "_law_thing_here"] (spSame K)) (KN : Kin K C_RoomError [C_NoRoom, C_NoPlace, C_NoShapes, C_UnknownShape, C_NamedTwice, C_TooMuch, C_NoRecord, C_NoPath, C_Beyond, C_Other, C_NoLaying, C_UnknownUnit, C_LaidTwice, C_Lacking, C_Past, C_Meets, C_NoProgram, C_WrongPath, C_NoInput, C_NoThings, C_NoBudget, C_NoLine, C_NoKeep, C_NoLayings, C_NoTurn, C_NoOpen, C_NoDesk]) : FnOk P w K mg base CX0 (k + 2) f fd ["_law_at", "_law_thing_here"] (spTaken K) := by
  refine F.ok sc_law_taken (fun vs H Q E h => ?_) (fun cdv A outer s0 H vs Q E hr0 h => ?_)
  · obtain ⟨n, p, x, rfl, _⟩ := h; rfl
  obtain ⟨n, p, x, rfl, th, q⟩ := h
  have hr := hr0.mono (Nat.le_succ _)
  refine ⟨_, (pss_cons (ps_set (i := 2) sc_law_taken.nd rfl (by first | exact Or.inl rfl | exact Or.inr rfl) pe_bl)
      (pss_cons (ps_try (i := 3) rfl rfl rfl rfl T_RoomError.m T_RoomError.x sc_law_taken.nd rfl rfl (fun _ _ _ => (pss_one (ps_if (pt_cmpR op_eq (pe_op op_mod (pv 0) pe_int) pe_int (nomark _)) (pss_one (ps_raise T_NoPlace.c G_NoPlace_init hr0 rfl T_NoPlace.m D_NoPlace_init.b .nil raisesT (pa_cons (pv 1) pa_nil))) (pss_one (ps_raise T_NoRoom.c G_NoRoom_init hr0 rfl T_NoRoom.m D_NoRoom_init.b .nil raisesT (pa_cons (pv 1) pa_nil)))))) (fun _ => (pss_one (ps_if (pt_val (pe_callB (call_isTup (K := K) rfl) rfl M.isinstance boot_isinstance (pa_cons (pv 3) (pa_cons (pe_tup (pa_cons (pe_glob (v := .ref C_NoPlace) rfl T_NoPlace.m rfl) (pa_cons (pe_glob (v := .ref C_NoRoom) rfl T_NoRoom.m rfl) pa_nil))) pa_nil)))) (pss_one (ps_set (i := 2) sc_law_taken.nd rfl (by first | exact Or.inl rfl | exact Or.inr rfl) (pe_callH G_law_same (hr.mark _) rfl D_law_same.m D_law_same.k D_law_same.b .nil pass0 (pa_cons (pe_xfldK (K := K) rfl (pv 3) rfl) (pa_cons (pv 1) pa_nil))))) pss_nil))))
      (pss_one (ps_ret (pv 2))))), ?_⟩
  refine ⟨fun σ => σ = [some (.int n), some x, some (.bl false), none], fun v _ H' => ∃ e C dx, v = .ref e ∧ Same H H' ∧ (C = C_NoPlace ∨ C = C_NoRoom) ∧ H' e = some (ExF e C (some dx)) ∧ H' dx = some (XD dx [("found", x)]), ?_, fun σ' e H' hS hW => ?_⟩
  · refine ⟨_, rfl, _, _, rfl, rfl, (by show (0 : Int) < _; decide), rfl, _, rfl, ite2 (fun _ => ?_) (fun _ => ?_)⟩
    · exact ⟨rfl, _, rfl, (by show 1 ≤ 1000; decide), fun e he => ⟨e, [x], rfl, rfl, upd_same, fun dx H1 F => ⟨rfl, e, some dx, rfl, F.ae, by
      obtain ⟨g1, g2, g3⟩ := F.fly he
      exact ⟨e, C_NoPlace, dx, rfl, g1, .inl rfl, g2, g3⟩⟩⟩⟩
    · exact ⟨rfl, _, rfl, (by show 1 ≤ 1000; decide), fun e he => ⟨e, [x], rfl, rfl, upd_same, fun dx H1 F => ⟨rfl, e, some dx, rfl, F.ae, by
      obtain ⟨g1, g2, g3⟩ := F.fly he
      exact ⟨e, C_NoRoom, dx, rfl, g1, .inr rfl, g2, g3⟩⟩⟩⟩
  subst hS
  obtain ⟨e2, C, dx, ee, g, hC, hE, hX⟩ := hW
  cases ee
  rcases hC with hC | hC
  · rw [hC] at hE
    have hEx : Exc K H' e C_NoPlace [("found", x)] := ⟨dx, C_RoomError, f_NoPlace_init, .inl hE, hX, T_NoPlace.c⟩
    refine ⟨C_NoPlace, some dx, _, hE, T_NoPlace.x, (by simp), ?_⟩
    refine ⟨_, rfl, (by show 2 ≤ sizeLine; decide), ?_⟩; o_unpack tp
    have hE2 := Same.at (by assumption) hE
    have hX2 := Same.at (by assumption) hX
    have th2 := (th.same g).same (by assumption)
    have hEx2 := Exc.same hEx (by assumption)
    obtain ⟨d, t1, hq⟩ := th2.tg
    refine ⟨e, C_NoPlace, tp, _, [C_NoPlace, C_NoRoom], rfl, hEx2, (by assumption), ?_, _, rfl, iteP ?_ ?_⟩
    · intro D hD
      simp only [List.mem_cons, List.not_mem_nil, or_false] at hD
      rcases hD with rfl | rfl
      · exact .inl rfl
      · exact .inr (KN.no 1 0 _ _ rfl rfl (by decide))
    · simp
    exact ⟨_, rfl, e, C_NoPlace, C_RoomError, f_NoPlace_init, dx, _, x, rfl, .inl hE2, hX2, T_NoPlace.c, T_NoPlace.n _ (List.mem_singleton.mpr rfl), rfl, _, rfl, x, x, d, rfl, hq, t1, t1, _, rfl, q _ (by walk_at "hp")⟩
  · rw [hC] at hE
    have hEx : Exc K H' e C_NoRoom [("found", x)] := ⟨dx, C_RoomError, f_NoRoom_init, .inl hE, hX, T_NoRoom.c⟩
    refine ⟨C_NoRoom, some dx, _, hE, T_NoRoom.x, (by simp), ?_⟩
    refine ⟨_, rfl, (by show 2 ≤ sizeLine; decide), ?_⟩; o_unpack tp
    have hE2 := Same.at (by assumption) hE
    have hX2 := Same.at (by assumption) hX
    have th2 := (th.same g).same (by assumption)
    have hEx2 := Exc.same hEx (by assumption)
    obtain ⟨d, t1, hq⟩ := th2.tg
    refine ⟨e, C_NoRoom, tp, _, [C_NoPlace, C_NoRoom], rfl, hEx2, (by assumption), ?_, _, rfl, iteP ?_ ?_⟩
    · intro D hD
      simp only [List.mem_cons, List.not_mem_nil, or_false] at hD
      rcases hD with rfl | rfl
      · exact .inr (KN.no 0 1 _ _ rfl rfl (by decide))
      · exact .inl rfl
    · simp
    exact ⟨_, rfl, e, C_NoRoom, C_RoomError, f_NoRoom_init, dx, _, x, rfl, .inl hE2, hX2, T_NoRoom.c, T_NoRoom.n _ (List.mem_singleton.mpr rfl), rfl, _, rfl, x, x, d, rfl, hq, t1, t1, _, rfl, q _ (by walk_at "hp")⟩

end
end K05

namespace K05
open PySem L2 PyProof.Rows
abbrev s_law_thing : Stmt := top 45
theorem sc_law_thing : FnScope ["_law_state", "_law_some"] ["_law_state"] (defScope s_law_thing) := ⟨rfl, rfl, rfl, by decide +kernel, rfl, by decide +kernel, by decide +kernel⟩
section
variable {P : Program} {w : World} {K : PySem.W.Frag} {mg : Str → Option Value} {base : Heap}
theorem ok_law_thing {k : Nat} {f : Addr} {fd : FuncData} (F : Fun K "_law_thing" "_law_thing" s_law_thing f fd) (M : Blt mg) {C_RoomError f_RoomError_init : Addr} (T_RoomError : TXB K mg C_RoomError f_RoomError_init) (VI : VInit K) {C_Beyond f_Beyond_init : Addr} (T_Beyond : TX K mg "Beyond" C_Beyond C_RoomError f_Beyond_init ["found"]) {C_Lacking f_Lacking_init : Addr} (T_Lacking : TX K mg "Lacking" C_Lacking C_RoomError f_Lacking_init ["unit"]) {C_LaidTwice f_LaidTwice_init : Addr} (T_LaidTwice : TX K mg "LaidTwice" C_LaidTwice C_RoomError f_LaidTwice_init ["line", "unit"]) {C_Meets f_Meets_init : Addr} (T_Meets : TX K mg "Meets" C_Meets C_RoomError f_Meets_init ["unit", "thing", "second", "another"]) {C_NamedTwice f_NamedTwice_init : Addr} (T_NamedTwice : TX K mg "NamedTwice" C_NamedTwice C_RoomError f_NamedTwice_init ["line", "name"]) {C_NoBudget f_NoBudget_init : Addr} (T_NoBudget : TX K mg "NoBudget" C_NoBudget C_RoomError f_NoBudget_init ["found"]) {C_NoDesk f_NoDesk_init : Addr} (T_NoDesk : TX K mg "NoDesk" C_NoDesk C_RoomError f_NoDesk_init ["line"]) {C_NoInput f_NoInput_init : Addr} (T_NoInput : TX K mg "NoInput" C_NoInput C_RoomError f_NoInput_init ["name"]) {C_NoKeep f_NoKeep_init : Addr} (T_NoKeep : TX K mg "NoKeep" C_NoKeep C_RoomError f_NoKeep_init ["found"]) {C_NoLaying f_NoLaying_init : Addr} (T_NoLaying : TX K mg "NoLaying" C_NoLaying C_RoomError f_NoLaying_init ["line"]) {C_NoLayings f_NoLayings_init : Addr} (T_NoLayings : TX K mg "NoLayings" C_NoLayings C_RoomError f_NoLayings_init ["found"]) {C_NoLine f_NoLine_init : Addr} (T_NoLine : TX K mg "NoLine" C_NoLine C_RoomError f_NoLine_init ["found"]) {C_NoOpen f_NoOpen_init : Addr} (T_NoOpen : TX K mg "NoOpen" C_NoOpen C_RoomError f_NoOpen_init ["found"]) {C_NoPath f_NoPath_init : Addr} (T_NoPath : TX K mg "NoPath" C_NoPath C_RoomError f_NoPath_init ["path"]) {C_NoPlace f_NoPlace_init : Addr} (T_NoPlace : TX K mg "NoPlace" C_NoPlace C_RoomError f_NoPlace_init ["found"]) {C_NoProgram f_NoProgram_init : Addr} (T_NoProgram : TX K mg "NoProgram" C_NoProgram C_RoomError f_NoProgram_init ["line"]) {C_NoRecord f_NoRecord_init : Addr} (T_NoRecord : TX K mg "NoRecord" C_NoRecord C_RoomError f_NoRecord_init ["found"]) {C_NoRoom f_NoRoom_init : Addr} (T_NoRoom : TX K mg "NoRoom" C_NoRoom C_RoomError f_NoRoom_init ["found"]) {C_NoShapes f_NoShapes_init : Addr} (T_NoShapes : TX K mg "NoShapes" C_NoShapes C_RoomError f_NoShapes_init ["line"]) {C_NoThings f_NoThings_init : Addr} (T_NoThings : TX K mg "NoThings" C_NoThings C_RoomError f_NoThings_init ["found"]) {C_NoTurn f_NoTurn_init : Addr} (T_NoTurn : TX K mg "NoTurn" C_NoTurn C_RoomError f_NoTurn_init ["found"]) {C_Other f_Other_init : Addr} (T_Other : TX K mg "Other" C_Other C_RoomError f_Other_init ["found"]) {C_Past f_Past_init : Addr} (T_Past : TX K mg "Past" C_Past C_RoomError f_Past_init ["unit", "thing", "cell"]) {C_TooMuch f_TooMuch_init : Addr} (T_TooMuch : TX K mg "TooMuch" C_TooMuch C_RoomError f_TooMuch_init ["line"]) {C_UnknownShape f_UnknownShape_init : Addr} (T_UnknownShape : TX K mg "UnknownShape" C_UnknownShape C_RoomError f_UnknownShape_init ["line", "name"]) {C_UnknownUnit f_UnknownUnit_init : Addr} (T_UnknownUnit : TX K mg "UnknownUnit" C_UnknownUnit C_RoomError f_UnknownUnit_init ["line", "unit"]) {C_WrongPath f_WrongPath_init : Addr} (T_WrongPath : TX K mg "WrongPath" C_WrongPath C_RoomError f_WrongPath_init ["line", "path"]) {f_law_draw : Addr} {fd_law_draw : FuncData} (D_law_draw : Df K mg "_law_draw" f_law_draw fd_law_draw ["_law_state", "_law_many"]) (G_law_draw : FnOk P w K mg base CX0 k f_law_draw fd_law_draw ["_law_state", "_law_many"] spDraw) : FnOk P w K mg base CX0 (k + 2) f fd ["_law_state"] (spThing K) := by
  refine F.ok sc_law_thing (fun vs H Q E h => ?_) (fun cdv A outer s0 H vs Q E hr0 h => ?_)
  · obtain ⟨p, rfl, _⟩ := h; rfl
  obtain ⟨p, rfl, hs, q⟩ := h
  have hr := hr0.mono (Nat.le_succ _)
  refine ⟨_, (PSx.h (psx_cons (pstx_lst (i := 1) sc_law_thing.nd rfl rfl (pex_lst (pax_cons (pex_of (pe_call G_law_draw hr rfl D_law_draw.m D_law_draw.k D_law_draw.b .nil pass0 (pa_cons (pv 0) (pa_cons pe_int pa_nil)))) (pax_cons (pex_of (pe_op op_sub pe_int pe_int)) (pax_cons (pex_of pe_str) (pax_cons (pex_of pe_str) (pax_cons (pex_of pe_non) (pax_cons (pex_of pe_bl) (pax_cons (pex_of pe_bl) (pax_cons (pex_of (pe_lstS (pa_cons pe_int (pa_cons (pe_lstS (pa_cons pe_int pa_nil)) pa_nil)))) (pax_cons (pex_of (pe_tup (pa_cons pe_int (pa_cons pe_str pa_nil)))) (pax_cons (pex_of (pe_disp (pps_cons pe_str (pe_lstS (pa_cons pe_int pa_nil)) pps_nil) rfl rfl (fun z => nomatch z) (by decide))) (pax_cons (pex_of (pe_lstS pa_nil)) pax_nil se_list) se_dict) se_tuple) se_list) se_const) se_const) se_const) se_const) se_const) se_bin) se_call)))
      (psx_cons (pstx_of (ps_expr (pe_bm PySem.F.plainAttrs_list PySem.F.slot_list_append PySem.F.type_list_append mt_append (pv 1) (pa_cons (pe_op op_pow pe_int pe_int) pa_nil))))
      (psx_one (pstx_ret (pex_of (pe_ix ix_list (pv 1) (pe_call G_law_draw hr rfl D_law_draw.m D_law_draw.k D_law_draw.b .nil pass0 (pa_cons (pv 0) (pa_cons pe_int pa_nil))) (fun _ _ => rfl)))))))), ?_⟩
  refine ⟨_, rfl, p, 1000003, rfl, by decide, by decide, hs, fun v H1 v0 v1 d1 => ?_⟩
  obtain ⟨z1, z2, z3, hp⟩ := id d1.1
  refine ⟨_, _, rfl, rfl, ?_⟩
  refine ⟨(by show 1 ≤ sizeLine; decide), ?_⟩
  intro a1 n_a1 h_a1
  generalize eX : upd _ a1 _ = H2
  obtain ⟨g_a1, k_a1⟩ := new_facts eX h_a1
  clear eX
  refine ⟨(by show 2 ≤ sizeLine; decide), ?_⟩
  intro a2 n_a2 h_a2
  generalize eX : upd _ a2 _ = H3
  obtain ⟨g_a2, k_a2⟩ := new_facts eX h_a2
  clear eX
  refine ⟨(by show 2 ≤ sizeLine; decide), ?_⟩
  intro a3 h_a3
  generalize eX : upd _ a3 _ = H4
  obtain ⟨g_a3, k_a3⟩ := new_facts eX h_a3
  clear eX
  intro a4 h_a4
  refine ⟨(by show 1 ≤ sizeLine; decide), ?_⟩
  intro a5 n_a5 h_a5
  have n54 : a5 ≠ a4 := fun z => by rw [z, upd_same] at h_a5; cases h_a5
  have h_a5' : H4 a5 = none := by rw [upd_ne n54] at h_a5; exact h_a5
  refine ⟨by rw [upd_ne (Ne.symm n54)]; exact upd_same, [(.inr (Str.ofString "a"), .ref a5)], rfl, (by simp), ?_⟩
  have g_a4 : Same H4 (upd (upd (upd H4 a4 (.dK [])) a5 (.lst [.int 1])) a4 (.dK [(.inr (Str.ofString "a"), .ref a5)])) := same_upd (same_upd (same_new h_a4 _) h_a5') h_a4
  have k_a4 : upd (upd (upd H4 a4 (.dK [])) a5 (.lst [.int 1])) a4 (.dK [(.inr (Str.ofString "a"), .ref a5)]) a4 = some (.dK [(.inr (Str.ofString "a"), .ref a5)]) := upd_same
  have k_a5 : upd (upd (upd H4 a4 (.dK [])) a5 (.lst [.int 1])) a4 (.dK [(.inr (Str.ofString "a"), .ref a5)]) a5 = some (.lst [.int 1]) := by rw [upd_ne n54, upd_same]
  rw [show mergeK [] [((.inr (Str.ofString "a") : Key), V.ref a5)] = [(.inr (Str.ofString "a"), .ref a5)] from rfl]
  generalize upd (upd (upd H4 a4 (.dK [])) a5 (.lst [.int 1])) a4 (.dK [(.inr (Str.ofString "a"), .ref a5)]) = H5 at g_a4 k_a4 k_a5 ⊢
  refine ⟨(by show 0 ≤ sizeLine; decide), ?_⟩
  intro a6 n_a6 h_a6
  generalize eX : upd _ a6 _ = H6
  obtain ⟨g_a6, k_a6⟩ := new_facts eX h_a6
  clear eX
  refine ⟨(by show 11 ≤ sizeLine; decide), ?_⟩
  intro a7 h_a7
  refine ⟨_, rfl, .inl ⟨rfl, _, SqL.of upd_same⟩, _, _, rfl, rfl, ⟨by decide, by decide, by decide⟩, a7, _, _, rfl, rfl, upd_same, (by show 11 < sizeLine; decide), ?_⟩
  rw [upd_upd]
  generalize eX : upd _ a7 _ = H7
  obtain ⟨g_a7, k_a7⟩ := new_facts eX h_a7
  clear eX
  have hp7 : H7 p = some (.lst [.int z1, .int z2, .int z3]) := by walk_at "hp"
  refine ⟨_, rfl, _, rfl, p, 12, rfl, by decide, by decide, ⟨_, _, _, hp7⟩, fun u H8 u0 u1 d8 => ?_⟩
  have np : ∀ {b : Addr} {Hx : Hp}, Hx p = some (.lst [.int z1, .int z2, .int z3]) → Hx b = none → b ≠ p := fun h1 h2 z => by rw [z, h1] at h2; cases h2
  have np1 : a1 ≠ p := np hp h_a1
  have np2 : a2 ≠ p := np (show H2 p = _ by walk_at "hp") h_a2
  have np3 : a3 ≠ p := np (show H3 p = _ by walk_at "hp") h_a3
  have np4 : a4 ≠ p := np (show H4 p = _ by walk_at "hp") h_a4
  have np5 : a5 ≠ p := np (show H4 p = _ by walk_at "hp") h_a5'
  have np6 : a6 ≠ p := np (show H5 p = _ by walk_at "hp") h_a6
  have np7 : a7 ≠ p := np (show H6 p = _ by walk_at "hp") h_a7
  have o1 : offp p H7 a1 = _ := offp_at np1 (show H7 a1 = some (.lst [.int 2]) by walk_at "hp")
  have o2 : offp p H7 a2 = _ := offp_at np2 (show H7 a2 = some (.lst [.int 1, .ref a1]) by walk_at "hp")
  have o3 : offp p H7 a3 = _ := offp_at np3 (show H7 a3 = some (.tup [.int 0, .str (Str.ofString "a")]) by walk_at "hp")
  have o4 : offp p H7 a4 = _ := offp_at np4 (show H7 a4 = some (.dK [(.inr (Str.ofString "a"), .ref a5)]) by walk_at "hp")
  have o5 : offp p H7 a5 = _ := offp_at np5 (show H7 a5 = some (.lst [.int 1]) by walk_at "hp")
  have o6 : offp p H7 a6 = _ := offp_at np6 (show H7 a6 = some (.lst []) by walk_at "hp")
  have g17 : Same H1 H7 := by walk_at "hp"
  have k8 := d8.2 _ _ np7 k_a7
  have dd : Drawn p H H8 := (d1.sm g17).trans d8
  have tell : ∀ {x : V} {d : PyData}, DatG K (offp p H7) x d → Sg d → EqTop K (offp p H7) x x → Thing p K H8 x := fun h1 h2 h3 => Thing.drawn ⟨_, _, offp_no, offp_same, h1, h2, h3⟩ d8
  have SI : ∀ {l : Addr} {xs : List V}, offp p H7 l = some (.lst xs) → (∀ v ∈ xs, SelfV v) → EqTop K (offp p H7) (.ref l) (.ref l) := fun h1 h2 => .inr (.inl ⟨_, _, _, rfl, rfl, SqL.of h1, SqL.of h1, h2⟩)
  obtain rfl | rfl | rfl | rfl | rfl | rfl | rfl | rfl | rfl | rfl | rfl | rfl : u = 0 ∨ u = 1 ∨ u = 2 ∨ u = 3 ∨ u = 4 ∨ u = 5 ∨ u = 6 ∨ u = 7 ∨ u = 8 ∨ u = 9 ∨ u = 10 ∨ u = 11 := by omega
  · exact ⟨a7, _, _, _, rfl, rfl, SqL.of k8, rfl, q _ _ dd (tell (.int _) (Sg.int (by omega)) (.inl ⟨rfl, rfl⟩))⟩
  · exact ⟨a7, _, _, _, rfl, rfl, SqL.of k8, rfl, q _ _ dd (tell (.int _) (Sg.int (by decide)) (.inl ⟨rfl, rfl⟩))⟩
  · exact ⟨a7, _, _, _, rfl, rfl, SqL.of k8, rfl, q _ _ dd (tell (.str _) ⟨by decide +kernel, by decide +kernel, by decide +kernel, by decide +kernel⟩ (.inl ⟨rfl, rfl⟩))⟩
  · exact ⟨a7, _, _, _, rfl, rfl, SqL.of k8, rfl, q _ _ dd (tell (.str _) ⟨by decide +kernel, by decide +kernel, by decide +kernel, by decide +kernel⟩ (.inl ⟨rfl, rfl⟩))⟩
  · exact ⟨a7, _, _, _, rfl, rfl, SqL.of k8, rfl, q _ _ dd (tell .non ⟨by decide +kernel, by decide +kernel, by decide +kernel, by decide +kernel⟩ (.inl ⟨rfl, rfl⟩))⟩
  · exact ⟨a7, _, _, _, rfl, rfl, SqL.of k8, rfl, q _ _ dd (tell (.bl _) ⟨by decide +kernel, by decide +kernel, by decide +kernel, by decide +kernel⟩ (.inl ⟨rfl, rfl⟩))⟩
  · exact ⟨a7, _, _, _, rfl, rfl, SqL.of k8, rfl, q _ _ dd (tell (.bl _) ⟨by decide +kernel, by decide +kernel, by decide +kernel, by decide +kernel⟩ (.inl ⟨rfl, rfl⟩))⟩
  · exact ⟨a7, _, _, _, rfl, rfl, SqL.of k8, rfl, q _ _ dd (tell (d := .list [.int 1, .list [.int 2]]) (.lst (SqL.of o2) n_a2 (.cons (.int _) (.cons (.lst (SqL.of o1) n_a1 (.cons (.int _) .nil)) .nil))) ⟨by decide +kernel, by decide +kernel, by decide +kernel, by decide +kernel⟩ (SI o2 (by simp [SelfV, flatV])))⟩
  · exact ⟨a7, _, _, _, rfl, rfl, SqL.of k8, rfl, q _ _ dd (tell (d := .tuple [.int 0, .str (Str.ofString "a")]) (.tup (SqT.of o3) (.cons (.int _) (.cons (.str _) .nil))) ⟨by decide +kernel, by decide +kernel, by decide +kernel, by decide +kernel⟩ (.inr (.inr (.inl ⟨_, _, rfl, rfl, SqT.of o3, by simp [SelfV, flatV]⟩))))⟩
  · exact ⟨a7, _, _, _, rfl, rfl, SqL.of k8, rfl, q _ _ dd (tell (d := .dict [(.str (Str.ofString "a"), .list [.int 1])]) (.dct o4 (.lst (SqL.of o5) n_a5 (.cons (.int _) .nil))) ⟨by decide +kernel, by decide +kernel, by decide +kernel, by decide +kernel⟩ (.inr (.inr (.inr ⟨_, _, _, rfl, rfl, o4⟩))))⟩
  · exact ⟨a7, _, _, _, rfl, rfl, SqL.of k8, rfl, q _ _ dd (tell (d := .list []) (.lst (SqL.of o6) n_a6 .nil) ⟨by decide +kernel, by decide +kernel, by decide +kernel, by decide +kernel⟩ (SI o6 (by simp)))⟩
  · exact ⟨a7, _, _, _, rfl, rfl, SqL.of k8, rfl, q _ _ dd (tell (.int _) (Sg.int (by decide)) (.inl ⟨rfl, rfl⟩))⟩

end
end K05

namespace K05
open PySem L2 PyProof.Rows
abbrev s_law : Stmt := top 46
theorem sc_law : FnScope ["_law_script", "_law_k", "_law_state", "_law_at", "_law_thing_here", "_law_e", "_law_other", "_law_things"] ["_law_script"] (defScope s_law) := ⟨rfl, rfl, rfl, by decide +kernel, rfl, by decide +kernel, by decide +kernel⟩
section
variable {P : Program} {w : World} {K : PySem.W.Frag} {mg : Str → Option Value} {base : Heap}
theorem ok_law {k : Nat} {f : Addr} {fd : FuncData} (F : Fun K "law" "law" s_law f fd) (M : Blt mg) {C_RoomError f_RoomError_init : Addr} (T_RoomError : TXB K mg C_RoomError f_RoomError_init) (VI : VInit K) {C_Beyond f_Beyond_init : Addr} (T_Beyond : TX K mg "Beyond" C_Beyond C_RoomError f_Beyond_init ["found"]) {C_Lacking f_Lacking_init : Addr} (T_Lacking : TX K mg "Lacking" C_Lacking C_RoomError f_Lacking_init ["unit"]) {C_LaidTwice f_LaidTwice_init : Addr} (T_LaidTwice : TX K mg "LaidTwice" C_LaidTwice C_RoomError f_LaidTwice_init ["line", "unit"]) {C_Meets f_Meets_init : Addr} (T_Meets : TX K mg "Meets" C_Meets C_RoomError f_Meets_init ["unit", "thing", "second", "another"]) {C_NamedTwice f_NamedTwice_init : Addr} (T_NamedTwice : TX K mg "NamedTwice" C_NamedTwice C_RoomError f_NamedTwice_init ["line", "name"]) {C_NoBudget f_NoBudget_init : Addr} (T_NoBudget : TX K mg "NoBudget" C_NoBudget C_RoomError f_NoBudget_init ["found"]) {C_NoDesk f_NoDesk_init : Addr} (T_NoDesk : TX K mg "NoDesk" C_NoDesk C_RoomError f_NoDesk_init ["line"]) {C_NoInput f_NoInput_init : Addr} (T_NoInput : TX K mg "NoInput" C_NoInput C_RoomError f_NoInput_init ["name"]) {C_NoKeep f_NoKeep_init : Addr} (T_NoKeep : TX K mg "NoKeep" C_NoKeep C_RoomError f_NoKeep_init ["found"]) {C_NoLaying f_NoLaying_init : Addr} (T_NoLaying : TX K mg "NoLaying" C_NoLaying C_RoomError f_NoLaying_init ["line"]) {C_NoLayings f_NoLayings_init : Addr} (T_NoLayings : TX K mg "NoLayings" C_NoLayings C_RoomError f_NoLayings_init ["found"]) {C_NoLine f_NoLine_init : Addr} (T_NoLine : TX K mg "NoLine" C_NoLine C_RoomError f_NoLine_init ["found"]) {C_NoOpen f_NoOpen_init : Addr} (T_NoOpen : TX K mg "NoOpen" C_NoOpen C_RoomError f_NoOpen_init ["found"]) {C_NoPath f_NoPath_init : Addr} (T_NoPath : TX K mg "NoPath" C_NoPath C_RoomError f_NoPath_init ["path"]) {C_NoPlace f_NoPlace_init : Addr} (T_NoPlace : TX K mg "NoPlace" C_NoPlace C_RoomError f_NoPlace_init ["found"]) {C_NoProgram f_NoProgram_init : Addr} (T_NoProgram : TX K mg "NoProgram" C_NoProgram C_RoomError f_NoProgram_init ["line"]) {C_NoRecord f_NoRecord_init : Addr} (T_NoRecord : TX K mg "NoRecord" C_NoRecord C_RoomError f_NoRecord_init ["found"]) {C_NoRoom f_NoRoom_init : Addr} (T_NoRoom : TX K mg "NoRoom" C_NoRoom C_RoomError f_NoRoom_init ["found"]) {C_NoShapes f_NoShapes_init : Addr} (T_NoShapes : TX K mg "NoShapes" C_NoShapes C_RoomError f_NoShapes_init ["line"]) {C_NoThings f_NoThings_init : Addr} (T_NoThings : TX K mg "NoThings" C_NoThings C_RoomError f_NoThings_init ["found"]) {C_NoTurn f_NoTurn_init : Addr} (T_NoTurn : TX K mg "NoTurn" C_NoTurn C_RoomError f_NoTurn_init ["found"]) {C_Other f_Other_init : Addr} (T_Other : TX K mg "Other" C_Other C_RoomError f_Other_init ["found"]) {C_Past f_Past_init : Addr} (T_Past : TX K mg "Past" C_Past C_RoomError f_Past_init ["unit", "thing", "cell"]) {C_TooMuch f_TooMuch_init : Addr} (T_TooMuch : TX K mg "TooMuch" C_TooMuch C_RoomError f_TooMuch_init ["line"]) {C_UnknownShape f_UnknownShape_init : Addr} (T_UnknownShape : TX K mg "UnknownShape" C_UnknownShape C_RoomError f_UnknownShape_init ["line", "name"]) {C_UnknownUnit f_UnknownUnit_init : Addr} (T_UnknownUnit : TX K mg "UnknownUnit" C_UnknownUnit C_RoomError f_UnknownUnit_init ["line", "unit"]) {C_WrongPath f_WrongPath_init : Addr} (T_WrongPath : TX K mg "WrongPath" C_WrongPath C_RoomError f_WrongPath_init ["line", "path"]) {f_law_cell : Addr} {fd_law_cell : FuncData} (D_law_cell : Df K mg "_law_cell" f_law_cell fd_law_cell ["_law_script", "_law_k"]) (G_law_cell : FnOk P w K mg base CX0 k f_law_cell fd_law_cell ["_law_script", "_law_k"] (spCell K)) {f_law_begun : Addr} {fd_law_begun : FuncData} (D_law_begun : Df K mg "_law_begun" f_law_begun fd_law_begun ["_law_cell_here"]) (G_law_begun : FnOk P w K mg base CX0 k f_law_begun fd_law_begun ["_law_cell_here"] spBegun) {f_law_thing : Addr} {fd_law_thing : FuncData} (D_law_thing : Df K mg "_law_thing" f_law_thing fd_law_thing ["_law_state"]) (G_law_thing : FnOk P w K mg base CX0 k f_law_thing fd_law_thing ["_law_state"] (spThing K)) {f_law_of_one : Addr} {fd_law_of_one : FuncData} (D_law_of_one : Df K mg "_law_of_one" f_law_of_one fd_law_of_one ["_law_at", "_law_thing_here"]) (G_law_of_one : FnOk P w K mg base CX0 k f_law_of_one fd_law_of_one ["_law_at", "_law_thing_here"] (spOne K [C_NoRoom, C_NoPlace, C_NoShapes, C_UnknownShape, C_NamedTwice, C_TooMuch, C_NoRecord, C_NoPath, C_Beyond, C_Other, C_NoLaying, C_UnknownUnit, C_LaidTwice, C_Lacking, C_Past, C_Meets, C_NoProgram, C_WrongPath, C_NoInput, C_NoThings, C_NoBudget, C_NoLine, C_NoKeep, C_NoLayings, C_NoTurn, C_NoOpen, C_NoDesk])) {f_law_own : Addr} {fd_law_own : FuncData} (D_law_own : Df K mg "_law_own" f_law_own fd_law_own ["_law_e", "_law_place"]) (G_law_own : FnOk P w K mg base CX0 k f_law_own fd_law_own ["_law_e", "_law_place"] (spOwn K [C_NoRoom, C_NoPlace, C_NoShapes, C_UnknownShape, C_NamedTwice, C_TooMuch, C_NoRecord, C_NoPath, C_Beyond, C_Other, C_NoLaying, C_UnknownUnit, C_LaidTwice, C_Lacking, C_Past, C_Meets, C_NoProgram, C_WrongPath, C_NoInput, C_NoThings, C_NoBudget, C_NoLine, C_NoKeep, C_NoLayings, C_NoTurn, C_NoOpen, C_NoDesk])) {f_law_places : Addr} {fd_law_places : FuncData} (D_law_places : Df K mg "_law_places" f_law_places fd_law_places []) (G_law_places : FnOk P w K mg base CX0 k f_law_places fd_law_places [] (spList PL)) {f_law_same : Addr} {fd_law_same : FuncData} (D_law_same : Df K mg "_law_same" f_law_same fd_law_same ["_law_found", "_law_thing_here"]) (G_law_same : FnOkH P w K mg base CX0 k f_law_same fd_law_same ["_law_found", "_law_thing_here"] (spSame K)) {f_law_field : Addr} {fd_law_field : FuncData} (D_law_field : Df K mg "_law_field" f_law_field fd_law_field ["_law_at", "_law_e"]) (G_law_field : FnOk P w K mg base CX0 k f_law_field fd_law_field ["_law_at", "_law_e"] (spField K [C_NoRoom, C_NoPlace, C_NoShapes, C_UnknownShape, C_NamedTwice, C_TooMuch, C_NoRecord, C_NoPath, C_Beyond, C_Other, C_NoLaying, C_UnknownUnit, C_LaidTwice, C_Lacking, C_Past, C_Meets, C_NoProgram, C_WrongPath, C_NoInput, C_NoThings, C_NoBudget, C_NoLine, C_NoKeep, C_NoLayings, C_NoTurn, C_NoOpen, C_NoDesk])) {f_law_of_some : Addr} {fd_law_of_some : FuncData} (D_law_of_some : Df K mg "_law_of_some" f_law_of_some fd_law_of_some ["_law_at", "_law_things"]) (G_law_of_some : FnOk P w K mg base CX0 k f_law_of_some fd_law_of_some ["_law_at", "_law_things"] (spSome K [C_NoRoom, C_NoPlace, C_NoShapes, C_UnknownShape, C_NamedTwice, C_TooMuch, C_NoRecord, C_NoPath, C_Beyond, C_Other, C_NoLaying, C_UnknownUnit, C_LaidTwice, C_Lacking, C_Past, C_Meets, C_NoProgram, C_WrongPath, C_NoInput, C_NoThings, C_NoBudget, C_NoLine, C_NoKeep, C_NoLayings, C_NoTurn, C_NoOpen, C_NoDesk])) {f_law_more_places : Addr} {fd_law_more_places : FuncData} (D_law_more_places : Df K mg "_law_more_places" f_law_more_places fd_law_more_places []) (G_law_more_places : FnOk P w K mg base CX0 k f_law_more_places fd_law_more_places [] (spList PM)) {f_law_fields : Addr} {fd_law_fields : FuncData} (D_law_fields : Df K mg "_law_fields" f_law_fields fd_law_fields ["_law_at", "_law_e"]) (G_law_fields : FnOk P w K mg base CX0 k f_law_fields fd_law_fields ["_law_at", "_law_e"] (spFields K [C_NoRoom, C_NoPlace, C_NoShapes, C_UnknownShape, C_NamedTwice, C_TooMuch, C_NoRecord, C_NoPath, C_Beyond, C_Other, C_NoLaying, C_UnknownUnit, C_LaidTwice, C_Lacking, C_Past, C_Meets, C_NoProgram, C_WrongPath, C_NoInput, C_NoThings, C_NoBudget, C_NoLine, C_NoKeep, C_NoLayings, C_NoTurn, C_NoOpen, C_NoDesk])) {f_law_counts : Addr} {fd_law_counts : FuncData} (D_law_counts : Df K mg "_law_counts" f_law_counts fd_law_counts ["_law_at"]) (G_law_counts : FnOk P w K mg base CX0 k f_law_counts fd_law_counts ["_law_at"] spCounts) {f_law_taken : Addr} {fd_law_taken : FuncData} (D_law_taken : Df K mg "_law_taken" f_law_taken fd_law_taken ["_law_at", "_law_thing_here"]) (G_law_taken : FnOk P w K mg base CX0 k f_law_taken fd_law_taken ["_law_at", "_law_thing_here"] (spTaken K)) : FnOk P w K mg base CX0 (k + 2) f fd ["_law_script"] (spLaw K) := by
  refine F.ok sc_law (fun vs H Q E h => ?_) (fun cdv A outer s0 H vs Q E hr0 h => ?_)
  · obtain ⟨a, ns, rfl, _⟩ := h; rfl
  obtain ⟨a, ns, rfl, hS, h63, q⟩ := h
  have hr := hr0.mono (Nat.le_succ _)
  refine ⟨_, (pss_cons (ps_for PassesOwn.never rfl (pi_range1 rfl M.range (pa_cons (pe_callB (call_max2 rfl) rfl M.max boot_max (pa_cons pe_int (pa_cons (pe_callB (call_min2 rfl) rfl M.min boot_min (pa_cons pe_int (pa_cons (pe_callB call_len_seq rfl M.len PySem.boot_len (pa_cons (pv 0) pa_nil)) pa_nil))) pa_nil))) pa_nil)) (pg_name (i := 1) sc_law.nd rfl (Or.inl rfl)) (pss_cons (ps_set (i := 2) sc_law.nd rfl (by first | exact Or.inl rfl | exact Or.inr rfl) (pe_call G_law_begun hr rfl D_law_begun.m D_law_begun.k D_law_begun.b .nil pass0 (pa_cons (pe_call G_law_cell hr rfl D_law_cell.m D_law_cell.k D_law_cell.b .nil pass0 (pa_cons (pv 0) (pa_cons (pv 1) pa_nil))) pa_nil)))
      (pss_cons (ps_for PassesOwn.never rfl (pi_range1 rfl M.range (pa_cons pe_int pa_nil)) (pg_name (i := 3) sc_law.nd rfl (Or.inl rfl)) (pss_cons (ps_set (i := 4) sc_law.nd rfl (by first | exact Or.inl rfl | exact Or.inr rfl) (pe_call G_law_thing hr rfl D_law_thing.m D_law_thing.k D_law_thing.b .nil pass0 (pa_cons (pv 2) pa_nil)))
      (pss_cons (ps_set (i := 5) sc_law.nd rfl (by first | exact Or.inl rfl | exact Or.inr rfl) (pe_call G_law_of_one hr rfl D_law_of_one.m D_law_of_one.k D_law_of_one.b .nil pass0 (pa_cons (pv 3) (pa_cons (pv 4) pa_nil))))
      (pss_cons (ps_set (i := 6) sc_law.nd rfl (by first | exact Or.inl rfl | exact Or.inr rfl) (pe_call G_law_of_one hr rfl D_law_of_one.m D_law_of_one.k D_law_of_one.b .nil pass0 (pa_cons (pv 3) (pa_cons pe_str pa_nil))))
      (pss_cons (ps_if (PW.pt (pw_or (pt_not (pt_val (pe_call G_law_own hr rfl D_law_own.m D_law_own.k D_law_own.b .nil pass0 (pa_cons (pv 5) (pa_cons (pe_ix ix_list (pe_call0 G_law_places hr rfl D_law_places.m D_law_places.k D_law_places.b .nil pass0) (pv 3) (fun _ _ => rfl)) pa_nil))))) (pw_or1 (pt_not (pt_val (pe_call G_law_same.fn hr rfl D_law_same.m D_law_same.k D_law_same.b .nil pass0 (pa_cons (pe_call G_law_field hr rfl D_law_field.m D_law_field.k D_law_field.b .nil pass0 (pa_cons (pv 3) (pa_cons (pv 5) pa_nil))) (pa_cons (pv 4) pa_nil)))))))) (pss_one (ps_ret pe_bl)) pss_nil)
      (pss_one (ps_if (pt_cmpR op_ne (pe_call G_law_field hr rfl D_law_field.m D_law_field.k D_law_field.b .nil pass0 (pa_cons (pv 3) (pa_cons (pv 6) pa_nil))) pe_str (nomark _)) (pss_one (ps_ret pe_bl)) pss_nil)))))))
      (pss_cons (ps_for PassesOwn.never rfl (pi_range1 rfl M.range (pa_cons pe_int pa_nil)) (pg_name (i := 3) sc_law.nd rfl (Or.inl rfl)) (pss_cons (ps_setC (i := 7) ["_law_j"] ["_law_state"] [2] sc_law.nd rfl rfl rfl (pi_range1 rfl M.range (pa_cons pe_int pa_nil)) rfl ⟨rfl, trivial⟩ ⟨⟨rfl, rfl, rfl, _, rfl⟩, trivial⟩ (fun _ _ _ _ => (pg_name (i := 0) (show List.Nodup (["_law_j", "_law_state"] : List Str) from by decide +kernel) rfl (Or.inl rfl))) (fun _ _ _ _ => pif_nil) (fun _ _ _ _ => (pe_call G_law_thing hr rfl D_law_thing.m D_law_thing.k D_law_thing.b .nil pass0 (pa_cons (pv 1) pa_nil))))
      (pss_cons (ps_set (i := 5) sc_law.nd rfl (by first | exact Or.inl rfl | exact Or.inr rfl) (pe_call G_law_of_some hr rfl D_law_of_some.m D_law_of_some.k D_law_of_some.b .nil pass0 (pa_cons (pv 3) (pa_cons (pv 7) pa_nil))))
      (pss_one (ps_if (PW.pt (pw_or (pt_not (pt_val (pe_call G_law_own hr rfl D_law_own.m D_law_own.k D_law_own.b .nil pass0 (pa_cons (pv 5) (pa_cons (pe_ix ix_list (pe_call0 G_law_more_places hr rfl D_law_more_places.m D_law_more_places.k D_law_more_places.b .nil pass0) (pv 3) (fun _ _ => rfl)) pa_nil))))) (pw_or1 (pt_not (pt_val (pe_call G_law_same.fn hr rfl D_law_same.m D_law_same.k D_law_same.b .nil pass0 (pa_cons (pe_call G_law_fields hr rfl D_law_fields.m D_law_fields.k D_law_fields.b .nil pass0 (pa_cons (pv 3) (pa_cons (pv 5) pa_nil))) (pa_cons (pe_slice sl_listS (pv 7) po_none (po_some (pe_call G_law_counts hr rfl D_law_counts.m D_law_counts.k D_law_counts.b .nil pass0 (pa_cons (pv 3) pa_nil)))) pa_nil)))))))) (pss_one (ps_ret pe_bl)) pss_nil)))))
      (pss_one (ps_if (pt_not (pt_val (pe_call G_law_taken hr rfl D_law_taken.m D_law_taken.k D_law_taken.b .nil pass0 (pa_cons (pv 1) (pa_cons (pe_call G_law_thing hr rfl D_law_thing.m D_law_thing.k D_law_thing.b .nil pass0 (pa_cons (pv 2) pa_nil)) pa_nil))))) (pss_one (ps_ret pe_bl)) pss_nil))))))
      (pss_one (ps_ret pe_bl))), ?_⟩
  have hl : (ns.map V.int).length = ns.length := List.length_map _
  refine ⟨_, rfl, a, _, rfl, .inl hS, _, _, rfl, _, _, rfl, _, rfl, ?_, ?_, for_range (fun i σ H' => (∃ o1 o2 o3 o4 o5 o6 o7, σ = [some (.ref a), o1, o2, o3, o4, o5, o6, o7]) ∧ Same H H') ⟨⟨_, _, _, _, _, _, _, rfl⟩, Same.refl H⟩ (fun i σ H' hi z => ?_) (fun σ H' z => q _)⟩
  · rw [hl]; split <;> split <;> omega
  · rw [hl]; split <;> split <;> omega
  obtain ⟨⟨o1, o2, o3, o4, o5, o6, o7, rfl⟩, g⟩ := z
  rw [hl] at hi
  have hi64 : i < 64 := by
    have : i < 6 + 1 := by
      refine Nat.lt_of_lt_of_le hi ?_
      split <;> split <;> omega
    omega
  rw [Int.zero_add]
  refine ⟨_, rfl, _, rfl, a, ns, _, rfl, g.seq hS, by omega, by omega, fun c => ⟨c, rfl, fun p H1 hp d1 => ?_⟩⟩
  refine ⟨_, rfl, by decide, by decide, for_range (n := 20) (fun j σ H2 => (∃ o3 o4 o5 o6 o7, σ = [some (.ref a), some (.int i), some (.ref p), o3, o4, o5, o6, o7]) ∧ Drawn p H1 H2) ⟨⟨_, _, _, _, _, rfl⟩, Drawn.refl d1.1⟩ (fun j σ H2 hj z => ?_) (fun σ H2 z => ?_)⟩
  · obtain ⟨⟨o3, o4, o5, o6, o7, rfl⟩, d2⟩ := z
    rw [Int.zero_add]
    refine ⟨_, rfl, p, rfl, d2.1, fun x H3 d3 tx => ?_⟩
    refine ⟨_, rfl, _, rfl, j, x, rfl, hj, fun e H4 g4 ob => ?_⟩
    refine ⟨_, rfl, j, _, rfl, hj, fun e2 H5 g5 ob2 => ?_⟩
    refine ⟨_, rfl, rfl, fun l H6 g6 k6 => ?_⟩
    have hpl : atI (PL.map V.int) (j : Int) = some (.int (plc j : Nat)) := (show ∀ j : Fin 20, atI (PL.map V.int) (j.val : Int) = some (.int (plc j.val : Nat)) from by decide) ⟨j, hj⟩
    refine ⟨_, rfl, l, _, _, _, rfl, rfl, SqL.of k6, hpl, e, plc j, _, rfl, (ob.same g5).same g6, fun H7 g7 => ?_⟩
    refine ⟨_, rfl, iteN (by decide) ?_⟩
    refine ⟨_, rfl, _, rfl, j, e, x, rfl, hj, ((ob.same g5).same g6).same g7, fun H8 g8 => ?_⟩
    have tx8 := ((((tx.same g4).same g5).same g6).same g7).same g8
    obtain ⟨d, t1, hq⟩ := tx8.tg
    refine ⟨_, rfl, x, x, d, rfl, hq, t1, t1, _, rfl, iteN (by decide) ?_⟩
    refine ⟨_, rfl, _, rfl, j, e2, _, rfl, hj, ((ob2.same g6).same g7).same g8, fun H9 g9 => ?_⟩
    refine ⟨rfl, _, rfl, iteN ?_ ⟨⟨_, _, _, _, _, rfl⟩, ?_⟩⟩
    · simp
    · exact (d2.trans d3).sm (((((g4.trans g5).trans g6).trans g7).trans g8).trans g9)
  obtain ⟨⟨o3, o4, o5, o6, o7, rfl⟩, d2⟩ := z
  refine ⟨_, rfl, by decide, by decide, for_range (n := 7) (fun j σ H2 => (∃ o3 o4 o5 o6 o7, σ = [some (.ref a), some (.int i), some (.ref p), o3, o4, o5, o6, o7]) ∧ Drawn p H1 H2) ⟨⟨_, _, _, _, _, rfl⟩, d2⟩ (fun j σ H2 hj z => ?_) (fun σ H2 z => ?_)⟩
  · obtain ⟨⟨o3, o4, o5, o6, o7, rfl⟩, d2⟩ := z
    rw [Int.zero_add]
    refine ⟨_, rfl, by decide, by decide, comp_range (n := 4) (fun i ys H' => Drawn p H2 H' ∧ ys.length = i ∧ ∀ y ∈ ys, Thing p K H' y) ⟨Drawn.refl d2.1, rfl, fun y hy => absurd hy (by simp)⟩ (fun i ys H' _ z => Nat.le_of_eq z.2.1) (by decide) (fun i ys H' hi z => ?_) (fun ys H' z => ?_)⟩
    · obtain ⟨d3, hy1, hy2⟩ := z
      refine ⟨_, rfl, p, rfl, d3.1, fun x H4 d4 tx => ⟨⟨d3.trans d4, ?_, fun y hy => ?_⟩, _, rfl⟩⟩
      · rw [List.length_append, hy1]; rfl
      · rcases List.mem_append.mp hy with hy | hy
        · exact (hy2 y hy).drawn d4
        · rw [List.mem_singleton.mp hy]; exact tx
    obtain ⟨d3, hy1, hy2⟩ := z
    match ys, hy1, hy2 with
    | [x0, x1, x2, x3], _, hy2 =>
    intro l hl0
    generalize eX : upd _ l _ = H4
    obtain ⟨g4, k4⟩ := new_facts eX hl0
    clear eX
    refine ⟨_, rfl, _, rfl, j, l, x0, x1, x2, x3, rfl, hj, SqL.of k4, fun e H5 g5 ob => ?_⟩
    refine ⟨_, rfl, rfl, fun m H6 g6 k6 => ?_⟩
    have hpl : atI (PM.map V.int) (j : Int) = some (.int (plm j : Nat)) := (show ∀ j : Fin 7, atI (PM.map V.int) (j.val : Int) = some (.int (plm j.val : Nat)) from by decide) ⟨j, hj⟩
    refine ⟨_, rfl, m, _, _, _, rfl, rfl, SqL.of k6, hpl, e, plm j, _, rfl, ob.same g6, fun H7 g7 => ?_⟩
    refine ⟨_, rfl, iteN (by decide) ?_⟩
    refine ⟨_, rfl, _, rfl, j, e, x0, x1, x2, x3, rfl, hj, (ob.same g6).same g7, fun r H8 nr g8 k8 => ?_⟩
    refine ⟨_, rfl, _, rfl, j, rfl, hj, fun H9 g9 => ?_⟩
    have k9 : H9 l = some (.lst [x0, x1, x2, x3]) := g9 _ _ (g8 _ _ (g7 _ _ (g6 _ _ (g5 _ _ k4))))
    refine ⟨_, rfl, l, _, rfl, SqL.of k9, fun s ns0 hs0 => ?_⟩
    rw [show cutV [x0, x1, x2, x3] none (some (((fnm j).length : Nat) : Int)) = [x0, x1, x2, x3].take (fnm j).length from cut_first _ _]
    generalize eX : upd _ s _ = H10
    obtain ⟨g10, k10⟩ := new_facts eX hs0
    clear eX
    have g410 : Same H' H10 := (((((g4.trans g5).trans g6).trans g7).trans g8).trans g9).trans g10
    obtain ⟨d, hq, t1, t2⟩ := same_lists (p := p) (K := K) (H := H10) (xs := [x0, x1, x2, x3].take (fnm j).length) (fun y hy => (hy2 y (List.mem_of_mem_take hy)).same g410) (Nat.le_trans (List.length_take_le' _ _) (Nat.le_refl 4)) nr ns0 (g10 _ _ (g9 _ _ k8)) k10
    exact ⟨_, _, d, rfl, hq, t1, t2, _, rfl, iteN (by decide) ⟨⟨_, _, _, _, _, rfl⟩, (d2.trans d3).sm g410⟩⟩
  obtain ⟨⟨o3, o4, o5, o6, o7, rfl⟩, d3⟩ := z
  refine ⟨_, rfl, _, rfl, p, rfl, d3.1, fun x H3 d4 tx => ?_⟩
  refine ⟨i, p, x, rfl, tx, fun H4 g4 => ⟨_, rfl, iteN (by decide) ⟨⟨_, _, _, _, _, _, _, rfl⟩, ?_⟩⟩⟩
  exact g.trans ((((d1.trans d3).trans d4).same hp).trans g4)
end
end K05

namespace K05
open PySem L2 PyProof.Rows
theorem all_mk {l : PySem.W.OpenLaw} {w : World} {K : PySem.W.Frag} {h : Heap} {mg : Str → Option Value} {fa f0 f1 f2 f3 f4 f5 f6 f7 f8 f9 f10 f11 f12 f13 f14 f15 f16 f17 f18 f19 f20 f21 f22 f23 f24 f25 f26 f27 f28 f29 f30 f31 f32 f33 f34 f35 f36 f37 f38 f39 f40 f41 f42 f43 f44 C_RoomError C_Beyond C_Lacking C_LaidTwice C_Meets C_NamedTwice C_NoBudget C_NoDesk C_NoInput C_NoKeep C_NoLaying C_NoLayings C_NoLine C_NoOpen C_NoPath C_NoPlace C_NoProgram C_NoRecord C_NoRoom C_NoShapes C_NoThings C_NoTurn C_Other C_Past C_TooMuch C_UnknownShape C_UnknownUnit C_WrongPath : Addr} (X : K.In h) (G : h.Ns mainGlobals mg) (hfa : mg "law" = some (.ref fa))
    {od0 an0 od1 an1 od2 an2 od3 an3 od4 an4 od5 an5 od6 an6 od7 an7 od8 an8 od9 an9 od10 an10 od11 an11 od12 an12 od13 an13 od14 an14 od15 an15 od16 an16 od17 an17 od18 an18 od19 an19 od20 an20 od21 an21 od22 an22 od23 an23 od24 an24 od25 an25 od26 an26 od27 an27 od28 an28 od29 an29 od30 an30 od31 an31 od32 an32 od33 an33 od34 an34 od35 an35 od36 an36 od37 an37 od38 an38 od39 an39 od40 an40 od41 an41 od42 an42 od43 an43 od44 an44 : Option Addr} {sl0 sl1 sl2 sl3 sl4 sl5 sl6 sl7 sl8 sl9 sl10 sl11 sl12 sl13 sl14 sl15 sl16 sl17 sl18 sl19 sl20 sl21 sl22 sl23 sl24 sl25 sl26 sl27 sl28 sl29 sl30 sl31 sl32 sl33 sl34 sl35 sl36 sl37 sl38 sl39 sl40 sl41 sl42 sl43 sl44 : Array (Option Value)} {oc0 kV0 dc0 pm0 cd0 ct0 oc1 kV1 dc1 pm1 cd1 ct1 oc2 kV2 dc2 pm2 cd2 ct2 oc3 kV3 dc3 pm3 cd3 ct3 oc4 kV4 dc4 pm4 cd4 ct4 oc5 kV5 dc5 pm5 cd5 ct5 oc6 kV6 dc6 pm6 cd6 ct6 oc7 kV7 dc7 pm7 cd7 ct7 oc8 kV8 dc8 pm8 cd8 ct8 oc9 kV9 dc9 pm9 cd9 ct9 oc10 kV10 dc10 pm10 cd10 ct10 oc11 kV11 dc11 pm11 cd11 ct11 oc12 kV12 dc12 pm12 cd12 ct12 oc13 kV13 dc13 pm13 cd13 ct13 oc14 kV14 dc14 pm14 cd14 ct14 oc15 kV15 dc15 pm15 cd15 ct15 oc16 kV16 dc16 pm16 cd16 ct16 oc17 kV17 dc17 pm17 cd17 ct17 oc18 kV18 dc18 pm18 cd18 ct18 oc19 kV19 dc19 pm19 cd19 ct19 oc20 kV20 dc20 pm20 cd20 ct20 oc21 kV21 dc21 pm21 cd21 ct21 oc22 kV22 dc22 pm22 cd22 ct22 oc23 kV23 dc23 pm23 cd23 ct23 oc24 kV24 dc24 pm24 cd24 ct24 oc25 kV25 dc25 pm25 cd25 ct25 oc26 kV26 dc26 pm26 cd26 ct26 oc27 kV27 dc27 pm27 cd27 ct27 oc28 kV28 dc28 pm28 cd28 ct28 oc29 kV29 dc29 pm29 cd29 ct29 oc30 kV30 dc30 pm30 cd30 ct30 oc31 kV31 dc31 pm31 cd31 ct31 oc32 kV32 dc32 pm32 cd32 ct32 oc33 kV33 dc33 pm33 cd33 ct33 oc34 kV34 dc34 pm34 cd34 ct34 oc35 kV35 dc35 pm35 cd35 ct35 oc36 kV36 dc36 pm36 cd36 ct36 oc37 kV37 dc37 pm37 cd37 ct37 oc38 kV38 dc38 pm38 cd38 ct38 oc39 kV39 dc39 pm39 cd39 ct39 oc40 kV40 dc40 pm40 cd40 ct40 oc41 kV41 dc41 pm41 cd41 ct41 oc42 kV42 dc42 pm42 cd42 ct42 oc43 kV43 dc43 pm43 cd43 ct43 oc44 kV44 dc44 pm44 cd44 ct44 : Value} {xn0 xq0 : Str} {xN0 : Addr} {xb0 xs0 : List Value} {xl0 : List Str} {xa0 : Bool} {xc0 : Option Bool} {xd0 : Option Addr} {x00 x10 x20 x30 x50 : Option Value} {xn1 xq1 : Str} {xN1 : Addr} {xb1 xs1 : List Value} {xl1 : List Str} {xa1 : Bool} {xc1 : Option Bool} {xd1 : Option Addr} {x01 x11 x21 x31 x51 : Option Value} {xn2 xq2 : Str} {xN2 : Addr} {xb2 xs2 : List Value} {xl2 : List Str} {xa2 : Bool} {xc2 : Option Bool} {xd2 : Option Addr} {x02 x12 x22 x32 x52 : Option Value} {xn3 xq3 : Str} {xN3 : Addr} {xb3 xs3 : List Value} {xl3 : List Str} {xa3 : Bool} {xc3 : Option Bool} {xd3 : Option Addr} {x03 x13 x23 x33 x53 : Option Value} {xn4 xq4 : Str} {xN4 : Addr} {xb4 xs4 : List Value} {xl4 : List Str} {xa4 : Bool} {xc4 : Option Bool} {xd4 : Option Addr} {x04 x14 x24 x34 x54 : Option Value} {xn5 xq5 : Str} {xN5 : Addr} {xb5 xs5 : List Value} {xl5 : List Str} {xa5 : Bool} {xc5 : Option Bool} {xd5 : Option Addr} {x05 x15 x25 x35 x55 : Option Value} {xn6 xq6 : Str} {xN6 : Addr} {xb6 xs6 : List Value} {xl6 : List Str} {xa6 : Bool} {xc6 : Option Bool} {xd6 : Option Addr} {x06 x16 x26 x36 x56 : Option Value} {xn7 xq7 : Str} {xN7 : Addr} {xb7 xs7 : List Value} {xl7 : List Str} {xa7 : Bool} {xc7 : Option Bool} {xd7 : Option Addr} {x07 x17 x27 x37 x57 : Option Value} {xn8 xq8 : Str} {xN8 : Addr} {xb8 xs8 : List Value} {xl8 : List Str} {xa8 : Bool} {xc8 : Option Bool} {xd8 : Option Addr} {x08 x18 x28 x38 x58 : Option Value} {xn9 xq9 : Str} {xN9 : Addr} {xb9 xs9 : List Value} {xl9 : List Str} {xa9 : Bool} {xc9 : Option Bool} {xd9 : Option Addr} {x09 x19 x29 x39 x59 : Option Value} {xn10 xq10 : Str} {xN10 : Addr} {xb10 xs10 : List Value} {xl10 : List Str} {xa10 : Bool} {xc10 : Option Bool} {xd10 : Option Addr} {x010 x110 x210 x310 x510 : Option Value} {xn11 xq11 : Str} {xN11 : Addr} {xb11 xs11 : List Value} {xl11 : List Str} {xa11 : Bool} {xc11 : Option Bool} {xd11 : Option Addr} {x011 x111 x211 x311 x511 : Option Value} {xn12 xq12 : Str} {xN12 : Addr} {xb12 xs12 : List Value} {xl12 : List Str} {xa12 : Bool} {xc12 : Option Bool} {xd12 : Option Addr} {x012 x112 x212 x312 x512 : Option Value} {xn13 xq13 : Str} {xN13 : Addr} {xb13 xs13 : List Value} {xl13 : List Str} {xa13 : Bool} {xc13 : Option Bool} {xd13 : Option Addr} {x013 x113 x213 x313 x513 : Option Value} {xn14 xq14 : Str} {xN14 : Addr} {xb14 xs14 : List Value} {xl14 : List Str} {xa14 : Bool} {xc14 : Option Bool} {xd14 : Option Addr} {x014 x114 x214 x314 x514 : Option Value} {xn15 xq15 : Str} {xN15 : Addr} {xb15 xs15 : List Value} {xl15 : List Str} {xa15 : Bool} {xc15 : Option Bool} {xd15 : Option Addr} {x015 x115 x215 x315 x515 : Option Value} {xn16 xq16 : Str} {xN16 : Addr} {xb16 xs16 : List Value} {xl16 : List Str} {xa16 : Bool} {xc16 : Option Bool} {xd16 : Option Addr} {x016 x116 x216 x316 x516 : Option Value} {xn17 xq17 : Str} {xN17 : Addr} {xb17 xs17 : List Value} {xl17 : List Str} {xa17 : Bool} {xc17 : Option Bool} {xd17 : Option Addr} {x017 x117 x217 x317 x517 : Option Value} {xn18 xq18 : Str} {xN18 : Addr} {xb18 xs18 : List Value} {xl18 : List Str} {xa18 : Bool} {xc18 : Option Bool} {xd18 : Option Addr} {x018 x118 x218 x318 x518 : Option Value} {xn19 xq19 : Str} {xN19 : Addr} {xb19 xs19 : List Value} {xl19 : List Str} {xa19 : Bool} {xc19 : Option Bool} {xd19 : Option Addr} {x019 x119 x219 x319 x519 : Option Value} {xn20 xq20 : Str} {xN20 : Addr} {xb20 xs20 : List Value} {xl20 : List Str} {xa20 : Bool} {xc20 : Option Bool} {xd20 : Option Addr} {x020 x120 x220 x320 x520 : Option Value} {xn21 xq21 : Str} {xN21 : Addr} {xb21 xs21 : List Value} {xl21 : List Str} {xa21 : Bool} {xc21 : Option Bool} {xd21 : Option Addr} {x021 x121 x221 x321 x521 : Option Value} {xn22 xq22 : Str} {xN22 : Addr} {xb22 xs22 : List Value} {xl22 : List Str} {xa22 : Bool} {xc22 : Option Bool} {xd22 : Option Addr} {x022 x122 x222 x322 x522 : Option Value} {xn23 xq23 : Str} {xN23 : Addr} {xb23 xs23 : List Value} {xl23 : List Str} {xa23 : Bool} {xc23 : Option Bool} {xd23 : Option Addr} {x023 x123 x223 x323 x523 : Option Value} {xn24 xq24 : Str} {xN24 : Addr} {xb24 xs24 : List Value} {xl24 : List Str} {xa24 : Bool} {xc24 : Option Bool} {xd24 : Option Addr} {x024 x124 x224 x324 x524 : Option Value} {xn25 xq25 : Str} {xN25 : Addr} {xb25 xs25 : List Value} {xl25 : List Str} {xa25 : Bool} {xc25 : Option Bool} {xd25 : Option Addr} {x025 x125 x225 x325 x525 : Option Value} {xn26 xq26 : Str} {xN26 : Addr} {xb26 xs26 : List Value} {xl26 : List Str} {xa26 : Bool} {xc26 : Option Bool} {xd26 : Option Addr} {x026 x126 x226 x326 x526 : Option Value} {xn27 xq27 : Str} {xN27 : Addr} {xb27 xs27 : List Value} {xl27 : List Str} {xa27 : Bool} {xc27 : Option Bool} {xd27 : Option Addr} {x027 x127 x227 x327 x527 : Option Value}
    (g_RoomError : PySem.W.nsIn K mainGlobals "RoomError" = some (some (.ref C_RoomError)))
    (g_Beyond : PySem.W.nsIn K mainGlobals "Beyond" = some (some (.ref C_Beyond)))
    (g_Lacking : PySem.W.nsIn K mainGlobals "Lacking" = some (some (.ref C_Lacking)))
    (g_LaidTwice : PySem.W.nsIn K mainGlobals "LaidTwice" = some (some (.ref C_LaidTwice)))
    (g_Meets : PySem.W.nsIn K mainGlobals "Meets" = some (some (.ref C_Meets)))
    (g_NamedTwice : PySem.W.nsIn K mainGlobals "NamedTwice" = some (some (.ref C_NamedTwice)))
    (g_NoBudget : PySem.W.nsIn K mainGlobals "NoBudget" = some (some (.ref C_NoBudget)))
    (g_NoDesk : PySem.W.nsIn K mainGlobals "NoDesk" = some (some (.ref C_NoDesk)))
    (g_NoInput : PySem.W.nsIn K mainGlobals "NoInput" = some (some (.ref C_NoInput)))
    (g_NoKeep : PySem.W.nsIn K mainGlobals "NoKeep" = some (some (.ref C_NoKeep)))
    (g_NoLaying : PySem.W.nsIn K mainGlobals "NoLaying" = some (some (.ref C_NoLaying)))
    (g_NoLayings : PySem.W.nsIn K mainGlobals "NoLayings" = some (some (.ref C_NoLayings)))
    (g_NoLine : PySem.W.nsIn K mainGlobals "NoLine" = some (some (.ref C_NoLine)))
    (g_NoOpen : PySem.W.nsIn K mainGlobals "NoOpen" = some (some (.ref C_NoOpen)))
    (g_NoPath : PySem.W.nsIn K mainGlobals "NoPath" = some (some (.ref C_NoPath)))
    (g_NoPlace : PySem.W.nsIn K mainGlobals "NoPlace" = some (some (.ref C_NoPlace)))
    (g_NoProgram : PySem.W.nsIn K mainGlobals "NoProgram" = some (some (.ref C_NoProgram)))
    (g_NoRecord : PySem.W.nsIn K mainGlobals "NoRecord" = some (some (.ref C_NoRecord)))
    (g_NoRoom : PySem.W.nsIn K mainGlobals "NoRoom" = some (some (.ref C_NoRoom)))
    (g_NoShapes : PySem.W.nsIn K mainGlobals "NoShapes" = some (some (.ref C_NoShapes)))
    (g_NoThings : PySem.W.nsIn K mainGlobals "NoThings" = some (some (.ref C_NoThings)))
    (g_NoTurn : PySem.W.nsIn K mainGlobals "NoTurn" = some (some (.ref C_NoTurn)))
    (g_Other : PySem.W.nsIn K mainGlobals "Other" = some (some (.ref C_Other)))
    (g_Past : PySem.W.nsIn K mainGlobals "Past" = some (some (.ref C_Past)))
    (g_TooMuch : PySem.W.nsIn K mainGlobals "TooMuch" = some (some (.ref C_TooMuch)))
    (g_UnknownShape : PySem.W.nsIn K mainGlobals "UnknownShape" = some (some (.ref C_UnknownShape)))
    (g_UnknownUnit : PySem.W.nsIn K mainGlobals "UnknownUnit" = some (some (.ref C_UnknownUnit)))
    (g_WrongPath : PySem.W.nsIn K mainGlobals "WrongPath" = some (some (.ref C_WrongPath)))
    (a0 : PySem.W.findIn K (.ref C_RoomError) "__init__" = some (some (.ref f0)))
    (i0 : PySem.W.isFn K (.ref f0) = true)
    (l0 : K.lookup f0 = some ⟨oc0, od0, .func (PySem.W.fnOf "__init__" "RoomError.__init__" (defArgs s_RoomError_init) (defBody s_RoomError_init) (defScope s_RoomError_init) .none kV0 dc0 pm0 an0 cd0 ct0), sl0⟩)
    (c0 : PySem.W.codeIn K cd0 "RoomError.__init__" = true)
    (k0 : PySem.W.keepIn K (.ref f0) = true)
    (a1 : PySem.W.findIn K (.ref C_NoRoom) "__init__" = some (some (.ref f1)))
    (i1 : PySem.W.isFn K (.ref f1) = true)
    (l1 : K.lookup f1 = some ⟨oc1, od1, .func (PySem.W.fnOf "__init__" "NoRoom.__init__" (defArgs s_NoRoom_init) (defBody s_NoRoom_init) (defScope s_NoRoom_init) .none kV1 dc1 pm1 an1 cd1 ct1), sl1⟩)
    (c1 : PySem.W.codeIn K cd1 "NoRoom.__init__" = true)
    (k1 : PySem.W.keepIn K (.ref f1) = true)
    (a2 : PySem.W.findIn K (.ref C_NoPlace) "__init__" = some (some (.ref f2)))
    (i2 : PySem.W.isFn K (.ref f2) = true)
    (l2 : K.lookup f2 = some ⟨oc2, od2, .func (PySem.W.fnOf "__init__" "NoPlace.__init__" (defArgs s_NoPlace_init) (defBody s_NoPlace_init) (defScope s_NoPlace_init) .none kV2 dc2 pm2 an2 cd2 ct2), sl2⟩)
    (c2 : PySem.W.codeIn K cd2 "NoPlace.__init__" = true)
    (k2 : PySem.W.keepIn K (.ref f2) = true)
    (a3 : PySem.W.findIn K (.ref C_NoShapes) "__init__" = some (some (.ref f3)))
    (i3 : PySem.W.isFn K (.ref f3) = true)
    (l3 : K.lookup f3 = some ⟨oc3, od3, .func (PySem.W.fnOf "__init__" "NoShapes.__init__" (defArgs s_NoShapes_init) (defBody s_NoShapes_init) (defScope s_NoShapes_init) .none kV3 dc3 pm3 an3 cd3 ct3), sl3⟩)
    (c3 : PySem.W.codeIn K cd3 "NoShapes.__init__" = true)
    (k3 : PySem.W.keepIn K (.ref f3) = true)
    (a4 : PySem.W.findIn K (.ref C_UnknownShape) "__init__" = some (some (.ref f4)))
    (i4 : PySem.W.isFn K (.ref f4) = true)
    (l4 : K.lookup f4 = some ⟨oc4, od4, .func (PySem.W.fnOf "__init__" "UnknownShape.__init__" (defArgs s_UnknownShape_init) (defBody s_UnknownShape_init) (defScope s_UnknownShape_init) .none kV4 dc4 pm4 an4 cd4 ct4), sl4⟩)
    (c4 : PySem.W.codeIn K cd4 "UnknownShape.__init__" = true)
    (k4 : PySem.W.keepIn K (.ref f4) = true)
    (a5 : PySem.W.findIn K (.ref C_NamedTwice) "__init__" = some (some (.ref f5)))
    (i5 : PySem.W.isFn K (.ref f5) = true)
    (l5 : K.lookup f5 = some ⟨oc5, od5, .func (PySem.W.fnOf "__init__" "NamedTwice.__init__" (defArgs s_NamedTwice_init) (defBody s_NamedTwice_init) (defScope s_NamedTwice_init) .none kV5 dc5 pm5 an5 cd5 ct5), sl5⟩)
    (c5 : PySem.W.codeIn K cd5 "NamedTwice.__init__" = true)
    (k5 : PySem.W.keepIn K (.ref f5) = true)
    (a6 : PySem.W.findIn K (.ref C_TooMuch) "__init__" = some (some (.ref f6)))
    (i6 : PySem.W.isFn K (.ref f6) = true)
    (l6 : K.lookup f6 = some ⟨oc6, od6, .func (PySem.W.fnOf "__init__" "TooMuch.__init__" (defArgs s_TooMuch_init) (defBody s_TooMuch_init) (defScope s_TooMuch_init) .none kV6 dc6 pm6 an6 cd6 ct6), sl6⟩)
    (c6 : PySem.W.codeIn K cd6 "TooMuch.__init__" = true)
    (k6 : PySem.W.keepIn K (.ref f6) = true)
    (a7 : PySem.W.findIn K (.ref C_NoRecord) "__init__" = some (some (.ref f7)))
    (i7 : PySem.W.isFn K (.ref f7) = true)
    (l7 : K.lookup f7 = some ⟨oc7, od7, .func (PySem.W.fnOf "__init__" "NoRecord.__init__" (defArgs s_NoRecord_init) (defBody s_NoRecord_init) (defScope s_NoRecord_init) .none kV7 dc7 pm7 an7 cd7 ct7), sl7⟩)
    (c7 : PySem.W.codeIn K cd7 "NoRecord.__init__" = true)
    (k7 : PySem.W.keepIn K (.ref f7) = true)
    (a8 : PySem.W.findIn K (.ref C_NoPath) "__init__" = some (some (.ref f8)))
    (i8 : PySem.W.isFn K (.ref f8) = true)
    (l8 : K.lookup f8 = some ⟨oc8, od8, .func (PySem.W.fnOf "__init__" "NoPath.__init__" (defArgs s_NoPath_init) (defBody s_NoPath_init) (defScope s_NoPath_init) .none kV8 dc8 pm8 an8 cd8 ct8), sl8⟩)
    (c8 : PySem.W.codeIn K cd8 "NoPath.__init__" = true)
    (k8 : PySem.W.keepIn K (.ref f8) = true)
    (a9 : PySem.W.findIn K (.ref C_Beyond) "__init__" = some (some (.ref f9)))
    (i9 : PySem.W.isFn K (.ref f9) = true)
    (l9 : K.lookup f9 = some ⟨oc9, od9, .func (PySem.W.fnOf "__init__" "Beyond.__init__" (defArgs s_Beyond_init) (defBody s_Beyond_init) (defScope s_Beyond_init) .none kV9 dc9 pm9 an9 cd9 ct9), sl9⟩)
    (c9 : PySem.W.codeIn K cd9 "Beyond.__init__" = true)
    (k9 : PySem.W.keepIn K (.ref f9) = true)
    (a10 : PySem.W.findIn K (.ref C_Other) "__init__" = some (some (.ref f10)))
    (i10 : PySem.W.isFn K (.ref f10) = true)
    (l10 : K.lookup f10 = some ⟨oc10, od10, .func (PySem.W.fnOf "__init__" "Other.__init__" (defArgs s_Other_init) (defBody s_Other_init) (defScope s_Other_init) .none kV10 dc10 pm10 an10 cd10 ct10), sl10⟩)
    (c10 : PySem.W.codeIn K cd10 "Other.__init__" = true)
    (k10 : PySem.W.keepIn K (.ref f10) = true)
    (a11 : PySem.W.findIn K (.ref C_NoLaying) "__init__" = some (some (.ref f11)))
    (i11 : PySem.W.isFn K (.ref f11) = true)
    (l11 : K.lookup f11 = some ⟨oc11, od11, .func (PySem.W.fnOf "__init__" "NoLaying.__init__" (defArgs s_NoLaying_init) (defBody s_NoLaying_init) (defScope s_NoLaying_init) .none kV11 dc11 pm11 an11 cd11 ct11), sl11⟩)
    (c11 : PySem.W.codeIn K cd11 "NoLaying.__init__" = true)
    (k11 : PySem.W.keepIn K (.ref f11) = true)
    (a12 : PySem.W.findIn K (.ref C_UnknownUnit) "__init__" = some (some (.ref f12)))
    (i12 : PySem.W.isFn K (.ref f12) = true)
    (l12 : K.lookup f12 = some ⟨oc12, od12, .func (PySem.W.fnOf "__init__" "UnknownUnit.__init__" (defArgs s_UnknownUnit_init) (defBody s_UnknownUnit_init) (defScope s_UnknownUnit_init) .none kV12 dc12 pm12 an12 cd12 ct12), sl12⟩)
    (c12 : PySem.W.codeIn K cd12 "UnknownUnit.__init__" = true)
    (k12 : PySem.W.keepIn K (.ref f12) = true)
    (a13 : PySem.W.findIn K (.ref C_LaidTwice) "__init__" = some (some (.ref f13)))
    (i13 : PySem.W.isFn K (.ref f13) = true)
    (l13 : K.lookup f13 = some ⟨oc13, od13, .func (PySem.W.fnOf "__init__" "LaidTwice.__init__" (defArgs s_LaidTwice_init) (defBody s_LaidTwice_init) (defScope s_LaidTwice_init) .none kV13 dc13 pm13 an13 cd13 ct13), sl13⟩)
    (c13 : PySem.W.codeIn K cd13 "LaidTwice.__init__" = true)
    (k13 : PySem.W.keepIn K (.ref f13) = true)
    (a14 : PySem.W.findIn K (.ref C_Lacking) "__init__" = some (some (.ref f14)))
    (i14 : PySem.W.isFn K (.ref f14) = true)
    (l14 : K.lookup f14 = some ⟨oc14, od14, .func (PySem.W.fnOf "__init__" "Lacking.__init__" (defArgs s_Lacking_init) (defBody s_Lacking_init) (defScope s_Lacking_init) .none kV14 dc14 pm14 an14 cd14 ct14), sl14⟩)
    (c14 : PySem.W.codeIn K cd14 "Lacking.__init__" = true)
    (k14 : PySem.W.keepIn K (.ref f14) = true)
    (a15 : PySem.W.findIn K (.ref C_Past) "__init__" = some (some (.ref f15)))
    (i15 : PySem.W.isFn K (.ref f15) = true)
    (l15 : K.lookup f15 = some ⟨oc15, od15, .func (PySem.W.fnOf "__init__" "Past.__init__" (defArgs s_Past_init) (defBody s_Past_init) (defScope s_Past_init) .none kV15 dc15 pm15 an15 cd15 ct15), sl15⟩)
    (c15 : PySem.W.codeIn K cd15 "Past.__init__" = true)
    (k15 : PySem.W.keepIn K (.ref f15) = true)
    (a16 : PySem.W.findIn K (.ref C_Meets) "__init__" = some (some (.ref f16)))
    (i16 : PySem.W.isFn K (.ref f16) = true)
    (l16 : K.lookup f16 = some ⟨oc16, od16, .func (PySem.W.fnOf "__init__" "Meets.__init__" (defArgs s_Meets_init) (defBody s_Meets_init) (defScope s_Meets_init) .none kV16 dc16 pm16 an16 cd16 ct16), sl16⟩)
    (c16 : PySem.W.codeIn K cd16 "Meets.__init__" = true)
    (k16 : PySem.W.keepIn K (.ref f16) = true)
    (a17 : PySem.W.findIn K (.ref C_NoProgram) "__init__" = some (some (.ref f17)))
    (i17 : PySem.W.isFn K (.ref f17) = true)
    (l17 : K.lookup f17 = some ⟨oc17, od17, .func (PySem.W.fnOf "__init__" "NoProgram.__init__" (defArgs s_NoProgram_init) (defBody s_NoProgram_init) (defScope s_NoProgram_init) .none kV17 dc17 pm17 an17 cd17 ct17), sl17⟩)
    (c17 : PySem.W.codeIn K cd17 "NoProgram.__init__" = true)
    (k17 : PySem.W.keepIn K (.ref f17) = true)
    (a18 : PySem.W.findIn K (.ref C_WrongPath) "__init__" = some (some (.ref f18)))
    (i18 : PySem.W.isFn K (.ref f18) = true)
    (l18 : K.lookup f18 = some ⟨oc18, od18, .func (PySem.W.fnOf "__init__" "WrongPath.__init__" (defArgs s_WrongPath_init) (defBody s_WrongPath_init) (defScope s_WrongPath_init) .none kV18 dc18 pm18 an18 cd18 ct18), sl18⟩)
    (c18 : PySem.W.codeIn K cd18 "WrongPath.__init__" = true)
    (k18 : PySem.W.keepIn K (.ref f18) = true)
    (a19 : PySem.W.findIn K (.ref C_NoInput) "__init__" = some (some (.ref f19)))
    (i19 : PySem.W.isFn K (.ref f19) = true)
    (l19 : K.lookup f19 = some ⟨oc19, od19, .func (PySem.W.fnOf "__init__" "NoInput.__init__" (defArgs s_NoInput_init) (defBody s_NoInput_init) (defScope s_NoInput_init) .none kV19 dc19 pm19 an19 cd19 ct19), sl19⟩)
    (c19 : PySem.W.codeIn K cd19 "NoInput.__init__" = true)
    (k19 : PySem.W.keepIn K (.ref f19) = true)
    (a20 : PySem.W.findIn K (.ref C_NoThings) "__init__" = some (some (.ref f20)))
    (i20 : PySem.W.isFn K (.ref f20) = true)
    (l20 : K.lookup f20 = some ⟨oc20, od20, .func (PySem.W.fnOf "__init__" "NoThings.__init__" (defArgs s_NoThings_init) (defBody s_NoThings_init) (defScope s_NoThings_init) .none kV20 dc20 pm20 an20 cd20 ct20), sl20⟩)
    (c20 : PySem.W.codeIn K cd20 "NoThings.__init__" = true)
    (k20 : PySem.W.keepIn K (.ref f20) = true)
    (a21 : PySem.W.findIn K (.ref C_NoBudget) "__init__" = some (some (.ref f21)))
    (i21 : PySem.W.isFn K (.ref f21) = true)
    (l21 : K.lookup f21 = some ⟨oc21, od21, .func (PySem.W.fnOf "__init__" "NoBudget.__init__" (defArgs s_NoBudget_init) (defBody s_NoBudget_init) (defScope s_NoBudget_init) .none kV21 dc21 pm21 an21 cd21 ct21), sl21⟩)
    (c21 : PySem.W.codeIn K cd21 "NoBudget.__init__" = true)
    (k21 : PySem.W.keepIn K (.ref f21) = true)
    (a22 : PySem.W.findIn K (.ref C_NoLine) "__init__" = some (some (.ref f22)))
    (i22 : PySem.W.isFn K (.ref f22) = true)
    (l22 : K.lookup f22 = some ⟨oc22, od22, .func (PySem.W.fnOf "__init__" "NoLine.__init__" (defArgs s_NoLine_init) (defBody s_NoLine_init) (defScope s_NoLine_init) .none kV22 dc22 pm22 an22 cd22 ct22), sl22⟩)
    (c22 : PySem.W.codeIn K cd22 "NoLine.__init__" = true)
    (k22 : PySem.W.keepIn K (.ref f22) = true)
    (a23 : PySem.W.findIn K (.ref C_NoKeep) "__init__" = some (some (.ref f23)))
    (i23 : PySem.W.isFn K (.ref f23) = true)
    (l23 : K.lookup f23 = some ⟨oc23, od23, .func (PySem.W.fnOf "__init__" "NoKeep.__init__" (defArgs s_NoKeep_init) (defBody s_NoKeep_init) (defScope s_NoKeep_init) .none kV23 dc23 pm23 an23 cd23 ct23), sl23⟩)
    (c23 : PySem.W.codeIn K cd23 "NoKeep.__init__" = true)
    (k23 : PySem.W.keepIn K (.ref f23) = true)
    (a24 : PySem.W.findIn K (.ref C_NoLayings) "__init__" = some (some (.ref f24)))
    (i24 : PySem.W.isFn K (.ref f24) = true)
    (l24 : K.lookup f24 = some ⟨oc24, od24, .func (PySem.W.fnOf "__init__" "NoLayings.__init__" (defArgs s_NoLayings_init) (defBody s_NoLayings_init) (defScope s_NoLayings_init) .none kV24 dc24 pm24 an24 cd24 ct24), sl24⟩)
    (c24 : PySem.W.codeIn K cd24 "NoLayings.__init__" = true)
    (k24 : PySem.W.keepIn K (.ref f24) = true)
    (a25 : PySem.W.findIn K (.ref C_NoTurn) "__init__" = some (some (.ref f25)))
    (i25 : PySem.W.isFn K (.ref f25) = true)
    (l25 : K.lookup f25 = some ⟨oc25, od25, .func (PySem.W.fnOf "__init__" "NoTurn.__init__" (defArgs s_NoTurn_init) (defBody s_NoTurn_init) (defScope s_NoTurn_init) .none kV25 dc25 pm25 an25 cd25 ct25), sl25⟩)
    (c25 : PySem.W.codeIn K cd25 "NoTurn.__init__" = true)
    (k25 : PySem.W.keepIn K (.ref f25) = true)
    (a26 : PySem.W.findIn K (.ref C_NoOpen) "__init__" = some (some (.ref f26)))
    (i26 : PySem.W.isFn K (.ref f26) = true)
    (l26 : K.lookup f26 = some ⟨oc26, od26, .func (PySem.W.fnOf "__init__" "NoOpen.__init__" (defArgs s_NoOpen_init) (defBody s_NoOpen_init) (defScope s_NoOpen_init) .none kV26 dc26 pm26 an26 cd26 ct26), sl26⟩)
    (c26 : PySem.W.codeIn K cd26 "NoOpen.__init__" = true)
    (k26 : PySem.W.keepIn K (.ref f26) = true)
    (a27 : PySem.W.findIn K (.ref C_NoDesk) "__init__" = some (some (.ref f27)))
    (i27 : PySem.W.isFn K (.ref f27) = true)
    (l27 : K.lookup f27 = some ⟨oc27, od27, .func (PySem.W.fnOf "__init__" "NoDesk.__init__" (defArgs s_NoDesk_init) (defBody s_NoDesk_init) (defScope s_NoDesk_init) .none kV27 dc27 pm27 an27 cd27 ct27), sl27⟩)
    (c27 : PySem.W.codeIn K cd27 "NoDesk.__init__" = true)
    (k27 : PySem.W.keepIn K (.ref f27) = true)
    (a28 : PySem.W.nsIn K mainGlobals "_law_cell" = some (some (.ref f28)))
    (l28 : K.lookup f28 = some ⟨oc28, od28, .func (PySem.W.fnOf "_law_cell" "_law_cell" (defArgs s_law_cell) (defBody s_law_cell) (defScope s_law_cell) .none kV28 dc28 pm28 an28 cd28 ct28), sl28⟩)
    (c28 : PySem.W.codeIn K cd28 "_law_cell" = true)
    (k28 : PySem.W.keepIn K (.ref f28) = true)
    (a29 : PySem.W.nsIn K mainGlobals "_law_begun" = some (some (.ref f29)))
    (l29 : K.lookup f29 = some ⟨oc29, od29, .func (PySem.W.fnOf "_law_begun" "_law_begun" (defArgs s_law_begun) (defBody s_law_begun) (defScope s_law_begun) .none kV29 dc29 pm29 an29 cd29 ct29), sl29⟩)
    (c29 : PySem.W.codeIn K cd29 "_law_begun" = true)
    (k29 : PySem.W.keepIn K (.ref f29) = true)
    (a30 : PySem.W.nsIn K mainGlobals "_law_draw" = some (some (.ref f30)))
    (l30 : K.lookup f30 = some ⟨oc30, od30, .func (PySem.W.fnOf "_law_draw" "_law_draw" (defArgs s_law_draw) (defBody s_law_draw) (defScope s_law_draw) .none kV30 dc30 pm30 an30 cd30 ct30), sl30⟩)
    (c30 : PySem.W.codeIn K cd30 "_law_draw" = true)
    (k30 : PySem.W.keepIn K (.ref f30) = true)
    (a31 : PySem.W.nsIn K mainGlobals "_law_of_one" = some (some (.ref f31)))
    (l31 : K.lookup f31 = some ⟨oc31, od31, .func (PySem.W.fnOf "_law_of_one" "_law_of_one" (defArgs s_law_of_one) (defBody s_law_of_one) (defScope s_law_of_one) .none kV31 dc31 pm31 an31 cd31 ct31), sl31⟩)
    (c31 : PySem.W.codeIn K cd31 "_law_of_one" = true)
    (k31 : PySem.W.keepIn K (.ref f31) = true)
    (a32 : PySem.W.nsIn K mainGlobals "_law_of_one_more" = some (some (.ref f32)))
    (l32 : K.lookup f32 = some ⟨oc32, od32, .func (PySem.W.fnOf "_law_of_one_more" "_law_of_one_more" (defArgs s_law_of_one_more) (defBody s_law_of_one_more) (defScope s_law_of_one_more) .none kV32 dc32 pm32 an32 cd32 ct32), sl32⟩)
    (c32 : PySem.W.codeIn K cd32 "_law_of_one_more" = true)
    (k32 : PySem.W.keepIn K (.ref f32) = true)
    (a33 : PySem.W.nsIn K mainGlobals "_law_of_some" = some (some (.ref f33)))
    (l33 : K.lookup f33 = some ⟨oc33, od33, .func (PySem.W.fnOf "_law_of_some" "_law_of_some" (defArgs s_law_of_some) (defBody s_law_of_some) (defScope s_law_of_some) .none kV33 dc33 pm33 an33 cd33 ct33), sl33⟩)
    (c33 : PySem.W.codeIn K cd33 "_law_of_some" = true)
    (k33 : PySem.W.keepIn K (.ref f33) = true)
    (a34 : PySem.W.nsIn K mainGlobals "_law_kinds" = some (some (.ref f34)))
    (l34 : K.lookup f34 = some ⟨oc34, od34, .func (PySem.W.fnOf "_law_kinds" "_law_kinds" (defArgs s_law_kinds) (defBody s_law_kinds) (defScope s_law_kinds) .none kV34 dc34 pm34 an34 cd34 ct34), sl34⟩)
    (c34 : PySem.W.codeIn K cd34 "_law_kinds" = true)
    (k34 : PySem.W.keepIn K (.ref f34) = true)
    (a35 : PySem.W.nsIn K mainGlobals "_law_places" = some (some (.ref f35)))
    (l35 : K.lookup f35 = some ⟨oc35, od35, .func (PySem.W.fnOf "_law_places" "_law_places" (defArgs s_law_places) (defBody s_law_places) (defScope s_law_places) .none kV35 dc35 pm35 an35 cd35 ct35), sl35⟩)
    (c35 : PySem.W.codeIn K cd35 "_law_places" = true)
    (k35 : PySem.W.keepIn K (.ref f35) = true)
    (a36 : PySem.W.nsIn K mainGlobals "_law_more_places" = some (some (.ref f36)))
    (l36 : K.lookup f36 = some ⟨oc36, od36, .func (PySem.W.fnOf "_law_more_places" "_law_more_places" (defArgs s_law_more_places) (defBody s_law_more_places) (defScope s_law_more_places) .none kV36 dc36 pm36 an36 cd36 ct36), sl36⟩)
    (c36 : PySem.W.codeIn K cd36 "_law_more_places" = true)
    (k36 : PySem.W.keepIn K (.ref f36) = true)
    (a37 : PySem.W.nsIn K mainGlobals "_law_field" = some (some (.ref f37)))
    (l37 : K.lookup f37 = some ⟨oc37, od37, .func (PySem.W.fnOf "_law_field" "_law_field" (defArgs s_law_field) (defBody s_law_field) (defScope s_law_field) .none kV37 dc37 pm37 an37 cd37 ct37), sl37⟩)
    (c37 : PySem.W.codeIn K cd37 "_law_field" = true)
    (k37 : PySem.W.keepIn K (.ref f37) = true)
    (a38 : PySem.W.nsIn K mainGlobals "_law_fields" = some (some (.ref f38)))
    (l38 : K.lookup f38 = some ⟨oc38, od38, .func (PySem.W.fnOf "_law_fields" "_law_fields" (defArgs s_law_fields) (defBody s_law_fields) (defScope s_law_fields) .none kV38 dc38 pm38 an38 cd38 ct38), sl38⟩)
    (c38 : PySem.W.codeIn K cd38 "_law_fields" = true)
    (k38 : PySem.W.keepIn K (.ref f38) = true)
    (a39 : PySem.W.nsIn K mainGlobals "_law_counts" = some (some (.ref f39)))
    (l39 : K.lookup f39 = some ⟨oc39, od39, .func (PySem.W.fnOf "_law_counts" "_law_counts" (defArgs s_law_counts) (defBody s_law_counts) (defScope s_law_counts) .none kV39 dc39 pm39 an39 cd39 ct39), sl39⟩)
    (c39 : PySem.W.codeIn K cd39 "_law_counts" = true)
    (k39 : PySem.W.keepIn K (.ref f39) = true)
    (a40 : PySem.W.nsIn K mainGlobals "_law_own" = some (some (.ref f40)))
    (l40 : K.lookup f40 = some ⟨oc40, od40, .func (PySem.W.fnOf "_law_own" "_law_own" (defArgs s_law_own) (defBody s_law_own) (defScope s_law_own) .none kV40 dc40 pm40 an40 cd40 ct40), sl40⟩)
    (c40 : PySem.W.codeIn K cd40 "_law_own" = true)
    (k40 : PySem.W.keepIn K (.ref f40) = true)
    (a41 : PySem.W.nsIn K mainGlobals "_law_same" = some (some (.ref f41)))
    (l41 : K.lookup f41 = some ⟨oc41, od41, .func (PySem.W.fnOf "_law_same" "_law_same" (defArgs s_law_same) (defBody s_law_same) (defScope s_law_same) .none kV41 dc41 pm41 an41 cd41 ct41), sl41⟩)
    (c41 : PySem.W.codeIn K cd41 "_law_same" = true)
    (k41 : PySem.W.keepIn K (.ref f41) = true)
    (a42 : PySem.W.nsIn K mainGlobals "_law_taken" = some (some (.ref f42)))
    (l42 : K.lookup f42 = some ⟨oc42, od42, .func (PySem.W.fnOf "_law_taken" "_law_taken" (defArgs s_law_taken) (defBody s_law_taken) (defScope s_law_taken) .none kV42 dc42 pm42 an42 cd42 ct42), sl42⟩)
    (c42 : PySem.W.codeIn K cd42 "_law_taken" = true)
    (k42 : PySem.W.keepIn K (.ref f42) = true)
    (a43 : PySem.W.nsIn K mainGlobals "_law_thing" = some (some (.ref f43)))
    (l43 : K.lookup f43 = some ⟨oc43, od43, .func (PySem.W.fnOf "_law_thing" "_law_thing" (defArgs s_law_thing) (defBody s_law_thing) (defScope s_law_thing) .none kV43 dc43 pm43 an43 cd43 ct43), sl43⟩)
    (c43 : PySem.W.codeIn K cd43 "_law_thing" = true)
    (k43 : PySem.W.keepIn K (.ref f43) = true)
    (a44 : PySem.W.nsIn K mainGlobals "law" = some (some (.ref f44)))
    (l44 : K.lookup f44 = some ⟨oc44, od44, .func (PySem.W.fnOf "law" "law" (defArgs s_law) (defBody s_law) (defScope s_law) .none kV44 dc44 pm44 an44 cd44 ct44), sl44⟩)
    (c44 : PySem.W.codeIn K cd44 "law" = true)
    (k44 : PySem.W.keepIn K (.ref f44) = true)
    (xo_RoomError : K.lookup C_RoomError = some (xcls xn0 xq0 C_RoomError xN0 xb0 VB true xl0 xs0 xa0 xc0 xd0 x00 x10 x20 x30 x50))
    (xk_RoomError : PySem.W.keepIn K (.ref C_RoomError) = true)
    (xr : PySem.W.readsIn K C_RoomError (.type "type") = true)
    (xf : PySem.W.findCls K (.ref C_RoomError) (.type "type") "__init__" = some (.val (.ref f0)))
    (xp : PySem.W.specialIn K (.ref C_RoomError) "__getattribute__" = some (some (.builtin "type.__getattribute__")))
    (xo_Beyond : K.lookup C_Beyond = some (xcls xn1 xq1 C_Beyond xN1 xb1 (.ref C_RoomError :: VB) true xl1 xs1 xa1 xc1 xd1 x01 x11 x21 x31 x51))
    (xk_Beyond : PySem.W.keepIn K (.ref C_Beyond) = true)
    (xn_Beyond : PySem.W.nsOkIn K xN1 = true)
    (xi_Beyond : PySem.W.nsIn K xN1 "__init__" = some (some (.ref f9)))
    (xs_Beyond : PySem.W.findIn K (.ref C_Beyond) "__setattr__" = some (some (.builtin "object.__setattr__")))
    (xg_Beyond : PySem.W.findIn K (.ref C_Beyond) "__getattribute__" = some (some (.builtin "BaseException.__getattribute__")))
    (xh_Beyond : PySem.W.findIn K (.ref C_Beyond) "__getattr__" = some none)
    (n_Beyond_found : PySem.W.findIn K (.ref C_Beyond) "found" = some none)
    (xo_Lacking : K.lookup C_Lacking = some (xcls xn2 xq2 C_Lacking xN2 xb2 (.ref C_RoomError :: VB) true xl2 xs2 xa2 xc2 xd2 x02 x12 x22 x32 x52))
    (xk_Lacking : PySem.W.keepIn K (.ref C_Lacking) = true)
    (xn_Lacking : PySem.W.nsOkIn K xN2 = true)
    (xi_Lacking : PySem.W.nsIn K xN2 "__init__" = some (some (.ref f14)))
    (xs_Lacking : PySem.W.findIn K (.ref C_Lacking) "__setattr__" = some (some (.builtin "object.__setattr__")))
    (xg_Lacking : PySem.W.findIn K (.ref C_Lacking) "__getattribute__" = some (some (.builtin "BaseException.__getattribute__")))
    (xh_Lacking : PySem.W.findIn K (.ref C_Lacking) "__getattr__" = some none)
    (n_Lacking_unit : PySem.W.findIn K (.ref C_Lacking) "unit" = some none)
    (xo_LaidTwice : K.lookup C_LaidTwice = some (xcls xn3 xq3 C_LaidTwice xN3 xb3 (.ref C_RoomError :: VB) true xl3 xs3 xa3 xc3 xd3 x03 x13 x23 x33 x53))
    (xk_LaidTwice : PySem.W.keepIn K (.ref C_LaidTwice) = true)
    (xn_LaidTwice : PySem.W.nsOkIn K xN3 = true)
    (xi_LaidTwice : PySem.W.nsIn K xN3 "__init__" = some (some (.ref f13)))
    (xs_LaidTwice : PySem.W.findIn K (.ref C_LaidTwice) "__setattr__" = some (some (.builtin "object.__setattr__")))
    (xg_LaidTwice : PySem.W.findIn K (.ref C_LaidTwice) "__getattribute__" = some (some (.builtin "BaseException.__getattribute__")))
    (xh_LaidTwice : PySem.W.findIn K (.ref C_LaidTwice) "__getattr__" = some none)
    (n_LaidTwice_line : PySem.W.findIn K (.ref C_LaidTwice) "line" = some none)
    (n_LaidTwice_unit : PySem.W.findIn K (.ref C_LaidTwice) "unit" = some none)
    (xo_Meets : K.lookup C_Meets = some (xcls xn4 xq4 C_Meets xN4 xb4 (.ref C_RoomError :: VB) true xl4 xs4 xa4 xc4 xd4 x04 x14 x24 x34 x54))
    (xk_Meets : PySem.W.keepIn K (.ref C_Meets) = true)
    (xn_Meets : PySem.W.nsOkIn K xN4 = true)
    (xi_Meets : PySem.W.nsIn K xN4 "__init__" = some (some (.ref f16)))
    (xs_Meets : PySem.W.findIn K (.ref C_Meets) "__setattr__" = some (some (.builtin "object.__setattr__")))
    (xg_Meets : PySem.W.findIn K (.ref C_Meets) "__getattribute__" = some (some (.builtin "BaseException.__getattribute__")))
    (xh_Meets : PySem.W.findIn K (.ref C_Meets) "__getattr__" = some none)
    (n_Meets_unit : PySem.W.findIn K (.ref C_Meets) "unit" = some none)
    (n_Meets_thing : PySem.W.findIn K (.ref C_Meets) "thing" = some none)
    (n_Meets_second : PySem.W.findIn K (.ref C_Meets) "second" = some none)
    (n_Meets_another : PySem.W.findIn K (.ref C_Meets) "another" = some none)
    (xo_NamedTwice : K.lookup C_NamedTwice = some (xcls xn5 xq5 C_NamedTwice xN5 xb5 (.ref C_RoomError :: VB) true xl5 xs5 xa5 xc5 xd5 x05 x15 x25 x35 x55))
    (xk_NamedTwice : PySem.W.keepIn K (.ref C_NamedTwice) = true)
    (xn_NamedTwice : PySem.W.nsOkIn K xN5 = true)
    (xi_NamedTwice : PySem.W.nsIn K xN5 "__init__" = some (some (.ref f5)))
    (xs_NamedTwice : PySem.W.findIn K (.ref C_NamedTwice) "__setattr__" = some (some (.builtin "object.__setattr__")))
    (xg_NamedTwice : PySem.W.findIn K (.ref C_NamedTwice) "__getattribute__" = some (some (.builtin "BaseException.__getattribute__")))
    (xh_NamedTwice : PySem.W.findIn K (.ref C_NamedTwice) "__getattr__" = some none)
    (n_NamedTwice_line : PySem.W.findIn K (.ref C_NamedTwice) "line" = some none)
    (n_NamedTwice_name : PySem.W.findIn K (.ref C_NamedTwice) "name" = some none)
    (xo_NoBudget : K.lookup C_NoBudget = some (xcls xn6 xq6 C_NoBudget xN6 xb6 (.ref C_RoomError :: VB) true xl6 xs6 xa6 xc6 xd6 x06 x16 x26 x36 x56))
    (xk_NoBudget : PySem.W.keepIn K (.ref C_NoBudget) = true)
    (xn_NoBudget : PySem.W.nsOkIn K xN6 = true)
    (xi_NoBudget : PySem.W.nsIn K xN6 "__init__" = some (some (.ref f21)))
    (xs_NoBudget : PySem.W.findIn K (.ref C_NoBudget) "__setattr__" = some (some (.builtin "object.__setattr__")))
    (xg_NoBudget : PySem.W.findIn K (.ref C_NoBudget) "__getattribute__" = some (some (.builtin "BaseException.__getattribute__")))
    (xh_NoBudget : PySem.W.findIn K (.ref C_NoBudget) "__getattr__" = some none)
    (n_NoBudget_found : PySem.W.findIn K (.ref C_NoBudget) "found" = some none)
    (xo_NoDesk : K.lookup C_NoDesk = some (xcls xn7 xq7 C_NoDesk xN7 xb7 (.ref C_RoomError :: VB) true xl7 xs7 xa7 xc7 xd7 x07 x17 x27 x37 x57))
    (xk_NoDesk : PySem.W.keepIn K (.ref C_NoDesk) = true)
    (xn_NoDesk : PySem.W.nsOkIn K xN7 = true)
    (xi_NoDesk : PySem.W.nsIn K xN7 "__init__" = some (some (.ref f27)))
    (xs_NoDesk : PySem.W.findIn K (.ref C_NoDesk) "__setattr__" = some (some (.builtin "object.__setattr__")))
    (xg_NoDesk : PySem.W.findIn K (.ref C_NoDesk) "__getattribute__" = some (some (.builtin "BaseException.__getattribute__")))
    (xh_NoDesk : PySem.W.findIn K (.ref C_NoDesk) "__getattr__" = some none)
    (n_NoDesk_line : PySem.W.findIn K (.ref C_NoDesk) "line" = some none)
    (xo_NoInput : K.lookup C_NoInput = some (xcls xn8 xq8 C_NoInput xN8 xb8 (.ref C_RoomError :: VB) true xl8 xs8 xa8 xc8 xd8 x08 x18 x28 x38 x58))
    (xk_NoInput : PySem.W.keepIn K (.ref C_NoInput) = true)
    (xn_NoInput : PySem.W.nsOkIn K xN8 = true)
    (xi_NoInput : PySem.W.nsIn K xN8 "__init__" = some (some (.ref f19)))
    (xs_NoInput : PySem.W.findIn K (.ref C_NoInput) "__setattr__" = some (some (.builtin "object.__setattr__")))
    (xg_NoInput : PySem.W.findIn K (.ref C_NoInput) "__getattribute__" = some (some (.builtin "BaseException.__getattribute__")))
    (xh_NoInput : PySem.W.findIn K (.ref C_NoInput) "__getattr__" = some none)
    (n_NoInput_name : PySem.W.findIn K (.ref C_NoInput) "name" = some none)
    (xo_NoKeep : K.lookup C_NoKeep = some (xcls xn9 xq9 C_NoKeep xN9 xb9 (.ref C_RoomError :: VB) true xl9 xs9 xa9 xc9 xd9 x09 x19 x29 x39 x59))
    (xk_NoKeep : PySem.W.keepIn K (.ref C_NoKeep) = true)
    (xn_NoKeep : PySem.W.nsOkIn K xN9 = true)
    (xi_NoKeep : PySem.W.nsIn K xN9 "__init__" = some (some (.ref f23)))
    (xs_NoKeep : PySem.W.findIn K (.ref C_NoKeep) "__setattr__" = some (some (.builtin "object.__setattr__")))
    (xg_NoKeep : PySem.W.findIn K (.ref C_NoKeep) "__getattribute__" = some (some (.builtin "BaseException.__getattribute__")))
    (xh_NoKeep : PySem.W.findIn K (.ref C_NoKeep) "__getattr__" = some none)
    (n_NoKeep_found : PySem.W.findIn K (.ref C_NoKeep) "found" = some none)
    (xo_NoLaying : K.lookup C_NoLaying = some (xcls xn10 xq10 C_NoLaying xN10 xb10 (.ref C_RoomError :: VB) true xl10 xs10 xa10 xc10 xd10 x010 x110 x210 x310 x510))
    (xk_NoLaying : PySem.W.keepIn K (.ref C_NoLaying) = true)
    (xn_NoLaying : PySem.W.nsOkIn K xN10 = true)
    (xi_NoLaying : PySem.W.nsIn K xN10 "__init__" = some (some (.ref f11)))
    (xs_NoLaying : PySem.W.findIn K (.ref C_NoLaying) "__setattr__" = some (some (.builtin "object.__setattr__")))
    (xg_NoLaying : PySem.W.findIn K (.ref C_NoLaying) "__getattribute__" = some (some (.builtin "BaseException.__getattribute__")))
    (xh_NoLaying : PySem.W.findIn K (.ref C_NoLaying) "__getattr__" = some none)
    (n_NoLaying_line : PySem.W.findIn K (.ref C_NoLaying) "line" = some none)
    (xo_NoLayings : K.lookup C_NoLayings = some (xcls xn11 xq11 C_NoLayings xN11 xb11 (.ref C_RoomError :: VB) true xl11 xs11 xa11 xc11 xd11 x011 x111 x211 x311 x511))
    (xk_NoLayings : PySem.W.keepIn K (.ref C_NoLayings) = true)
    (xn_NoLayings : PySem.W.nsOkIn K xN11 = true)
    (xi_NoLayings : PySem.W.nsIn K xN11 "__init__" = some (some (.ref f24)))
    (xs_NoLayings : PySem.W.findIn K (.ref C_NoLayings) "__setattr__" = some (some (.builtin "object.__setattr__")))
    (xg_NoLayings : PySem.W.findIn K (.ref C_NoLayings) "__getattribute__" = some (some (.builtin "BaseException.__getattribute__")))
    (xh_NoLayings : PySem.W.findIn K (.ref C_NoLayings) "__getattr__" = some none)
    (n_NoLayings_found : PySem.W.findIn K (.ref C_NoLayings) "found" = some none)
    (xo_NoLine : K.lookup C_NoLine = some (xcls xn12 xq12 C_NoLine xN12 xb12 (.ref C_RoomError :: VB) true xl12 xs12 xa12 xc12 xd12 x012 x112 x212 x312 x512))
    (xk_NoLine : PySem.W.keepIn K (.ref C_NoLine) = true)
    (xn_NoLine : PySem.W.nsOkIn K xN12 = true)
    (xi_NoLine : PySem.W.nsIn K xN12 "__init__" = some (some (.ref f22)))
    (xs_NoLine : PySem.W.findIn K (.ref C_NoLine) "__setattr__" = some (some (.builtin "object.__setattr__")))
    (xg_NoLine : PySem.W.findIn K (.ref C_NoLine) "__getattribute__" = some (some (.builtin "BaseException.__getattribute__")))
    (xh_NoLine : PySem.W.findIn K (.ref C_NoLine) "__getattr__" = some none)
    (n_NoLine_found : PySem.W.findIn K (.ref C_NoLine) "found" = some none)
    (xo_NoOpen : K.lookup C_NoOpen = some (xcls xn13 xq13 C_NoOpen xN13 xb13 (.ref C_RoomError :: VB) true xl13 xs13 xa13 xc13 xd13 x013 x113 x213 x313 x513))
    (xk_NoOpen : PySem.W.keepIn K (.ref C_NoOpen) = true)
    (xn_NoOpen : PySem.W.nsOkIn K xN13 = true)
    (xi_NoOpen : PySem.W.nsIn K xN13 "__init__" = some (some (.ref f26)))
    (xs_NoOpen : PySem.W.findIn K (.ref C_NoOpen) "__setattr__" = some (some (.builtin "object.__setattr__")))
    (xg_NoOpen : PySem.W.findIn K (.ref C_NoOpen) "__getattribute__" = some (some (.builtin "BaseException.__getattribute__")))
    (xh_NoOpen : PySem.W.findIn K (.ref C_NoOpen) "__getattr__" = some none)
    (n_NoOpen_found : PySem.W.findIn K (.ref C_NoOpen) "found" = some none)
    (xo_NoPath : K.lookup C_NoPath = some (xcls xn14 xq14 C_NoPath xN14 xb14 (.ref C_RoomError :: VB) true xl14 xs14 xa14 xc14 xd14 x014 x114 x214 x314 x514))
    (xk_NoPath : PySem.W.keepIn K (.ref C_NoPath) = true)
    (xn_NoPath : PySem.W.nsOkIn K xN14 = true)
    (xi_NoPath : PySem.W.nsIn K xN14 "__init__" = some (some (.ref f8)))
    (xs_NoPath : PySem.W.findIn K (.ref C_NoPath) "__setattr__" = some (some (.builtin "object.__setattr__")))
    (xg_NoPath : PySem.W.findIn K (.ref C_NoPath) "__getattribute__" = some (some (.builtin "BaseException.__getattribute__")))
    (xh_NoPath : PySem.W.findIn K (.ref C_NoPath) "__getattr__" = some none)
    (n_NoPath_path : PySem.W.findIn K (.ref C_NoPath) "path" = some none)
    (xo_NoPlace : K.lookup C_NoPlace = some (xcls xn15 xq15 C_NoPlace xN15 xb15 (.ref C_RoomError :: VB) true xl15 xs15 xa15 xc15 xd15 x015 x115 x215 x315 x515))
    (xk_NoPlace : PySem.W.keepIn K (.ref C_NoPlace) = true)
    (xn_NoPlace : PySem.W.nsOkIn K xN15 = true)
    (xi_NoPlace : PySem.W.nsIn K xN15 "__init__" = some (some (.ref f2)))
    (xs_NoPlace : PySem.W.findIn K (.ref C_NoPlace) "__setattr__" = some (some (.builtin "object.__setattr__")))
    (xg_NoPlace : PySem.W.findIn K (.ref C_NoPlace) "__getattribute__" = some (some (.builtin "BaseException.__getattribute__")))
    (xh_NoPlace : PySem.W.findIn K (.ref C_NoPlace) "__getattr__" = some none)
    (n_NoPlace_found : PySem.W.findIn K (.ref C_NoPlace) "found" = some none)
    (xo_NoProgram : K.lookup C_NoProgram = some (xcls xn16 xq16 C_NoProgram xN16 xb16 (.ref C_RoomError :: VB) true xl16 xs16 xa16 xc16 xd16 x016 x116 x216 x316 x516))
    (xk_NoProgram : PySem.W.keepIn K (.ref C_NoProgram) = true)
    (xn_NoProgram : PySem.W.nsOkIn K xN16 = true)
    (xi_NoProgram : PySem.W.nsIn K xN16 "__init__" = some (some (.ref f17)))
    (xs_NoProgram : PySem.W.findIn K (.ref C_NoProgram) "__setattr__" = some (some (.builtin "object.__setattr__")))
    (xg_NoProgram : PySem.W.findIn K (.ref C_NoProgram) "__getattribute__" = some (some (.builtin "BaseException.__getattribute__")))
    (xh_NoProgram : PySem.W.findIn K (.ref C_NoProgram) "__getattr__" = some none)
    (n_NoProgram_line : PySem.W.findIn K (.ref C_NoProgram) "line" = some none)
    (xo_NoRecord : K.lookup C_NoRecord = some (xcls xn17 xq17 C_NoRecord xN17 xb17 (.ref C_RoomError :: VB) true xl17 xs17 xa17 xc17 xd17 x017 x117 x217 x317 x517))
    (xk_NoRecord : PySem.W.keepIn K (.ref C_NoRecord) = true)
    (xn_NoRecord : PySem.W.nsOkIn K xN17 = true)
    (xi_NoRecord : PySem.W.nsIn K xN17 "__init__" = some (some (.ref f7)))
    (xs_NoRecord : PySem.W.findIn K (.ref C_NoRecord) "__setattr__" = some (some (.builtin "object.__setattr__")))
    (xg_NoRecord : PySem.W.findIn K (.ref C_NoRecord) "__getattribute__" = some (some (.builtin "BaseException.__getattribute__")))
    (xh_NoRecord : PySem.W.findIn K (.ref C_NoRecord) "__getattr__" = some none)
    (n_NoRecord_found : PySem.W.findIn K (.ref C_NoRecord) "found" = some none)
    (xo_NoRoom : K.lookup C_NoRoom = some (xcls xn18 xq18 C_NoRoom xN18 xb18 (.ref C_RoomError :: VB) true xl18 xs18 xa18 xc18 xd18 x018 x118 x218 x318 x518))
    (xk_NoRoom : PySem.W.keepIn K (.ref C_NoRoom) = true)
    (xn_NoRoom : PySem.W.nsOkIn K xN18 = true)
    (xi_NoRoom : PySem.W.nsIn K xN18 "__init__" = some (some (.ref f1)))
    (xs_NoRoom : PySem.W.findIn K (.ref C_NoRoom) "__setattr__" = some (some (.builtin "object.__setattr__")))
    (xg_NoRoom : PySem.W.findIn K (.ref C_NoRoom) "__getattribute__" = some (some (.builtin "BaseException.__getattribute__")))
    (xh_NoRoom : PySem.W.findIn K (.ref C_NoRoom) "__getattr__" = some none)
    (n_NoRoom_found : PySem.W.findIn K (.ref C_NoRoom) "found" = some none)
    (xo_NoShapes : K.lookup C_NoShapes = some (xcls xn19 xq19 C_NoShapes xN19 xb19 (.ref C_RoomError :: VB) true xl19 xs19 xa19 xc19 xd19 x019 x119 x219 x319 x519))
    (xk_NoShapes : PySem.W.keepIn K (.ref C_NoShapes) = true)
    (xn_NoShapes : PySem.W.nsOkIn K xN19 = true)
    (xi_NoShapes : PySem.W.nsIn K xN19 "__init__" = some (some (.ref f3)))
    (xs_NoShapes : PySem.W.findIn K (.ref C_NoShapes) "__setattr__" = some (some (.builtin "object.__setattr__")))
    (xg_NoShapes : PySem.W.findIn K (.ref C_NoShapes) "__getattribute__" = some (some (.builtin "BaseException.__getattribute__")))
    (xh_NoShapes : PySem.W.findIn K (.ref C_NoShapes) "__getattr__" = some none)
    (n_NoShapes_line : PySem.W.findIn K (.ref C_NoShapes) "line" = some none)
    (xo_NoThings : K.lookup C_NoThings = some (xcls xn20 xq20 C_NoThings xN20 xb20 (.ref C_RoomError :: VB) true xl20 xs20 xa20 xc20 xd20 x020 x120 x220 x320 x520))
    (xk_NoThings : PySem.W.keepIn K (.ref C_NoThings) = true)
    (xn_NoThings : PySem.W.nsOkIn K xN20 = true)
    (xi_NoThings : PySem.W.nsIn K xN20 "__init__" = some (some (.ref f20)))
    (xs_NoThings : PySem.W.findIn K (.ref C_NoThings) "__setattr__" = some (some (.builtin "object.__setattr__")))
    (xg_NoThings : PySem.W.findIn K (.ref C_NoThings) "__getattribute__" = some (some (.builtin "BaseException.__getattribute__")))
    (xh_NoThings : PySem.W.findIn K (.ref C_NoThings) "__getattr__" = some none)
    (n_NoThings_found : PySem.W.findIn K (.ref C_NoThings) "found" = some none)
    (xo_NoTurn : K.lookup C_NoTurn = some (xcls xn21 xq21 C_NoTurn xN21 xb21 (.ref C_RoomError :: VB) true xl21 xs21 xa21 xc21 xd21 x021 x121 x221 x321 x521))
    (xk_NoTurn : PySem.W.keepIn K (.ref C_NoTurn) = true)
    (xn_NoTurn : PySem.W.nsOkIn K xN21 = true)
    (xi_NoTurn : PySem.W.nsIn K xN21 "__init__" = some (some (.ref f25)))
    (xs_NoTurn : PySem.W.findIn K (.ref C_NoTurn) "__setattr__" = some (some (.builtin "object.__setattr__")))
    (xg_NoTurn : PySem.W.findIn K (.ref C_NoTurn) "__getattribute__" = some (some (.builtin "BaseException.__getattribute__")))
    (xh_NoTurn : PySem.W.findIn K (.ref C_NoTurn) "__getattr__" = some none)
    (n_NoTurn_found : PySem.W.findIn K (.ref C_NoTurn) "found" = some none)
    (xo_Other : K.lookup C_Other = some (xcls xn22 xq22 C_Other xN22 xb22 (.ref C_RoomError :: VB) true xl22 xs22 xa22 xc22 xd22 x022 x122 x222 x322 x522))
    (xk_Other : PySem.W.keepIn K (.ref C_Other) = true)
    (xn_Other : PySem.W.nsOkIn K xN22 = true)
    (xi_Other : PySem.W.nsIn K xN22 "__init__" = some (some (.ref f10)))
    (xs_Other : PySem.W.findIn K (.ref C_Other) "__setattr__" = some (some (.builtin "object.__setattr__")))
    (xg_Other : PySem.W.findIn K (.ref C_Other) "__getattribute__" = some (some (.builtin "BaseException.__getattribute__")))
    (xh_Other : PySem.W.findIn K (.ref C_Other) "__getattr__" = some none)
    (n_Other_found : PySem.W.findIn K (.ref C_Other) "found" = some none)
    (xo_Past : K.lookup C_Past = some (xcls xn23 xq23 C_Past xN23 xb23 (.ref C_RoomError :: VB) true xl23 xs23 xa23 xc23 xd23 x023 x123 x223 x323 x523))
    (xk_Past : PySem.W.keepIn K (.ref C_Past) = true)
    (xn_Past : PySem.W.nsOkIn K xN23 = true)
    (xi_Past : PySem.W.nsIn K xN23 "__init__" = some (some (.ref f15)))
    (xs_Past : PySem.W.findIn K (.ref C_Past) "__setattr__" = some (some (.builtin "object.__setattr__")))
    (xg_Past : PySem.W.findIn K (.ref C_Past) "__getattribute__" = some (some (.builtin "BaseException.__getattribute__")))
    (xh_Past : PySem.W.findIn K (.ref C_Past) "__getattr__" = some none)
    (n_Past_unit : PySem.W.findIn K (.ref C_Past) "unit" = some none)
    (n_Past_thing : PySem.W.findIn K (.ref C_Past) "thing" = some none)
    (n_Past_cell : PySem.W.findIn K (.ref C_Past) "cell" = some none)
    (xo_TooMuch : K.lookup C_TooMuch = some (xcls xn24 xq24 C_TooMuch xN24 xb24 (.ref C_RoomError :: VB) true xl24 xs24 xa24 xc24 xd24 x024 x124 x224 x324 x524))
    (xk_TooMuch : PySem.W.keepIn K (.ref C_TooMuch) = true)
    (xn_TooMuch : PySem.W.nsOkIn K xN24 = true)
    (xi_TooMuch : PySem.W.nsIn K xN24 "__init__" = some (some (.ref f6)))
    (xs_TooMuch : PySem.W.findIn K (.ref C_TooMuch) "__setattr__" = some (some (.builtin "object.__setattr__")))
    (xg_TooMuch : PySem.W.findIn K (.ref C_TooMuch) "__getattribute__" = some (some (.builtin "BaseException.__getattribute__")))
    (xh_TooMuch : PySem.W.findIn K (.ref C_TooMuch) "__getattr__" = some none)
    (n_TooMuch_line : PySem.W.findIn K (.ref C_TooMuch) "line" = some none)
    (xo_UnknownShape : K.lookup C_UnknownShape = some (xcls xn25 xq25 C_UnknownShape xN25 xb25 (.ref C_RoomError :: VB) true xl25 xs25 xa25 xc25 xd25 x025 x125 x225 x325 x525))
    (xk_UnknownShape : PySem.W.keepIn K (.ref C_UnknownShape) = true)
    (xn_UnknownShape : PySem.W.nsOkIn K xN25 = true)
    (xi_UnknownShape : PySem.W.nsIn K xN25 "__init__" = some (some (.ref f4)))
    (xs_UnknownShape : PySem.W.findIn K (.ref C_UnknownShape) "__setattr__" = some (some (.builtin "object.__setattr__")))
    (xg_UnknownShape : PySem.W.findIn K (.ref C_UnknownShape) "__getattribute__" = some (some (.builtin "BaseException.__getattribute__")))
    (xh_UnknownShape : PySem.W.findIn K (.ref C_UnknownShape) "__getattr__" = some none)
    (n_UnknownShape_line : PySem.W.findIn K (.ref C_UnknownShape) "line" = some none)
    (n_UnknownShape_name : PySem.W.findIn K (.ref C_UnknownShape) "name" = some none)
    (xo_UnknownUnit : K.lookup C_UnknownUnit = some (xcls xn26 xq26 C_UnknownUnit xN26 xb26 (.ref C_RoomError :: VB) true xl26 xs26 xa26 xc26 xd26 x026 x126 x226 x326 x526))
    (xk_UnknownUnit : PySem.W.keepIn K (.ref C_UnknownUnit) = true)
    (xn_UnknownUnit : PySem.W.nsOkIn K xN26 = true)
    (xi_UnknownUnit : PySem.W.nsIn K xN26 "__init__" = some (some (.ref f12)))
    (xs_UnknownUnit : PySem.W.findIn K (.ref C_UnknownUnit) "__setattr__" = some (some (.builtin "object.__setattr__")))
    (xg_UnknownUnit : PySem.W.findIn K (.ref C_UnknownUnit) "__getattribute__" = some (some (.builtin "BaseException.__getattribute__")))
    (xh_UnknownUnit : PySem.W.findIn K (.ref C_UnknownUnit) "__getattr__" = some none)
    (n_UnknownUnit_line : PySem.W.findIn K (.ref C_UnknownUnit) "line" = some none)
    (n_UnknownUnit_unit : PySem.W.findIn K (.ref C_UnknownUnit) "unit" = some none)
    (xo_WrongPath : K.lookup C_WrongPath = some (xcls xn27 xq27 C_WrongPath xN27 xb27 (.ref C_RoomError :: VB) true xl27 xs27 xa27 xc27 xd27 x027 x127 x227 x327 x527))
    (xk_WrongPath : PySem.W.keepIn K (.ref C_WrongPath) = true)
    (xn_WrongPath : PySem.W.nsOkIn K xN27 = true)
    (xi_WrongPath : PySem.W.nsIn K xN27 "__init__" = some (some (.ref f18)))
    (xs_WrongPath : PySem.W.findIn K (.ref C_WrongPath) "__setattr__" = some (some (.builtin "object.__setattr__")))
    (xg_WrongPath : PySem.W.findIn K (.ref C_WrongPath) "__getattribute__" = some (some (.builtin "BaseException.__getattribute__")))
    (xh_WrongPath : PySem.W.findIn K (.ref C_WrongPath) "__getattr__" = some none)
    (n_WrongPath_line : PySem.W.findIn K (.ref C_WrongPath) "line" = some none)
    (n_WrongPath_path : PySem.W.findIn K (.ref C_WrongPath) "path" = some none)
    (vi1 : PySem.W.findIn K (.type "type") "__getattribute__" = some (some (.builtin "type.__getattribute__")))
    (vi2 : PySem.W.subIn K (.type "type") (.type "type") = some true)
    (vi3 : PySem.W.findCls K (.type "ValueError") (.type "type") "__init__" = some (.val (.builtin "ValueError.__init__")))
    (z0 : PySem.W.nsIn K mainGlobals "range" = some none)
    (z1 : PySem.W.nsIn K mainGlobals "len" = some none)
    (z2 : PySem.W.nsIn K mainGlobals "isinstance" = some none)
    (z3 : PySem.W.nsIn K mainGlobals "int" = some none)
    (z4 : PySem.W.nsIn K mainGlobals "bool" = some none)
    (z5 : PySem.W.nsIn K mainGlobals "list" = some none)
    (z6 : PySem.W.nsIn K mainGlobals "all" = some none)
    (z7 : PySem.W.nsIn K mainGlobals "max" = some none)
    (z8 : PySem.W.nsIn K mainGlobals "min" = some none)
    (z9 : PySem.W.nsIn K mainGlobals "reversed" = some none)
    (z10 : PySem.W.nsIn K mainGlobals "tuple" = some none)
    (z11 : PySem.W.nsIn K mainGlobals "divmod" = some none)
    (z12 : PySem.W.nsIn K mainGlobals "ValueError" = some none)
    (z13 : PySem.W.nsIn K mainGlobals "repr" = some none)
    (yb : PySem.W.specialIn K (.builtin "object.__class__") "__get__" = some (some (.builtin "getset_descriptor.__get__"))) (yc : PySem.W.takesIn K (.builtin "object.__class__") = some true)
    (ya_NoRoom : PySem.W.findIn K (.ref C_NoRoom) "__class__" = some (some (.builtin "object.__class__"))) (yd_NoRoom : PySem.W.mroIn K C_NoRoom (.type "object") = some true)
    (ya_NoPlace : PySem.W.findIn K (.ref C_NoPlace) "__class__" = some (some (.builtin "object.__class__"))) (yd_NoPlace : PySem.W.mroIn K C_NoPlace (.type "object") = some true)
    (ya_NoShapes : PySem.W.findIn K (.ref C_NoShapes) "__class__" = some (some (.builtin "object.__class__"))) (yd_NoShapes : PySem.W.mroIn K C_NoShapes (.type "object") = some true)
    (ya_UnknownShape : PySem.W.findIn K (.ref C_UnknownShape) "__class__" = some (some (.builtin "object.__class__"))) (yd_UnknownShape : PySem.W.mroIn K C_UnknownShape (.type "object") = some true)
    (ya_NamedTwice : PySem.W.findIn K (.ref C_NamedTwice) "__class__" = some (some (.builtin "object.__class__"))) (yd_NamedTwice : PySem.W.mroIn K C_NamedTwice (.type "object") = some true)
    (ya_TooMuch : PySem.W.findIn K (.ref C_TooMuch) "__class__" = some (some (.builtin "object.__class__"))) (yd_TooMuch : PySem.W.mroIn K C_TooMuch (.type "object") = some true)
    (ya_NoRecord : PySem.W.findIn K (.ref C_NoRecord) "__class__" = some (some (.builtin "object.__class__"))) (yd_NoRecord : PySem.W.mroIn K C_NoRecord (.type "object") = some true)
    (ya_NoPath : PySem.W.findIn K (.ref C_NoPath) "__class__" = some (some (.builtin "object.__class__"))) (yd_NoPath : PySem.W.mroIn K C_NoPath (.type "object") = some true)
    (ya_Beyond : PySem.W.findIn K (.ref C_Beyond) "__class__" = some (some (.builtin "object.__class__"))) (yd_Beyond : PySem.W.mroIn K C_Beyond (.type "object") = some true)
    (ya_Other : PySem.W.findIn K (.ref C_Other) "__class__" = some (some (.builtin "object.__class__"))) (yd_Other : PySem.W.mroIn K C_Other (.type "object") = some true)
    (ya_NoLaying : PySem.W.findIn K (.ref C_NoLaying) "__class__" = some (some (.builtin "object.__class__"))) (yd_NoLaying : PySem.W.mroIn K C_NoLaying (.type "object") = some true)
    (ya_UnknownUnit : PySem.W.findIn K (.ref C_UnknownUnit) "__class__" = some (some (.builtin "object.__class__"))) (yd_UnknownUnit : PySem.W.mroIn K C_UnknownUnit (.type "object") = some true)
    (ya_LaidTwice : PySem.W.findIn K (.ref C_LaidTwice) "__class__" = some (some (.builtin "object.__class__"))) (yd_LaidTwice : PySem.W.mroIn K C_LaidTwice (.type "object") = some true)
    (ya_Lacking : PySem.W.findIn K (.ref C_Lacking) "__class__" = some (some (.builtin "object.__class__"))) (yd_Lacking : PySem.W.mroIn K C_Lacking (.type "object") = some true)
    (ya_Past : PySem.W.findIn K (.ref C_Past) "__class__" = some (some (.builtin "object.__class__"))) (yd_Past : PySem.W.mroIn K C_Past (.type "object") = some true)
    (ya_Meets : PySem.W.findIn K (.ref C_Meets) "__class__" = some (some (.builtin "object.__class__"))) (yd_Meets : PySem.W.mroIn K C_Meets (.type "object") = some true)
    (ya_NoProgram : PySem.W.findIn K (.ref C_NoProgram) "__class__" = some (some (.builtin "object.__class__"))) (yd_NoProgram : PySem.W.mroIn K C_NoProgram (.type "object") = some true)
    (ya_WrongPath : PySem.W.findIn K (.ref C_WrongPath) "__class__" = some (some (.builtin "object.__class__"))) (yd_WrongPath : PySem.W.mroIn K C_WrongPath (.type "object") = some true)
    (ya_NoInput : PySem.W.findIn K (.ref C_NoInput) "__class__" = some (some (.builtin "object.__class__"))) (yd_NoInput : PySem.W.mroIn K C_NoInput (.type "object") = some true)
    (ya_NoThings : PySem.W.findIn K (.ref C_NoThings) "__class__" = some (some (.builtin "object.__class__"))) (yd_NoThings : PySem.W.mroIn K C_NoThings (.type "object") = some true)
    (ya_NoBudget : PySem.W.findIn K (.ref C_NoBudget) "__class__" = some (some (.builtin "object.__class__"))) (yd_NoBudget : PySem.W.mroIn K C_NoBudget (.type "object") = some true)
    (ya_NoLine : PySem.W.findIn K (.ref C_NoLine) "__class__" = some (some (.builtin "object.__class__"))) (yd_NoLine : PySem.W.mroIn K C_NoLine (.type "object") = some true)
    (ya_NoKeep : PySem.W.findIn K (.ref C_NoKeep) "__class__" = some (some (.builtin "object.__class__"))) (yd_NoKeep : PySem.W.mroIn K C_NoKeep (.type "object") = some true)
    (ya_NoLayings : PySem.W.findIn K (.ref C_NoLayings) "__class__" = some (some (.builtin "object.__class__"))) (yd_NoLayings : PySem.W.mroIn K C_NoLayings (.type "object") = some true)
    (ya_NoTurn : PySem.W.findIn K (.ref C_NoTurn) "__class__" = some (some (.builtin "object.__class__"))) (yd_NoTurn : PySem.W.mroIn K C_NoTurn (.type "object") = some true)
    (ya_NoOpen : PySem.W.findIn K (.ref C_NoOpen) "__class__" = some (some (.builtin "object.__class__"))) (yd_NoOpen : PySem.W.mroIn K C_NoOpen (.type "object") = some true)
    (ya_NoDesk : PySem.W.findIn K (.ref C_NoDesk) "__class__" = some (some (.builtin "object.__class__"))) (yd_NoDesk : PySem.W.mroIn K C_NoDesk (.type "object") = some true)
    (xn_not : allNot K [C_NoRoom, C_NoPlace, C_NoShapes, C_UnknownShape, C_NamedTwice, C_TooMuch, C_NoRecord, C_NoPath, C_Beyond, C_Other, C_NoLaying, C_UnknownUnit, C_LaidTwice, C_Lacking, C_Past, C_Meets, C_NoProgram, C_WrongPath, C_NoInput, C_NoThings, C_NoBudget, C_NoLine, C_NoKeep, C_NoLayings, C_NoTurn, C_NoOpen, C_NoDesk] = true) (xn_yes : ([C_NoRoom, C_NoPlace, C_NoShapes, C_UnknownShape, C_NamedTwice, C_TooMuch, C_NoRecord, C_NoPath, C_Beyond, C_Other, C_NoLaying, C_UnknownUnit, C_LaidTwice, C_Lacking, C_Past, C_Meets, C_NoProgram, C_WrongPath, C_NoInput, C_NoThings, C_NoBudget, C_NoLine, C_NoKeep, C_NoLayings, C_NoTurn, C_NoOpen, C_NoDesk].all fun C => kinYes K C C_RoomError) = true) :
    ∃ fd : FuncData, (∀ (s : Shared) (v : Value), BindsTo s fd ⟨[v], []⟩ [("_law_script", v)]) ∧ ∀ base : Heap, K.In base → base.Ns mainGlobals mg → FnOk l.prog w K mg base CX0 10 fa fd ["_law_script"] (spLaw K) := by
  have e := hfa.symm.trans (PySem.W.mg_of X G a44)
  cases e
  have F0 := fun_mk (st := s_RoomError_init) l0 c0 k0
  have D0 : DfI K _ ["self", "words"] := ⟨F0.binds (ps := ["self", "words"]) fun _ _ _ _ _ _ us hl => match us, hl with | [_, _], _ => rfl⟩
  have F1 := fun_mk (st := s_NoRoom_init) l1 c1 k1
  have D1 : DfI K _ ["self", "found"] := ⟨F1.binds (ps := ["self", "found"]) fun _ _ _ _ _ _ us hl => match us, hl with | [_, _], _ => rfl⟩
  have F2 := fun_mk (st := s_NoPlace_init) l2 c2 k2
  have D2 : DfI K _ ["self", "found"] := ⟨F2.binds (ps := ["self", "found"]) fun _ _ _ _ _ _ us hl => match us, hl with | [_, _], _ => rfl⟩
  have F3 := fun_mk (st := s_NoShapes_init) l3 c3 k3
  have D3 : DfI K _ ["self", "line"] := ⟨F3.binds (ps := ["self", "line"]) fun _ _ _ _ _ _ us hl => match us, hl with | [_, _], _ => rfl⟩
  have F4 := fun_mk (st := s_UnknownShape_init) l4 c4 k4
  have D4 : DfI K _ ["self", "line", "name"] := ⟨F4.binds (ps := ["self", "line", "name"]) fun _ _ _ _ _ _ us hl => match us, hl with | [_, _, _], _ => rfl⟩
  have F5 := fun_mk (st := s_NamedTwice_init) l5 c5 k5
  have D5 : DfI K _ ["self", "line", "name"] := ⟨F5.binds (ps := ["self", "line", "name"]) fun _ _ _ _ _ _ us hl => match us, hl with | [_, _, _], _ => rfl⟩
  have F6 := fun_mk (st := s_TooMuch_init) l6 c6 k6
  have D6 : DfI K _ ["self", "line"] := ⟨F6.binds (ps := ["self", "line"]) fun _ _ _ _ _ _ us hl => match us, hl with | [_, _], _ => rfl⟩
  have F7 := fun_mk (st := s_NoRecord_init) l7 c7 k7
  have D7 : DfI K _ ["self", "found"] := ⟨F7.binds (ps := ["self", "found"]) fun _ _ _ _ _ _ us hl => match us, hl with | [_, _], _ => rfl⟩
  have F8 := fun_mk (st := s_NoPath_init) l8 c8 k8
  have D8 : DfI K _ ["self", "path"] := ⟨F8.binds (ps := ["self", "path"]) fun _ _ _ _ _ _ us hl => match us, hl with | [_, _], _ => rfl⟩
  have F9 := fun_mk (st := s_Beyond_init) l9 c9 k9
  have D9 : DfI K _ ["self", "found"] := ⟨F9.binds (ps := ["self", "found"]) fun _ _ _ _ _ _ us hl => match us, hl with | [_, _], _ => rfl⟩
  have F10 := fun_mk (st := s_Other_init) l10 c10 k10
  have D10 : DfI K _ ["self", "found"] := ⟨F10.binds (ps := ["self", "found"]) fun _ _ _ _ _ _ us hl => match us, hl with | [_, _], _ => rfl⟩
  have F11 := fun_mk (st := s_NoLaying_init) l11 c11 k11
  have D11 : DfI K _ ["self", "line"] := ⟨F11.binds (ps := ["self", "line"]) fun _ _ _ _ _ _ us hl => match us, hl with | [_, _], _ => rfl⟩
  have F12 := fun_mk (st := s_UnknownUnit_init) l12 c12 k12
  have D12 : DfI K _ ["self", "line", "unit"] := ⟨F12.binds (ps := ["self", "line", "unit"]) fun _ _ _ _ _ _ us hl => match us, hl with | [_, _, _], _ => rfl⟩
  have F13 := fun_mk (st := s_LaidTwice_init) l13 c13 k13
  have D13 : DfI K _ ["self", "line", "unit"] := ⟨F13.binds (ps := ["self", "line", "unit"]) fun _ _ _ _ _ _ us hl => match us, hl with | [_, _, _], _ => rfl⟩
  have F14 := fun_mk (st := s_Lacking_init) l14 c14 k14
  have D14 : DfI K _ ["self", "unit"] := ⟨F14.binds (ps := ["self", "unit"]) fun _ _ _ _ _ _ us hl => match us, hl with | [_, _], _ => rfl⟩
  have F15 := fun_mk (st := s_Past_init) l15 c15 k15
  have D15 : DfI K _ ["self", "unit", "thing", "cell"] := ⟨F15.binds (ps := ["self", "unit", "thing", "cell"]) fun _ _ _ _ _ _ us hl => match us, hl with | [_, _, _, _], _ => rfl⟩
  have F16 := fun_mk (st := s_Meets_init) l16 c16 k16
  have D16 : DfI K _ ["self", "unit", "thing", "second", "another"] := ⟨F16.binds (ps := ["self", "unit", "thing", "second", "another"]) fun _ _ _ _ _ _ us hl => match us, hl with | [_, _, _, _, _], _ => rfl⟩
  have F17 := fun_mk (st := s_NoProgram_init) l17 c17 k17
  have D17 : DfI K _ ["self", "line"] := ⟨F17.binds (ps := ["self", "line"]) fun _ _ _ _ _ _ us hl => match us, hl with | [_, _], _ => rfl⟩
  have F18 := fun_mk (st := s_WrongPath_init) l18 c18 k18
  have D18 : DfI K _ ["self", "line", "path"] := ⟨F18.binds (ps := ["self", "line", "path"]) fun _ _ _ _ _ _ us hl => match us, hl with | [_, _, _], _ => rfl⟩
  have F19 := fun_mk (st := s_NoInput_init) l19 c19 k19
  have D19 : DfI K _ ["self", "name"] := ⟨F19.binds (ps := ["self", "name"]) fun _ _ _ _ _ _ us hl => match us, hl with | [_, _], _ => rfl⟩
  have F20 := fun_mk (st := s_NoThings_init) l20 c20 k20
  have D20 : DfI K _ ["self", "found"] := ⟨F20.binds (ps := ["self", "found"]) fun _ _ _ _ _ _ us hl => match us, hl with | [_, _], _ => rfl⟩
  have F21 := fun_mk (st := s_NoBudget_init) l21 c21 k21
  have D21 : DfI K _ ["self", "found"] := ⟨F21.binds (ps := ["self", "found"]) fun _ _ _ _ _ _ us hl => match us, hl with | [_, _], _ => rfl⟩
  have F22 := fun_mk (st := s_NoLine_init) l22 c22 k22
  have D22 : DfI K _ ["self", "found"] := ⟨F22.binds (ps := ["self", "found"]) fun _ _ _ _ _ _ us hl => match us, hl with | [_, _], _ => rfl⟩
  have F23 := fun_mk (st := s_NoKeep_init) l23 c23 k23
  have D23 : DfI K _ ["self", "found"] := ⟨F23.binds (ps := ["self", "found"]) fun _ _ _ _ _ _ us hl => match us, hl with | [_, _], _ => rfl⟩
  have F24 := fun_mk (st := s_NoLayings_init) l24 c24 k24
  have D24 : DfI K _ ["self", "found"] := ⟨F24.binds (ps := ["self", "found"]) fun _ _ _ _ _ _ us hl => match us, hl with | [_, _], _ => rfl⟩
  have F25 := fun_mk (st := s_NoTurn_init) l25 c25 k25
  have D25 : DfI K _ ["self", "found"] := ⟨F25.binds (ps := ["self", "found"]) fun _ _ _ _ _ _ us hl => match us, hl with | [_, _], _ => rfl⟩
  have F26 := fun_mk (st := s_NoOpen_init) l26 c26 k26
  have D26 : DfI K _ ["self", "found"] := ⟨F26.binds (ps := ["self", "found"]) fun _ _ _ _ _ _ us hl => match us, hl with | [_, _], _ => rfl⟩
  have F27 := fun_mk (st := s_NoDesk_init) l27 c27 k27
  have D27 : DfI K _ ["self", "line"] := ⟨F27.binds (ps := ["self", "line"]) fun _ _ _ _ _ _ us hl => match us, hl with | [_, _], _ => rfl⟩
  have F28 := fun_mk (st := s_law_cell) l28 c28 k28
  have D28 : Df K mg "_law_cell" f28 _ ["_law_script", "_law_k"] := ⟨PySem.W.mg_of X G a28, k28, F28.binds (ps := ["_law_script", "_law_k"]) fun _ _ _ _ _ _ us hl => match us, hl with | [_, _], _ => rfl⟩
  have F29 := fun_mk (st := s_law_begun) l29 c29 k29
  have D29 : Df K mg "_law_begun" f29 _ ["_law_cell_here"] := ⟨PySem.W.mg_of X G a29, k29, F29.binds (ps := ["_law_cell_here"]) fun _ _ _ _ _ _ us hl => match us, hl with | [_], _ => rfl⟩
  have F30 := fun_mk (st := s_law_draw) l30 c30 k30
  have D30 : Df K mg "_law_draw" f30 _ ["_law_state", "_law_many"] := ⟨PySem.W.mg_of X G a30, k30, F30.binds (ps := ["_law_state", "_law_many"]) fun _ _ _ _ _ _ us hl => match us, hl with | [_, _], _ => rfl⟩
  have F31 := fun_mk (st := s_law_of_one) l31 c31 k31
  have D31 : Df K mg "_law_of_one" f31 _ ["_law_at", "_law_thing_here"] := ⟨PySem.W.mg_of X G a31, k31, F31.binds (ps := ["_law_at", "_law_thing_here"]) fun _ _ _ _ _ _ us hl => match us, hl with | [_, _], _ => rfl⟩
  have F32 := fun_mk (st := s_law_of_one_more) l32 c32 k32
  have D32 : Df K mg "_law_of_one_more" f32 _ ["_law_at", "_law_thing_here"] := ⟨PySem.W.mg_of X G a32, k32, F32.binds (ps := ["_law_at", "_law_thing_here"]) fun _ _ _ _ _ _ us hl => match us, hl with | [_, _], _ => rfl⟩
  have F33 := fun_mk (st := s_law_of_some) l33 c33 k33
  have D33 : Df K mg "_law_of_some" f33 _ ["_law_at", "_law_things"] := ⟨PySem.W.mg_of X G a33, k33, F33.binds (ps := ["_law_at", "_law_things"]) fun _ _ _ _ _ _ us hl => match us, hl with | [_, _], _ => rfl⟩
  have F34 := fun_mk (st := s_law_kinds) l34 c34 k34
  have D34 : Df K mg "_law_kinds" f34 _ ["_law_e"] := ⟨PySem.W.mg_of X G a34, k34, F34.binds (ps := ["_law_e"]) fun _ _ _ _ _ _ us hl => match us, hl with | [_], _ => rfl⟩
  have F35 := fun_mk (st := s_law_places) l35 c35 k35
  have D35 : Df K mg "_law_places" f35 _ [] := ⟨PySem.W.mg_of X G a35, k35, F35.binds (ps := []) fun _ _ _ _ _ _ us hl => match us, hl with | [], _ => rfl⟩
  have F36 := fun_mk (st := s_law_more_places) l36 c36 k36
  have D36 : Df K mg "_law_more_places" f36 _ [] := ⟨PySem.W.mg_of X G a36, k36, F36.binds (ps := []) fun _ _ _ _ _ _ us hl => match us, hl with | [], _ => rfl⟩
  have F37 := fun_mk (st := s_law_field) l37 c37 k37
  have D37 : Df K mg "_law_field" f37 _ ["_law_at", "_law_e"] := ⟨PySem.W.mg_of X G a37, k37, F37.binds (ps := ["_law_at", "_law_e"]) fun _ _ _ _ _ _ us hl => match us, hl with | [_, _], _ => rfl⟩
  have F38 := fun_mk (st := s_law_fields) l38 c38 k38
  have D38 : Df K mg "_law_fields" f38 _ ["_law_at", "_law_e"] := ⟨PySem.W.mg_of X G a38, k38, F38.binds (ps := ["_law_at", "_law_e"]) fun _ _ _ _ _ _ us hl => match us, hl with | [_, _], _ => rfl⟩
  have F39 := fun_mk (st := s_law_counts) l39 c39 k39
  have D39 : Df K mg "_law_counts" f39 _ ["_law_at"] := ⟨PySem.W.mg_of X G a39, k39, F39.binds (ps := ["_law_at"]) fun _ _ _ _ _ _ us hl => match us, hl with | [_], _ => rfl⟩
  have F40 := fun_mk (st := s_law_own) l40 c40 k40
  have D40 : Df K mg "_law_own" f40 _ ["_law_e", "_law_place"] := ⟨PySem.W.mg_of X G a40, k40, F40.binds (ps := ["_law_e", "_law_place"]) fun _ _ _ _ _ _ us hl => match us, hl with | [_, _], _ => rfl⟩
  have F41 := fun_mk (st := s_law_same) l41 c41 k41
  have D41 : Df K mg "_law_same" f41 _ ["_law_found", "_law_thing_here"] := ⟨PySem.W.mg_of X G a41, k41, F41.binds (ps := ["_law_found", "_law_thing_here"]) fun _ _ _ _ _ _ us hl => match us, hl with | [_, _], _ => rfl⟩
  have F42 := fun_mk (st := s_law_taken) l42 c42 k42
  have D42 : Df K mg "_law_taken" f42 _ ["_law_at", "_law_thing_here"] := ⟨PySem.W.mg_of X G a42, k42, F42.binds (ps := ["_law_at", "_law_thing_here"]) fun _ _ _ _ _ _ us hl => match us, hl with | [_, _], _ => rfl⟩
  have F43 := fun_mk (st := s_law_thing) l43 c43 k43
  have D43 : Df K mg "_law_thing" f43 _ ["_law_state"] := ⟨PySem.W.mg_of X G a43, k43, F43.binds (ps := ["_law_state"]) fun _ _ _ _ _ _ us hl => match us, hl with | [_], _ => rfl⟩
  have F44 := fun_mk (st := s_law) l44 c44 k44
  have T_RoomError : TXB K mg C_RoomError f0 := ⟨PySem.W.mg_of X G g_RoomError, ⟨xr, xf, xp, k0⟩, ⟨⟨_, _, _, _, _, _, _, _, _, _, _, _, _, _, _, _, xo_RoomError⟩, rfl⟩⟩
  have VI : VInit K := ⟨vi1, vi2, vi3⟩
  have T_Beyond : TX K mg "Beyond" C_Beyond C_RoomError f9 ["found"] := ⟨PySem.W.mg_of X G g_Beyond, ⟨⟨_, _, _, _, _, _, _, _, _, _, _, _, _, _, xo_Beyond, xn_Beyond, xi_Beyond⟩, i9, xk_Beyond, xs_Beyond, xg_Beyond, xh_Beyond⟩, ⟨⟨_, _, _, _, _, _, _, _, _, _, _, _, _, _, _, _, xo_Beyond⟩, rfl⟩, fun a ha => by
      rw [List.mem_singleton.mp ha]; exact n_Beyond_found⟩
  have T_Lacking : TX K mg "Lacking" C_Lacking C_RoomError f14 ["unit"] := ⟨PySem.W.mg_of X G g_Lacking, ⟨⟨_, _, _, _, _, _, _, _, _, _, _, _, _, _, xo_Lacking, xn_Lacking, xi_Lacking⟩, i14, xk_Lacking, xs_Lacking, xg_Lacking, xh_Lacking⟩, ⟨⟨_, _, _, _, _, _, _, _, _, _, _, _, _, _, _, _, xo_Lacking⟩, rfl⟩, fun a ha => by
      rw [List.mem_singleton.mp ha]; exact n_Lacking_unit⟩
  have T_LaidTwice : TX K mg "LaidTwice" C_LaidTwice C_RoomError f13 ["line", "unit"] := ⟨PySem.W.mg_of X G g_LaidTwice, ⟨⟨_, _, _, _, _, _, _, _, _, _, _, _, _, _, xo_LaidTwice, xn_LaidTwice, xi_LaidTwice⟩, i13, xk_LaidTwice, xs_LaidTwice, xg_LaidTwice, xh_LaidTwice⟩, ⟨⟨_, _, _, _, _, _, _, _, _, _, _, _, _, _, _, _, xo_LaidTwice⟩, rfl⟩, fun a ha => by
      simp only [List.mem_cons, List.not_mem_nil, or_false] at ha
      rcases ha with rfl | rfl
      · exact n_LaidTwice_line
      · exact n_LaidTwice_unit⟩
  have T_Meets : TX K mg "Meets" C_Meets C_RoomError f16 ["unit", "thing", "second", "another"] := ⟨PySem.W.mg_of X G g_Meets, ⟨⟨_, _, _, _, _, _, _, _, _, _, _, _, _, _, xo_Meets, xn_Meets, xi_Meets⟩, i16, xk_Meets, xs_Meets, xg_Meets, xh_Meets⟩, ⟨⟨_, _, _, _, _, _, _, _, _, _, _, _, _, _, _, _, xo_Meets⟩, rfl⟩, fun a ha => by
      simp only [List.mem_cons, List.not_mem_nil, or_false] at ha
      rcases ha with rfl | rfl | rfl | rfl
      · exact n_Meets_unit
      · exact n_Meets_thing
      · exact n_Meets_second
      · exact n_Meets_another⟩
  have T_NamedTwice : TX K mg "NamedTwice" C_NamedTwice C_RoomError f5 ["line", "name"] := ⟨PySem.W.mg_of X G g_NamedTwice, ⟨⟨_, _, _, _, _, _, _, _, _, _, _, _, _, _, xo_NamedTwice, xn_NamedTwice, xi_NamedTwice⟩, i5, xk_NamedTwice, xs_NamedTwice, xg_NamedTwice, xh_NamedTwice⟩, ⟨⟨_, _, _, _, _, _, _, _, _, _, _, _, _, _, _, _, xo_NamedTwice⟩, rfl⟩, fun a ha => by
      simp only [List.mem_cons, List.not_mem_nil, or_false] at ha
      rcases ha with rfl | rfl
      · exact n_NamedTwice_line
      · exact n_NamedTwice_name⟩
  have T_NoBudget : TX K mg "NoBudget" C_NoBudget C_RoomError f21 ["found"] := ⟨PySem.W.mg_of X G g_NoBudget, ⟨⟨_, _, _, _, _, _, _, _, _, _, _, _, _, _, xo_NoBudget, xn_NoBudget, xi_NoBudget⟩, i21, xk_NoBudget, xs_NoBudget, xg_NoBudget, xh_NoBudget⟩, ⟨⟨_, _, _, _, _, _, _, _, _, _, _, _, _, _, _, _, xo_NoBudget⟩, rfl⟩, fun a ha => by
      rw [List.mem_singleton.mp ha]; exact n_NoBudget_found⟩
  have T_NoDesk : TX K mg "NoDesk" C_NoDesk C_RoomError f27 ["line"] := ⟨PySem.W.mg_of X G g_NoDesk, ⟨⟨_, _, _, _, _, _, _, _, _, _, _, _, _, _, xo_NoDesk, xn_NoDesk, xi_NoDesk⟩, i27, xk_NoDesk, xs_NoDesk, xg_NoDesk, xh_NoDesk⟩, ⟨⟨_, _, _, _, _, _, _, _, _, _, _, _, _, _, _, _, xo_NoDesk⟩, rfl⟩, fun a ha => by
      rw [List.mem_singleton.mp ha]; exact n_NoDesk_line⟩
  have T_NoInput : TX K mg "NoInput" C_NoInput C_RoomError f19 ["name"] := ⟨PySem.W.mg_of X G g_NoInput, ⟨⟨_, _, _, _, _, _, _, _, _, _, _, _, _, _, xo_NoInput, xn_NoInput, xi_NoInput⟩, i19, xk_NoInput, xs_NoInput, xg_NoInput, xh_NoInput⟩, ⟨⟨_, _, _, _, _, _, _, _, _, _, _, _, _, _, _, _, xo_NoInput⟩, rfl⟩, fun a ha => by
      rw [List.mem_singleton.mp ha]; exact n_NoInput_name⟩
  have T_NoKeep : TX K mg "NoKeep" C_NoKeep C_RoomError f23 ["found"] := ⟨PySem.W.mg_of X G g_NoKeep, ⟨⟨_, _, _, _, _, _, _, _, _, _, _, _, _, _, xo_NoKeep, xn_NoKeep, xi_NoKeep⟩, i23, xk_NoKeep, xs_NoKeep, xg_NoKeep, xh_NoKeep⟩, ⟨⟨_, _, _, _, _, _, _, _, _, _, _, _, _, _, _, _, xo_NoKeep⟩, rfl⟩, fun a ha => by
      rw [List.mem_singleton.mp ha]; exact n_NoKeep_found⟩
  have T_NoLaying : TX K mg "NoLaying" C_NoLaying C_RoomError f11 ["line"] := ⟨PySem.W.mg_of X G g_NoLaying, ⟨⟨_, _, _, _, _, _, _, _, _, _, _, _, _, _, xo_NoLaying, xn_NoLaying, xi_NoLaying⟩, i11, xk_NoLaying, xs_NoLaying, xg_NoLaying, xh_NoLaying⟩, ⟨⟨_, _, _, _, _, _, _, _, _, _, _, _, _, _, _, _, xo_NoLaying⟩, rfl⟩, fun a ha => by
      rw [List.mem_singleton.mp ha]; exact n_NoLaying_line⟩
  have T_NoLayings : TX K mg "NoLayings" C_NoLayings C_RoomError f24 ["found"] := ⟨PySem.W.mg_of X G g_NoLayings, ⟨⟨_, _, _, _, _, _, _, _, _, _, _, _, _, _, xo_NoLayings, xn_NoLayings, xi_NoLayings⟩, i24, xk_NoLayings, xs_NoLayings, xg_NoLayings, xh_NoLayings⟩, ⟨⟨_, _, _, _, _, _, _, _, _, _, _, _, _, _, _, _, xo_NoLayings⟩, rfl⟩, fun a ha => by
      rw [List.mem_singleton.mp ha]; exact n_NoLayings_found⟩
  have T_NoLine : TX K mg "NoLine" C_NoLine C_RoomError f22 ["found"] := ⟨PySem.W.mg_of X G g_NoLine, ⟨⟨_, _, _, _, _, _, _, _, _, _, _, _, _, _, xo_NoLine, xn_NoLine, xi_NoLine⟩, i22, xk_NoLine, xs_NoLine, xg_NoLine, xh_NoLine⟩, ⟨⟨_, _, _, _, _, _, _, _, _, _, _, _, _, _, _, _, xo_NoLine⟩, rfl⟩, fun a ha => by
      rw [List.mem_singleton.mp ha]; exact n_NoLine_found⟩
  have T_NoOpen : TX K mg "NoOpen" C_NoOpen C_RoomError f26 ["found"] := ⟨PySem.W.mg_of X G g_NoOpen, ⟨⟨_, _, _, _, _, _, _, _, _, _, _, _, _, _, xo_NoOpen, xn_NoOpen, xi_NoOpen⟩, i26, xk_NoOpen, xs_NoOpen, xg_NoOpen, xh_NoOpen⟩, ⟨⟨_, _, _, _, _, _, _, _, _, _, _, _, _, _, _, _, xo_NoOpen⟩, rfl⟩, fun a ha => by
      rw [List.mem_singleton.mp ha]; exact n_NoOpen_found⟩
  have T_NoPath : TX K mg "NoPath" C_NoPath C_RoomError f8 ["path"] := ⟨PySem.W.mg_of X G g_NoPath, ⟨⟨_, _, _, _, _, _, _, _, _, _, _, _, _, _, xo_NoPath, xn_NoPath, xi_NoPath⟩, i8, xk_NoPath, xs_NoPath, xg_NoPath, xh_NoPath⟩, ⟨⟨_, _, _, _, _, _, _, _, _, _, _, _, _, _, _, _, xo_NoPath⟩, rfl⟩, fun a ha => by
      rw [List.mem_singleton.mp ha]; exact n_NoPath_path⟩
  have T_NoPlace : TX K mg "NoPlace" C_NoPlace C_RoomError f2 ["found"] := ⟨PySem.W.mg_of X G g_NoPlace, ⟨⟨_, _, _, _, _, _, _, _, _, _, _, _, _, _, xo_NoPlace, xn_NoPlace, xi_NoPlace⟩, i2, xk_NoPlace, xs_NoPlace, xg_NoPlace, xh_NoPlace⟩, ⟨⟨_, _, _, _, _, _, _, _, _, _, _, _, _, _, _, _, xo_NoPlace⟩, rfl⟩, fun a ha => by
      rw [List.mem_singleton.mp ha]; exact n_NoPlace_found⟩
  have T_NoProgram : TX K mg "NoProgram" C_NoProgram C_RoomError f17 ["line"] := ⟨PySem.W.mg_of X G g_NoProgram, ⟨⟨_, _, _, _, _, _, _, _, _, _, _, _, _, _, xo_NoProgram, xn_NoProgram, xi_NoProgram⟩, i17, xk_NoProgram, xs_NoProgram, xg_NoProgram, xh_NoProgram⟩, ⟨⟨_, _, _, _, _, _, _, _, _, _, _, _, _, _, _, _, xo_NoProgram⟩, rfl⟩, fun a ha => by
      rw [List.mem_singleton.mp ha]; exact n_NoProgram_line⟩
  have T_NoRecord : TX K mg "NoRecord" C_NoRecord C_RoomError f7 ["found"] := ⟨PySem.W.mg_of X G g_NoRecord, ⟨⟨_, _, _, _, _, _, _, _, _, _, _, _, _, _, xo_NoRecord, xn_NoRecord, xi_NoRecord⟩, i7, xk_NoRecord, xs_NoRecord, xg_NoRecord, xh_NoRecord⟩, ⟨⟨_, _, _, _, _, _, _, _, _, _, _, _, _, _, _, _, xo_NoRecord⟩, rfl⟩, fun a ha => by
      rw [List.mem_singleton.mp ha]; exact n_NoRecord_found⟩
  have T_NoRoom : TX K mg "NoRoom" C_NoRoom C_RoomError f1 ["found"] := ⟨PySem.W.mg_of X G g_NoRoom, ⟨⟨_, _, _, _, _, _, _, _, _, _, _, _, _, _, xo_NoRoom, xn_NoRoom, xi_NoRoom⟩, i1, xk_NoRoom, xs_NoRoom, xg_NoRoom, xh_NoRoom⟩, ⟨⟨_, _, _, _, _, _, _, _, _, _, _, _, _, _, _, _, xo_NoRoom⟩, rfl⟩, fun a ha => by
      rw [List.mem_singleton.mp ha]; exact n_NoRoom_found⟩
  have T_NoShapes : TX K mg "NoShapes" C_NoShapes C_RoomError f3 ["line"] := ⟨PySem.W.mg_of X G g_NoShapes, ⟨⟨_, _, _, _, _, _, _, _, _, _, _, _, _, _, xo_NoShapes, xn_NoShapes, xi_NoShapes⟩, i3, xk_NoShapes, xs_NoShapes, xg_NoShapes, xh_NoShapes⟩, ⟨⟨_, _, _, _, _, _, _, _, _, _, _, _, _, _, _, _, xo_NoShapes⟩, rfl⟩, fun a ha => by
      rw [List.mem_singleton.mp ha]; exact n_NoShapes_line⟩
  have T_NoThings : TX K mg "NoThings" C_NoThings C_RoomError f20 ["found"] := ⟨PySem.W.mg_of X G g_NoThings, ⟨⟨_, _, _, _, _, _, _, _, _, _, _, _, _, _, xo_NoThings, xn_NoThings, xi_NoThings⟩, i20, xk_NoThings, xs_NoThings, xg_NoThings, xh_NoThings⟩, ⟨⟨_, _, _, _, _, _, _, _, _, _, _, _, _, _, _, _, xo_NoThings⟩, rfl⟩, fun a ha => by
      rw [List.mem_singleton.mp ha]; exact n_NoThings_found⟩
  have T_NoTurn : TX K mg "NoTurn" C_NoTurn C_RoomError f25 ["found"] := ⟨PySem.W.mg_of X G g_NoTurn, ⟨⟨_, _, _, _, _, _, _, _, _, _, _, _, _, _, xo_NoTurn, xn_NoTurn, xi_NoTurn⟩, i25, xk_NoTurn, xs_NoTurn, xg_NoTurn, xh_NoTurn⟩, ⟨⟨_, _, _, _, _, _, _, _, _, _, _, _, _, _, _, _, xo_NoTurn⟩, rfl⟩, fun a ha => by
      rw [List.mem_singleton.mp ha]; exact n_NoTurn_found⟩
  have T_Other : TX K mg "Other" C_Other C_RoomError f10 ["found"] := ⟨PySem.W.mg_of X G g_Other, ⟨⟨_, _, _, _, _, _, _, _, _, _, _, _, _, _, xo_Other, xn_Other, xi_Other⟩, i10, xk_Other, xs_Other, xg_Other, xh_Other⟩, ⟨⟨_, _, _, _, _, _, _, _, _, _, _, _, _, _, _, _, xo_Other⟩, rfl⟩, fun a ha => by
      rw [List.mem_singleton.mp ha]; exact n_Other_found⟩
  have T_Past : TX K mg "Past" C_Past C_RoomError f15 ["unit", "thing", "cell"] := ⟨PySem.W.mg_of X G g_Past, ⟨⟨_, _, _, _, _, _, _, _, _, _, _, _, _, _, xo_Past, xn_Past, xi_Past⟩, i15, xk_Past, xs_Past, xg_Past, xh_Past⟩, ⟨⟨_, _, _, _, _, _, _, _, _, _, _, _, _, _, _, _, xo_Past⟩, rfl⟩, fun a ha => by
      simp only [List.mem_cons, List.not_mem_nil, or_false] at ha
      rcases ha with rfl | rfl | rfl
      · exact n_Past_unit
      · exact n_Past_thing
      · exact n_Past_cell⟩
  have T_TooMuch : TX K mg "TooMuch" C_TooMuch C_RoomError f6 ["line"] := ⟨PySem.W.mg_of X G g_TooMuch, ⟨⟨_, _, _, _, _, _, _, _, _, _, _, _, _, _, xo_TooMuch, xn_TooMuch, xi_TooMuch⟩, i6, xk_TooMuch, xs_TooMuch, xg_TooMuch, xh_TooMuch⟩, ⟨⟨_, _, _, _, _, _, _, _, _, _, _, _, _, _, _, _, xo_TooMuch⟩, rfl⟩, fun a ha => by
      rw [List.mem_singleton.mp ha]; exact n_TooMuch_line⟩
  have T_UnknownShape : TX K mg "UnknownShape" C_UnknownShape C_RoomError f4 ["line", "name"] := ⟨PySem.W.mg_of X G g_UnknownShape, ⟨⟨_, _, _, _, _, _, _, _, _, _, _, _, _, _, xo_UnknownShape, xn_UnknownShape, xi_UnknownShape⟩, i4, xk_UnknownShape, xs_UnknownShape, xg_UnknownShape, xh_UnknownShape⟩, ⟨⟨_, _, _, _, _, _, _, _, _, _, _, _, _, _, _, _, xo_UnknownShape⟩, rfl⟩, fun a ha => by
      simp only [List.mem_cons, List.not_mem_nil, or_false] at ha
      rcases ha with rfl | rfl
      · exact n_UnknownShape_line
      · exact n_UnknownShape_name⟩
  have T_UnknownUnit : TX K mg "UnknownUnit" C_UnknownUnit C_RoomError f12 ["line", "unit"] := ⟨PySem.W.mg_of X G g_UnknownUnit, ⟨⟨_, _, _, _, _, _, _, _, _, _, _, _, _, _, xo_UnknownUnit, xn_UnknownUnit, xi_UnknownUnit⟩, i12, xk_UnknownUnit, xs_UnknownUnit, xg_UnknownUnit, xh_UnknownUnit⟩, ⟨⟨_, _, _, _, _, _, _, _, _, _, _, _, _, _, _, _, xo_UnknownUnit⟩, rfl⟩, fun a ha => by
      simp only [List.mem_cons, List.not_mem_nil, or_false] at ha
      rcases ha with rfl | rfl
      · exact n_UnknownUnit_line
      · exact n_UnknownUnit_unit⟩
  have T_WrongPath : TX K mg "WrongPath" C_WrongPath C_RoomError f18 ["line", "path"] := ⟨PySem.W.mg_of X G g_WrongPath, ⟨⟨_, _, _, _, _, _, _, _, _, _, _, _, _, _, xo_WrongPath, xn_WrongPath, xi_WrongPath⟩, i18, xk_WrongPath, xs_WrongPath, xg_WrongPath, xh_WrongPath⟩, ⟨⟨_, _, _, _, _, _, _, _, _, _, _, _, _, _, _, _, xo_WrongPath⟩, rfl⟩, fun a ha => by
      simp only [List.mem_cons, List.not_mem_nil, or_false] at ha
      rcases ha with rfl | rfl
      · exact n_WrongPath_line
      · exact n_WrongPath_path⟩
  have M : Blt mg := ⟨PySem.W.mg_none_of X G z0, PySem.W.mg_none_of X G z1, PySem.W.mg_none_of X G z2, PySem.W.mg_none_of X G z3, PySem.W.mg_none_of X G z4, PySem.W.mg_none_of X G z5, PySem.W.mg_none_of X G z6, PySem.W.mg_none_of X G z7, PySem.W.mg_none_of X G z8, PySem.W.mg_none_of X G z9, PySem.W.mg_none_of X G z10, PySem.W.mg_none_of X G z11, PySem.W.mg_none_of X G z12, PySem.W.mg_none_of X G z13⟩
  have KN : Kin K C_RoomError [C_NoRoom, C_NoPlace, C_NoShapes, C_UnknownShape, C_NamedTwice, C_TooMuch, C_NoRecord, C_NoPath, C_Beyond, C_Other, C_NoLaying, C_UnknownUnit, C_LaidTwice, C_Lacking, C_Past, C_Meets, C_NoProgram, C_WrongPath, C_NoInput, C_NoThings, C_NoBudget, C_NoLine, C_NoKeep, C_NoLayings, C_NoTurn, C_NoOpen, C_NoDesk] := kin_mk xn_not xn_yes yb yc ⟨ya_NoRoom, ya_NoPlace, ya_NoShapes, ya_UnknownShape, ya_NamedTwice, ya_TooMuch, ya_NoRecord, ya_NoPath, ya_Beyond, ya_Other, ya_NoLaying, ya_UnknownUnit, ya_LaidTwice, ya_Lacking, ya_Past, ya_Meets, ya_NoProgram, ya_WrongPath, ya_NoInput, ya_NoThings, ya_NoBudget, ya_NoLine, ya_NoKeep, ya_NoLayings, ya_NoTurn, ya_NoOpen, ya_NoDesk, True.intro⟩ ⟨yd_NoRoom, yd_NoPlace, yd_NoShapes, yd_UnknownShape, yd_NamedTwice, yd_TooMuch, yd_NoRecord, yd_NoPath, yd_Beyond, yd_Other, yd_NoLaying, yd_UnknownUnit, yd_LaidTwice, yd_Lacking, yd_Past, yd_Meets, yd_NoProgram, yd_WrongPath, yd_NoInput, yd_NoThings, yd_NoBudget, yd_NoLine, yd_NoKeep, yd_NoLayings, yd_NoTurn, yd_NoOpen, yd_NoDesk, True.intro⟩
  refine ⟨PySem.W.fnOf "law" "law" (defArgs s_law) (defBody s_law) (defScope s_law) .none kV44 dc44 pm44 an44 cd44 ct44, fun s v => .of_eq rfl, fun base _ _ => ?_⟩
  have G0 := ok_RoomError_init (P := l.prog) (w := w) (base := base) (k := 0) F0 M  T_RoomError VI 
  have G28 := ok_law_cell (P := l.prog) (w := w) (base := base) (k := 0) F28 M  T_RoomError VI T_Beyond T_Lacking T_LaidTwice T_Meets T_NamedTwice T_NoBudget T_NoDesk T_NoInput T_NoKeep T_NoLaying T_NoLayings T_NoLine T_NoOpen T_NoPath T_NoPlace T_NoProgram T_NoRecord T_NoRoom T_NoShapes T_NoThings T_NoTurn T_Other T_Past T_TooMuch T_UnknownShape T_UnknownUnit T_WrongPath 
  have G29 := ok_law_begun (P := l.prog) (w := w) (base := base) (k := 0) F29 M  T_RoomError VI T_Beyond T_Lacking T_LaidTwice T_Meets T_NamedTwice T_NoBudget T_NoDesk T_NoInput T_NoKeep T_NoLaying T_NoLayings T_NoLine T_NoOpen T_NoPath T_NoPlace T_NoProgram T_NoRecord T_NoRoom T_NoShapes T_NoThings T_NoTurn T_Other T_Past T_TooMuch T_UnknownShape T_UnknownUnit T_WrongPath 
  have G30 := ok_law_draw (P := l.prog) (w := w) (base := base) (k := 0) F30 M  T_RoomError VI T_Beyond T_Lacking T_LaidTwice T_Meets T_NamedTwice T_NoBudget T_NoDesk T_NoInput T_NoKeep T_NoLaying T_NoLayings T_NoLine T_NoOpen T_NoPath T_NoPlace T_NoProgram T_NoRecord T_NoRoom T_NoShapes T_NoThings T_NoTurn T_Other T_Past T_TooMuch T_UnknownShape T_UnknownUnit T_WrongPath 
  have G34 := ok_law_kinds (P := l.prog) (w := w) (base := base) (k := 0) F34 M  T_RoomError VI T_Beyond T_Lacking T_LaidTwice T_Meets T_NamedTwice T_NoBudget T_NoDesk T_NoInput T_NoKeep T_NoLaying T_NoLayings T_NoLine T_NoOpen T_NoPath T_NoPlace T_NoProgram T_NoRecord T_NoRoom T_NoShapes T_NoThings T_NoTurn T_Other T_Past T_TooMuch T_UnknownShape T_UnknownUnit T_WrongPath KN
  have G35 := ok_law_places (P := l.prog) (w := w) (base := base) (k := 0) F35 M  T_RoomError VI T_Beyond T_Lacking T_LaidTwice T_Meets T_NamedTwice T_NoBudget T_NoDesk T_NoInput T_NoKeep T_NoLaying T_NoLayings T_NoLine T_NoOpen T_NoPath T_NoPlace T_NoProgram T_NoRecord T_NoRoom T_NoShapes T_NoThings T_NoTurn T_Other T_Past T_TooMuch T_UnknownShape T_UnknownUnit T_WrongPath 
  have G36 := ok_law_more_places (P := l.prog) (w := w) (base := base) (k := 0) F36 M  T_RoomError VI T_Beyond T_Lacking T_LaidTwice T_Meets T_NamedTwice T_NoBudget T_NoDesk T_NoInput T_NoKeep T_NoLaying T_NoLayings T_NoLine T_NoOpen T_NoPath T_NoPlace T_NoProgram T_NoRecord T_NoRoom T_NoShapes T_NoThings T_NoTurn T_Other T_Past T_TooMuch T_UnknownShape T_UnknownUnit T_WrongPath 
  have G37 := ok_law_field (P := l.prog) (w := w) (base := base) (k := 0) F37 M  T_RoomError VI T_Beyond T_Lacking T_LaidTwice T_Meets T_NamedTwice T_NoBudget T_NoDesk T_NoInput T_NoKeep T_NoLaying T_NoLayings T_NoLine T_NoOpen T_NoPath T_NoPlace T_NoProgram T_NoRecord T_NoRoom T_NoShapes T_NoThings T_NoTurn T_Other T_Past T_TooMuch T_UnknownShape T_UnknownUnit T_WrongPath 
  have G38 := ok_law_fields (P := l.prog) (w := w) (base := base) (k := 0) F38 M  T_RoomError VI T_Beyond T_Lacking T_LaidTwice T_Meets T_NamedTwice T_NoBudget T_NoDesk T_NoInput T_NoKeep T_NoLaying T_NoLayings T_NoLine T_NoOpen T_NoPath T_NoPlace T_NoProgram T_NoRecord T_NoRoom T_NoShapes T_NoThings T_NoTurn T_Other T_Past T_TooMuch T_UnknownShape T_UnknownUnit T_WrongPath 
  have G39 := ok_law_counts (P := l.prog) (w := w) (base := base) (k := 0) F39 M  T_RoomError VI T_Beyond T_Lacking T_LaidTwice T_Meets T_NamedTwice T_NoBudget T_NoDesk T_NoInput T_NoKeep T_NoLaying T_NoLayings T_NoLine T_NoOpen T_NoPath T_NoPlace T_NoProgram T_NoRecord T_NoRoom T_NoShapes T_NoThings T_NoTurn T_Other T_Past T_TooMuch T_UnknownShape T_UnknownUnit T_WrongPath 
  have G41 := ok_law_same (P := l.prog) (w := w) (base := base) (k := 0) F41 M  T_RoomError VI T_Beyond T_Lacking T_LaidTwice T_Meets T_NamedTwice T_NoBudget T_NoDesk T_NoInput T_NoKeep T_NoLaying T_NoLayings T_NoLine T_NoOpen T_NoPath T_NoPlace T_NoProgram T_NoRecord T_NoRoom T_NoShapes T_NoThings T_NoTurn T_Other T_Past T_TooMuch T_UnknownShape T_UnknownUnit T_WrongPath 
  have G1 := ok_NoRoom_init (P := l.prog) (w := w) (base := base) (k := 2) F1 M  T_RoomError VI T_NoRoom D0 (G0.mono (by decide))
  have G2 := ok_NoPlace_init (P := l.prog) (w := w) (base := base) (k := 2) F2 M  T_RoomError VI T_NoPlace D0 (G0.mono (by decide))
  have G3 := ok_NoShapes_init (P := l.prog) (w := w) (base := base) (k := 2) F3 M  T_RoomError VI T_NoShapes D0 (G0.mono (by decide))
  have G4 := ok_UnknownShape_init (P := l.prog) (w := w) (base := base) (k := 2) F4 M  T_RoomError VI T_UnknownShape D0 (G0.mono (by decide))
  have G5 := ok_NamedTwice_init (P := l.prog) (w := w) (base := base) (k := 2) F5 M  T_RoomError VI T_NamedTwice D0 (G0.mono (by decide))
  have G6 := ok_TooMuch_init (P := l.prog) (w := w) (base := base) (k := 2) F6 M  T_RoomError VI T_TooMuch D0 (G0.mono (by decide))
  have G7 := ok_NoRecord_init (P := l.prog) (w := w) (base := base) (k := 2) F7 M  T_RoomError VI T_NoRecord D0 (G0.mono (by decide))
  have G8 := ok_NoPath_init (P := l.prog) (w := w) (base := base) (k := 2) F8 M  T_RoomError VI T_NoPath D0 (G0.mono (by decide))
  have G9 := ok_Beyond_init (P := l.prog) (w := w) (base := base) (k := 2) F9 M  T_RoomError VI T_Beyond D0 (G0.mono (by decide))
  have G10 := ok_Other_init (P := l.prog) (w := w) (base := base) (k := 2) F10 M  T_RoomError VI T_Other D0 (G0.mono (by decide))
  have G11 := ok_NoLaying_init (P := l.prog) (w := w) (base := base) (k := 2) F11 M  T_RoomError VI T_NoLaying D0 (G0.mono (by decide))
  have G12 := ok_UnknownUnit_init (P := l.prog) (w := w) (base := base) (k := 2) F12 M  T_RoomError VI T_UnknownUnit D0 (G0.mono (by decide))
  have G13 := ok_LaidTwice_init (P := l.prog) (w := w) (base := base) (k := 2) F13 M  T_RoomError VI T_LaidTwice D0 (G0.mono (by decide))
  have G14 := ok_Lacking_init (P := l.prog) (w := w) (base := base) (k := 2) F14 M  T_RoomError VI T_Lacking D0 (G0.mono (by decide))
  have G15 := ok_Past_init (P := l.prog) (w := w) (base := base) (k := 2) F15 M  T_RoomError VI T_Past D0 (G0.mono (by decide))
  have G16 := ok_Meets_init (P := l.prog) (w := w) (base := base) (k := 2) F16 M  T_RoomError VI T_Meets D0 (G0.mono (by decide))
  have G17 := ok_NoProgram_init (P := l.prog) (w := w) (base := base) (k := 2) F17 M  T_RoomError VI T_NoProgram D0 (G0.mono (by decide))
  have G18 := ok_WrongPath_init (P := l.prog) (w := w) (base := base) (k := 2) F18 M  T_RoomError VI T_WrongPath D0 (G0.mono (by decide))
  have G19 := ok_NoInput_init (P := l.prog) (w := w) (base := base) (k := 2) F19 M  T_RoomError VI T_NoInput D0 (G0.mono (by decide))
  have G20 := ok_NoThings_init (P := l.prog) (w := w) (base := base) (k := 2) F20 M  T_RoomError VI T_NoThings D0 (G0.mono (by decide))
  have G21 := ok_NoBudget_init (P := l.prog) (w := w) (base := base) (k := 2) F21 M  T_RoomError VI T_NoBudget D0 (G0.mono (by decide))
  have G22 := ok_NoLine_init (P := l.prog) (w := w) (base := base) (k := 2) F22 M  T_RoomError VI T_NoLine D0 (G0.mono (by decide))
  have G23 := ok_NoKeep_init (P := l.prog) (w := w) (base := base) (k := 2) F23 M  T_RoomError VI T_NoKeep D0 (G0.mono (by decide))
  have G24 := ok_NoLayings_init (P := l.prog) (w := w) (base := base) (k := 2) F24 M  T_RoomError VI T_NoLayings D0 (G0.mono (by decide))
  have G25 := ok_NoTurn_init (P := l.prog) (w := w) (base := base) (k := 2) F25 M  T_RoomError VI T_NoTurn D0 (G0.mono (by decide))
  have G26 := ok_NoOpen_init (P := l.prog) (w := w) (base := base) (k := 2) F26 M  T_RoomError VI T_NoOpen D0 (G0.mono (by decide))
  have G27 := ok_NoDesk_init (P := l.prog) (w := w) (base := base) (k := 2) F27 M  T_RoomError VI T_NoDesk D0 (G0.mono (by decide))
  have G40 := ok_law_own (P := l.prog) (w := w) (base := base) (k := 2) F40 M  T_RoomError VI T_Beyond T_Lacking T_LaidTwice T_Meets T_NamedTwice T_NoBudget T_NoDesk T_NoInput T_NoKeep T_NoLaying T_NoLayings T_NoLine T_NoOpen T_NoPath T_NoPlace T_NoProgram T_NoRecord T_NoRoom T_NoShapes T_NoThings T_NoTurn T_Other T_Past T_TooMuch T_UnknownShape T_UnknownUnit T_WrongPath D34 (G34.mono (by decide)) KN
  have G43 := ok_law_thing (P := l.prog) (w := w) (base := base) (k := 2) F43 M  T_RoomError VI T_Beyond T_Lacking T_LaidTwice T_Meets T_NamedTwice T_NoBudget T_NoDesk T_NoInput T_NoKeep T_NoLaying T_NoLayings T_NoLine T_NoOpen T_NoPath T_NoPlace T_NoProgram T_NoRecord T_NoRoom T_NoShapes T_NoThings T_NoTurn T_Other T_Past T_TooMuch T_UnknownShape T_UnknownUnit T_WrongPath D30 (G30.mono (by decide))
  have G32 := ok_law_of_one_more (P := l.prog) (w := w) (base := base) (k := 4) F32 M  T_RoomError VI T_Beyond T_Lacking T_LaidTwice T_Meets T_NamedTwice T_NoBudget T_NoDesk T_NoInput T_NoKeep T_NoLaying T_NoLayings T_NoLine T_NoOpen T_NoPath T_NoPlace T_NoProgram T_NoRecord T_NoRoom T_NoShapes T_NoThings T_NoTurn T_Other T_Past T_TooMuch T_UnknownShape T_UnknownUnit T_WrongPath D17 (G17.mono (by decide)) D19 (G19.mono (by decide)) D20 (G20.mono (by decide)) D21 (G21.mono (by decide)) D22 (G22.mono (by decide)) D23 (G23.mono (by decide)) D24 (G24.mono (by decide)) D25 (G25.mono (by decide)) D26 (G26.mono (by decide)) D27 (G27.mono (by decide))
  have G33 := ok_law_of_some (P := l.prog) (w := w) (base := base) (k := 4) F33 M  T_RoomError VI T_Beyond T_Lacking T_LaidTwice T_Meets T_NamedTwice T_NoBudget T_NoDesk T_NoInput T_NoKeep T_NoLaying T_NoLayings T_NoLine T_NoOpen T_NoPath T_NoPlace T_NoProgram T_NoRecord T_NoRoom T_NoShapes T_NoThings T_NoTurn T_Other T_Past T_TooMuch T_UnknownShape T_UnknownUnit T_WrongPath D4 (G4.mono (by decide)) D5 (G5.mono (by decide)) D12 (G12.mono (by decide)) D13 (G13.mono (by decide)) D15 (G15.mono (by decide)) D16 (G16.mono (by decide)) D18 (G18.mono (by decide))
  have G42 := ok_law_taken (P := l.prog) (w := w) (base := base) (k := 4) F42 M  T_RoomError VI T_Beyond T_Lacking T_LaidTwice T_Meets T_NamedTwice T_NoBudget T_NoDesk T_NoInput T_NoKeep T_NoLaying T_NoLayings T_NoLine T_NoOpen T_NoPath T_NoPlace T_NoProgram T_NoRecord T_NoRoom T_NoShapes T_NoThings T_NoTurn T_Other T_Past T_TooMuch T_UnknownShape T_UnknownUnit T_WrongPath D2 (G2.mono (by decide)) D1 (G1.mono (by decide)) D41 (G41.mono (by decide)) KN
  have G31 := ok_law_of_one (P := l.prog) (w := w) (base := base) (k := 6) F31 M  T_RoomError VI T_Beyond T_Lacking T_LaidTwice T_Meets T_NamedTwice T_NoBudget T_NoDesk T_NoInput T_NoKeep T_NoLaying T_NoLayings T_NoLine T_NoOpen T_NoPath T_NoPlace T_NoProgram T_NoRecord T_NoRoom T_NoShapes T_NoThings T_NoTurn T_Other T_Past T_TooMuch T_UnknownShape T_UnknownUnit T_WrongPath D1 (G1.mono (by decide)) D2 (G2.mono (by decide)) D3 (G3.mono (by decide)) D6 (G6.mono (by decide)) D7 (G7.mono (by decide)) D8 (G8.mono (by decide)) D9 (G9.mono (by decide)) D10 (G10.mono (by decide)) D11 (G11.mono (by decide)) D14 (G14.mono (by decide)) D32 (G32.mono (by decide))
  have G44 := ok_law (P := l.prog) (w := w) (base := base) (k := 8) F44 M  T_RoomError VI T_Beyond T_Lacking T_LaidTwice T_Meets T_NamedTwice T_NoBudget T_NoDesk T_NoInput T_NoKeep T_NoLaying T_NoLayings T_NoLine T_NoOpen T_NoPath T_NoPlace T_NoProgram T_NoRecord T_NoRoom T_NoShapes T_NoThings T_NoTurn T_Other T_Past T_TooMuch T_UnknownShape T_UnknownUnit T_WrongPath D28 (G28.mono (by decide)) D29 (G29.mono (by decide)) D43 (G43.mono (by decide)) D31 (G31.mono (by decide)) D40 (G40.mono (by decide)) D35 (G35.mono (by decide)) D41 (G41.mono (by decide)) D37 (G37.mono (by decide)) D33 (G33.mono (by decide)) D36 (G36.mono (by decide)) D38 (G38.mono (by decide)) D39 (G39.mono (by decide)) D42 (G42.mono (by decide))
  exact G44
theorem walk {l : PySem.W.OpenLaw} {q : Program} {loose : List Str} {XP : (Str → Option Value) → Heap → Prop} {YP : World → Heap → Prop} {d : DefRec} {K : Params → PySem.W.Frag} (hn : l.most = some 63) (hdf : d.params.defaults = [])
    (hY : ∀ (w : World) (h : Heap), YP w h → (K w.params).In h)
    (F : ∀ (w : World) (mg : Str → Option Value) (fa : Addr) (h : Heap), (K w.params).In h → h.Ns mainGlobals mg → mg d.name = some (.ref fa) →
      ∃ fd : FuncData, (∀ (s : Shared) (u : Value), BindsTo s fd ⟨[u], []⟩ [("_law_script", u)]) ∧ ∀ base : Heap, (K w.params).In base → base.Ns mainGlobals mg → FnOk l.prog w (K w.params) mg base CX0 10 fa fd ["_law_script"] (spLaw (K w.params))) :
    PySem.W.WalkO q loose XP YP l.row.toRowW d [] (fun f vs => PySem.call f vs) :=
  L2.walk_of (n := 63) (k := 10) (x := "_law_script") (CX := fun _ => CX0) (sp := fun w => spLaw (K w.params)) hn (by decide) hdf ⟨rfl, by decide, by decide, rfl⟩ hY F (fun _ _ a ns hl _ hS => ⟨a, ns, rfl, hS, hl, fun _ => rfl⟩) fun _ _ _ _ _ z => z
end K05
def PySem.W.Fast.tw3548096697756840235 : Unit := ()
def PySem.W.Fast.tw14402252080185868605 : Unit := ()
def PySem.W.Fast.tw14395291353419714777 : Unit := ()
def PySem.W.Fast.tw16672584108053405402 : Unit := ()
def PySem.W.Fast.tw17422452276615835190 : Unit := ()
def PySem.W.Fast.tw11405764135910958327 : Unit := ()
def PySem.W.Fast.tw9773836273120236484 : Unit := ()
def PySem.W.Fast.tw11482279175912336867 : Unit := ()
def PySem.W.Fast.tw3346837239554439495 : Unit := ()
def PySem.W.Fast.tw10428478138269697933 : Unit := ()
def PySem.W.Fast.tw2440544488567568441 : Unit := ()
def PySem.W.Fast.tw8498774308666385461 : Unit := ()
def PySem.W.Fast.tw79363231059899136 : Unit := ()
def PySem.W.Fast.tw16319279678686540927 : Unit := ()
def PySem.W.Fast.tw13655628603960099704 : Unit := ()
def PySem.W.Fast.tw7077502692873546817 : Unit := ()
def PySem.W.Fast.tw16540148530705027848 : Unit := ()
def PySem.W.Fast.tw18295169984699721321 : Unit := ()
def PySem.W.Fast.tw10593964960277458759 : Unit := ()
def PySem.W.Fast.tw15143782378399483410 : Unit := ()
def PySem.W.Fast.tw14098975224464140086 : Unit := ()
def PySem.W.Fast.tw10110847201636350639 : Unit := ()
def PySem.W.Fast.tw11664373054115871570 : Unit := ()
def PySem.W.Fast.tw7269961594713054969 : Unit := ()
def PySem.W.Fast.tw5353613717782931781 : Unit := ()
def PySem.W.Fast.tw267927912931129444 : Unit := ()
def PySem.W.Fast.tw2149248510784323655 : Unit := ()
def PySem.W.Fast.tw5549328127820796242 : Unit := ()
def PySem.W.Fast.tw4071210852998466434 : Unit := ()
open PySem PySem.W PyProof.Rows
set_option maxRecDepth 100000 in
set_option maxHeartbeats 0 in
theorem PySem.Challenge.cw_roomslaid_k05_refusals_apart_holds : PySem.Challenge.rw_roomslaid_k05_refusals_apart.Holds := by
  w_on; o_law; k_head; (case hw => w_witness2)
  k_fill
  refine K05.walk (l := PySem.Challenge.rw_roomslaid_k05_refusals_apart) rfl rfl (fun w h Y => PySem.W.kIn_of Y) ?F
  case F =>
    intro w mg fa h KX G hmg
    refine' K05.all_mk KX G hmg ?g_RoomError ?g_Beyond ?g_Lacking ?g_LaidTwice ?g_Meets ?g_NamedTwice ?g_NoBudget ?g_NoDesk ?g_NoInput ?g_NoKeep ?g_NoLaying ?g_NoLayings ?g_NoLine ?g_NoOpen ?g_NoPath ?g_NoPlace ?g_NoProgram ?g_NoRecord ?g_NoRoom ?g_NoShapes ?g_NoThings ?g_NoTurn ?g_Other ?g_Past ?g_TooMuch ?g_UnknownShape ?g_UnknownUnit ?g_WrongPath ?a0 ?i0 ?l0 ?c0 ?k0 ?a1 ?i1 ?l1 ?c1 ?k1 ?a2 ?i2 ?l2 ?c2 ?k2 ?a3 ?i3 ?l3 ?c3 ?k3 ?a4 ?i4 ?l4 ?c4 ?k4 ?a5 ?i5 ?l5 ?c5 ?k5 ?a6 ?i6 ?l6 ?c6 ?k6 ?a7 ?i7 ?l7 ?c7 ?k7 ?a8 ?i8 ?l8 ?c8 ?k8 ?a9 ?i9 ?l9 ?c9 ?k9 ?a10 ?i10 ?l10 ?c10 ?k10 ?a11 ?i11 ?l11 ?c11 ?k11 ?a12 ?i12 ?l12 ?c12 ?k12 ?a13 ?i13 ?l13 ?c13 ?k13 ?a14 ?i14 ?l14 ?c14 ?k14 ?a15 ?i15 ?l15 ?c15 ?k15 ?a16 ?i16 ?l16 ?c16 ?k16 ?a17 ?i17 ?l17 ?c17 ?k17 ?a18 ?i18 ?l18 ?c18 ?k18 ?a19 ?i19 ?l19 ?c19 ?k19 ?a20 ?i20 ?l20 ?c20 ?k20 ?a21 ?i21 ?l21 ?c21 ?k21 ?a22 ?i22 ?l22 ?c22 ?k22 ?a23 ?i23 ?l23 ?c23 ?k23 ?a24 ?i24 ?l24 ?c24 ?k24 ?a25 ?i25 ?l25 ?c25 ?k25 ?a26 ?i26 ?l26 ?c26 ?k26 ?a27 ?i27 ?l27 ?c27 ?k27 ?a28 ?l28 ?c28 ?k28 ?a29 ?l29 ?c29 ?k29 ?a30 ?l30 ?c30 ?k30 ?a31 ?l31 ?c31 ?k31 ?a32 ?l32 ?c32 ?k32 ?a33 ?l33 ?c33 ?k33 ?a34 ?l34 ?c34 ?k34 ?a35 ?l35 ?c35 ?k35 ?a36 ?l36 ?c36 ?k36 ?a37 ?l37 ?c37 ?k37 ?a38 ?l38 ?c38 ?k38 ?a39 ?l39 ?c39 ?k39 ?a40 ?l40 ?c40 ?k40 ?a41 ?l41 ?c41 ?k41 ?a42 ?l42 ?c42 ?k42 ?a43 ?l43 ?c43 ?k43 ?a44 ?l44 ?c44 ?k44 ?xo_RoomError ?xk_RoomError ?xr ?xf ?xp ?xo_Beyond ?xk_Beyond ?xn_Beyond ?xi_Beyond ?xs_Beyond ?xg_Beyond ?xh_Beyond ?n_Beyond_found ?xo_Lacking ?xk_Lacking ?xn_Lacking ?xi_Lacking ?xs_Lacking ?xg_Lacking ?xh_Lacking ?n_Lacking_unit ?xo_LaidTwice ?xk_LaidTwice ?xn_LaidTwice ?xi_LaidTwice ?xs_LaidTwice ?xg_LaidTwice ?xh_LaidTwice ?n_LaidTwice_line ?n_LaidTwice_unit ?xo_Meets ?xk_Meets ?xn_Meets ?xi_Meets ?xs_Meets ?xg_Meets ?xh_Meets ?n_Meets_unit ?n_Meets_thing ?n_Meets_second ?n_Meets_another ?xo_NamedTwice ?xk_NamedTwice ?xn_NamedTwice ?xi_NamedTwice ?xs_NamedTwice ?xg_NamedTwice ?xh_NamedTwice ?n_NamedTwice_line ?n_NamedTwice_name ?xo_NoBudget ?xk_NoBudget ?xn_NoBudget ?xi_NoBudget ?xs_NoBudget ?xg_NoBudget ?xh_NoBudget ?n_NoBudget_found ?xo_NoDesk ?xk_NoDesk ?xn_NoDesk ?xi_NoDesk ?xs_NoDesk ?xg_NoDesk ?xh_NoDesk ?n_NoDesk_line ?xo_NoInput ?xk_NoInput ?xn_NoInput ?xi_NoInput ?xs_NoInput ?xg_NoInput ?xh_NoInput ?n_NoInput_name ?xo_NoKeep ?xk_NoKeep ?xn_NoKeep ?xi_NoKeep ?xs_NoKeep ?xg_NoKeep ?xh_NoKeep ?n_NoKeep_found ?xo_NoLaying ?xk_NoLaying ?xn_NoLaying ?xi_NoLaying ?xs_NoLaying ?xg_NoLaying ?xh_NoLaying ?n_NoLaying_line ?xo_NoLayings ?xk_NoLayings ?xn_NoLayings ?xi_NoLayings ?xs_NoLayings ?xg_NoLayings ?xh_NoLayings ?n_NoLayings_found ?xo_NoLine ?xk_NoLine ?xn_NoLine ?xi_NoLine ?xs_NoLine ?xg_NoLine ?xh_NoLine ?n_NoLine_found ?xo_NoOpen ?xk_NoOpen ?xn_NoOpen ?xi_NoOpen ?xs_NoOpen ?xg_NoOpen ?xh_NoOpen ?n_NoOpen_found ?xo_NoPath ?xk_NoPath ?xn_NoPath ?xi_NoPath ?xs_NoPath ?xg_NoPath ?xh_NoPath ?n_NoPath_path ?xo_NoPlace ?xk_NoPlace ?xn_NoPlace ?xi_NoPlace ?xs_NoPlace ?xg_NoPlace ?xh_NoPlace ?n_NoPlace_found ?xo_NoProgram ?xk_NoProgram ?xn_NoProgram ?xi_NoProgram ?xs_NoProgram ?xg_NoProgram ?xh_NoProgram ?n_NoProgram_line ?xo_NoRecord ?xk_NoRecord ?xn_NoRecord ?xi_NoRecord ?xs_NoRecord ?xg_NoRecord ?xh_NoRecord ?n_NoRecord_found ?xo_NoRoom ?xk_NoRoom ?xn_NoRoom ?xi_NoRoom ?xs_NoRoom ?xg_NoRoom ?xh_NoRoom ?n_NoRoom_found ?xo_NoShapes ?xk_NoShapes ?xn_NoShapes ?xi_NoShapes ?xs_NoShapes ?xg_NoShapes ?xh_NoShapes ?n_NoShapes_line ?xo_NoThings ?xk_NoThings ?xn_NoThings ?xi_NoThings ?xs_NoThings ?xg_NoThings ?xh_NoThings ?n_NoThings_found ?xo_NoTurn ?xk_NoTurn ?xn_NoTurn ?xi_NoTurn ?xs_NoTurn ?xg_NoTurn ?xh_NoTurn ?n_NoTurn_found ?xo_Other ?xk_Other ?xn_Other ?xi_Other ?xs_Other ?xg_Other ?xh_Other ?n_Other_found ?xo_Past ?xk_Past ?xn_Past ?xi_Past ?xs_Past ?xg_Past ?xh_Past ?n_Past_unit ?n_Past_thing ?n_Past_cell ?xo_TooMuch ?xk_TooMuch ?xn_TooMuch ?xi_TooMuch ?xs_TooMuch ?xg_TooMuch ?xh_TooMuch ?n_TooMuch_line ?xo_UnknownShape ?xk_UnknownShape ?xn_UnknownShape ?xi_UnknownShape ?xs_UnknownShape ?xg_UnknownShape ?xh_UnknownShape ?n_UnknownShape_line ?n_UnknownShape_name ?xo_UnknownUnit ?xk_UnknownUnit ?xn_UnknownUnit ?xi_UnknownUnit ?xs_UnknownUnit ?xg_UnknownUnit ?xh_UnknownUnit ?n_UnknownUnit_line ?n_UnknownUnit_unit ?xo_WrongPath ?xk_WrongPath ?xn_WrongPath ?xi_WrongPath ?xs_WrongPath ?xg_WrongPath ?xh_WrongPath ?n_WrongPath_line ?n_WrongPath_path ?vi1 ?vi2 ?vi3 ?z0 ?z1 ?z2 ?z3 ?z4 ?z5 ?z6 ?z7 ?z8 ?z9 ?z10 ?z11 ?z12 ?z13 ?yb ?yc ?ya_NoRoom ?yd_NoRoom ?ya_NoPlace ?yd_NoPlace ?ya_NoShapes ?yd_NoShapes ?ya_UnknownShape ?yd_UnknownShape ?ya_NamedTwice ?yd_NamedTwice ?ya_TooMuch ?yd_TooMuch ?ya_NoRecord ?yd_NoRecord ?ya_NoPath ?yd_NoPath ?ya_Beyond ?yd_Beyond ?ya_Other ?yd_Other ?ya_NoLaying ?yd_NoLaying ?ya_UnknownUnit ?yd_UnknownUnit ?ya_LaidTwice ?yd_LaidTwice ?ya_Lacking ?yd_Lacking ?ya_Past ?yd_Past ?ya_Meets ?yd_Meets ?ya_NoProgram ?yd_NoProgram ?ya_WrongPath ?yd_WrongPath ?ya_NoInput ?yd_NoInput ?ya_NoThings ?yd_NoThings ?ya_NoBudget ?yd_NoBudget ?ya_NoLine ?yd_NoLine ?ya_NoKeep ?yd_NoKeep ?ya_NoLayings ?yd_NoLayings ?ya_NoTurn ?yd_NoTurn ?ya_NoOpen ?yd_NoOpen ?ya_NoDesk ?yd_NoDesk ?xn_not ?xn_yes
    (case g_RoomError => k_is)
    (case g_Beyond => k_is)
    (case g_Lacking => k_is)
    (case g_LaidTwice => k_is)
    (case g_Meets => k_is)
    (case g_NamedTwice => k_is)
    (case g_NoBudget => k_is)
    (case g_NoDesk => k_is)
    (case g_NoInput => k_is)
    (case g_NoKeep => k_is)
    (case g_NoLaying => k_is)
    (case g_NoLayings => k_is)
    (case g_NoLine => k_is)
    (case g_NoOpen => k_is)
    (case g_NoPath => k_is)
    (case g_NoPlace => k_is)
    (case g_NoProgram => k_is)
    (case g_NoRecord => k_is)
    (case g_NoRoom => k_is)
    (case g_NoShapes => k_is)
    (case g_NoThings => k_is)
    (case g_NoTurn => k_is)
    (case g_Other => k_is)
    (case g_Past => k_is)
    (case g_TooMuch => k_is)
    (case g_UnknownShape => k_is)
    (case g_UnknownUnit => k_is)
    (case g_WrongPath => k_is)
    (case a0 => k_is)
    (case i0 => k_is)
    (case l0 => k_is)
    (case c0 => k_is)
    (case k0 => k_is)
    (case a1 => k_is)
    (case i1 => k_is)
    (case l1 => k_is)
    (case c1 => k_is)
    (case k1 => k_is)
    (case a2 => k_is)
    (case i2 => k_is)
    (case l2 => k_is)
    (case c2 => k_is)
    (case k2 => k_is)
    (case a3 => k_is)
    (case i3 => k_is)
    (case l3 => k_is)
    (case c3 => k_is)
    (case k3 => k_is)
    (case a4 => k_is)
    (case i4 => k_is)
    (case l4 => k_is)
    (case c4 => k_is)
    (case k4 => k_is)
    (case a5 => k_is)
    (case i5 => k_is)
    (case l5 => k_is)
    (case c5 => k_is)
    (case k5 => k_is)
    (case a6 => k_is)
    (case i6 => k_is)
    (case l6 => k_is)
    (case c6 => k_is)
    (case k6 => k_is)
    (case a7 => k_is)
    (case i7 => k_is)
    (case l7 => k_is)
    (case c7 => k_is)
    (case k7 => k_is)
    (case a8 => k_is)
    (case i8 => k_is)
    (case l8 => k_is)
    (case c8 => k_is)
    (case k8 => k_is)
    (case a9 => k_is)
    (case i9 => k_is)
    (case l9 => k_is)
    (case c9 => k_is)
    (case k9 => k_is)
    (case a10 => k_is)
    (case i10 => k_is)
    (case l10 => k_is)
    (case c10 => k_is)
    (case k10 => k_is)
    (case a11 => k_is)
    (case i11 => k_is)
    (case l11 => k_is)
    (case c11 => k_is)
    (case k11 => k_is)
    (case a12 => k_is)
    (case i12 => k_is)
    (case l12 => k_is)
    (case c12 => k_is)
    (case k12 => k_is)
    (case a13 => k_is)
    (case i13 => k_is)
    (case l13 => k_is)
    (case c13 => k_is)
    (case k13 => k_is)
    (case a14 => k_is)
    (case i14 => k_is)
    (case l14 => k_is)
    (case c14 => k_is)
    (case k14 => k_is)
    (case a15 => k_is)
    (case i15 => k_is)
    (case l15 => k_is)
    (case c15 => k_is)
    (case k15 => k_is)
    (case a16 => k_is)
    (case i16 => k_is)
    (case l16 => k_is)
    (case c16 => k_is)
    (case k16 => k_is)
    (case a17 => k_is)
    (case i17 => k_is)
    (case l17 => k_is)
    (case c17 => k_is)
    (case k17 => k_is)
    (case a18 => k_is)
    (case i18 => k_is)
    (case l18 => k_is)
    (case c18 => k_is)
    (case k18 => k_is)
    (case a19 => k_is)
    (case i19 => k_is)
    (case l19 => k_is)
    (case c19 => k_is)
    (case k19 => k_is)
    (case a20 => k_is)
    (case i20 => k_is)
    (case l20 => k_is)
    (case c20 => k_is)
    (case k20 => k_is)
    (case a21 => k_is)
    (case i21 => k_is)
    (case l21 => k_is)
    (case c21 => k_is)
    (case k21 => k_is)
    (case a22 => k_is)
    (case i22 => k_is)
    (case l22 => k_is)
    (case c22 => k_is)
    (case k22 => k_is)
    (case a23 => k_is)
    (case i23 => k_is)
    (case l23 => k_is)
    (case c23 => k_is)
    (case k23 => k_is)
    (case a24 => k_is)
    (case i24 => k_is)
    (case l24 => k_is)
    (case c24 => k_is)
    (case k24 => k_is)
    (case a25 => k_is)
    (case i25 => k_is)
    (case l25 => k_is)
    (case c25 => k_is)
    (case k25 => k_is)
    (case a26 => k_is)
    (case i26 => k_is)
    (case l26 => k_is)
    (case c26 => k_is)
    (case k26 => k_is)
    (case a27 => k_is)
    (case i27 => k_is)
    (case l27 => k_is)
    (case c27 => k_is)
    (case k27 => k_is)
    (case a28 => k_is)
    (case l28 => k_is)
    (case c28 => k_is)
    (case k28 => k_is)
    (case a29 => k_is)
    (case l29 => k_is)
    (case c29 => k_is)
    (case k29 => k_is)
    (case a30 => k_is)
    (case l30 => k_is)
    (case c30 => k_is)
    (case k30 => k_is)
    (case a31 => k_is)
    (case l31 => k_is)
    (case c31 => k_is)
    (case k31 => k_is)
    (case a32 => k_is)
    (case l32 => k_is)
    (case c32 => k_is)
    (case k32 => k_is)
    (case a33 => k_is)
    (case l33 => k_is)
    (case c33 => k_is)
    (case k33 => k_is)
    (case a34 => k_is)
    (case l34 => k_is)
    (case c34 => k_is)
    (case k34 => k_is)
    (case a35 => k_is)
    (case l35 => k_is)
    (case c35 => k_is)
    (case k35 => k_is)
    (case a36 => k_is)
    (case l36 => k_is)
    (case c36 => k_is)
    (case k36 => k_is)
    (case a37 => k_is)
    (case l37 => k_is)
    (case c37 => k_is)
    (case k37 => k_is)
    (case a38 => k_is)
    (case l38 => k_is)
    (case c38 => k_is)
    (case k38 => k_is)
    (case a39 => k_is)
    (case l39 => k_is)
    (case c39 => k_is)
    (case k39 => k_is)
    (case a40 => k_is)
    (case l40 => k_is)
    (case c40 => k_is)
    (case k40 => k_is)
    (case a41 => k_is)
    (case l41 => k_is)
    (case c41 => k_is)
    (case k41 => k_is)
    (case a42 => k_is)
    (case l42 => k_is)
    (case c42 => k_is)
    (case k42 => k_is)
    (case a43 => k_is)
    (case l43 => k_is)
    (case c43 => k_is)
    (case k43 => k_is)
    (case a44 => k_is)
    (case l44 => k_is)
    (case c44 => k_is)
    (case k44 => k_is)
    (case xo_RoomError => k_is)
    (case xk_RoomError => k_is)
    (case xr => k_is)
    (case xf => k_is)
    (case xp => k_is)
    (case xo_Beyond => k_is)
    (case xk_Beyond => k_is)
    (case xn_Beyond => first | exact Eq.refl true | kernel_rfl | decide +kernel)
    (case xi_Beyond => k_is)
    (case xs_Beyond => k_is)
    (case xg_Beyond => k_is)
    (case xh_Beyond => k_is)
    (case n_Beyond_found => k_is)
    (case xo_Lacking => k_is)
    (case xk_Lacking => k_is)
    (case xn_Lacking => first | exact Eq.refl true | kernel_rfl | decide +kernel)
    (case xi_Lacking => k_is)
    (case xs_Lacking => k_is)
    (case xg_Lacking => k_is)
    (case xh_Lacking => k_is)
    (case n_Lacking_unit => k_is)
    (case xo_LaidTwice => k_is)
    (case xk_LaidTwice => k_is)
    (case xn_LaidTwice => first | exact Eq.refl true | kernel_rfl | decide +kernel)
    (case xi_LaidTwice => k_is)
    (case xs_LaidTwice => k_is)
    (case xg_LaidTwice => k_is)
    (case xh_LaidTwice => k_is)
    (case n_LaidTwice_line => k_is)
    (case n_LaidTwice_unit => k_is)
    (case xo_Meets => k_is)
    (case xk_Meets => k_is)
    (case xn_Meets => first | exact Eq.refl true | kernel_rfl | decide +kernel)
    (case xi_Meets => k_is)
    (case xs_Meets => k_is)
    (case xg_Meets => k_is)
    (case xh_Meets => k_is)
    (case n_Meets_unit => k_is)
    (case n_Meets_thing => k_is)
    (case n_Meets_second => k_is)
    (case n_Meets_another => k_is)
    (case xo_NamedTwice => k_is)
    (case xk_NamedTwice => k_is)
    (case xn_NamedTwice => first | exact Eq.refl true | kernel_rfl | decide +kernel)
    (case xi_NamedTwice => k_is)
    (case xs_NamedTwice => k_is)
    (case xg_NamedTwice => k_is)
    (case xh_NamedTwice => k_is)
    (case n_NamedTwice_line => k_is)
    (case n_NamedTwice_name => k_is)
    (case xo_NoBudget => k_is)
    (case xk_NoBudget => k_is)
    (case xn_NoBudget => first | exact Eq.refl true | kernel_rfl | decide +kernel)
    (case xi_NoBudget => k_is)
    (case xs_NoBudget => k_is)
    (case xg_NoBudget => k_is)
    (case xh_NoBudget => k_is)
    (case n_NoBudget_found => k_is)
    (case xo_NoDesk => k_is)
    (case xk_NoDesk => k_is)
    (case xn_NoDesk => first | exact Eq.refl true | kernel_rfl | decide +kernel)
    (case xi_NoDesk => k_is)
    (case xs_NoDesk => k_is)
    (case xg_NoDesk => k_is)
    (case xh_NoDesk => k_is)
    (case n_NoDesk_line => k_is)
    (case xo_NoInput => k_is)
    (case xk_NoInput => k_is)
    (case xn_NoInput => first | exact Eq.refl true | kernel_rfl | decide +kernel)
    (case xi_NoInput => k_is)
    (case xs_NoInput => k_is)
    (case xg_NoInput => k_is)
    (case xh_NoInput => k_is)
    (case n_NoInput_name => k_is)
    (case xo_NoKeep => k_is)
    (case xk_NoKeep => k_is)
    (case xn_NoKeep => first | exact Eq.refl true | kernel_rfl | decide +kernel)
    (case xi_NoKeep => k_is)
    (case xs_NoKeep => k_is)
    (case xg_NoKeep => k_is)
    (case xh_NoKeep => k_is)
    (case n_NoKeep_found => k_is)
    (case xo_NoLaying => k_is)
    (case xk_NoLaying => k_is)
    (case xn_NoLaying => first | exact Eq.refl true | kernel_rfl | decide +kernel)
    (case xi_NoLaying => k_is)
    (case xs_NoLaying => k_is)
    (case xg_NoLaying => k_is)
    (case xh_NoLaying => k_is)
    (case n_NoLaying_line => k_is)
    (case xo_NoLayings => k_is)
    (case xk_NoLayings => k_is)
    (case xn_NoLayings => first | exact Eq.refl true | kernel_rfl | decide +kernel)
    (case xi_NoLayings => k_is)
    (case xs_NoLayings => k_is)
    (case xg_NoLayings => k_is)
    (case xh_NoLayings => k_is)
    (case n_NoLayings_found => k_is)
    (case xo_NoLine => k_is)
    (case xk_NoLine => k_is)
    (case xn_NoLine => first | exact Eq.refl true | kernel_rfl | decide +kernel)
    (case xi_NoLine => k_is)
    (case xs_NoLine => k_is)
    (case xg_NoLine => k_is)
    (case xh_NoLine => k_is)
    (case n_NoLine_found => k_is)
    (case xo_NoOpen => k_is)
    (case xk_NoOpen => k_is)
    (case xn_NoOpen => first | exact Eq.refl true | kernel_rfl | decide +kernel)
    (case xi_NoOpen => k_is)
    (case xs_NoOpen => k_is)
    (case xg_NoOpen => k_is)
    (case xh_NoOpen => k_is)
    (case n_NoOpen_found => k_is)
    (case xo_NoPath => k_is)
    (case xk_NoPath => k_is)
    (case xn_NoPath => first | exact Eq.refl true | kernel_rfl | decide +kernel)
    (case xi_NoPath => k_is)
    (case xs_NoPath => k_is)
    (case xg_NoPath => k_is)
    (case xh_NoPath => k_is)
    (case n_NoPath_path => k_is)
    (case xo_NoPlace => k_is)
    (case xk_NoPlace => k_is)
    (case xn_NoPlace => first | exact Eq.refl true | kernel_rfl | decide +kernel)
    (case xi_NoPlace => k_is)
    (case xs_NoPlace => k_is)
    (case xg_NoPlace => k_is)
    (case xh_NoPlace => k_is)
    (case n_NoPlace_found => k_is)
    (case xo_NoProgram => k_is)
    (case xk_NoProgram => k_is)
    (case xn_NoProgram => first | exact Eq.refl true | kernel_rfl | decide +kernel)
    (case xi_NoProgram => k_is)
    (case xs_NoProgram => k_is)
    (case xg_NoProgram => k_is)
    (case xh_NoProgram => k_is)
    (case n_NoProgram_line => k_is)
    (case xo_NoRecord => k_is)
    (case xk_NoRecord => k_is)
    (case xn_NoRecord => first | exact Eq.refl true | kernel_rfl | decide +kernel)
    (case xi_NoRecord => k_is)
    (case xs_NoRecord => k_is)
    (case xg_NoRecord => k_is)
    (case xh_NoRecord => k_is)
    (case n_NoRecord_found => k_is)
    (case xo_NoRoom => k_is)
    (case xk_NoRoom => k_is)
    (case xn_NoRoom => first | exact Eq.refl true | kernel_rfl | decide +kernel)
    (case xi_NoRoom => k_is)
    (case xs_NoRoom => k_is)
    (case xg_NoRoom => k_is)
    (case xh_NoRoom => k_is)
    (case n_NoRoom_found => k_is)
    (case xo_NoShapes => k_is)
    (case xk_NoShapes => k_is)
    (case xn_NoShapes => first | exact Eq.refl true | kernel_rfl | decide +kernel)
    (case xi_NoShapes => k_is)
    (case xs_NoShapes => k_is)
    (case xg_NoShapes => k_is)
    (case xh_NoShapes => k_is)
    (case n_NoShapes_line => k_is)
    (case xo_NoThings => k_is)
    (case xk_NoThings => k_is)
    (case xn_NoThings => first | exact Eq.refl true | kernel_rfl | decide +kernel)
    (case xi_NoThings => k_is)
    (case xs_NoThings => k_is)
    (case xg_NoThings => k_is)
    (case xh_NoThings => k_is)
    (case n_NoThings_found => k_is)
    (case xo_NoTurn => k_is)
    (case xk_NoTurn => k_is)
    (case xn_NoTurn => first | exact Eq.refl true | kernel_rfl | decide +kernel)
    (case xi_NoTurn => k_is)
    (case xs_NoTurn => k_is)
    (case xg_NoTurn => k_is)
    (case xh_NoTurn => k_is)
    (case n_NoTurn_found => k_is)
    (case xo_Other => k_is)
    (case xk_Other => k_is)
    (case xn_Other => first | exact Eq.refl true | kernel_rfl | decide +kernel)
    (case xi_Other => k_is)
    (case xs_Other => k_is)
    (case xg_Other => k_is)
    (case xh_Other => k_is)
    (case n_Other_found => k_is)
    (case xo_Past => k_is)
    (case xk_Past => k_is)
    (case xn_Past => first | exact Eq.refl true | kernel_rfl | decide +kernel)
    (case xi_Past => k_is)
    (case xs_Past => k_is)
    (case xg_Past => k_is)
    (case xh_Past => k_is)
    (case n_Past_unit => k_is)
    (case n_Past_thing => k_is)
    (case n_Past_cell => k_is)
    (case xo_TooMuch => k_is)
    (case xk_TooMuch => k_is)
    (case xn_TooMuch => first | exact Eq.refl true | kernel_rfl | decide +kernel)
    (case xi_TooMuch => k_is)
    (case xs_TooMuch => k_is)
    (case xg_TooMuch => k_is)
    (case xh_TooMuch => k_is)
    (case n_TooMuch_line => k_is)
    (case xo_UnknownShape => k_is)
    (case xk_UnknownShape => k_is)
    (case xn_UnknownShape => first | exact Eq.refl true | kernel_rfl | decide +kernel)
    (case xi_UnknownShape => k_is)
    (case xs_UnknownShape => k_is)
    (case xg_UnknownShape => k_is)
    (case xh_UnknownShape => k_is)
    (case n_UnknownShape_line => k_is)
    (case n_UnknownShape_name => k_is)
    (case xo_UnknownUnit => k_is)
    (case xk_UnknownUnit => k_is)
    (case xn_UnknownUnit => first | exact Eq.refl true | kernel_rfl | decide +kernel)
    (case xi_UnknownUnit => k_is)
    (case xs_UnknownUnit => k_is)
    (case xg_UnknownUnit => k_is)
    (case xh_UnknownUnit => k_is)
    (case n_UnknownUnit_line => k_is)
    (case n_UnknownUnit_unit => k_is)
    (case xo_WrongPath => k_is)
    (case xk_WrongPath => k_is)
    (case xn_WrongPath => first | exact Eq.refl true | kernel_rfl | decide +kernel)
    (case xi_WrongPath => k_is)
    (case xs_WrongPath => k_is)
    (case xg_WrongPath => k_is)
    (case xh_WrongPath => k_is)
    (case n_WrongPath_line => k_is)
    (case n_WrongPath_path => k_is)
    (case vi1 => k_is)
    (case vi2 => k_is)
    (case vi3 => k_is)
    (case z0 => k_is)
    (case z1 => k_is)
    (case z2 => k_is)
    (case z3 => k_is)
    (case z4 => k_is)
    (case z5 => k_is)
    (case z6 => k_is)
    (case z7 => k_is)
    (case z8 => k_is)
    (case z9 => k_is)
    (case z10 => k_is)
    (case z11 => k_is)
    (case z12 => k_is)
    (case z13 => k_is)
    (case yb => k_is)
    (case yc => k_is)
    (case ya_NoRoom => k_is)
    (case yd_NoRoom => k_is)
    (case ya_NoPlace => k_is)
    (case yd_NoPlace => k_is)
    (case ya_NoShapes => k_is)
    (case yd_NoShapes => k_is)
    (case ya_UnknownShape => k_is)
    (case yd_UnknownShape => k_is)
    (case ya_NamedTwice => k_is)
    (case yd_NamedTwice => k_is)
    (case ya_TooMuch => k_is)
    (case yd_TooMuch => k_is)
    (case ya_NoRecord => k_is)
    (case yd_NoRecord => k_is)
    (case ya_NoPath => k_is)
    (case yd_NoPath => k_is)
    (case ya_Beyond => k_is)
    (case yd_Beyond => k_is)
    (case ya_Other => k_is)
    (case yd_Other => k_is)
    (case ya_NoLaying => k_is)
    (case yd_NoLaying => k_is)
    (case ya_UnknownUnit => k_is)
    (case yd_UnknownUnit => k_is)
    (case ya_LaidTwice => k_is)
    (case yd_LaidTwice => k_is)
    (case ya_Lacking => k_is)
    (case yd_Lacking => k_is)
    (case ya_Past => k_is)
    (case yd_Past => k_is)
    (case ya_Meets => k_is)
    (case yd_Meets => k_is)
    (case ya_NoProgram => k_is)
    (case yd_NoProgram => k_is)
    (case ya_WrongPath => k_is)
    (case yd_WrongPath => k_is)
    (case ya_NoInput => k_is)
    (case yd_NoInput => k_is)
    (case ya_NoThings => k_is)
    (case yd_NoThings => k_is)
    (case ya_NoBudget => k_is)
    (case yd_NoBudget => k_is)
    (case ya_NoLine => k_is)
    (case yd_NoLine => k_is)
    (case ya_NoKeep => k_is)
    (case yd_NoKeep => k_is)
    (case ya_NoLayings => k_is)
    (case yd_NoLayings => k_is)
    (case ya_NoTurn => k_is)
    (case yd_NoTurn => k_is)
    (case ya_NoOpen => k_is)
    (case yd_NoOpen => k_is)
    (case ya_NoDesk => k_is)
    (case yd_NoDesk => k_is)
    (case xn_not => first | exact Eq.refl true | kernel_rfl | decide +kernel)
    (case xn_yes => first | exact Eq.refl true | kernel_rfl | decide +kernel)

