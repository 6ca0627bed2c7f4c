import PyProof.Rows.All
import Wide.All
import OpenK.AllK
import Wide.FinOn
import Lean
import PyProof.EqAt
import PyProof.EqKinds
import PyProof.TupleCall
import PyProof.LongRange
import PyProof.ListRange
import PyProof.RaisesMany
import PyProof.ExcBaseAll.ValueError
import PyProof.ExcArgs
import PyProof.InstStoreFacts
import PyProof.ExcAttrAll.ValueError
import PyProof.RulesAs
import PyProof.RulesDel
import PyProof.ReprRoads
import PyProof.CallFns
import PyProof.InstSpecial
import PyProof.Rows.RuleN_isinstance
import PyProof.EnumMake
import PyProof.EnumFor
import PyProof.EnumStmt
import PyProof.Rows.EnumRows
import PyProof.ZipIter
import PyProof.IsRules
import PyProof.Conv_int_bool
import PySem.Challenge.RW_roomslaid_k51_fetches_forged
set_option Elab.async false
set_option linter.all false
set_option maxRecDepth 100000
/-! THE HAND LAYER, for ints, bools, texts, own classes, LISTS and tuples (index, slices, in, append, pop ..), calls, loops. Paste it whole ahead of your own text; what your proof does not reach may be deleted. -/
namespace L2
open PySem PySem.Spec PyProof.Rows

/-- a key: an int or a str -/
abbrev Key := Sum Int Str
def keyIs : Key → Value → Bool
  | .inl k, v => Value.isInt k v
  | .inr x, v => Value.isStrOf x v
def keyH (w : World) : Key → Int
  | .inl k => hashInt k
  | .inr x => hashStr w x
theorem keyIs_shape : ∀ {k : Key} {v : Value}, keyIs k v = true → (∃ i t, k = Sum.inl i ∧ v = Value.int i t) ∨ (∃ x t, k = Sum.inr x ∧ v = Value.str x t)
  | .inl i, v, h => by
    obtain ⟨t, e⟩ := Value.isInt_shape (k := i) (v := v) h
    exact .inl ⟨i, t, rfl, e⟩
  | .inr x, v, h => by
    obtain ⟨t, e⟩ := Value.isStrOf_shape (x := x) (v := v) h
    exact .inr ⟨x, t, rfl, e⟩
theorem key_ll (a b : Int) : decide ((Sum.inl a : Key) = Sum.inl b) = (a == b) := by
  by_cases e : a = b
  · subst e; simp
  · have h : ¬ (Sum.inl a : Key) = Sum.inl b := fun q => e (Sum.inl.inj q)
    rw [decide_eq_false h]
    exact (beq_eq_false_iff_ne.mpr e).symm
theorem key_rr (a b : Str) : decide ((Sum.inr a : Key) = Sum.inr b) = decide (a = b) := by
  by_cases e : a = b
  · subst e; simp
  · have h : ¬ (Sum.inr a : Key) = Sum.inr b := fun q => e (Sum.inr.inj q)
    rw [decide_eq_false h, decide_eq_false e]
theorem key_lr (a : Int) (b : Str) : decide ((Sum.inl a : Key) = Sum.inr b) = false := decide_eq_false (fun q => nomatch q)
theorem key_rl (a : Str) (b : Int) : decide ((Sum.inr a : Key) = Sum.inl b) = false := decide_eq_false (fun q => nomatch q)

def mixKind (prog : Program) (w : World) : PySem.KeyKind prog w Key where
  is := keyIs
  hash := keyH w
  inj := fun v a b ha hb => by
    rcases keyIs_shape ha with ⟨i, t, rfl, rfl⟩ | ⟨x, t, rfl, rfl⟩
    · rcases keyIs_shape hb with ⟨j, u, rfl, e⟩ | ⟨y, u, rfl, e⟩
      · injection e with e1 _; rw [e1]
      · exact nomatch e
    · rcases keyIs_shape hb with ⟨j, u, rfl, e⟩ | ⟨y, u, rfl, e⟩
      · exact nomatch e
      · injection e with e1 _; rw [e1]
  byValue := fun k v h => by
    rcases keyIs_shape h with ⟨i, t, rfl, rfl⟩ | ⟨x, t, rfl, rfl⟩ <;> rfl
  pyHash := fun hv h => by
    rcases keyIs_shape hv with ⟨i, t, rfl, rfl⟩ | ⟨x, t, rfl, rfl⟩
    · exact wpAny_pyHash_int h
    · exact wpAny_pyHash_str h
  eqBool := fun hu hv h => by
    rcases keyIs_shape hu with ⟨i, t, rfl, rfl⟩ | ⟨x, t, rfl, rfl⟩
    · rcases keyIs_shape hv with ⟨j, u, rfl, rfl⟩ | ⟨y, u, rfl, rfl⟩
      · rw [key_ll] at h; exact wpAny_eqBool_int h
      · rw [key_lr] at h; exact SeqAt.EqAt.int_str i t y u _ _ _ _ h
    · rcases keyIs_shape hv with ⟨j, u, rfl, rfl⟩ | ⟨y, u, rfl, rfl⟩
      · rw [key_rl] at h; exact SeqAt.EqAt.str_int x t j u _ _ _ _ h
      · rw [key_rr] at h; exact wpAny_eqBool_str h
  «strs» := fun k x t v h => by
    rcases keyIs_shape h with ⟨i, u, rfl, e⟩ | ⟨y, u, rfl, e⟩
    · exact nomatch e
    · injection e with e1 _
      subst e1
      cases v <;> rfl

end L2

namespace L2
open PySem PySem.Spec PyProof.Rows

/-- a value, without the heap -/
inductive V where
  | non | bl (b : Bool) | int (i : Int) | str (x : Str) | byt (b : Array UInt8) | flt (b : UInt64) | ref (a : Addr) | ty (n : String)
  deriving DecidableEq

def RelV : V → Value → Prop
  | .non, u => u = Value.none
  | .bl b, u => u = Value.bool b
  | .int i, u => ∃ t, u = Value.int i t
  | .str x, u => ∃ t, u = Value.str x t
  | .byt b, u => ∃ t, u = Value.bytes b t
  | .flt b, u => ∃ t, u = Value.float b t
  | .ref a, u => u = Value.ref a
  | .ty n, u => u = Value.type n

abbrev Vals : List V → List Value → Prop := Paired RelV
theorem Vals.length {xs : List V} {us : List Value} (r : Vals xs us) : xs.length = us.length := Paired.length r
theorem Vals.get : ∀ {xs : List V} {us : List Value} {i : Nat} {x : V}, Vals xs us → xs[i]? = some x → ∃ u, us[i]? = some u ∧ RelV x u
  | _, _, _, _, .nil, e => by simp at e
  | _, _, 0, _, .cons r _, e => by simp at e; subst e; exact ⟨_, rfl, r⟩
  | _, _, i + 1, x, .cons _ t, e => by
    obtain ⟨u, h1, h2⟩ := Vals.get (i := i) (x := x) t (by simpa using e)
    exact ⟨u, by simpa using h1, h2⟩
theorem Vals.append : ∀ {xs ys : List V} {us ws : List Value}, Vals xs us → Vals ys ws → Vals (xs ++ ys) (us ++ ws)
  | _, _, _, _, .nil, s => s
  | _, _, _, _, .cons r t, s => .cons r (Vals.append t s)
theorem Vals.take : ∀ {xs : List V} {us : List Value} (n : Nat), Vals xs us → Vals (xs.take n) (us.take n)
  | _, _, 0, _ => .nil
  | _, _, _ + 1, .nil => .nil
  | _, _, n + 1, .cons r t => .cons r (Vals.take n t)
theorem Vals.drop : ∀ {xs : List V} {us : List Value} (n : Nat), Vals xs us → Vals (xs.drop n) (us.drop n)
  | _, _, 0, r => r
  | _, _, _ + 1, .nil => .nil
  | _, _, n + 1, .cons _ t => Vals.drop n t
def RelO : Option V → Option Value → Prop
  | some v, some u => RelV v u
  | none, none => True
  | _, _ => False
def KV {κ : Type} : List (κ × V) → List (κ × Value) → Prop := Paired fun (p : κ × V) (q : κ × Value) => p.1 = q.1 ∧ RelV p.2 q.2

/-- a key of a dict (00_mix): an int or a text -/
def kV : Key → V
  | .inl i => .int i
  | .inr x => .str x

/-- what stands at a tracked address -/
inductive HO where
  /-- a list -/
  | lst (xs : List V)
  /-- a tuple (never changes) -/
  | tup (xs : List V)
  /-- a dict whose keys are ints and texts; one whose keys are tuples of ints and texts (the empty one is both) -/
  | dK (kvs : List (Key × V)) | dT (kvs : List (List Key × V))
  /-- a set of ints: its members, its size -/
  | set (S : Int → Bool) (n : Nat)
  /-- an instance of the class at C, its dict at dx, its attributes -/
  | ins (C dx : Addr) (fs : List (Str × V))
  /-- the dict of the instance at x -/
  | own (x : Addr)
  /-- the dict of an exception -/
  | xd (fs : List (Str × V))
  /-- a bound method, f of x -/
  | met (f x : Addr)
  /-- a range object lo, lo + 1, .. below hi -/
  | rng (lo hi : Int)
  /-- a thing that is known to the object (the script; a dict while a loop walks it): read, never written while it is so -/
  | frz (o : Obj) (u : HO)
  /-- a code object's table -/
  | tbl (ps : Array Value)
  /-- any other thing, by what is true of its one object (a def of one's own: SetO a S n := HO.ext fun h => ..) -/
  | ext (φ : Heap → Prop)

abbrev Hp := Addr → Option HO
def upd (H : Hp) (a : Addr) (o : HO) : Hp := fun b => if b = a then some o else H b
theorem upd_same {H : Hp} {a : Addr} {o : HO} : upd H a o a = some o := by unfold upd; rw [if_pos rfl]
theorem upd_ne {H : Hp} {a b : Addr} {o : HO} (h : b ≠ a) : upd H a o b = H b := by unfold upd; rw [if_neg h]
theorem upd_upd {H : Hp} {a : Addr} {o u : HO} : upd (upd H a o) a u = upd H a u := by
  funext b; unfold upd; split <;> rfl
/-- two objects of different content stand apart -/
theorem ne_of {H : Hp} {a b : Addr} {o u : HO} (h : H a = some o) (h' : H b = some u) (d : o ≠ u) : a ≠ b := by
  intro e; subst e; rw [h] at h'; exact d (Option.some.inj h')
theorem ne_of_none {H : Hp} {a b : Addr} {o : HO} (h : H a = some o) (h' : H b = none) : a ≠ b := by
  intro e; subst e; rw [h] at h'; cases h'

section
variable (P : Program) (w : World)
def ObjOk (H : Hp) (h : Heap) (a : Addr) : HO → Prop
  | .lst xs => xs.length ≤ sizeLine ∧ ∃ (its : List Value) (n : Nat), Vals xs its ∧ h.get? a = some { cls := .type "list", data := .seq its.toArray n }
  | .tup xs => xs.length ≤ sizeLine ∧ ∃ its : List Value, Vals xs its ∧ IsTup h a its.toArray
  | .dK kvs => kvs.length ≤ sizeLine ∧ (a == sysModules) = false ∧ ∃ vs, KV kvs vs ∧ h.DictOf (mixKind P w) a vs
  | .dT kvs => kvs.length ≤ sizeLine ∧ (a == sysModules) = false ∧ ∃ xs : List (List Key × Addr × Value),
      Paired (fun (p : List Key × V) (q : List Key × Addr × Value) => p.1 = q.1 ∧ H q.2.1 = some (.tup (p.1.map kV)) ∧ RelV p.2 q.2.2) kvs xs ∧
      ∃ o es ep, h.get? a = some o ∧ o.ExactDict ∧ o.data = .dict es ep ∧ es.toList = xs.map (entryOfKey (tupleKind (mixKind P w))) ∧ (xs.map (·.1)).Nodup
  | .set S n => h.SetOf (intKind P w) a S n
  | .ins C dx fs => H dx = some (.own a) ∧ fs.length ≤ 1000 ∧ dx ≠ a ∧ h.get? a = some (PySem.W.instObj C dx) ∧
      ∃ mA, h.Ns1 dx mA ∧ (∀ f, RelO (fs.lookup f) (mA f)) ∧ PySem.Within mA (fs.map (·.1))
  | .own _ => ∃ o, h.get? a = some o
  | .xd fs => ∃ mA, h.Ns1 a mA ∧ ∀ f, RelO (fs.lookup f) (mA f)
  | .rng lo hi => ∃ t u v, h.get? a = some { cls := .type "range", data := .fields #[.int lo t, .int hi u, .int 1 v] }
  | .frz o u => h.get? a = some o ∧ ObjOk H h a u
  | .tbl ps => h.get? a = some { cls := .none, data := .fields ps }
  | .met f x => h.get? a = some (PySem.W.methodObj (.ref f) (.ref x))
  | .ext φ => φ h ∧ (∃ o, h.get? a = some o) ∧ ∀ h1 h2 : Heap, φ h1 → (∀ o, h1.get? a = some o → h2.get? a = some o) → φ h2
/-- the abstract heap is held -/
def HOk (H : Hp) (h : Heap) : Prop := ∀ a o, H a = some o → ObjOk P w H h a o
end

section
variable {P : Program} {w : World} {H H' : Hp} {h h' : Heap} {a : Addr} {o : HO}
theorem ObjOk.lt (x : ObjOk P w H h a o) : a < h.objs.size := by
  cases o with
  | lst xs => obtain ⟨_, _, _, _, e⟩ := x; exact Heap.lt_size e
  | tup xs => obtain ⟨_, _, _, p⟩ := x; exact p.lt
  | dK kvs => obtain ⟨_, _, _, _, o, _, _, e, _⟩ := x; exact Heap.lt_size e
  | dT kvs => obtain ⟨_, _, _, _, o, _, _, e, _⟩ := x; exact Heap.lt_size e
  | set S n => obtain ⟨o, _, _, _, e, _⟩ := x; exact Heap.lt_size e
  | ins C dx fs => obtain ⟨_, _, _, e, _⟩ := x; exact Heap.lt_size e
  | own y => obtain ⟨_, e⟩ := x; exact Heap.lt_size e
  | xd fs => obtain ⟨_, ⟨_, _, _, e, _⟩, _⟩ := x; exact Heap.lt_size e
  | rng lo hi => obtain ⟨_, _, _, e⟩ := x; exact Heap.lt_size e
  | frz ob u => obtain ⟨e, _⟩ := x; exact Heap.lt_size e
  | tbl ps => exact Heap.lt_size (show h.get? a = some _ from x)
  | met f y => exact Heap.lt_size (show h.get? a = some _ from x)
  | ext φ => obtain ⟨_, ⟨_, e⟩, _⟩ := x; exact Heap.lt_size e
theorem Paired.mapP {α β : Type} {F G : α → β → Prop} : ∀ {l₁ : List α} {l₂ : List β}, Paired F l₁ l₂ → (∀ a b, F a b → G a b) → Paired G l₁ l₂
  | _, _, .nil, _ => .nil
  | _, _, .cons r t, f => .cons (f _ _ r) (Paired.mapP t f)
/-- what an object's description leans on: its own object, its own dict, the tuples -/
theorem ObjOk.stay (x : ObjOk P w H h a o) (k : ∀ b u, (b = a ∨ H b = some (.own a)) → h.get? b = some u → h'.get? b = some u)
    (ho : ∀ b, H b = some (.own a) → H' b = some (.own a)) (ht : ∀ b xs, H b = some (.tup xs) → H' b = some (.tup xs)) : ObjOk P w H' h' a o := by
  induction o with
  | lst xs => obtain ⟨z, its, n, r, e⟩ := x; exact ⟨z, its, n, r, k _ _ (.inl rfl) e⟩
  | tup xs => obtain ⟨z, its, r, ob, e, c⟩ := x; exact ⟨z, its, r, ob, k _ _ (.inl rfl) e, c⟩
  | dK kvs => obtain ⟨z, y, vs, r, ob, es, ep, e, c⟩ := x; exact ⟨z, y, vs, r, ob, es, ep, k _ _ (.inl rfl) e, c⟩
  | dT kvs =>
    obtain ⟨z, y, xs, r, ob, es, ep, e, c⟩ := x
    exact ⟨z, y, xs, Paired.mapP r fun p q z => ⟨z.1, ht _ _ z.2.1, z.2.2⟩, ob, es, ep, k _ _ (.inl rfl) e, c⟩
  | set S n => obtain ⟨ob, es, ep, t, e, c⟩ := x; exact ⟨ob, es, ep, t, k _ _ (.inl rfl) e, c⟩
  | ins C dx fs =>
    obtain ⟨d, z, ne, e, mA, ⟨od, es, ep, e2, c⟩, r⟩ := x
    exact ⟨ho _ d, z, ne, k _ _ (.inl rfl) e, mA, ⟨od, es, ep, k _ _ (.inr d) e2, c⟩, r⟩
  | own y => obtain ⟨ob, e⟩ := x; exact ⟨ob, k _ _ (.inl rfl) e⟩
  | xd fs => obtain ⟨mA, ⟨od, es, ep, e, c⟩, r⟩ := x; exact ⟨mA, ⟨od, es, ep, k _ _ (.inl rfl) e, c⟩, r⟩
  | rng lo hi => obtain ⟨t, u, v, e⟩ := x; exact ⟨t, u, v, k _ _ (.inl rfl) e⟩
  | frz ob u ih => obtain ⟨e, q⟩ := x; exact ⟨k _ _ (.inl rfl) e, ih q⟩
  | tbl ps =>
    have e : h.get? a = some { cls := .none, data := .fields ps } := x
    show h'.get? a = some { cls := .none, data := .fields ps }
    exact k a _ (.inl rfl) e
  | met f y =>
    have e : h.get? a = some (PySem.W.methodObj (.ref f) (.ref y)) := x
    show h'.get? a = some (PySem.W.methodObj (.ref f) (.ref y))
    exact k a _ (.inl rfl) e
  | ext φ => obtain ⟨p, ⟨o, e⟩, st⟩ := x; exact ⟨st _ _ p fun o q => k _ _ (.inl rfl) q, ⟨o, k _ _ (.inl rfl) e⟩, st⟩
theorem HOk.lt (x : HOk P w H h) (e : H a = some o) : a < h.objs.size := (x a o e).lt
theorem HOk.fresh (x : HOk P w H h) (e : h.objs.size ≤ a) : H a = none := by
  cases q : H a with
  | none => rfl
  | some u => exact absurd (Nat.lt_of_lt_of_le (x.lt q) e) (Nat.lt_irrefl _)
/-- every object of the heap is kept -/
theorem HOk.kept (x : HOk P w H h) (k : ∀ b u, h.get? b = some u → h'.get? b = some u) : HOk P w H h' := fun a o e =>
  (x a o e).stay (fun b u _ q => k b u q) (fun _ q => q) fun _ _ q => q
/-- a new object is laid and tracked -/
theorem HOk.laid (x : HOk P w H h) (k : ∀ b u, h.get? b = some u → h'.get? b = some u) (hp : h.objs.size ≤ a) (new : ObjOk P w (upd H a o) h' a o) : HOk P w (upd H a o) h' := fun b u e => by
  have hn := x.fresh hp
  by_cases hb : b = a
  · subst hb; rw [upd_same] at e; cases e; exact new
  · rw [upd_ne hb] at e
    exact (x b u e).stay (fun c v _ q => k c v q) (fun c q => by rw [upd_ne (ne_of_none q hn)]; exact q) fun c xs q => by rw [upd_ne (ne_of_none q hn)]; exact q
end

/-- what may be read as u: it is u, or a known u -/
def Rd (H : Hp) (a : Addr) (u : HO) : Prop := H a = some u ∨ ∃ o, H a = some (.frz o u)
theorem Rd.ok {P : Program} {w : World} {H : Hp} {h : Heap} {a : Addr} {u : HO} (r : Rd H a u) (x : HOk P w H h) : ObjOk P w H h a u := by
  rcases r with r | ⟨o, r⟩
  · exact x a u r
  · obtain ⟨_, q⟩ := x a _ r
    exact q
/-- what may be written -/
def Mut : Option HO → Prop
  | some (.lst _) => True
  | some (.dK _) => True
  | some (.dT _) => True
  | some (.set _ _) => True
  | some (.ins _ _ _) => True
  | some (.ext _) => True
  | _ => False
section
variable {P : Program} {w : World} {H : Hp} {h h' : Heap} {x e : Addr} {o' : HO}
/-- the object at e is changed: x itself, or the dict of the instance x -/
theorem HOk.write (ok : HOk P w H h) (mu : Mut (H x)) (he : e = x ∨ H e = some (.own x)) (k : ∀ b u, b ≠ e → h.get? b = some u → h'.get? b = some u) (heo : ∃ u, h'.get? e = some u)
    (new : ObjOk P w (upd H x o') h' x o') : HOk P w (upd H x o') h' := fun b u q => by
  have nown : ∀ c y, H c = some (.own y) → c ≠ x := fun c y r z => by subst z; rw [r] at mu; exact mu
  have ntup : ∀ c xs, H c = some (.tup xs) → c ≠ x := fun c xs r z => by subst z; rw [r] at mu; exact mu
  by_cases hb : b = x
  · subst hb; rw [upd_same] at q; cases q; exact new
  · rw [upd_ne hb] at q
    by_cases hbe : b = e
    · have q' : H b = some (.own x) := by
        rcases he with z | z
        · exact absurd (hbe.trans z) hb
        · rw [hbe]; exact z
      rw [q] at q'; cases q'
      obtain ⟨v, hv⟩ := heo
      exact ⟨v, by rw [hbe]; exact hv⟩
    · refine (ok b u q).stay (fun c v hc r => k c v ?_ r) (fun c r => by rw [upd_ne (nown c b r)]; exact r) fun c xs r => by rw [upd_ne (ntup c xs r)]; exact r
      rcases hc with rfl | hc
      · exact hbe
      · rintro rfl
        rcases he with z | z
        · exact nown c b hc z
        · rw [hc] at z; cases z; exact hb rfl
end

/-! ### kept unless tracked; of the frames at fs (the callers') the slots may change (an exception that passes writes there); of the records at ex (iterators) nothing is said -/
structure Un (fs ex : List Addr) (H H' : Hp) (h h' : Heap) : Prop where
  keep : ∀ b o, h.get? b = some o → H b = none → b ∉ fs → b ∉ ex → h'.get? b = some o
  slot : ∀ b o, h.get? b = some o → H b = none → b ∈ fs → b ∉ ex → ∃ sl, h'.get? b = some { o with slots := sl }
  free : ∀ b o, h.get? b = some o → H b = none → b ∉ ex → H' b = none
  there : ∀ b o, h.get? b = some o → b ∉ ex → ∃ o', h'.get? b = some o'
  tups : ∀ b xs, H b = some (.tup xs) → H' b = some (.tup xs)
  frzs : ∀ b o u, H b = some (.frz o u) → H' b = some (.frz o u)
  tbls : ∀ b ps, H b = some (.tbl ps) → ∃ more, H' b = some (.tbl (ps ++ more))
section
variable {fs fs' ex ex' : List Addr} {H H1 H2 : Hp} {h h1 h2 h' : Heap} {a x e : Addr} {o : HO}
theorem Un.any (u : Un fs ex H H1 h h1) {b : Addr} {ob : Obj} (q : h.get? b = some ob) (n : H b = none) (hx : b ∉ ex) : ∃ sl, h1.get? b = some { ob with slots := sl } := by
  by_cases hb : b ∈ fs
  · exact u.slot b ob q n hb hx
  · exact ⟨ob.slots, u.keep b ob q n hb hx⟩
theorem Un.kept (k : ∀ b u, h.get? b = some u → h'.get? b = some u) : Un fs ex H H h h' :=
  ⟨fun b ob q _ _ _ => k b ob q, fun b ob q _ _ _ => ⟨ob.slots, k b ob q⟩, fun _ _ _ n _ => n, fun b ob q _ => ⟨ob, k b ob q⟩, fun _ _ q => q, fun _ _ _ q => q, fun _ ps q => ⟨#[], by rw [q]; simp⟩⟩
theorem Un.refl : Un fs ex H H h h := Un.kept fun _ _ q => q
theorem Un.laid (k : ∀ b u, h.get? b = some u → h'.get? b = some u) (hp : h.objs.size ≤ a) (hn : H a = none) : Un fs ex H (upd H a o) h h' where
  keep := fun b u q _ _ _ => k b u q
  slot := fun b u q _ _ _ => ⟨u.slots, k b u q⟩
  free := fun b u q n _ => by rw [upd_ne (Nat.ne_of_lt (Nat.lt_of_lt_of_le (Heap.lt_size q) hp))]; exact n
  there := fun b u q _ => ⟨u, k b u q⟩
  tups := fun b xs q => by rw [upd_ne (ne_of_none q hn)]; exact q
  frzs := fun b u xs q => by rw [upd_ne (ne_of_none q hn)]; exact q
  tbls := fun b ps q => ⟨#[], by rw [upd_ne (ne_of_none q hn), q]; simp⟩
theorem Un.write (mu : Mut (H x)) (he : e = x ∨ H e = some (.own x)) (k : ∀ b u, b ≠ e → h.get? b = some u → h'.get? b = some u) (heo : ∃ u, h'.get? e = some u) : Un fs ex H (upd H x o) h h' := by
  have hx : ∀ b, H b = none → b ≠ x := fun b n z => by subst z; rw [n] at mu; exact mu
  have hb : ∀ b, H b = none → b ≠ e := fun b n z => by
    subst z
    rcases he with r | r
    · exact hx b n r
    · rw [n] at r; cases r
  have hm : ∀ b u, H b = some u → ¬ Mut (some u) → b ≠ x := fun b u q nm z => by subst z; rw [q] at mu; exact nm mu
  refine ⟨fun b u q n _ _ => k b u (hb b n) q, fun b u q n _ _ => ⟨u.slots, k b u (hb b n) q⟩, fun b u q n _ => by rw [upd_ne (hx b n)]; exact n, fun b u q _ => ?_,
    fun b xs q => by rw [upd_ne (hm b _ q fun z => z)]; exact q, fun b u xs q => by rw [upd_ne (hm b _ q fun z => z)]; exact q, fun b ps q => ⟨#[], by rw [upd_ne (hm b _ q fun z => z), q]; simp⟩⟩
  by_cases hbe : b = e
  · subst hbe; exact heo
  · exact ⟨u, k b u hbe q⟩
end

/-! ### the heap without what is tracked -/
def trk (h : Heap) (H : Hp) : List Addr := (List.range h.objs.size).filter fun a => (H a).isSome
def hidT (h : Heap) (H : Hp) : Heap := PySem.W.hideAll h (trk h H)
theorem hidT_size (h : Heap) (H : Hp) : (hidT h H).objs.size = h.objs.size := PySem.W.hideAll_size _ _
theorem hidT_get {h : Heap} {H : Hp} {b : Addr} {o : Obj} (e : h.get? b = some o) (n : H b = none) : (hidT h H).get? b = some o :=
  PySem.W.hideAll_get _ e fun hm => by
    have q : (H b).isSome = true := (List.mem_filter.mp hm).2
    rw [n] at q; simp at q
theorem of_hidT {h : Heap} {H : Hp} {b : Addr} {o : Obj} (e : (hidT h H).get? b = some o) : h.get? b = some o ∧ H b = none := by
  have e' : h.get? b = some o := PySem.W.of_hideAll (trk h H) e
  refine ⟨e', ?_⟩
  cases q : H b with
  | none => rfl
  | some x =>
    have hm : b ∈ trk h H := List.mem_filter.mpr ⟨List.mem_range.mpr (Heap.lt_size e'), by simp [q]⟩
    have z : (hidT h H).get? b = none := PySem.W.hideAll_none (trk h H) hm
    rw [z] at e; cases e

/-! ### OpenK's ledger, filled with every new object but one -/
def allNews (g h : Heap) (L : Addr) : List (Addr × Obj) := (List.range h.objs.size).filterMap fun a => if a = L ∨ (g.get? a).isSome = true then none else (h.get? a).map fun o => (a, o)
def rest (g h : Heap) (L d : Addr) : List (Addr × Obj) := (allNews g h L).filter fun p => decide (p.1 ≠ d)
end L2

namespace L2
open PySem PySem.Spec PyProof.Rows

/-- the module's facts, over the base: the heap at the law's entry without what is tracked there -/
structure Mod (K : PySem.W.Frag) (mg : Str → Option Value) (base : Heap) : Prop where
  kin : K.In base
  glob : base.Ns mainGlobals mg
  blt : ∃ mb, base.Ns builtinsNs mb ∧ ∀ x : Str, x ≠ "__name__" → mb x = bootBuiltins x
  nolimit : base.NoLimit

/-- the context: a def's body (or a comprehension's block) running. base: fixed through the whole law; s₀, H₀: the entry; outer: the frames whose slots others may change (a def's callers); stack: all frames that run;
   ex: iterators that were made ahead of the entry and are walked here (a comprehension's); fn: the names whose cells were made at the entry (a def: all; a comprehension's block: its own); calm: not within an except suite; pn: pins that every state bears; xe: what is wanted of an exception that leaves the code -/
structure Cx where
  prog : Program
  w : World
  K : PySem.W.Frag
  mg : Str → Option Value
  base : Heap
  A : Around
  N : List Str
  s₀ : Shared
  H₀ : Hp
  env : Env
  outer : List Env
  stack : List Env
  ex : List Addr
  fn : Str → Bool
  calm : Bool
  pn : List (Addr × Obj)
  xe : Value → Shared → Prop
/-- the callers' frames -/
def frs (l : List Env) : List Addr := l.filterMap (·.frame)
abbrev Cx.fs (X : Cx) : List Addr := frs X.outer

def Vis (sc : Scope) (x : Str) : Prop := sc.names.lookup x = some .local ∨ sc.names.lookup x = some .cell ∨ sc.names.lookup x = some .free
def Loc (sc : Scope) (x : Str) : Prop := sc.names.lookup x = some .local ∨ sc.names.lookup x = some .cell
def Look (env : Env) (h : Heap) (m : Str → Option Value) (x : Str) (u : Value) : Prop :=
  (env.kindOf x = some .local ∧ m x = some u) ∨ ((env.kindOf x = some .cell ∨ env.kindOf x = some .free) ∧ ∃ c, env.cells.lookup x = some c ∧ h.IsCell c (some u))

structure Cx.Ok (X : Cx) : Prop where
  mod : Mod X.K X.mg X.base
  kind : X.env.scope.kind = .function
  glob : X.env.globals = mainGlobals
  blt : X.env.builtins = builtinsNs
  above : X.s₀.heap.objs.size ≤ X.env.locals
  inj : ∀ x y c, X.env.cells.lookup x = some c → X.env.cells.lookup y = some c → x = y
  has : ∀ x, (X.env.kindOf x = some .cell ∨ X.env.kindOf x = some .free) → ∃ c, X.env.cells.lookup x = some c
  cab : ∀ x c, X.fn x = true → X.env.cells.lookup x = some c → X.s₀.heap.objs.size ≤ c
  hd : X.calm = true → X.A.handled = none
  frames : X.A.frames = some X.stack
  stk : X.stack = X.outer ∨ (X.stack = X.env :: X.outer ∧ X.env.frame = some X.env.locals)
  exf : ∀ b ∈ X.ex, b ≠ X.env.locals ∧ ∀ x c, X.env.cells.lookup x = some c → c ≠ b
  bs : ∀ b o, X.base.get? b = some o → X.s₀.heap.get? b = some o ∧ X.H₀ b = none
  bsz : X.base.objs.size ≤ X.s₀.heap.objs.size
  noex : ∀ b o, X.base.get? b = some o → b ∉ X.ex
  exfs : ∀ b ∈ X.ex, b ∉ X.fs
  funs : X.s₀.heap.FunFrames X.base X.outer
  frf : ∀ b ∈ X.fs, X.H₀ b = none

structure Inv (X : Cx) (pins : List (Addr × Obj)) (σ : List (Option V)) (H : Hp) (s : Shared) : Prop where
  ok : X.Ok
  os : s.os = X.s₀.os
  bare : AllBare s.gens
  base : Un X.fs X.ex X.H₀ H X.s₀.heap s.heap
  loc : ∃ m, s.heap.Ns X.env.locals m ∧ ∀ (i : Nat) (x : Str) (v : V), X.N[i]? = some x → σ[i]? = some (some v) → Vis X.env.scope x → ∃ u, RelV v u ∧ Look X.env s.heap m x u
  cell : ∀ x c, X.env.cells.lookup x = some c → ∃ v, s.heap.IsCell c v
  free : H X.env.locals = none
  freeC : ∀ x c, X.env.cells.lookup x = some c → H c = none
  pin : ∀ p ∈ X.pn ++ pins, s.heap.get? p.1 = some p.2 ∧ H p.1 = none ∧ p.1 ≠ X.env.locals ∧ p.1 ∉ X.fs ∧ ∀ v, p.2.data ≠ .cell v
  hok : HOk X.prog X.w H s.heap
  len : σ.length = X.N.length

section
variable {X : Cx} {pins : List (Addr × Obj)} {σ : List (Option V)} {H H' : Hp} {s : Shared} {h' : Heap}

theorem Cx.Ok.nofr (ok : X.Ok) {b : Addr} {o : Obj} (e : X.base.get? b = some o) : b ∉ X.fs := fun hb => by
  have := (ok.funs.mem hb).1
  rw [e] at this; cases this
theorem Inv.bs (I : Inv X pins σ H s) : ∀ b o, X.base.get? b = some o → s.heap.get? b = some o ∧ H b = none := fun b o e =>
  ⟨I.base.keep b o (I.ok.bs b o e).1 (I.ok.bs b o e).2 (I.ok.nofr e) (I.ok.noex b o e), I.base.free b o (I.ok.bs b o e).1 (I.ok.bs b o e).2 (I.ok.noex b o e)⟩
theorem Inv.bk (I : Inv X pins σ H s) : ∀ b o, X.base.get? b = some o → s.heap.get? b = some o := fun b o e => (I.bs b o e).1
theorem Inv.mod (I : Inv X pins σ H s) : Mod X.K X.mg X.base := I.ok.mod
theorem Inv.kIn (I : Inv X pins σ H s) : X.K.In s.heap := I.ok.mod.kin.keeps I.bk
theorem Inv.lt (I : Inv X pins σ H s) : X.env.locals < s.heap.objs.size := let ⟨_, hn, _⟩ := I.loc; hn.lt
theorem Inv.sz (I : Inv X pins σ H s) : X.s₀.heap.objs.size ≤ s.heap.objs.size := Nat.le_trans I.ok.above (Nat.le_of_lt I.lt)
theorem Inv.nofs (I : Inv X pins σ H s) {a : Addr} (h : s.heap.objs.size ≤ a) : a ∉ X.fs := fun hb => by
  obtain ⟨_, o, ho, _⟩ := I.ok.funs.mem hb
  exact absurd (Nat.lt_of_lt_of_le (Heap.lt_size ho) (Nat.le_trans I.sz h)) (Nat.lt_irrefl _)
theorem Inv.cne (I : Inv X pins σ H s) : ∀ x c, X.env.cells.lookup x = some c → c ≠ X.env.locals := fun x c e z => by
  obtain ⟨v, o, ho, hd⟩ := I.cell x c e
  obtain ⟨m, ⟨o', es, ep, ho', hd', _⟩, _⟩ := I.loc
  rw [z, ho'] at ho; cases ho; rw [hd'] at hd; cases hd
theorem Inv.funs (I : Inv X pins σ H s) : s.heap.FunFrames X.base X.outer := by
  have all : ∀ (l : List Env), (∀ b ∈ frs l, b ∈ X.fs) → X.s₀.heap.FunFrames X.base l → s.heap.FunFrames X.base l := by
    intro l
    induction l with
    | nil => intro _ _; trivial
    | cons env r ih =>
      intro hs hl
      obtain ⟨hk, ⟨L, o, hf, hn, ho, hd⟩, hr⟩ := hl
      have hL : L ∈ X.fs := hs L (by unfold frs; rw [List.filterMap_cons, hf]; exact List.mem_cons_self)
      obtain ⟨sl, e⟩ := I.base.slot L o ho (I.ok.frf L hL) hL fun z => I.ok.exfs L z hL
      exact ⟨hk, ⟨L, _, hf, hn, e, hd⟩, ih (fun b hb => hs b (by unfold frs; rw [List.filterMap_cons, hf]; exact List.mem_cons_of_mem _ hb)) hr⟩
  exact all X.outer (fun _ hb => hb) I.ok.funs

/-- the frames that run, for a call -/
theorem Inv.stack (I : Inv X pins σ H s) : s.heap.FunFrames X.base X.stack := by
  rcases I.ok.stk with e | ⟨e, hf⟩
  · rw [e]; exact I.funs
  · rw [e]
    obtain ⟨m, hn, _⟩ := I.loc
    refine .cons (by rw [I.ok.kind]; decide) hf hn ?_ I.funs
    exact Heap.get?_none_of_le (Nat.le_trans I.ok.bsz I.ok.above)
theorem Inv.stkSub (I : Inv X pins σ H s) : ∀ b ∈ frs X.stack, b ∈ X.env.locals :: X.fs := fun b hb => by
  rcases I.ok.stk with e | ⟨e, hf⟩
  · rw [e] at hb; exact List.mem_cons_of_mem _ hb
  · rw [e] at hb
    unfold frs at hb
    rw [List.filterMap_cons, hf] at hb
    exact hb
theorem Inv.stkFree (I : Inv X pins σ H s) : ∀ b ∈ frs X.stack, H b = none := fun b hb => by
  rcases List.mem_cons.mp (I.stkSub b hb) with e | hb
  · rw [e]; exact I.free
  · obtain ⟨_, o, ho, _⟩ := I.ok.funs.mem hb
    exact I.base.free b o ho (I.ok.frf b hb) fun z => I.ok.exfs b z hb

/-- THE STEP: the untracked objects but the frame and the records at ch are kept (the callers' frames up to slots), the frame's map is kept, the new abstract heap is held -/
theorem Inv.step {g' : Array GenState} {t' : Nat} {d' : Drawn} {ch : List Addr} (I : Inv X pins σ H s)
    (hch : ∀ b ∈ ch, (b ∈ X.ex ∨ X.s₀.heap.objs.size ≤ b) ∧ b ≠ X.env.locals ∧ (∀ x c, X.env.cells.lookup x = some c → c ≠ b) ∧ ∀ p ∈ X.pn ++ pins, p.1 ≠ b)
    (keep : ∀ b o, b ≠ X.env.locals → b ∉ X.fs → b ∉ ch → s.heap.get? b = some o → H b = none → h'.get? b = some o)
    (slot : ∀ b o, b ≠ X.env.locals → b ∈ X.fs → b ∉ ch → s.heap.get? b = some o → H b = none → ∃ sl, h'.get? b = some { o with slots := sl }) (free : ∀ b o, b ∉ ch → s.heap.get? b = some o → H b = none → H' b = none)
    (there : ∀ b o, b ∉ ch → s.heap.get? b = some o → ∃ o', h'.get? b = some o')
    (tups : ∀ b xs, H b = some (.tup xs) → H' b = some (.tup xs)) (frzs : ∀ b o u, H b = some (.frz o u) → H' b = some (.frz o u)) (tbls : ∀ b ps, H b = some (.tbl ps) → ∃ more, H' b = some (.tbl (ps ++ more)))
    (ns : ∀ m, s.heap.Ns X.env.locals m → h'.Ns X.env.locals m) (hok : HOk X.prog X.w H' h') (hg : AllBare g') :
    Inv X pins σ H' { s with heap := h', gens := g', drawn := d', toks := t' } := by
  have neL : ∀ b o, X.s₀.heap.get? b = some o → b ≠ X.env.locals := fun b o e => Nat.ne_of_lt (Nat.lt_of_lt_of_le (Heap.lt_size e) I.ok.above)
  have neC : ∀ b o, X.s₀.heap.get? b = some o → b ∉ X.ex → b ∉ ch := fun b o e hx hb => by
    rcases (hch b hb).1 with z | z
    · exact hx z
    · exact absurd (Nat.lt_of_lt_of_le (Heap.lt_size e) z) (Nat.lt_irrefl _)
  have cellK : ∀ x c, X.env.cells.lookup x = some c → ∀ v, s.heap.IsCell c v → h'.IsCell c v := fun x c e v ⟨o, ho, hd⟩ => by
    have nch : c ∉ ch := fun z => (hch c z).2.2.1 x c e rfl
    by_cases hc : c ∈ X.fs
    · obtain ⟨sl, q⟩ := slot c o (I.cne x c e) hc nch ho (I.freeC x c e)
      exact ⟨_, q, hd⟩
    · exact ⟨o, keep c o (I.cne x c e) hc nch ho (I.freeC x c e), hd⟩
  refine ⟨I.ok, I.os, hg, ⟨fun b o e n hb hx => ?_, fun b o e n hb hx => ?_, fun b o e n hx => ?_, fun b o e hx => ?_, fun b xs e => tups b xs (I.base.tups b xs e), fun b o xs e => frzs b o xs (I.base.frzs b o xs e), fun b ps e => ?_⟩, ?_, fun x c e => ?_, ?_, fun x c e => ?_, fun p hp => ?_, hok, I.len⟩
  · exact keep b o (neL b o e) hb (neC b o e hx) (I.base.keep b o e n hb hx) (I.base.free b o e n hx)
  · obtain ⟨sl, e1⟩ := I.base.slot b o e n hb hx
    obtain ⟨sl', e2⟩ := slot b _ (neL b o e) hb (neC b o e hx) e1 (I.base.free b o e n hx)
    exact ⟨sl', e2⟩
  · obtain ⟨o', e1⟩ := I.base.there b o e hx
    exact free b o' (neC b o e hx) e1 (I.base.free b o e n hx)
  · obtain ⟨o', e1⟩ := I.base.there b o e hx
    exact there b o' (neC b o e hx) e1
  · obtain ⟨m1, e1⟩ := I.base.tbls b ps e
    obtain ⟨m2, e2⟩ := tbls b _ e1
    exact ⟨m1 ++ m2, by rw [e2, Array.append_assoc]⟩
  · obtain ⟨m, hn, hl⟩ := I.loc
    refine ⟨m, ns m hn, fun i x v e1 e2 e3 => ?_⟩
    obtain ⟨u, r, l⟩ := hl i x v e1 e2 e3
    refine ⟨u, r, ?_⟩
    rcases l with l | ⟨k, c, e, z⟩
    · exact .inl l
    · exact .inr ⟨k, c, e, cellK x c e _ z⟩
  · obtain ⟨v, z⟩ := I.cell x c e
    exact ⟨v, cellK x c e v z⟩
  · obtain ⟨m, ⟨o, _, _, ho, _⟩, _⟩ := I.loc
    exact free _ o (fun z => (hch _ z).2.1 rfl) ho I.free
  · obtain ⟨v, o, ho, hd⟩ := I.cell x c e
    exact free c o (fun z => (hch c z).2.2.1 x c e rfl) ho (I.freeC x c e)
  · obtain ⟨e, n, ne, nf, d⟩ := I.pin p hp
    have nch : p.1 ∉ ch := fun z => (hch p.1 z).2.2.2 p hp rfl
    exact ⟨keep p.1 p.2 ne nf nch e n, free p.1 p.2 nch e n, ne, nf, d⟩
/-- .. where the frame's own object is kept too -/
theorem Inv.un {t' : Nat} (I : Inv X pins σ H s) (u : Un X.fs [] H H' s.heap h') (hok : HOk X.prog X.w H' h') : Inv X pins σ H' { s with heap := h', toks := t' } := by
  obtain ⟨m, ⟨o, es, ep, ho, r⟩, _⟩ := id I.loc
  obtain ⟨sl, hL⟩ := u.any ho I.free (by simp)
  exact I.step (g' := s.gens) (d' := s.drawn) (ch := []) (fun _ z => nomatch z) (fun b o _ hb _ e n => u.keep b o e n hb (by simp)) (fun b o _ hb _ e n => u.slot b o e n hb (by simp)) (fun b o _ e n => u.free b o e n (by simp)) (fun b o _ e => u.there b o e (by simp)) u.tups u.frzs u.tbls (fun m' hm => by
    obtain ⟨o', es', ep', ho', r'⟩ := hm
    rw [ho] at ho'; cases ho'
    exact ⟨_, es', ep', hL, r'⟩) hok I.bare
/-- behind a call (or a comprehension's block): the slots of this frame may have changed too, the records at ch may have turned -/
theorem Inv.call {g' : Array GenState} {t' : Nat} {d' : Drawn} {ch : List Addr} (I : Inv X pins σ H s) (u : Un (frs X.stack) ch H H' s.heap h') (hok : HOk X.prog X.w H' h') (hg : AllBare g')
    (hch : ∀ b ∈ ch, (b ∈ X.ex ∨ X.s₀.heap.objs.size ≤ b) ∧ b ≠ X.env.locals ∧ (∀ x c, X.env.cells.lookup x = some c → c ≠ b) ∧ ∀ p ∈ X.pn ++ pins, p.1 ≠ b) :
    Inv X pins σ H' { s with heap := h', gens := g', drawn := d', toks := t' } := by
  obtain ⟨m, ⟨o, es, ep, ho, r⟩, _⟩ := id I.loc
  obtain ⟨sl, hL⟩ := u.any ho I.free fun z => (hch _ z).2.1 rfl
  exact I.step (ch := ch) hch (fun b o hL hb hc e n => u.keep b o e n (fun z => (List.mem_cons.mp (I.stkSub b z)).elim hL hb) hc) (fun b o _ _ hc e n => u.any e n hc) (fun b o hc e n => u.free b o e n hc) (fun b o hc e => u.there b o e hc) u.tups u.frzs u.tbls (fun m' hm => by
    obtain ⟨o', es', ep', ho', r'⟩ := hm
    rw [ho] at ho'; cases ho'
    exact ⟨_, es', ep', hL, r'⟩) hok hg
/-- an untracked record of ours (an iterator) has turned -/
theorem Inv.turned {t' : Nat} {it : Addr} (I : Inv X pins σ H s) (k : ∀ b o, b ≠ it → s.heap.get? b = some o → h'.get? b = some o) (hn : H it = none) (hL : it ≠ X.env.locals)
    (h1 : it ∈ X.ex ∨ X.s₀.heap.objs.size ≤ it) (h2 : ∀ x c, X.env.cells.lookup x = some c → c ≠ it) (h3 : ∀ p ∈ X.pn ++ pins, p.1 ≠ it) : Inv X pins σ H { s with heap := h', toks := t' } := by
  have nit : ∀ b u, H b = some u → b ≠ it := fun b u e z => by rw [z, hn] at e; cases e
  refine I.step (g' := s.gens) (d' := s.drawn) (ch := [it]) (fun b hb => ?_) (fun b o _ _ hc e _ => k b o (fun z => hc (by simp [z])) e) (fun b o _ _ hc e _ => ⟨o.slots, k b o (fun z => hc (by simp [z])) e⟩) (fun _ _ _ _ n => n)
    (fun b o hc e => ⟨o, k b o (fun z => hc (by simp [z])) e⟩) (fun _ _ e => e) (fun _ _ _ e => e) (fun b ps e => ⟨#[], by rw [e]; simp⟩) (fun m hm => ?_) (fun b u e => ?_) I.bare
  · have e : b = it := by simpa using hb
    subst e
    exact ⟨h1, hL, h2, h3⟩
  · obtain ⟨o, es, ep, ho, r⟩ := hm
    exact ⟨o, es, ep, k _ o (Ne.symm hL) ho, r⟩
  · refine (I.hok b u e).stay (fun c v hc q => k c v ?_ q) (fun _ q => q) fun _ _ q => q
    rcases hc with z | z
    · rw [z]; exact nit b u e
    · exact nit c _ z
theorem Inv.tok (I : Inv X pins σ H s) (t : Nat) : Inv X pins σ H { s with toks := t } := I.un (h' := s.heap) (t' := t) Un.refl I.hok
/-- all objects kept -/
theorem Inv.kept {t' : Nat} (I : Inv X pins σ H s) (k : ∀ b u, s.heap.get? b = some u → h'.get? b = some u) : Inv X pins σ H { s with heap := h', toks := t' } := I.un (Un.kept k) (I.hok.kept k)
/-- a new object laid and tracked -/
theorem Inv.laid {a : Addr} {o : HO} {t' : Nat} (I : Inv X pins σ H s) (k : ∀ b u, s.heap.get? b = some u → h'.get? b = some u) (hp : s.heap.objs.size ≤ a) (new : ObjOk X.prog X.w (upd H a o) h' a o) :
    Inv X pins σ (upd H a o) { s with heap := h', toks := t' } := I.un (Un.laid k hp (I.hok.fresh hp)) (I.hok.laid k hp new)
/-- an object written -/
theorem Inv.write {x e : Addr} {o : HO} {t' : Nat} (I : Inv X pins σ H s) (mu : Mut (H x)) (he : e = x ∨ H e = some (.own x)) (k : ∀ b u, b ≠ e → s.heap.get? b = some u → h'.get? b = some u) (heo : ∃ u, h'.get? e = some u)
    (new : ObjOk X.prog X.w (upd H x o) h' x o) : Inv X pins σ (upd H x o) { s with heap := h', toks := t' } := I.un (Un.write mu he k heo) (I.hok.write mu he k heo new)
theorem Inv.pins_of {pins' : List (Addr × Obj)} (I : Inv X pins σ H s) (h : ∀ p ∈ pins', s.heap.get? p.1 = some p.2 ∧ H p.1 = none ∧ p.1 ≠ X.env.locals ∧ p.1 ∉ X.fs ∧ ∀ v, p.2.data ≠ .cell v) : Inv X pins' σ H s :=
  ⟨I.ok, I.os, I.bare, I.base, I.loc, I.cell, I.free, I.freeC, fun p hp => (List.mem_append.mp hp).elim (fun z => I.pin p (List.mem_append_left _ z)) (h p), I.hok, I.len⟩

theorem nodup_ix {N : List Str} (hN : N.Nodup) {i j : Nat} {x : Str} (a : N[i]? = some x) (b : N[j]? = some x) : i = j := by
  obtain ⟨h1, e1⟩ := List.getElem?_eq_some_iff.mp a
  obtain ⟨h2, e2⟩ := List.getElem?_eq_some_iff.mp b
  exact (List.getElem_inj hN).mp (e1.trans e2.symm)

/-- a name is stored; what changed -/
theorem store_ok2 {M : Model} {A : Around} {E : Value → Shared → Prop} {i : Nat} {x : Str} {v : V} {u : Value} {Q : Unit → Shared → Prop} (I : Inv X pins σ H s) (hN : X.N.Nodup) (hi : X.N[i]? = some x) (hx : Loc X.env.scope x) (r : RelV v u)
    (h : ∀ s', Inv X pins (σ.set i (some v)) H s' → (∃ a, Heap.SameBut a s.heap s'.heap ∧ (a = X.env.locals ∨ X.env.cells.lookup x = some a)) → Q () s') (hf : X.fn x = true ∨ X.env.scope.names.lookup x = some .local := by first | exact .inl rfl | exact .inr rfl | assumption) : wpAny M A (storeName X.env x u) Q E s := by
  obtain ⟨m, hn, hl⟩ := id I.loc
  have hcls : (X.env.scope.kind == .class || (X.env.scope.kind == .module && X.env.locals != X.env.globals)) = false := by rw [I.ok.kind]; rfl
  have hiσ : i < σ.length := by rw [I.len]; exact (List.getElem?_eq_some_iff.mp hi).1
  have cne := I.cne
  have tracked : ∀ {a : Addr} {h' : Heap}, (∃ o, s.heap.get? a = some o ∧ H a = none) → Heap.SameBut a s.heap h' → HOk X.prog X.w H h' := fun {a h'} ha hs b ob e => by
    obtain ⟨_, _, hfree⟩ := ha
    refine (I.hok b ob e).stay (fun c w' hc q => (hs.2 c ?_).trans q) (fun _ q => q) fun _ _ q => q
    rintro rfl
    rcases hc with rfl | hc
    · rw [hfree] at e; cases e
    · rw [hfree] at hc; cases hc
  rcases hx with hk | hk
  · refine wpAny_storeName_local hk hn (fun h' hn' hs => ?_) hcls
    obtain ⟨oL, _, _, hoL, _⟩ := id hn
    refine h _ ⟨I.ok, I.os, I.bare, ⟨fun b o e n hb hx => ?_, fun b o e n hb hx => ?_, I.base.free, fun b o e hx => ?_, I.base.tups, I.base.frzs, I.base.tbls⟩, ⟨_, hn', fun j y v' e1 e2 e3 => ?_⟩, fun y c e => ?_, I.free, I.freeC, fun p hp => ?_, tracked ⟨oL, hoL, I.free⟩ hs, by simpa using I.len⟩ ⟨_, hs, .inl rfl⟩
    · exact (hs.2 b (Nat.ne_of_lt (Nat.lt_of_lt_of_le (Heap.lt_size e) I.ok.above))).trans (I.base.keep b o e n hb hx)
    · obtain ⟨sl, e1⟩ := I.base.slot b o e n hb hx
      exact ⟨sl, (hs.2 b (Nat.ne_of_lt (Nat.lt_of_lt_of_le (Heap.lt_size e) I.ok.above))).trans e1⟩
    · obtain ⟨o', e1⟩ := I.base.there b o e hx
      exact ⟨o', (hs.2 b (Nat.ne_of_lt (Nat.lt_of_lt_of_le (Heap.lt_size e) I.ok.above))).trans e1⟩
    · by_cases hj : j = i
      · subst hj
        rw [hi] at e1; cases e1
        rw [List.getElem?_set_self hiσ] at e2
        cases e2
        exact ⟨u, r, .inl ⟨hk, by simp⟩⟩
      · rw [List.getElem?_set_ne (Ne.symm hj)] at e2
        obtain ⟨u', r', q⟩ := hl j y v' e1 e2 e3
        refine ⟨u', r', ?_⟩
        rcases q with ⟨k, e⟩ | ⟨k, c, e, z⟩
        · refine .inl ⟨k, ?_⟩
          have : y ≠ x := fun e => hj (nodup_ix hN e1 (e ▸ hi))
          simp [this, e]
        · exact .inr ⟨k, c, e, z.sameBut hs (cne y c e)⟩
    · obtain ⟨w', z⟩ := I.cell y c e
      exact ⟨w', z.sameBut hs (cne y c e)⟩
    · obtain ⟨e, n, ne, nf, d⟩ := I.pin p hp
      exact ⟨(hs.2 p.1 ne).trans e, n, ne, nf, d⟩
  · have hfn : X.fn x = true := by
      rcases hf with z | z
      · exact z
      · rw [z] at hk; cases hk
    obtain ⟨c, hc⟩ := I.ok.has x (.inl hk)
    obtain ⟨w', z⟩ := I.cell x c hc
    refine wpAny_storeName_cell I.ok.kind hk hc z (fun h' hc' hs => ?_)
    obtain ⟨oc, hoc, hocd⟩ := id z
    refine h { s with heap := h' } ⟨I.ok, I.os, I.bare, ⟨fun b o e n hb hx => ?_, fun b o e n hb hx => ?_, I.base.free, fun b o e hx => ?_, I.base.tups, I.base.frzs, I.base.tbls⟩, ⟨m, hn.sameBut hs (Ne.symm (cne x c hc)), fun j y v' e1 e2 e3 => ?_⟩, fun y c' e => ?_, I.free, I.freeC, fun p hp => ?_, tracked ⟨oc, hoc, I.freeC x c hc⟩ hs, by simpa using I.len⟩ ⟨c, hs, .inr hc⟩
    · exact (hs.2 b (Nat.ne_of_lt (Nat.lt_of_lt_of_le (Heap.lt_size e) (I.ok.cab x c hfn hc)))).trans (I.base.keep b o e n hb hx)
    · obtain ⟨sl, e1⟩ := I.base.slot b o e n hb hx
      exact ⟨sl, (hs.2 b (Nat.ne_of_lt (Nat.lt_of_lt_of_le (Heap.lt_size e) (I.ok.cab x c hfn hc)))).trans e1⟩
    · obtain ⟨o', e1⟩ := I.base.there b o e hx
      exact ⟨o', (hs.2 b (Nat.ne_of_lt (Nat.lt_of_lt_of_le (Heap.lt_size e) (I.ok.cab x c hfn hc)))).trans e1⟩
    · by_cases hj : j = i
      · subst hj
        rw [hi] at e1; cases e1
        rw [List.getElem?_set_self hiσ] at e2
        cases e2
        exact ⟨u, r, .inr ⟨.inl hk, c, hc, hc'⟩⟩
      · rw [List.getElem?_set_ne (Ne.symm hj)] at e2
        obtain ⟨u', r', q⟩ := hl j y v' e1 e2 e3
        refine ⟨u', r', ?_⟩
        rcases q with q | ⟨k, c', e, z'⟩
        · exact .inl q
        · refine .inr ⟨k, c', e, z'.sameBut hs ?_⟩
          rintro rfl
          exact hj (nodup_ix hN e1 (I.ok.inj _ _ _ e hc ▸ hi))
    · by_cases hcc : c' = c
      · subst hcc; exact ⟨_, hc'⟩
      · obtain ⟨w2, z2⟩ := I.cell y c' e
        exact ⟨w2, z2.sameBut hs hcc⟩
    · obtain ⟨e, n, ne, nf, d⟩ := I.pin p hp
      refine ⟨(hs.2 p.1 ?_).trans e, n, ne, nf, d⟩
      intro q
      rw [q, hoc] at e
      have q' : oc = p.2 := Option.some.inj e
      exact d w' (by rw [← q']; exact hocd)
theorem store_ok {M : Model} {A : Around} {E : Value → Shared → Prop} {i : Nat} {x : Str} {v : V} {u : Value} {Q : Unit → Shared → Prop} (I : Inv X pins σ H s) (hN : X.N.Nodup) (hi : X.N[i]? = some x) (hx : Loc X.env.scope x) (r : RelV v u)
    (h : ∀ s', Inv X pins (σ.set i (some v)) H s' → Q () s') (hf : X.fn x = true ∨ X.env.scope.names.lookup x = some .local := by first | exact .inl rfl | exact .inr rfl | assumption) : wpAny M A (storeName X.env x u) Q E s :=
  store_ok2 I hN hi hx r (fun s' I' _ => h s' I') hf
end

/-! ### the judgements -/
/-- an exception: its class, its own dict's address (where it has one), the abstract heap behind it -/
abbrev XK := Value → Option Addr → Hp → Prop
abbrev St := List (Option V)
abbrev VK := V → Hp → Prop
/-- an expression's reading; a test's; an argument list's -/
abbrev TE := St → Hp → VK → Prop
abbrev TT := St → Hp → (Bool → Hp → Prop) → Prop
abbrev TA := St → Hp → (List V → Hp → Prop) → Prop
/-- what is wanted behind a statement -/
structure Ends where
  nx : St → Hp → Prop
  rt : VK
  bk : St → Hp → Prop := fun _ _ => False
  ct : St → Hp → Prop := fun _ _ => False
abbrev TS := Ends → St → Hp → Prop

def EP (X : Cx) (pins : List (Addr × Obj)) (σ : St) (Q : VK) (u : Value) (s' : Shared) : Prop := ∃ v H', Inv X pins σ H' s' ∧ RelV v u ∧ Q v H'
def TP (X : Cx) (pins : List (Addr × Obj)) (σ : St) (Q : Bool → Hp → Prop) (b : Bool) (s' : Shared) : Prop := ∃ H', Inv X pins σ H' s' ∧ Q b H'
def AP (X : Cx) (pins : List (Addr × Obj)) (σ : St) (Q : List V → Hp → Prop) (us : List Value) (s' : Shared) : Prop := ∃ vs H', Inv X pins σ H' s' ∧ Vals vs us ∧ Q vs H'
def SP (X : Cx) (pins : List (Addr × Obj)) (D : Ends) (f : Flow) (s' : Shared) : Prop :=
  match f with
  | .next => ∃ σ' H', Inv X pins σ' H' s' ∧ D.nx σ' H'
  | .brk => ∃ σ' H', Inv X pins σ' H' s' ∧ D.bk σ' H'
  | .cont => ∃ σ' H', Inv X pins σ' H' s' ∧ D.ct σ' H'
  | .ret u => ∃ v σ' H', Inv X pins σ' H' s' ∧ RelV v u ∧ D.rt v H'

def PE (X : Cx) (e : Expr) (t : TE) : Prop :=
  ∀ (pins : List (Addr × Obj)) (s : Shared) (σ : St) (H : Hp) (Q : VK), Inv X pins σ H s → t σ H Q → wpAny (model X.prog X.w) X.A (eval e X.env) (EP X pins σ Q) X.xe s
def PT (X : Cx) (e : Expr) (t : TT) : Prop :=
  ∀ (pins : List (Addr × Obj)) (s : Shared) (σ : St) (H : Hp) (Q : Bool → Hp → Prop), Inv X pins σ H s → t σ H Q → wpAny (model X.prog X.w) X.A (isTrue e X.env (eval e X.env)) (TP X pins σ Q) X.xe s
/-- a test whatever its 'whole' is (and, or) -/
def PW (X : Cx) (e : Expr) (t : TT) : Prop :=
  ∀ (whole : Sem Value) (pins : List (Addr × Obj)) (s : Shared) (σ : St) (H : Hp) (Q : Bool → Hp → Prop), Inv X pins σ H s → t σ H Q → wpAny (model X.prog X.w) X.A (isTrue e X.env whole) (TP X pins σ Q) X.xe s
theorem PW.pt {X : Cx} {e : Expr} {t : TT} (h : PW X e t) : PT X e t := h _
/-- an argument list (no star), from the left -/
def PA (X : Cx) (es : List Expr) (t : TA) : Prop :=
  ∀ (pos : Pos) (pins : List (Addr × Obj)) (s : Shared) (σ : St) (H : Hp) (Q : List V → Hp → Prop), Inv X pins σ H s → t σ H Q → wpAny (model X.prog X.w) X.A (spliced (backTo pos (starEach es X.env))) (AP X pins σ Q) X.xe s
def PS (X : Cx) (st : Stmt) (t : TS) : Prop :=
  ∀ (pins : List (Addr × Obj)) (s : Shared) (σ : St) (H : Hp) (D : Ends), Inv X pins σ H s → t D σ H → wpAny (model X.prog X.w) X.A (exec st X.env) (SP X pins D) X.xe s
def PSs (X : Cx) (st : List Stmt) (t : TS) : Prop :=
  ∀ (pins : List (Addr × Obj)) (s : Shared) (σ : St) (H : Hp) (D : Ends), Inv X pins σ H s → t D σ H → wpAny (model X.prog X.w) X.A (execs st X.env) (SP X pins D) X.xe s
/-- weaken the end -/
theorem thn {α : Type} {t : Sem α} {Q Q' : α → Shared → Prop} {M : Model} {A : Around} {E : Value → Shared → Prop} {s : Shared} (h : wpAny M A t Q E s) (hQ : ∀ a s, Q a s → Q' a s) : wpAny M A t Q' E s := wpAny_mono h hQ fun _ _ x => x
end L2

namespace L2
open PySem PySem.Spec PyProof.Rows
section
variable {X : Cx}

/-! ### names and constants -/
def tVar (i : Nat) : TE := fun σ H Q => ∃ v, σ[i]? = some (some v) ∧ Q v H
def tC (v : V) : TE := fun _ H Q => Q v H
theorem pe_var {i : Nat} {x : Str} {pos : Pos} (hN : X.N[i]? = some x) (hv : Vis X.env.scope x) (hd : (x == ("__debug__" : Str)) = false := by decide) (hcd : (x == ("__classdict__" : Str)) = false := by decide) : PE X (.Name x pos) (tVar i) := by
  intro pins s σ H Q I h
  obtain ⟨v, e, h⟩ := h
  obtain ⟨m, hn, hl⟩ := I.loc
  obtain ⟨u, r, l⟩ := hl i x v hN e hv
  have fin : EP X pins σ Q u s := ⟨v, H, I, r, h⟩
  rcases l with ⟨hk, hm⟩ | ⟨hk, c, hc, hcell⟩
  · exact wpAny_Name (wpAny_loadName_local I.ok.kind hk hn hm fin) hd
  · rcases hk with hk | hk
    · exact wpAny_Name (wpAny_loadName_cell I.ok.kind hk hc hcell fin) hd
    · exact wpAny_Name (wpAny_loadName_free I.ok.kind hk hc hcell fin hcd) hd
theorem pe_int {i j pos} : PE X (.Constant (.int i) j pos) (tC (.int i)) := fun _ _ _ H _ I h => wpAny_Constant_int ⟨.int i, H, I.tok _, ⟨_, rfl⟩, h⟩
theorem pe_bl {b j pos} : PE X (.Constant (.bool b) j pos) (tC (.bl b)) := fun _ _ _ H _ I h => Constant_bool ⟨.bl b, H, I, rfl, h⟩
theorem pe_non {j pos} : PE X (.Constant .none j pos) (tC .non) := fun _ _ _ H _ I h => Constant_none ⟨.non, H, I, rfl, h⟩
theorem pe_str {x j pos} : PE X (.Constant (.str x) j pos) (tC (.str x)) := fun _ _ _ H _ I h => Calls.Constant_str ⟨.str x, H, I.tok _, ⟨_, rfl⟩, h⟩

/-- a global name of the def -/
def Gl (X : Cx) (x : Str) : Prop := X.env.kindOf x = some .globalImplicit
theorem ld_glob {E : Value → Shared → Prop} {pins : List (Addr × Obj)} {s : Shared} {σ : St} {H : Hp} {x : Str} {u : Value} {pos : Pos} {Q : Value → Shared → Prop} (I : Inv X pins σ H s) (hg : Gl X x) (hm : X.mg x = some u) (h : Q u s)
    (hd : (x == ("__debug__" : Str)) = false := by decide) : wpAny (model X.prog X.w) X.A (eval (.Name x pos) X.env) Q E s :=
  Calls.Name_function_global I.ok.kind hg (Calls.loadGlobal_global (by rw [I.ok.glob]; exact I.mod.glob.keeps I.bk) hm h) hd
theorem ld_blt {E : Value → Shared → Prop} {pins : List (Addr × Obj)} {s : Shared} {σ : St} {H : Hp} {x : Str} {u : Value} {pos : Pos} {Q : Value → Shared → Prop} (I : Inv X pins σ H s) (hg : Gl X x) (hm : X.mg x = none) (hv : bootBuiltins x = some u) (h : Q u s)
    (hn : x ≠ "__name__" := by decide) (hd : (x == ("__debug__" : Str)) = false := by decide) : wpAny (model X.prog X.w) X.A (eval (.Name x pos) X.env) Q E s := by
  obtain ⟨mb, h1, h2⟩ := I.mod.blt
  exact Calls.Name_function_global I.ok.kind hg (Calls.loadGlobal_builtin (by rw [I.ok.glob]; exact I.mod.glob.keeps I.bk) hm (by rw [I.ok.blt]; exact h1.keeps I.bk) ((h2 x hn).trans hv) h) hd
/-- a module's constant, a class, a function, as a value -/
theorem pe_glob {x : Str} {v : V} {u : Value} {pos : Pos} (hg : Gl X x) (hm : X.mg x = some u) (r : RelV v u) (hd : (x == ("__debug__" : Str)) = false := by decide) : PE X (.Name x pos) (tC v) :=
  fun _ _ _ H _ I h => ld_glob I hg hm ⟨v, H, I, r, h⟩ hd
theorem pe_bltn {x : Str} {v : V} {u : Value} {pos : Pos} (hg : Gl X x) (hm : X.mg x = none) (hv : bootBuiltins x = some u) (r : RelV v u) (hn : x ≠ "__name__" := by decide) (hd : (x == ("__debug__" : Str)) = false := by decide) : PE X (.Name x pos) (tC v) :=
  fun _ _ _ H _ I h => ld_blt I hg hm hv ⟨v, H, I, r, h⟩ hn hd

/-! ### arithmetic -/
/-- two ints -/
def t2I (ta tb : TE) (k : Int → Int → Hp → Prop) : St → Hp → Prop := fun σ H => ta σ H fun x H1 => tb σ H1 fun y H2 => ∃ i j, x = .int i ∧ y = .int j ∧ k i j H2
def tAdd (ta tb : TE) : TE := fun σ H Q => t2I ta tb (fun i j H2 => Q (.int (i + j)) H2) σ H
def tSub (ta tb : TE) : TE := fun σ H Q => t2I ta tb (fun i j H2 => Q (.int (i - j)) H2) σ H
/-- the left factor below 2^64 -/
def tMul (ta tb : TE) : TE := fun σ H Q => t2I ta tb (fun i j H2 => (-(2 ^ 64) < i ∧ i < 2 ^ 64) ∧ Q (.int (i * j)) H2) σ H
variable {a b : Expr} {ta tb : TE} {pos : Pos}
/-! ### comparisons -/
def PC (X : Cx) (op : CmpOp) (a b : Expr) (t : TE) : Prop :=
  ∀ (pins : List (Addr × Obj)) (s : Shared) (σ : St) (H : Hp) (Q : VK), Inv X pins σ H s → t σ H Q →
    wpAny (model X.prog X.w) X.A (eval a X.env) (fun v s₁ => wpAny (model X.prog X.w) X.A (eval b X.env) (fun u s₂ => wpAny (model X.prog X.w) X.A (compareOp op v u) (EP X pins σ Q) X.xe s₂) X.xe s₁) X.xe s
def tCmp (p : Int → Int → Bool) (ta tb : TE) : TE := fun σ H Q => t2I ta tb (fun i j H2 => Q (.bl (p i j)) H2) σ H
abbrev tLt : TE → TE → TE := tCmp fun i j => decide (i < j)
abbrev tLe : TE → TE → TE := tCmp fun i j => decide (i ≤ j)
abbrev tGt : TE → TE → TE := tCmp fun i j => decide (j < i)
abbrev tGe : TE → TE → TE := tCmp fun i j => decide (j ≤ i)
abbrev tEqI : TE → TE → TE := tCmp fun i j => decide (i = j)
abbrev tNeI : TE → TE → TE := tCmp fun i j => !decide (i = j)
/-- is None -/
def tIsN (ta : TE) : TE := fun σ H Q => ta σ H fun x H1 => Q (.bl (decide (x = .non))) H1
def tNotN (ta : TE) : TE := fun σ H Q => ta σ H fun x H1 => Q (.bl (!decide (x = .non))) H1
/-- a comparison as a value, as a test -/
def tB (t : TE) : TT := fun σ H Q => t σ H fun x H1 => ∃ c, x = .bl c ∧ Q c H1
/-- an expression whose value is a bool, as a test -/
theorem pt_val {e : Expr} {t : TE} (h : PE X e t) (he : ∀ whole, isTrue e X.env whole = (do let v ← whole; standAt e.pos; holding [v] (truthy v)) := by intro _; rfl) : PT X e (tB t) := by
  intro pins s σ H Q I hw
  refine isTrue_plain (thn (h pins s σ H _ I hw) fun v s1 ⟨x, H1, I1, r1, q1⟩ => ?_) (he _)
  obtain ⟨d, rfl, q⟩ := q1
  cases r1
  exact wpAny_truthy_bool ⟨H1, I1, q⟩

/-! ### and, or, not -/
variable {tA tB' : TT} {rest : List Expr}
def tAnd (t u : TT) : TT := fun σ H Q => t σ H fun c H1 => if c = true then u σ H1 Q else Q false H1
def tOr (t u : TT) : TT := fun σ H Q => t σ H fun c H1 => if c = true then Q true H1 else u σ H1 Q
def tNot (t : TT) : TT := fun σ H Q => t σ H fun c H1 => Q (!c) H1
theorem pw_and1 (ha : PT X a tA) : PW X (.BoolOp .And [a] pos) tA := by
  intro wh pins s σ H Q I h
  refine isTrue_and (thn (ha pins s σ H Q I h) fun c s1 e => ?_)
  cases c with
  | true => exact isTrue_and_nil e
  | false => exact e
theorem pw_or1 (ha : PT X a tA) : PW X (.BoolOp .Or [a] pos) tA := by
  intro wh pins s σ H Q I h
  refine isTrue_or (thn (ha pins s σ H Q I h) fun c s1 e => ?_)
  cases c with
  | false => exact isTrue_or_nil e
  | true => exact e
theorem pw_and (ha : PT X a tA) (hb : PW X (.BoolOp .And (b :: rest) pos) tB') : PW X (.BoolOp .And (a :: b :: rest) pos) (tAnd tA tB') := by
  intro wh pins s σ H Q I h
  refine isTrue_and (thn (ha pins s σ H _ I h) fun c s1 ⟨H1, I1, q1⟩ => ?_)
  cases c with
  | true => exact hb wh pins s1 σ H1 Q I1 q1
  | false => exact ⟨H1, I1, q1⟩
theorem pw_or (ha : PT X a tA) (hb : PW X (.BoolOp .Or (b :: rest) pos) tB') : PW X (.BoolOp .Or (a :: b :: rest) pos) (tOr tA tB') := by
  intro wh pins s σ H Q I h
  refine isTrue_or (thn (ha pins s σ H _ I h) fun c s1 ⟨H1, I1, q1⟩ => ?_)
  cases c with
  | true => exact ⟨H1, I1, q1⟩
  | false => exact hb wh pins s1 σ H1 Q I1 q1
theorem pt_not (ha : PT X a tA) : PT X (.UnaryOp .Not a pos) (tNot tA) := by
  intro pins s σ H Q I h
  exact isTrue_not (ha pins s σ H (fun c H1 => Q (!c) H1) I h)
/-- .. as values (bools) -/
def tAndV (ta tb : TE) : TE := fun σ H Q => ta σ H fun x H1 => ∃ c, x = .bl c ∧ if c = true then tb σ H1 Q else Q (.bl false) H1
def tOrV (ta tb : TE) : TE := fun σ H Q => ta σ H fun x H1 => ∃ c, x = .bl c ∧ if c = true then Q (.bl true) H1 else tb σ H1 Q
def tNotV (ta : TE) : TE := fun σ H Q => ta σ H fun x H1 => ∃ c, x = .bl c ∧ Q (.bl (!c)) H1
theorem pe_one {op} {t : TE} (h : PE X a t) : PE X (.BoolOp op [a] pos) t := fun pins s σ H Q I hw => BoolOp_one (h pins s σ H Q I hw)
theorem pe_and (ha : PE X a ta) (hb : PE X (.BoolOp .And (b :: rest) pos) tb) : PE X (.BoolOp .And (a :: b :: rest) pos) (tAndV ta tb) := by
  intro pins s σ H Q I h
  refine BoolOp_and (thn (ha pins s σ H _ I h) fun v s1 ⟨x, H1, I1, r1, q1⟩ => ?_)
  obtain ⟨c, rfl, q1⟩ := q1
  cases r1
  refine wpAny_truthy_bool ?_
  cases c with
  | true => exact hb pins s1 σ H1 Q I1 q1
  | false => exact ⟨.bl false, H1, I1, rfl, q1⟩
theorem pe_not (ha : PE X a ta) : PE X (.UnaryOp .Not a pos) (tNotV ta) := by
  intro pins s σ H Q I h
  refine UnaryOp_ (thn (ha pins s σ H _ I h) fun v s1 ⟨x, H1, I1, r1, q1⟩ => ?_)
  obtain ⟨c, rfl, q1⟩ := q1
  cases r1
  exact not_of (wpAny_truthy_bool ⟨.bl (!c), H1, I1, rfl, q1⟩)
/-- a if t else b -/
def tIf (t : TT) (ta tb : TE) : TE := fun σ H Q => t σ H fun c H1 => if c = true then ta σ H1 Q else tb σ H1 Q
theorem pe_ifExp {c : Expr} (hc : PT X c tA) (ha : PE X a ta) (hb : PE X b tb) : PE X (.IfExp c a b pos) (tIf tA ta tb) := by
  intro pins s σ H Q I h
  refine wpAny_IfExp (thn (hc pins s σ H _ I h) fun d s1 ⟨H1, I1, q1⟩ => ?_)
  cases d with
  | true => exact ha pins s1 σ H1 Q I1 q1
  | false => exact hb pins s1 σ H1 Q I1 q1
end
end L2

namespace L2
open PySem PySem.Spec PyProof.Rows

/-! ### a list, a tuple that is read: tracked, frozen, or an object of the module -/
def SqL (K : PySem.W.Frag) (H : Hp) (a : Addr) (xs : List V) : Prop :=
  Rd H a (.lst xs) ∨
    ∃ (o : Obj) (its : Array Value) (n : Nat), K.lookup a = some o ∧ o.cls = .type "list" ∧ o.dict = none ∧ o.data = .seq its n ∧ its.size ≤ sizeLine ∧ Vals xs its.toList
def SqT (K : PySem.W.Frag) (H : Hp) (a : Addr) (xs : List V) : Prop :=
  Rd H a (.tup xs) ∨
    ∃ (o : Obj) (its : Array Value) (n : Nat), K.lookup a = some o ∧ o.cls = .type "tuple" ∧ o.data = .seq its n ∧ its.size ≤ sizeLine ∧ Vals xs its.toList
def absV : Value → Option V
  | .none => some .non
  | .bool b => some (.bl b)
  | .int i _ => some (.int i)
  | .str x _ => some (.str x)
  | .bytes b _ => some (.byt b)
  | .float b _ => some (.flt b)
  | .ref a => some (.ref a)
  | .type n => some (.ty n)
  | _ => none
theorem RelV.abs {x : V} {u : Value} (r : RelV x u) : absV u = some x := by
  cases x with
  | non => cases r; rfl
  | bl _ => cases r; rfl
  | int _ => obtain ⟨t, rfl⟩ := r; rfl
  | str _ => obtain ⟨t, rfl⟩ := r; rfl
  | byt _ => obtain ⟨t, rfl⟩ := r; rfl
  | flt _ => obtain ⟨t, rfl⟩ := r; rfl
  | ref _ => cases r; rfl
  | ty _ => cases r; rfl
theorem RelV.inj {x y : V} {u : Value} (r : RelV x u) (q : RelV y u) : x = y := Option.some.inj (r.abs.symm.trans q.abs)
theorem Vals.inj : ∀ {xs ys : List V} {us : List Value}, Vals xs us → Vals ys us → xs = ys
  | _, _, _, .nil, .nil => rfl
  | _, _, _, .cons r t, .cons r' t' => by rw [r.inj r', Vals.inj t t']
section
variable {X : Cx} {pins : List (Addr × Obj)} {σ : St} {H : Hp} {s : Shared} {a : Addr} {xs ys : List V}
theorem SqL.of {K : PySem.W.Frag} (h : H a = some (.lst xs)) : SqL K H a xs := .inl (.inl h)
theorem SqT.of {K : PySem.W.Frag} (h : H a = some (.tup xs)) : SqT K H a xs := .inl (.inl h)
theorem Inv.list (I : Inv X pins σ H s) (h : SqL X.K H a xs) : ∃ its : List Value, Vals xs its ∧ PlainL s.heap a its.toArray ∧ xs.length ≤ sizeLine := by
  rcases h with h | ⟨o, its, n, hk, hc, hd, hs, hz, r⟩
  · obtain ⟨z, its, n, r, e⟩ := h.ok I.hok
    exact ⟨its, r, ⟨_, n, e, rfl, rfl, rfl⟩, z⟩
  · refine ⟨its.toList, r, ⟨o, n, I.kIn a o hk, hc, hd, by simpa using hs⟩, ?_⟩
    have e := r.length
    simp only [Array.length_toList] at e
    omega
theorem Inv.tuple (I : Inv X pins σ H s) (h : SqT X.K H a xs) : ∃ its : List Value, Vals xs its ∧ IsTup s.heap a its.toArray ∧ xs.length ≤ sizeLine := by
  rcases h with h | ⟨o, its, n, hk, hc, hs, hz, r⟩
  · obtain ⟨z, its, r, p⟩ := h.ok I.hok
    exact ⟨its, r, p, z⟩
  · refine ⟨its.toList, r, ⟨o, I.kIn a o hk, hc, n, by simpa using hs⟩, ?_⟩
    have e := r.length
    simp only [Array.length_toList] at e
    omega
theorem Inv.list_inj (I : Inv X pins σ H s) (h : SqL X.K H a xs) (h' : SqL X.K H a ys) : xs = ys := by
  obtain ⟨its, r, ⟨o, n, e, _, _, d⟩, _⟩ := I.list h
  obtain ⟨its', r', ⟨o', n', e', _, _, d'⟩, _⟩ := I.list h'
  rw [e] at e'; cases e'
  rw [d] at d'
  injection d' with d1 _
  have : its = its' := by simpa using congrArg Array.toList d1
  subst this
  exact r.inj r'
theorem Inv.tuple_inj (I : Inv X pins σ H s) (h : SqT X.K H a xs) (h' : SqT X.K H a ys) : xs = ys := by
  obtain ⟨its, r, ⟨o, e, _, n, d⟩, _⟩ := I.tuple h
  obtain ⟨its', r', ⟨o', e', _, n', d'⟩, _⟩ := I.tuple h'
  rw [e] at e'; cases e'
  rw [d] at d'
  injection d' with d1 _
  have : its = its' := by simpa using congrArg Array.toList d1
  subst this
  exact r.inj r'
end

/-! ### another wish about exceptions -/
abbrev Cx.wish (X : Cx) (E : Value → Shared → Prop) : Cx := { X with xe := E }
/-- no exception leaves -/
abbrev Cx.nox (X : Cx) : Cx := X.wish fun _ _ => False
theorem Cx.Ok.wish {X : Cx} (ok : X.Ok) (E : Value → Shared → Prop) : (X.wish E).Ok :=
  ⟨ok.mod, ok.kind, ok.glob, ok.blt, ok.above, ok.inj, ok.has, ok.cab, ok.hd, ok.frames, ok.stk, ok.exf, ok.bs, ok.bsz, ok.noex, ok.exfs, ok.funs, ok.frf⟩
theorem Cx.Ok.unwish {X : Cx} {E : Value → Shared → Prop} (ok : (X.wish E).Ok) : X.Ok :=
  ⟨ok.mod, ok.kind, ok.glob, ok.blt, ok.above, ok.inj, ok.has, ok.cab, ok.hd, ok.frames, ok.stk, ok.exf, ok.bs, ok.bsz, ok.noex, ok.exfs, ok.funs, ok.frf⟩
section
variable {X : Cx} {pins : List (Addr × Obj)} {σ : St} {H : Hp} {s : Shared} {E : Value → Shared → Prop}
theorem Inv.wish (I : Inv X pins σ H s) (E : Value → Shared → Prop) : Inv (X.wish E) pins σ H s := ⟨I.ok.wish E, I.os, I.bare, I.base, I.loc, I.cell, I.free, I.freeC, I.pin, I.hok, I.len⟩
theorem Inv.unwish (I : Inv (X.wish E) pins σ H s) : Inv X pins σ H s := ⟨I.ok.unwish, I.os, I.bare, I.base, I.loc, I.cell, I.free, I.freeC, I.pin, I.hok, I.len⟩
theorem SP.unwish {D : Ends} {f : Flow} {s' : Shared} (h : SP (X.wish E) pins D f s') : SP X pins D f s' := by
  cases f with
  | next => obtain ⟨σ', H', I, q⟩ := h; exact ⟨σ', H', I.unwish, q⟩
  | brk => obtain ⟨σ', H', I, q⟩ := h; exact ⟨σ', H', I.unwish, q⟩
  | cont => obtain ⟨σ', H', I, q⟩ := h; exact ⟨σ', H', I.unwish, q⟩
  | ret u => obtain ⟨v, σ', H', I, r, q⟩ := h; exact ⟨v, σ', H', I.unwish, r, q⟩
theorem PSs.nox {st : List Stmt} {t : TS} (h : PSs X.nox st t) : PSs X st t := fun pins s σ H D I hw =>
  wpAny_mono (h pins s σ H D (I.wish _) hw) (fun _ _ q => q.unwish) fun _ _ z => False.elim z
end

/-! ### blocks and small statements -/
section
variable {X : Cx} {st : Stmt} {rest : List Stmt} {t u : TS} {e : Expr} {te : TE} {pos : Pos}
def tNext : TS := fun D σ H => D.nx σ H
def tSeq (t u : TS) : TS := fun D σ H => t { D with nx := u D } σ H
theorem pss_nil : PSs X [] tNext := fun _ _ σ H _ I h => wpAny_execs_nil ⟨σ, H, I, h⟩
theorem pss_cons (h1 : PS X st t) (h2 : PSs X rest u) : PSs X (st :: rest) (tSeq t u) := by
  intro pins s σ H D I h
  refine wpAny_execs_cons (thn (h1 pins s σ H { D with nx := u D } I h) fun f s1 q => ?_)
  cases f with
  | next =>
    obtain ⟨σ', H', I', q⟩ := q
    exact h2 pins s1 σ' H' D I' q
  | ret v => exact q
  | brk => exact q
  | cont => exact q
theorem pss_one (h1 : PS X st t) : PSs X [st] t := by
  intro pins s σ H D I h
  refine wpAny_execs_cons (thn (h1 pins s σ H D I h) fun f s1 q => ?_)
  cases f with
  | next => exact wpAny_execs_nil q
  | ret v => exact q
  | brk => exact q
  | cont => exact q
def tBreak : TS := fun D σ H => D.bk σ H
def tCont : TS := fun D σ H => D.ct σ H
/-- in a def's body nothing is shown -/
theorem Inv.quiet {pins : List (Addr × Obj)} {σ : St} {H : Hp} {s : Shared} (I : Inv X pins σ H s) : interactive X.env = false := by simp [interactive, I.ok.kind]
/-- an expression whose value is dropped -/
def tDrop (te : TE) : TS := fun D σ H => te σ H fun _ H1 => D.nx σ H1
theorem ps_expr (he : PE X e te) (hs : swapsWith e none pos.line X.env = pure false := by rfl) : PS X (.Expr e pos) (tDrop te) := by
  intro pins s σ H D I h
  exact wpAny_Expr_any (thn (he pins s σ H _ I h) fun v s1 ⟨x, H1, I1, r1, q1⟩ => ⟨σ, H1, I1, q1⟩) I.quiet hs
def tRet (te : TE) : TS := fun D σ H => te σ H D.rt
theorem ps_ret (he : PE X e te) : PS X (.Return (some e) pos) (tRet te) := by
  intro pins s σ H D I h
  exact wpAny_Return_some (thn (he pins s σ H _ I h) fun v s1 ⟨x, H1, I1, r1, q1⟩ => ⟨x, σ, H1, I1, r1, q1⟩)
def tRetN : TS := fun D _ H => D.rt .non H
def tIfS (c : TT) (t u : TS) : TS := fun D σ H => c σ H fun b H1 => if b = true then t D σ H1 else u D σ H1
theorem ps_if {c : Expr} {a b : List Stmt} {tc : TT} (hc : PT X c tc) (ha : PSs X a t) (hb : PSs X b u) : PS X (.If c a b pos) (tIfS tc t u) := by
  intro pins s σ H D I h
  refine wpAny_If (thn (hc pins s σ H _ I h) fun d s1 ⟨H1, I1, q1⟩ => ?_)
  cases d with
  | true => exact ha pins s1 σ H1 D I1 q1
  | false => exact hb pins s1 σ H1 D I1 q1
/-- code that the proof never comes to -/
def tNever : TS := fun _ _ _ => False
theorem ps_never : PS X st tNever := fun _ _ _ _ _ _ h => h.elim
end

/-! ### targets -/
abbrev TG := V → St → Hp → (St → Hp → Prop) → Prop
abbrev TGs := List V → St → Hp → (St → Hp → Prop) → Prop
def PG (X : Cx) (target : Expr) (t : TG) : Prop :=
  ∀ (pins : List (Addr × Obj)) (s : Shared) (σ : St) (H : Hp) (v : V) (u : Value) (Q : St → Hp → Prop), Inv X pins σ H s → RelV v u → t v σ H Q →
    wpAny (model X.prog X.w) X.A (assign target X.env u) (fun _ s' => ∃ σ' H', Inv X pins σ' H' s' ∧ Q σ' H') X.xe s
/-- several targets, one after another -/
def PGs (X : Cx) (ts : List Expr) (t : TGs) : Prop :=
  ∀ (pins : List (Addr × Obj)) (s : Shared) (σ : St) (H : Hp) (vs : List V) (us : List Value) (Q : St → Hp → Prop), Inv X pins σ H s → Vals vs us → t vs σ H Q →
    wpAny (model X.prog X.w) X.A (assignInOrder ((assignEach ts X.env).map (·.2)) us) (fun _ s' => ∃ σ' H', Inv X pins σ' H' s' ∧ Q σ' H') X.xe s
/-- o[i] = v, by values -/
abbrev TSet := V → V → V → Hp → (Hp → Prop) → Prop
def PSet (X : Cx) (t : TSet) : Prop :=
  ∀ (pins : List (Addr × Obj)) (s : Shared) (σ : St) (H : Hp) (o i v : V) (ov iv u : Value) (Q : Hp → Prop), Inv X pins σ H s → RelV o ov → RelV i iv → RelV v u → t o i v H Q →
    wpAny (model X.prog X.w) X.A (setItem ov iv u) (fun _ s' => ∃ H', Inv X pins σ H' s' ∧ Q H') X.xe s
/-- a op= b, by values -/
abbrev TIp := V → V → Hp → VK → Prop
def PIp (X : Cx) (op : Operator) (t : TIp) : Prop :=
  ∀ (pins : List (Addr × Obj)) (s : Shared) (σ : St) (H : Hp) (x y : V) (v u : Value) (Q : VK), Inv X pins σ H s → RelV x v → RelV y u → t x y H Q →
    wpAny (model X.prog X.w) X.A (inplaceOp op v u) (EP X pins σ Q) X.xe s
section
variable {X : Cx} {pos : Pos}
def gName (i : Nat) : TG := fun v σ H Q => Q (σ.set i (some v)) H
theorem pg_name {i : Nat} {x : Str} (hN : X.N.Nodup) (hi : X.N[i]? = some x) (hx : Loc X.env.scope x) (hf : X.fn x = true ∨ X.env.scope.names.lookup x = some .local := by first | exact .inl rfl | exact .inr rfl | assumption) : PG X (.Name x pos) (gName i) := by
  intro pins s σ H v u Q I r h
  exact wpAny_assign_Name (store_ok I hN hi hx r (fun s' I' => ⟨_, H, I', h⟩) hf)
def gNil : TGs := fun vs σ H Q => vs = [] ∧ Q σ H
def gCons (t : TG) (u : TGs) : TGs := fun vs σ H Q => ∃ v r, vs = v :: r ∧ t v σ H fun σ' H' => u r σ' H' Q
theorem pgs_nil : PGs X [] gNil := by
  intro pins s σ H vs us Q I r h
  obtain ⟨e, h⟩ := h
  subst e
  cases r
  exact assignInOrder_nil ⟨σ, H, I, h⟩
theorem pgs_cons {e : Expr} {es : List Expr} {t : TG} {u : TGs} (h1 : PG X e t) (h2 : PGs X es u)
    (hs : (assignEach (e :: es) X.env).map (·.2) = assign e X.env :: (assignEach es X.env).map (·.2) := by rfl) : PGs X (e :: es) (gCons t u) := by
  intro pins s σ H vs us Q I r h
  obtain ⟨v, vr, e1, h⟩ := h
  subst e1
  cases r with
  | cons r rr =>
    rw [hs]
    refine assignInOrder_cons (thn (h1 pins s σ H _ _ _ I r h) fun _ s1 ⟨σ1, H1, I1, q1⟩ => ?_)
    exact h2 pins s1 σ1 H1 _ _ Q I1 rr q1
/-- (a, b, ..) = a tuple of that length -/
def gTup (K : PySem.W.Frag) (n : Nat) (t : TGs) : TG := fun v σ H Q => ∃ a xs, v = .ref a ∧ SqT K H a xs ∧ xs.length = n ∧ t xs σ H Q
theorem pg_tup {es : List Expr} {k : Nat} {t : TGs} {n : Nat} (hc : X.calm = true) (h : PGs X es t)
    (hn : (assignEach es X.env).length = n := by rfl) (hst : (assignEach es X.env).findIdx? (·.1) = none := by rfl) : PG X (.Tuple es k pos) (gTup X.K n t) := by
  intro pins s σ H v u Q I r hw
  obtain ⟨a, xs, e1, hq, hl, hw⟩ := hw
  subst e1
  cases r
  obtain ⟨its, rv, ht, hz⟩ := I.tuple hq
  refine assign_Tuple_tuple (I.ok.hd hc) ht (by simp [hn, ← hl, rv.length]) hst fun h' hx => ?_
  have I1 : Inv X pins σ H { s with heap := h' } := I.kept (t' := s.toks) fun b o e => hx b o (Nat.ne_of_lt (Heap.lt_size e)) e
  exact h pins _ σ H xs _ Q I1 (by simpa using rv) hw
/-- o[i] = .. -/
def gSub (to ti : TE) (t : TSet) : TG := fun v σ H Q => to σ H fun o H1 => ti σ H1 fun i H2 => t o i v H2 fun H3 => Q σ H3
/-- target = value -/
def tAsg (te : TE) (g : TG) : TS := fun D σ H => te σ H fun x H1 => g x σ H1 D.nx
theorem ps_asg {tg e : Expr} {te : TE} {g : TG} (he : PE X e te) (hg : PG X tg g) (hs : swapsWithSole [tg] e pos.line X.env = pure false := by rfl) (hw : swappedStores [tg] e X.env = pure none := by rfl)
    (h1 : (assignEach [tg] X.env).map (·.2) = [assign tg X.env] := by rfl) : PS X (.Assign [tg] e pos) (tAsg te g) := by
  intro pins s σ H D I h
  refine wpAny_Assign_stores (thn (he pins s σ H _ I h) fun v s1 ⟨x, H1, I1, r1, q1⟩ => ?_) hs hw
  rw [h1]
  exact thn (hg pins s1 σ H1 x v _ I1 r1 q1) fun _ s2 q => q
/-- name = value -/
theorem ps_set {i : Nat} {x : Str} {e : Expr} {te : TE} {pos' : Pos} (hN : X.N.Nodup) (hi : X.N[i]? = some x) (hx : Loc X.env.scope x) (he : PE X e te) (hs : swapsWith e (some (.Name x pos')) pos.line X.env = pure false := by rfl) (hf : X.fn x = true ∨ X.env.scope.names.lookup x = some .local := by first | exact .inl rfl | exact .inr rfl | assumption) :
    PS X (.Assign [.Name x pos'] e pos) (tAsg te (gName i)) := by
  intro pins s σ H D I h
  refine wpAny_Assign_Name (thn (he pins s σ H _ I h) fun v s1 ⟨y, H1, I1, r1, q1⟩ => ?_) hs
  exact store_ok I1 hN hi hx r1 (fun s2 I2 => ⟨_, H1, I2, q1⟩) hf
/-- a, b = x, y with plain local names: stored from the right; the pair itself is not tracked (the opening rows as in PyProof/Rows/TupAssign.lean:23) -/
def tPar (i j : Nat) (ta : TA) : TS := fun D σ H => ta σ H fun vs H1 => ∃ v w, vs = [v, w] ∧ D.nx ((σ.set i (some v)).set j (some w)) H1
/-- name op= e -/
def tAug (i : Nat) (te : TE) (ti : TIp) : TS := fun D σ H => ∃ x, σ[i]? = some (some x) ∧ te σ H fun y H1 => ti x y H1 fun z H2 => D.nx (σ.set i (some z)) H2
/-- o[i] op= e -/
def tAugS (to ti te : TE) (tget : V → V → Hp → VK → Prop) (tip : TIp) (tset : TSet) : TS := fun D σ H => to σ H fun o H1 => ti σ H1 fun i H2 => tget o i H2 fun x H3 => te σ H3 fun y H4 => tip x y H4 fun z H5 => tset o i z H5 fun H6 => D.nx σ H6
/-- o[i], by values -/
def PGet (X : Cx) (t : V → V → Hp → VK → Prop) : Prop :=
  ∀ (pins : List (Addr × Obj)) (s : Shared) (σ : St) (H : Hp) (o i : V) (ov iv : Value) (Q : VK), Inv X pins σ H s → RelV o ov → RelV i iv → t o i H Q →
    wpAny (model X.prog X.w) X.A (getItem ov iv) (EP X pins σ Q) X.xe s
/-- ints -/
def ipI (f : Int → Int → Int) : TIp := fun x y H Q => ∃ i j, x = .int i ∧ y = .int j ∧ Q (.int (f i j)) H
end

/-! ### while -/
section
variable {X : Cx} {pos : Pos}
/-- the invariant W with its measure -/
def tWhile (c : TT) (tb : TS) : TS := fun D σ H => ∃ W : Nat → St → Hp → Prop, (∃ m, W m σ H) ∧ ∀ m σ H, W m σ H →
  c σ H fun b H1 => if b = true then ∃ N : St → Hp → Prop, (∀ σ' H', N σ' H' → ∃ m', m' < m ∧ W m' σ' H') ∧ tb { D with nx := N, ct := N, bk := D.nx } σ H1 else D.nx σ H1
end

/-! ### what a loop or a comprehension walks -/
/-- at turn i: it yields x (the heap may grow), or it stops -/
structure It where
  go : Nat → Hp → Prop
  yld : Nat → Hp → V → Hp → Prop
  stop : Nat → Hp → Prop
/-- the iterator's own objects may turn: they are not the frame's, not pinned, younger than the entry (or a comprehension's own) -/
def FpOk (X : Cx) (pins : List (Addr × Obj)) (H : Hp) (b : Addr) : Prop :=
  H b = none ∧ b ≠ X.env.locals ∧ b ∉ X.fs ∧ (b ∈ X.ex ∨ X.s₀.heap.objs.size ≤ b) ∧ (∀ x c, X.env.cells.lookup x = some c → c ≠ b) ∧ ∀ p ∈ X.pn ++ pins, p.1 ≠ b
theorem Inv.fpOk {X : Cx} {pins : List (Addr × Obj)} {σ : St} {H H' : Hp} {s : Shared} {b : Addr} (I : Inv X pins σ H s) (hb : s.heap.objs.size ≤ b) (hn : H' b = none) : FpOk X pins H' b := by
  refine ⟨hn, Nat.ne_of_gt (Nat.lt_of_lt_of_le I.lt hb), I.nofs hb, .inr (Nat.le_trans I.sz hb), fun x c e z => ?_, fun p hp z => ?_⟩
  · obtain ⟨v, q⟩ := I.cell x c e
    exact absurd (Nat.lt_of_lt_of_le q.lt (by rw [z]; exact hb)) (Nat.lt_irrefl _)
  · exact absurd (Nat.lt_of_lt_of_le (Heap.lt_size (I.pin p hp).1) (by rw [z]; exact hb)) (Nat.lt_irrefl _)
structure Turn (P : Program) (w : World) (K : PySem.W.Frag) (tg : Expr) (J : It) (fp : List Addr) (it : Addr) (tn : Nat → Heap → Prop) : Prop where
  mem : it ∈ fp
  obj : ∀ i h, tn i h → ∀ b ∈ fp, ∃ o, h.get? b = some o ∧ ∀ v, o.data ≠ .cell v
  keep : ∀ i h h', tn i h → (∀ b ∈ fp, ∀ o, h.get? b = some o → h'.get? b = some o) → tn i h'
  item : ∀ (X : Cx), X.prog = P → X.w = w → X.K = K → X.calm = true → ∀ (i : Nat) (pins : List (Addr × Obj)) (s : Shared) (σ : St) (H : Hp) (E : Value → Shared → Prop), Inv X pins σ H s → (∀ b ∈ fp, FpOk X pins H b) → tn i s.heap → J.go i H →
    wpAny (model P w) X.A (pyNext (.ref it)) (fun r s1 => ∃ u, r = some u ∧
      wpAny (model P w) X.A (letOwnedTupleGo tg (.ref it) u) (fun _ s2 => ∃ x H', Inv X pins σ H' s2 ∧ RelV x u ∧ J.yld i H x H' ∧ tn (i + 1) s2.heap ∧ ∀ b ∈ fp, H' b = none) E s1) E s
  done : ∀ (X : Cx), X.prog = P → X.w = w → X.K = K → X.calm = true → ∀ (i : Nat) (pins : List (Addr × Obj)) (s : Shared) (σ : St) (H : Hp) (E : Value → Shared → Prop), Inv X pins σ H s → (∀ b ∈ fp, FpOk X pins H b) → tn i s.heap → J.stop i H →
    wpAny (model P w) X.A (pyNext (.ref it)) (fun r s1 => r = none ∧ Inv X pins σ H s1) E s
  self : ∀ (A : Around) (i : Nat) (s : Shared) (Q : Value → Shared → Prop) (E : Value → Shared → Prop), tn i s.heap → Q (.ref it) s → wpAny (model P w) A (pyIter (.ref it)) Q E s
abbrev TI := St → Hp → (It → Hp → Prop) → Prop
/-- an iterator has come -/
def PIE (X : Cx) (pins : List (Addr × Obj)) (σ : St) (tg : Expr) (R : It → Hp → Prop) (itv : Value) (s2 : Shared) : Prop :=
  ∃ (it : Addr) (fp : List Addr) (tn : Nat → Heap → Prop) (J : It) (H' : Hp), itv = .ref it ∧ Inv X pins σ H' s2 ∧ Turn X.prog X.w X.K tg J fp it tn ∧ tn 0 s2.heap ∧ (∀ b ∈ fp, FpOk X pins H' b) ∧ R J H'
def PI (X : Cx) (tg iter : Expr) (wi : TI) : Prop :=
  ∀ (pins : List (Addr × Obj)) (s : Shared) (σ : St) (H : Hp) (R : It → Hp → Prop), Inv X pins σ H s → wi σ H R →
    wpAny (model X.prog X.w) X.A (eval iter X.env) (fun v s1 => wpAny (model X.prog X.w) X.A (pyIter v) (PIE X pins σ tg R) X.xe s1) X.xe s

/-- the step ahead of the store is nothing for an iterator that keeps no tuple -/
theorem go_of {M : Model} {A : Around} {E : Value → Shared → Prop} {s : Shared} {tg : Expr} {it : Addr} {u : Value} {o : Obj} {n : String} {vs : Array Value} {Q : Unit → Shared → Prop} (ho : s.heap.get? it = some o) (hc : o.cls = .type n) (hd : o.data = .fields vs)
    (hn : ["enumerate", "zip", "dict_itemiterator", "dict_reverseitemiterator", "odict_iterator", "itertools.zip_longest", "itertools.pairwise"].contains n = false) (hQ : Q () s) : wpAny M A (letOwnedTupleGo tg (.ref it) u) Q E s := by
  unfold letOwnedTupleGo
  cases tg <;> first
    | exact wpAny_pure hQ
    | (cases u <;> first
        | exact wpAny_pure hQ
        | (refine wpAny_bind (wpAny_load ho ?_)
           rw [hc, hd]
           show wpAny M A (if (["enumerate", "zip", "dict_itemiterator", "dict_reverseitemiterator", "odict_iterator", "itertools.zip_longest", "itertools.pairwise"].contains n && vs[0]? == some (rawInt _)) = true then _ else _) Q E s
           rw [if_neg (by intro h; rw [hn, Bool.false_and] at h; cases h)]
           exact wpAny_pure hQ))

/-- the list at a, as it stands at each turn (a loop may append to it) -/
def Itl (K : PySem.W.Frag) (a : Addr) : It :=
  ⟨fun i H => ∃ xs x, SqL K H a xs ∧ xs[i]? = some x, fun i H x H' => H' = H ∧ ∀ xs, SqL K H a xs → xs[i]? = some x, fun i H => ∃ xs, SqL K H a xs ∧ xs.length ≤ i⟩
def Itt (K : PySem.W.Frag) (a : Addr) : It :=
  ⟨fun i H => ∃ xs x, SqT K H a xs ∧ xs[i]? = some x, fun i H x H' => H' = H ∧ ∀ xs, SqT K H a xs → xs[i]? = some x, fun i H => ∃ xs, SqT K H a xs ∧ xs.length ≤ i⟩
/-- lo, lo + 1, .. (n of them) -/
def Itr (lo : Int) (n : Nat) : It := ⟨fun i _ => i < n, fun i H x H' => H' = H ∧ x = .int (lo + i), fun i _ => n ≤ i⟩
theorem turn_list {P : Program} {w : World} {K : PySem.W.Frag} {tg : Expr} (a it : Addr) : Turn P w K tg (Itl K a) [it] it (fun i h => h.IsListIter it a i) where
  mem := by simp
  obj := fun i h st b hb => by
    have e : b = it := by simpa using hb
    subst e
    obtain ⟨o, e, c, d⟩ := st
    exact ⟨o, e, fun v z => by rw [d] at z; cases z⟩
  keep := fun i h h' st k => st.at fun o e => k it (by simp) o e
  item := by
    intro X hP hw hK hc i pins s σ H E I hf st hg
    subst hP hw hK
    obtain ⟨xs, x, hq, hx⟩ := hg
    obtain ⟨its, rv, p, hz⟩ := I.list hq
    obtain ⟨u, hu, ru⟩ := rv.get hx
    obtain ⟨f0, f1, f2, f3, f4, f5⟩ := hf it (by simp)
    refine wpAny_pyNext_list_item st p.isList (x := u) (by simpa using hu) fun h' st' sb => ?_
    have I1 : Inv X pins σ H { s with heap := h' } := I.turned (t' := s.toks) (fun b o hb e => (sb.2 b hb).trans e) f0 f1 f3 f4 f5
    obtain ⟨o, e, c, d⟩ := id st'
    exact ⟨u, rfl, go_of (s := { s with heap := h' }) e c d (by decide) ⟨x, H, I1, ru, ⟨rfl, fun ys hy => by rw [I.list_inj hy hq]; exact hx⟩, st', fun b hb => (hf b hb).1⟩⟩
  done := by
    intro X hP hw hK hc i pins s σ H E I hf st hg
    subst hP hw hK
    obtain ⟨xs, hq, hx⟩ := hg
    obtain ⟨its, rv, p, hz⟩ := I.list hq
    obtain ⟨f0, f1, f2, f3, f4, f5⟩ := hf it (by simp)
    have hl := rv.length
    exact wpAny_pyNext_list_end (I.ok.hd hc) st p.isList (by simp; omega) fun h' eb => ⟨rfl, I.turned (t' := s.toks) (fun b o hb e => eb b o hb e) f0 f1 f3 f4 f5⟩
  self := fun _ _ _ _ _ st h => wpAny_pyIter_listiter st h
theorem turn_range {P : Program} {w : World} {K : PySem.W.Frag} {tg : Expr} (it : Addr) (lo : Int) (n : Nat) : Turn P w K tg (Itr lo n) [it] it (fun i h => IsRangeIter h it (lo + (i : Nat) * 1) ((n : Int) - (i : Nat)) 1) where
  mem := by simp
  obj := fun i h st b hb => by
    have e : b = it := by simpa using hb
    subst e
    exact ⟨_, st, fun v z => by
      have z' : Data.fields _ = Data.cell v := z
      cases z'⟩
  keep := fun i h h' st k => k it (by simp) _ st
  item := by
    intro X hP hw hK hc i pins s σ H E I hf st hg
    subst hP hw hK
    obtain ⟨f0, f1, f2, f3, f4, f5⟩ := hf it (by simp)
    have W := Walks.range (prog := X.prog) (w := X.w) (I.ok.hd hc) it lo 1 n
    refine W.item i s _ _ hg st fun v h' tk hv st' kk => ?_
    obtain ⟨t, rfl⟩ := hv
    have I1 : Inv X pins σ H { s with heap := h', toks := tk } := I.turned (fun b o hb e => kk b o (by simpa using hb) e) f0 f1 f3 f4 f5
    refine ⟨_, rfl, go_of (s := { s with heap := h', toks := tk }) (n := "range_iterator") st' rfl rfl (by decide) ⟨.int (lo + i), H, I1, ⟨t, ?_⟩, ⟨rfl, rfl⟩, st', fun b hb => (hf b hb).1⟩⟩
    rw [Int.mul_one]
  done := by
    intro X hP hw hK hc i pins s σ H E I hf st hg
    subst hP hw hK
    obtain ⟨f0, f1, f2, f3, f4, f5⟩ := hf it (by simp)
    exact wpAny_pyNext_range_end (I.ok.hd hc) st (by have : n ≤ i := hg; omega) fun h' eb => ⟨rfl, I.turned (t' := s.toks) (fun b o hb e => eb b o hb e) f0 f1 f3 f4 f5⟩
  self := fun _ _ _ _ _ st h => wpAny_pyIter_rangeiter st h
end L2

namespace L2
open PySem PySem.Spec PyProof.Rows
section
variable {X : Cx} {tg : Expr}
def iList (K : PySem.W.Frag) (tl : TE) : TI := fun σ H R => tl σ H fun x H1 => ∃ a, x = .ref a ∧ (∃ xs, SqL K H1 a xs) ∧ R (Itl K a) H1
def iTup (K : PySem.W.Frag) (tl : TE) : TI := fun σ H R => tl σ H fun x H1 => ∃ a, x = .ref a ∧ (∃ xs, SqT K H1 a xs) ∧ R (Itt K a) H1
theorem pi_list {l : Expr} {tl : TE} (hl : PE X l tl) : PI X tg l (iList X.K tl) := by
  intro pins s σ H R I h
  refine thn (hl pins s σ H _ I h) fun v s1 ⟨x, H1, I1, r1, q1⟩ => ?_
  obtain ⟨a, e, ⟨xs, hq⟩, q⟩ := q1
  subst e
  cases r1
  obtain ⟨its, rv, p, hz⟩ := I1.list hq
  refine wpAny_pyIter_list p.isList ?_
  refine ⟨s1.heap.objs.size, [s1.heap.objs.size], _, _, H1, rfl, I1.kept (t' := s1.toks) fun b o e => Heap.get?_push_of_some _ e, turn_list a _, ⟨_, Heap.get?_push_size _ rfl, rfl, rfl⟩, fun b hb => ?_, q⟩
  have e : b = s1.heap.objs.size := by simpa using hb
  subst e
  exact I1.fpOk (Nat.le_refl _) (I1.hok.fresh (Nat.le_refl _))
/-- a range object just made, walked -/
theorem range_it {pins : List (Addr × Obj)} {σ : St} {H : Hp} {s : Shared} {R : It → Hp → Prop} {E : Value → Shared → Prop} {lo hi : Int} {t u v : Tok} {tk : Nat} (I : Inv X pins σ H s) (h1 : -(2 ^ 62) ≤ lo) (h2 : lo < 2 ^ 62) (h3 : -(2 ^ 62) ≤ hi) (h4 : hi < 2 ^ 62)
    (q : R (Itr lo (hi - lo).toNat) H) : wpAny (model X.prog X.w) X.A (pyIter (.ref s.heap.objs.size)) (PIE X pins σ tg R) E { s with heap := s.heap.push { cls := .type "range", data := .fields #[.int lo t, .int hi u, .int 1 v] }, toks := tk } := by
  refine wpAny_pyIter_range (IsRange.new ..) (small_one h1 h2 h3 h4) ?_
  have I1 : Inv X pins σ H { s with heap := s.heap.push { cls := .type "range", data := .fields #[.int lo t, .int hi u, .int 1 v] }, toks := tk } := I.kept fun b o e => Heap.get?_push_of_some _ e
  refine ⟨(s.heap.push { cls := .type "range", data := .fields #[.int lo t, .int hi u, .int 1 v] }).objs.size, [(s.heap.push { cls := .type "range", data := .fields #[.int lo t, .int hi u, .int 1 v] }).objs.size], _, _, H, rfl,
    I1.kept (t' := tk) fun b o e => Heap.get?_push_of_some _ e, turn_range _ lo (hi - lo).toNat, ?_, fun b hb => ?_, q⟩
  · have e1 : lo + ((0 : Nat) : Int) * 1 = lo := by simp
    have e2 : (((hi - lo).toNat : Nat) : Int) - ((0 : Nat) : Int) = Builtin.Range.rangeSize lo hi 1 := by rw [rangeSize_one]; split <;> omega
    show IsRangeIter _ _ (lo + ((0 : Nat) : Int) * 1) ((((hi - lo).toNat : Nat) : Int) - ((0 : Nat) : Int)) 1
    rw [e1, e2]
    exact Heap.get?_push_size _ rfl
  · have e : b = (s.heap.push { cls := .type "range", data := .fields #[.int lo t, .int hi u, .int 1 v] }).objs.size := by simpa using hb
    subst e
    exact I1.fpOk (Nat.le_refl _) (I1.hok.fresh (Nat.le_refl _))
def iRng1 (ta : TA) : TI := fun σ H R => ta σ H fun vs H1 => ∃ j : Int, vs = [.int j] ∧ -(2 ^ 62) ≤ j ∧ j < 2 ^ 62 ∧ R (Itr 0 j.toNat) H1
def iRng2 (ta : TA) : TI := fun σ H R => ta σ H fun vs H1 => ∃ i j : Int, vs = [.int i, .int j] ∧ (-(2 ^ 62) ≤ i ∧ i < 2 ^ 62 ∧ -(2 ^ 62) ≤ j ∧ j < 2 ^ 62) ∧ R (Itr i (j - i).toNat) H1
theorem pi_range1 {a : Expr} {ta : TA} {p pos : Pos} (hg : Gl X "range") (hm : X.mg "range" = none) (ha : PA X [a] ta) (hs : starEach [a] X.env = [(false, eval a X.env)] := by rfl) : PI X tg (.Call (.Name "range" p) [a] [] pos) (iRng1 ta) := by
  intro pins s σ H R I h
  refine Call_ (ld_blt I hg hm boot_range (PyProof.Rows.callWith_type1 (thn (ha pos pins s σ H _ I h) fun us s1 ⟨vs, H1, I1, r1, q1⟩ => ?_) hs rfl))
  obtain ⟨j, e, q1, q2, q⟩ := q1
  subst e
  cases r1 with
  | cons r rr =>
    cases rr
    obtain ⟨t, rfl⟩ := r
    exact call_range_1 (range_it I1 (by omega) (by omega) q1 q2 (by simpa using q))
/-! ### for -/
/-- W: the invariant by the turn and a measure; N: what the body is to reach -/
def tFor (wi : TI) (g : TG) (tb : TS) : TS := fun D σ H => wi σ H fun J H1 => ∃ W : Nat → Nat → St → Hp → Prop, (∃ m, W 0 m σ H1) ∧ ∀ i m σ H, W i m σ H →
  (J.stop i H ∧ D.nx σ H) ∨ (J.go i H ∧ ∃ N : St → Hp → Prop, (∀ σ' H', N σ' H' → ∃ m', m' < m ∧ W (i + 1) m' σ' H') ∧ ∀ x H', J.yld i H x H' → g x σ H' fun σ2 H2 => tb { D with nx := N, ct := N, bk := D.nx } σ2 H2)
/-- the records at fp as they stand -/
def pinsAt (fp : List Addr) (h : Heap) : List (Addr × Obj) := fp.filterMap fun b => (h.get? b).map fun o => (b, o)
theorem mem_pinsAt {fp : List Addr} {h : Heap} {b : Addr} {o : Obj} (hb : b ∈ fp) (e : h.get? b = some o) : (b, o) ∈ pinsAt fp h := List.mem_filterMap.mpr ⟨b, hb, by rw [e]; rfl⟩
theorem of_pinsAt {fp : List Addr} {h : Heap} {p : Addr × Obj} (hp : p ∈ pinsAt fp h) : p.1 ∈ fp ∧ h.get? p.1 = some p.2 := by
  obtain ⟨b, hb, e⟩ := List.mem_filterMap.mp hp
  cases q : h.get? b with
  | none => rw [q] at e; cases e
  | some o =>
    rw [q] at e
    have e' : (b, o) = p := Option.some.inj e
    subst e'
    exact ⟨hb, q⟩
theorem Inv.pinned {pins : List (Addr × Obj)} {σ : St} {H : Hp} {s : Shared} {fp : List Addr} (I : Inv X pins σ H s) (hf : ∀ b ∈ fp, FpOk X pins H b) (ho : ∀ b ∈ fp, ∃ o, s.heap.get? b = some o ∧ ∀ v, o.data ≠ .cell v) : Inv X (pins ++ pinsAt fp s.heap) σ H s :=
  I.pins_of fun p hp => (List.mem_append.mp hp).elim (fun z => I.pin p (List.mem_append_right _ z)) fun z => by
    obtain ⟨hb, e⟩ := of_pinsAt z
    obtain ⟨f0, f1, f2, _⟩ := hf p.1 hb
    obtain ⟨o, e', d⟩ := ho p.1 hb
    rw [e] at e'; cases e'
    exact ⟨e, f0, f1, f2, d⟩
theorem Inv.unpinned {pins pl : List (Addr × Obj)} {σ : St} {H : Hp} {s : Shared} (I : Inv X (pins ++ pl) σ H s) : Inv X pins σ H s := I.pins_of fun p hp => I.pin p (List.mem_append_right _ (List.mem_append_left _ hp))
theorem ps_for {iter : Expr} {body : List Stmt} {wi : TI} {g : TG} {tb : TS} {pos : Pos} (hp : PassesOwn (model X.prog X.w) X.A X.env X.xe) (hc : X.calm = true) (hi : PI X tg iter wi) (hg : PG X tg g) (hb : PSs X body tb)
    (hs : ∀ x, foldedSetIterable iter X.env x = pure x := by intro _; rfl) : PS X (.For tg iter body [] pos) (tFor wi g tb) := by
  intro pins s σ H D I h
  refine wpAny_For (thn (hi pins s σ H _ I h) fun v s1 h1 => thn h1 fun itv s2 h2 => ?_) hs
  obtain ⟨it, fp, tn, J, H2, e, I2, T, st2, f2, W, ⟨m0, w0⟩, turn⟩ := h2
  subst e
  -- what stays true of the iterator's objects through the loop
  have stat : ∀ {H' : Hp}, (∀ b ∈ fp, H' b = none) → ∀ b ∈ fp, FpOk X pins H' b := fun hn b hb => ⟨hn b hb, (f2 b hb).2⟩
  refine codeAny_forLoop_any (fun n s' => ∃ i σ' H', Inv X pins σ' H' s' ∧ tn i s'.heap ∧ (∀ b ∈ fp, H' b = none) ∧ W i n σ' H') ?_ m0 ⟨0, σ, H2, I2, st2, fun b hb => (f2 b hb).1, w0⟩
  rintro n s3 ⟨i, σ3, H3, I3, st3, fr3, w3⟩
  rcases turn i n σ3 H3 w3 with ⟨stop, qn⟩ | ⟨go, N, hN, step⟩
  · refine wpAny_passesOwn hp (thn (T.done X rfl rfl rfl hc i pins s3 σ3 H3 X.xe I3 (stat fr3) st3 stop) fun r s4 ⟨hr, I4⟩ => ?_)
    subst hr
    exact wpAny_execs_nil ⟨σ3, H3, I4, qn⟩
  · refine wpAny_passesOwn hp (thn (T.item X rfl rfl rfl hc i pins s3 σ3 H3 X.xe I3 (stat fr3) st3 go) fun r s4 ⟨u, hr, h4⟩ => ?_)
    subst hr
    refine wpAny_passesOwn hp (thn h4 fun _ s5 ⟨x, H5, I5, r5, y5, st5, fr5⟩ => ?_)
    have I5' := I5.pinned (stat fr5) (T.obj _ _ st5)
    refine wpAny_passesOwn hp (thn (hg _ s5 σ3 H5 x u _ I5' r5 (step x H5 y5)) fun _ s6 ⟨σ6, H6, I6, q6⟩ => ?_)
    refine wpAny_passesOwn hp (thn (hb _ s6 σ6 H6 _ I6 q6) fun f s7 q7 => ?_)
    have again : ∀ {σ7 : St} {H7 : Hp}, Inv X (pins ++ pinsAt fp s5.heap) σ7 H7 s7 → N σ7 H7 → ∃ m, m < n ∧ ∃ i σ' H', Inv X pins σ' H' s7 ∧ tn i s7.heap ∧ (∀ b ∈ fp, H' b = none) ∧ W i m σ' H' := fun {σ7 H7} I7 n7 => by
      obtain ⟨m', hm, w7⟩ := hN σ7 H7 n7
      refine ⟨m', hm, i + 1, σ7, H7, I7.unpinned, T.keep _ _ _ st5 fun b hb o e => (I7.pin (b, o) (List.mem_append_right _ (List.mem_append_right _ (mem_pinsAt hb e)))).1, fun b hb => ?_, w7⟩
      obtain ⟨o, e, d⟩ := T.obj _ _ st5 b hb
      exact (I7.pin (b, o) (List.mem_append_right _ (List.mem_append_right _ (mem_pinsAt hb e)))).2.1
    cases f with
    | next => obtain ⟨σ7, H7, I7, n7⟩ := q7; exact again I7 n7
    | cont => obtain ⟨σ7, H7, I7, n7⟩ := q7; exact again I7 n7
    | brk => obtain ⟨σ7, H7, I7, q7⟩ := q7; exact ⟨σ7, H7, I7.unpinned, q7⟩
    | ret v => obtain ⟨x7, σ7, H7, I7, r7, q7⟩ := q7; exact ⟨x7, σ7, H7, I7.unpinned, r7, q7⟩
end

/-! ### the forms one uses -/
/-- over a list that the body leaves as it is -/
theorem for_list {K : PySem.W.Frag} {a : Addr} {xs : List V} {g : TG} {tb : TS} {D : Ends} {σ : St} {H : Hp} (Pv : Nat → St → Hp → Prop) (h0 : Pv 0 σ H) (hl : ∀ i σ H, i ≤ xs.length → Pv i σ H → SqL K H a xs)
    (hs : ∀ i x σ H, xs[i]? = some x → Pv i σ H → g x σ H fun σ2 H2 => tb { D with nx := Pv (i + 1), ct := Pv (i + 1), bk := D.nx } σ2 H2) (hd : ∀ σ H, Pv xs.length σ H → D.nx σ H) :
    ∃ W : Nat → Nat → St → Hp → Prop, (∃ m, W 0 m σ H) ∧ ∀ i m σ H, W i m σ H →
      ((Itl K a).stop i H ∧ D.nx σ H) ∨ ((Itl K a).go i H ∧ ∃ N : St → Hp → Prop, (∀ σ' H', N σ' H' → ∃ m', m' < m ∧ W (i + 1) m' σ' H') ∧ ∀ x H', (Itl K a).yld i H x H' → g x σ H' fun σ2 H2 => tb { D with nx := N, ct := N, bk := D.nx } σ2 H2) := by
  refine ⟨fun i m σ H => m = xs.length - i ∧ i ≤ xs.length ∧ Pv i σ H, ⟨xs.length, by simp, Nat.zero_le _, h0⟩, ?_⟩
  rintro i m σ H ⟨rfl, hi, p⟩
  have q := hl i σ H hi p
  by_cases hlt : i < xs.length
  · refine .inr ⟨⟨xs, xs[i], q, by simp [hlt]⟩, Pv (i + 1), fun σ' H' p' => ⟨xs.length - (i + 1), by omega, rfl, hlt, p'⟩, fun x H' y => ?_⟩
    obtain ⟨e, y⟩ := y
    subst e
    exact hs i x σ _ (y xs q) p
  · have e : i = xs.length := by omega
    subst e
    exact .inl ⟨⟨xs, q, Nat.le_refl _⟩, hd σ H p⟩
theorem for_range {lo : Int} {n : Nat} {g : TG} {tb : TS} {D : Ends} {σ : St} {H : Hp} (Pv : Nat → St → Hp → Prop) (h0 : Pv 0 σ H)
    (hs : ∀ i σ H, i < n → Pv i σ H → g (.int (lo + i)) σ H fun σ2 H2 => tb { D with nx := Pv (i + 1), ct := Pv (i + 1), bk := D.nx } σ2 H2) (hd : ∀ σ H, Pv n σ H → D.nx σ H) :
    ∃ W : Nat → Nat → St → Hp → Prop, (∃ m, W 0 m σ H) ∧ ∀ i m σ H, W i m σ H →
      ((Itr lo n).stop i H ∧ D.nx σ H) ∨ ((Itr lo n).go i H ∧ ∃ N : St → Hp → Prop, (∀ σ' H', N σ' H' → ∃ m', m' < m ∧ W (i + 1) m' σ' H') ∧ ∀ x H', (Itr lo n).yld i H x H' → g x σ H' fun σ2 H2 => tb { D with nx := N, ct := N, bk := D.nx } σ2 H2) := by
  refine ⟨fun i m σ H => m = n - i ∧ i ≤ n ∧ Pv i σ H, ⟨n, by simp, Nat.zero_le _, h0⟩, ?_⟩
  rintro i m σ H ⟨rfl, hi, p⟩
  by_cases hlt : i < n
  · refine .inr ⟨hlt, Pv (i + 1), fun σ' H' p' => ⟨n - (i + 1), by omega, rfl, hlt, p'⟩, fun x H' y => ?_⟩
    obtain ⟨e, y⟩ := y
    subst e y
    exact hs i σ _ hlt p
  · have e : i = n := by omega
    subst e
    exact .inl ⟨Nat.le_refl _, hd σ H p⟩
end L2

namespace L2
open PySem PySem.Spec PyProof.Rows

abbrev R2 := V → V → Hp → VK → Prop
/-- a two-place operation on values: f is binaryOp op, inplaceOp op or compareOp op -/
def OpR (X : Cx) (f : Value → Value → Sem Value) (r : R2) : Prop :=
  ∀ (pins : List (Addr × Obj)) (s : Shared) (σ : St) (H : Hp) (x y : V) (v u : Value) (Q : VK), Inv X pins σ H s → RelV x v → RelV y u → r x y H Q →
    wpAny (model X.prog X.w) X.A (f v u) (EP X pins σ Q) X.xe s
/-- a one-place operation -/
def UnR (X : Cx) (f : Value → Sem Value) (r : V → Hp → VK → Prop) : Prop :=
  ∀ (pins : List (Addr × Obj)) (s : Shared) (σ : St) (H : Hp) (x : V) (v : Value) (Q : VK), Inv X pins σ H s → RelV x v → r x H Q →
    wpAny (model X.prog X.w) X.A (f v) (EP X pins σ Q) X.xe s
/-- a call of a value that is known (a builtin, a type) with values -/
def CallR (X : Cx) (f : Value) (r : List V → Hp → VK → Prop) : Prop :=
  ∀ (pins : List (Addr × Obj)) (s : Shared) (σ : St) (H : Hp) (xs : List V) (us : List Value) (Q : VK), Inv X pins σ H s → Vals xs us → r xs H Q →
    wpAny (model X.prog X.w) X.A (call f us) (EP X pins σ Q) X.xe s
/-- a value's truth -/
def TruR (X : Cx) (r : V → Hp → (Bool → Hp → Prop) → Prop) : Prop :=
  ∀ (pins : List (Addr × Obj)) (s : Shared) (σ : St) (H : Hp) (x : V) (v : Value) (Q : Bool → Hp → Prop), Inv X pins σ H s → RelV x v → r x H Q →
    wpAny (model X.prog X.w) X.A (truthy v) (TP X pins σ Q) X.xe s

def tOp (r : R2) (ta tb : TE) : TE := fun σ H Q => ta σ H fun x H1 => tb σ H1 fun y H2 => r x y H2 Q
def tUn (r : V → Hp → VK → Prop) (ta : TE) : TE := fun σ H Q => ta σ H fun x H1 => r x H1 Q
/-- ints in, under C, and a value out -/
def rI (C : Int → Int → Prop) (g : Int → Int → V) : R2 := fun x y H Q => ∃ i j, x = .int i ∧ y = .int j ∧ C i j ∧ Q (g i j) H
def rI0 (g : Int → Int → V) : R2 := fun x y H Q => ∃ i j, x = .int i ∧ y = .int j ∧ Q (g i j) H
def rU (g : Int → V) : V → Hp → VK → Prop := fun x H Q => ∃ i, x = .int i ∧ Q (g i) H

section
variable {X : Cx} {a b c : Expr} {ta tb tc : TE} {pos : Pos}

theorem binT (ha : PE X a ta) (hb : PE X b tb) {pins : List (Addr × Obj)} {s : Shared} {σ : St} {H : Hp} {R : V → V → Hp → Prop} (I : Inv X pins σ H s)
    (h : ta σ H fun x H1 => tb σ H1 fun y H2 => R x y H2) {Q : Value → Shared → Prop} {f : Value → Value → Sem Value}
    (hf : ∀ v u s2 x y H2, Inv X pins σ H2 s2 → RelV x v → RelV y u → R x y H2 → wpAny (model X.prog X.w) X.A (f v u) Q X.xe s2) :
    wpAny (model X.prog X.w) X.A (eval a X.env) (fun v s₁ => wpAny (model X.prog X.w) X.A (eval b X.env) (fun u s₂ => wpAny (model X.prog X.w) X.A (f v u) Q X.xe s₂) X.xe s₁) X.xe s := by
  refine thn (ha pins s σ H _ I h) fun v s1 ⟨x, H1, I1, r1, q1⟩ => ?_
  refine thn (hb pins s1 σ H1 _ I1 q1) fun u s2 ⟨y, H2, I2, r2, q2⟩ => ?_
  exact hf v u s2 x y H2 I2 r1 r2 q2

theorem pe_op {op : Operator} {r : R2} (ho : OpR X (binaryOp op) r) (ha : PE X a ta) (hb : PE X b tb) : PE X (.BinOp a op b pos) (tOp r ta tb) := by
  intro pins s σ H Q I h
  exact wpAny_BinOp (binT ha hb I h fun v u s2 x y H2 I2 rx ry q => ho pins s2 σ H2 x y v u Q I2 rx ry q)
theorem pe_un {op : UnaryOp} {r : V → Hp → VK → Prop} (ho : UnR X (unaryOp op) r) (ha : PE X a ta) : PE X (.UnaryOp op a pos) (tUn r ta) := by
  intro pins s σ H Q I h
  exact UnaryOp_ (thn (ha pins s σ H _ I h) fun v s1 ⟨x, H1, I1, r1, q1⟩ => ho pins s1 σ H1 x v Q I1 r1 q1)
/-! ### ints -/
theorem opI {f : Value → Value → Sem Value} {C : Int → Int → Prop} {g : Int → Int → Int}
    (rule : ∀ (i j : Int) (t u : Tok) (s : Shared) (Q : Value → Shared → Prop) (E : Value → Shared → Prop), C i j → Q (.int (g i j) s.toks) { s with toks := s.toks + 1 } → wpAny (model X.prog X.w) X.A (f (.int i t) (.int j u)) Q E s) :
    OpR X f (rI C fun i j => .int (g i j)) := by
  intro pins s σ H x y v u Q I rx ry h
  obtain ⟨i, j, rfl, rfl, hc, q⟩ := h
  obtain ⟨t, rfl⟩ := rx
  obtain ⟨t', rfl⟩ := ry
  exact rule i j t t' s _ _ hc ⟨.int (g i j), H, I.tok _, ⟨_, rfl⟩, q⟩
theorem opI0 {f : Value → Value → Sem Value} {g : Int → Int → Int}
    (rule : ∀ (i j : Int) (t u : Tok) (s : Shared) (Q : Value → Shared → Prop) (E : Value → Shared → Prop), Q (.int (g i j) s.toks) { s with toks := s.toks + 1 } → wpAny (model X.prog X.w) X.A (f (.int i t) (.int j u)) Q E s) :
    OpR X f (rI0 fun i j => .int (g i j)) := by
  intro pins s σ H x y v u Q I rx ry h
  obtain ⟨i, j, rfl, rfl, q⟩ := h
  obtain ⟨t, rfl⟩ := rx
  obtain ⟨t', rfl⟩ := ry
  exact rule i j t t' s _ _ ⟨.int (g i j), H, I.tok _, ⟨_, rfl⟩, q⟩
theorem opB0 {f : Value → Value → Sem Value} {g : Int → Int → Bool}
    (rule : ∀ (i j : Int) (t u : Tok) (s : Shared) (Q : Value → Shared → Prop) (E : Value → Shared → Prop), Q (.bool (g i j)) s → wpAny (model X.prog X.w) X.A (f (.int i t) (.int j u)) Q E s) :
    OpR X f (rI0 fun i j => .bl (g i j)) := by
  intro pins s σ H x y v u Q I rx ry h
  obtain ⟨i, j, rfl, rfl, q⟩ := h
  obtain ⟨t, rfl⟩ := rx
  obtain ⟨t', rfl⟩ := ry
  exact rule i j t t' s _ _ ⟨.bl (g i j), H, I, rfl, q⟩

def CDiv (i j : Int) : Prop := 0 < j ∧ j < 1073741824
def CDivN (i j : Int) : Prop := j ≠ 0 ∧ j.natAbs < 1073741824
def CPow (i j : Int) : Prop := 0 ≤ j ∧ j ≤ 1000000 ∧ i.natAbs < 2 ^ 64
def CMul (i j : Int) : Prop := (-(2 ^ 64) < i ∧ i < 2 ^ 64) ∨ (-(2 ^ 64) < j ∧ j < 2 ^ 64)
theorem CMul.ok {i j : Int} (h : CMul i j) : IntMulOk i j := by
  rcases h with ⟨h1, h2⟩ | ⟨h1, h2⟩
  · exact .of_left (intBits_le_64 h1 h2)
  · exact .of_right (intBits_le_64 h1 h2)
theorem op_add : OpR X (binaryOp .Add) (rI0 fun i j => .int (i + j)) := opI0 fun _ _ _ _ _ _ _ q => add_int q
theorem op_sub : OpR X (binaryOp .Sub) (rI0 fun i j => .int (i - j)) := opI0 fun _ _ _ _ _ _ _ q => sub_int q
theorem op_mul : OpR X (binaryOp .Mult) (rI CMul fun i j => .int (i * j)) := opI fun _ _ _ _ _ _ _ hc q => mul_int q hc.ok
/-- % by a positive divisor of any size -/
theorem op_mod : OpR X (binaryOp .Mod) (rI (fun _ j => 0 < j) fun i j => .int (i % j)) := opI fun i j _ _ _ _ _ hc q => by
  have h1 : (0 : Int) < j := hc
  exact mod_int' (by omega) (by rw [Int.fmod_eq_emod_of_nonneg i (by omega)]; exact q)
theorem op_pow : OpR X (binaryOp .Pow) (rI CPow fun i j => .int (i ^ j.toNat)) := opI fun _ _ _ _ _ _ _ hc q => pow_int_small hc.1 hc.2.1 hc.2.2 q
theorem unI {f : Value → Sem Value} {g : Int → Int}
    (rule : ∀ (i : Int) (t : Tok) (s : Shared) (Q : Value → Shared → Prop) (E : Value → Shared → Prop), Q (.int (g i) s.toks) { s with toks := s.toks + 1 } → wpAny (model X.prog X.w) X.A (f (.int i t)) Q E s) :
    UnR X f (rU fun i => .int (g i)) := by
  intro pins s σ H x v Q I rx h
  obtain ⟨i, rfl, q⟩ := h
  obtain ⟨t, rfl⟩ := rx
  exact rule i t s _ _ ⟨.int (g i), H, I.tok _, ⟨_, rfl⟩, q⟩
theorem un_neg : UnR X (unaryOp .USub) (rU fun i => .int (-i)) := unI fun _ _ _ _ _ q => neg_int q
/-! ### bools among ints: n += (a < b) -/
end

/-! ### comparisons -/
/-- the scalars that == tells apart as data does -/
def scal : V → V → Bool
  | .non, .non => true | .non, .int _ => true | .int _, .non => true | .non, .bl _ => true | .bl _, .non => true | .non, .str _ => true | .str _, .non => true
  | .int _, .int _ => true | .bl _, .bl _ => true | .str _, .str _ => true | .byt _, .byt _ => true
  | .int _, .str _ => true | .str _, .int _ => true | .bl _, .str _ => true | .str _, .bl _ => true
  | _, _ => false
def rEq : R2 := fun x y H Q => scal x y = true ∧ Q (.bl (decide (x = y))) H
def rNe : R2 := fun x y H Q => scal x y = true ∧ Q (.bl (!decide (x = y))) H

theorem dec_int {i j : Int} : decide (V.int i = V.int j) = (i == j) := by
  rw [Bool.eq_iff_iff]
  simp
theorem dec_bl {i j : Bool} : decide (V.bl i = V.bl j) = (i == j) := by
  rw [Bool.eq_iff_iff]
  simp
theorem dec_str {i j : Str} : decide (V.str i = V.str j) = (i == j) := by
  rw [Bool.eq_iff_iff]
  simp
theorem dec_byt {i j : Array UInt8} : decide (V.byt i = V.byt j) = (i.toList == j.toList) := by
  rw [Bool.eq_iff_iff]
  cases i
  cases j
  simp

section
variable {X : Cx} {a b c : Expr} {ta tb tc : TE} {pos : Pos}
theorem fin_bl {pins : List (Addr × Obj)} {σ : St} {H : Hp} {s : Shared} {Q : VK} {k k' : Bool} (I : Inv X pins σ H s) (q : Q (.bl k) H) (e : k = k') : EP X pins σ Q (.bool k') s := by
  subst e
  exact ⟨.bl k, H, I, rfl, q⟩
theorem op_eq : OpR X (compareOp .Eq) rEq := by
  intro pins s σ H x y v u Q I rx ry h
  obtain ⟨hs, q⟩ := h
  cases x with
  | non =>
    cases rx
    cases y with
    | non => cases ry; exact PySem.EqNone.eq_none_none (fin_bl I q (by simp))
    | bl j => cases ry; exact PySem.EqNone.eq_none_bool (fin_bl I q (by simp))
    | int j => obtain ⟨t', rfl⟩ := ry; exact PySem.EqNone.eq_none_int (fin_bl I q (by simp))
    | str j => obtain ⟨t', rfl⟩ := ry; exact PySem.EqNone.eq_none_str (fin_bl I q (by simp))
    | _ => exact absurd (show false = true from hs) Bool.false_ne_true
  | bl i =>
    cases rx
    cases y with
    | non => cases ry; exact PySem.EqNone.eq_bool_none (fin_bl I q (by simp))
    | bl j => cases ry; exact eq_bool (fin_bl I q dec_bl)
    | str j => obtain ⟨t', rfl⟩ := ry; exact PySem.EqMixed.eq_bool_str (fin_bl I q (by simp))
    | _ => exact absurd (show false = true from hs) Bool.false_ne_true
  | int i =>
    obtain ⟨t, rfl⟩ := rx
    cases y with
    | non => cases ry; exact PySem.EqNone.eq_int_none (fin_bl I q (by simp))
    | int j => obtain ⟨t', rfl⟩ := ry; exact eq_int (fin_bl I q dec_int)
    | str j => obtain ⟨t', rfl⟩ := ry; exact PySem.EqMixed.eq_int_str (fin_bl I q (by simp))
    | _ => exact absurd (show false = true from hs) Bool.false_ne_true
  | str i =>
    obtain ⟨t, rfl⟩ := rx
    cases y with
    | non => cases ry; exact PySem.EqNone.eq_str_none (fin_bl I q (by simp))
    | bl j => cases ry; exact PySem.EqMixed.eq_str_bool (fin_bl I q (by simp))
    | int j => obtain ⟨t', rfl⟩ := ry; exact PySem.EqMixed.eq_str_int (fin_bl I q (by simp))
    | str j => obtain ⟨t', rfl⟩ := ry; exact eq_str (fin_bl I q dec_str)
    | _ => exact absurd (show false = true from hs) Bool.false_ne_true
  | byt i =>
    obtain ⟨t, rfl⟩ := rx
    cases y with
    | byt j => obtain ⟨t', rfl⟩ := ry; exact PySem.W.eq_bytes (fin_bl I q dec_byt)
    | _ => exact absurd (show false = true from hs) Bool.false_ne_true
  | _ => cases y <;> exact absurd (show false = true from hs) Bool.false_ne_true
theorem op_ne : OpR X (compareOp .NotEq) rNe := by
  intro pins s σ H x y v u Q I rx ry h
  obtain ⟨hs, q⟩ := h
  cases x with
  | non =>
    cases rx
    cases y with
    | non => cases ry; exact PySem.EqNone.ne_none_none (fin_bl I q (by simp))
    | bl j => cases ry; exact PySem.EqNone.ne_none_bool (fin_bl I q (by simp))
    | int j => obtain ⟨t', rfl⟩ := ry; exact PySem.EqNone.ne_none_int (fin_bl I q (by simp))
    | str j => obtain ⟨t', rfl⟩ := ry; exact PySem.EqNone.ne_none_str (fin_bl I q (by simp))
    | _ => exact absurd (show false = true from hs) Bool.false_ne_true
  | bl i =>
    cases rx
    cases y with
    | non => cases ry; exact PySem.EqNone.ne_bool_none (fin_bl I q (by simp))
    | bl j => cases ry; exact ne_bool (fin_bl I q (congrArg not dec_bl))
    | str j => obtain ⟨t', rfl⟩ := ry; exact PySem.EqMixed.ne_bool_str (fin_bl I q (by simp))
    | _ => exact absurd (show false = true from hs) Bool.false_ne_true
  | int i =>
    obtain ⟨t, rfl⟩ := rx
    cases y with
    | non => cases ry; exact PySem.EqNone.ne_int_none (fin_bl I q (by simp))
    | int j => obtain ⟨t', rfl⟩ := ry; exact ne_int (fin_bl I q (congrArg not dec_int))
    | str j => obtain ⟨t', rfl⟩ := ry; exact PySem.EqMixed.ne_int_str (fin_bl I q (by simp))
    | _ => exact absurd (show false = true from hs) Bool.false_ne_true
  | str i =>
    obtain ⟨t, rfl⟩ := rx
    cases y with
    | non => cases ry; exact PySem.EqNone.ne_str_none (fin_bl I q (by simp))
    | bl j => cases ry; exact PySem.EqMixed.ne_str_bool (fin_bl I q (by simp))
    | int j => obtain ⟨t', rfl⟩ := ry; exact PySem.EqMixed.ne_str_int (fin_bl I q (by simp))
    | str j => obtain ⟨t', rfl⟩ := ry; exact ne_str (fin_bl I q (congrArg not dec_str))
    | _ => exact absurd (show false = true from hs) Bool.false_ne_true
  | byt i =>
    obtain ⟨t, rfl⟩ := rx
    cases y with
    | byt j => obtain ⟨t', rfl⟩ := ry; exact PySem.W.ne_bytes (fin_bl I q (congrArg not dec_byt))
    | _ => exact absurd (show false = true from hs) Bool.false_ne_true
  | _ => cases y <;> exact absurd (show false = true from hs) Bool.false_ne_true

theorem op_lt : OpR X (compareOp .Lt) (rI0 fun i j => .bl (decide (i < j))) := opB0 fun _ _ _ _ _ _ _ q => lt_int q
theorem op_le : OpR X (compareOp .LtE) (rI0 fun i j => .bl (decide (i ≤ j))) := opB0 fun _ _ _ _ _ _ _ q => le_int q
theorem op_gt : OpR X (compareOp .Gt) (rI0 fun i j => .bl (decide (j < i))) := opB0 fun _ _ _ _ _ _ _ q => gt_int q
theorem op_ge : OpR X (compareOp .GtE) (rI0 fun i j => .bl (decide (j ≤ i))) := opB0 fun _ _ _ _ _ _ _ q => ge_int q
/-- is None, is not None: the right side a value none -/
theorem op_isN : OpR X (compareOp .Is) (fun x y H Q => y = .non ∧ Q (.bl (decide (x = .non))) H) := by
  intro pins s σ H x y v u Q I rx ry h
  obtain ⟨rfl, q⟩ := h
  cases ry
  refine is_none_gen (fin_bl I q ?_)
  cases x <;> first
    | (cases rx; rfl)
    | (obtain ⟨t, rfl⟩ := rx; rfl)
/-- is, is not of two objects that are tracked lists or instances -/
def isObj : HO → Bool
  | .lst _ => true
  | .ins _ _ _ => true
  | _ => false
theorem nomark (b : Expr) {op : CmpOp} (h : op ≠ .In := by decide) (h2 : op ≠ .NotIn := by decide) : behindInMarks op b = false := by
  have e1 : (op == CmpOp.In) = false := by cases op <;> first | rfl | exact absurd rfl h
  have e2 : (op == CmpOp.NotIn) = false := by cases op <;> first | rfl | exact absurd rfl h2
  cases b <;> simp [behindInMarks, e1, e2]
/-- a comparison as a value; hm: nomark b, or (for in, not in) by with_unfolding_all rfl -/
theorem pe_cmpR {op : CmpOp} {r : R2} (ho : OpR X (compareOp op) r) (ha : PE X a ta) (hb : PE X b tb) (hm : behindInMarks op b = false) : PE X (.Compare a [op] [b] pos) (tOp r ta tb) := by
  intro pins s σ H Q I h
  exact wpAny_Compare1 (binT ha hb I h fun v u s2 x y H2 I2 rx ry q => ho pins s2 σ H2 x y v u Q I2 rx ry q) hm
/-- a reading of a value as a test -/
def tTest (t : TE) : TT := fun σ H Q => t σ H fun x H' => ∃ k, x = .bl k ∧ Q k H'
theorem pt_cmpR {op : CmpOp} {r : R2} (ho : OpR X (compareOp op) r) (ha : PE X a ta) (hb : PE X b tb) (hm : behindInMarks op b = false) : PT X (.Compare a [op] [b] pos) (tTest (tOp r ta tb)) := by
  intro pins s σ H Q I h
  refine wpAny_isTrue_Compare1 (thn (ha pins s σ H _ I h) fun v s1 ⟨x, H1, I1, r1, q1⟩ => thn (hb pins s1 σ H1 _ I1 q1) fun u s2 ⟨y, H2, I2, r2, q2⟩ =>
    thn (ho pins s2 σ H2 x y v u _ I2 r1 r2 q2) fun c s3 ⟨z, H3, I3, r3, k, e, q3⟩ => ?_) hm
  subst e
  cases r3
  exact wpAny_truthy_bool ⟨H3, I3, q3⟩
/-- a op1 b op2 c -/
def tChain (r r' : R2) (ta tb tc : TE) : TE := fun σ H Q => ta σ H fun x H1 => tb σ H1 fun y H2 => r x y H2 fun z H3 => ∃ k, z = .bl k ∧
  (if k = true then tc σ H3 fun w' H4 => r' y w' H4 Q else Q (.bl false) H3)
theorem pe_chain {op op' : CmpOp} {r r' : R2} (ho : OpR X (compareOp op) r) (ho' : OpR X (compareOp op') r') (ha : PE X a ta) (hb : PE X b tb) (hc : PE X c tc)
    (hm : lastMarks [op, op'] [b, c] = false := by with_unfolding_all rfl) : PE X (.Compare a [op, op'] [b, c] pos) (tChain r r' ta tb tc) := by
  intro pins s σ H Q I h
  refine Compare_chain (thn (ha pins s σ H _ I h) fun v s1 ⟨x, H1, I1, r1, q1⟩ => chain_link (thn (hb pins s1 σ H1 _ I1 q1) fun u s2 ⟨y, H2, I2, r2, q2⟩ =>
    thn (ho pins s2 σ H2 x y v u _ I2 r1 r2 q2) fun d s3 ⟨z, H3, I3, r3, k, e, q3⟩ => ?_)) hm
  subst e
  cases r3
  refine wpAny_truthy_bool ?_
  cases k with
  | false => exact ite_ff ⟨.bl false, H3, I3, rfl, q3⟩
  | true => exact ite_tt (chain_last (thn (hc pins s3 σ H3 _ I3 q3) fun w' s4 ⟨z', H4, I4, r4, q4⟩ => ho' pins s4 σ H4 y z' u w' Q I4 r2 r4 q4))
/-! ### truth -/
/-- a value's truth by the abstract heap -/
def TruV (K : PySem.W.Frag) (x : V) (H : Hp) (k : Bool) : Prop :=
  match x with
  | .non => k = false
  | .bl b => k = b
  | .int i => k = (i != 0)
  | .str y => y.length ≤ sizeLine ∧ k = ((y.length : Int) != 0)
  | .byt y => y.size ≤ sizeLine ∧ k = ((y.size : Int) != 0)
  | .ref p => (∃ xs, SqL K H p xs ∧ k = !xs.isEmpty) ∨ (∃ xs, SqT K H p xs ∧ k = !xs.isEmpty) ∨ ∃ kvs, H p = some (.dK kvs) ∧ k = !kvs.isEmpty
  | _ => False
theorem line63 : (sizeLine : Nat) < 2 ^ 63 := by rw [sizeLine_eq]; decide
/-! ### strs and bytes -/
def PlainIxT (b : Expr) : Prop := ∀ o i, subscripted b false o i = operate [o, i] (getItem o i)
/-! ### scalar builtins, by CallR -/
theorem vals1 {x : V} {us : List Value} (r : Vals [x] us) : ∃ u, us = [u] ∧ RelV x u := by
  cases r with
  | cons r1 r2 => cases r2; exact ⟨_, rfl, r1⟩
theorem vals2 {x y : V} {us : List Value} (r : Vals [x, y] us) : ∃ u w', us = [u, w'] ∧ RelV x u ∧ RelV y w' := by
  cases r with
  | cons r1 r2 =>
    cases r2 with
    | cons r3 r4 => cases r4; exact ⟨_, _, rfl, r1, r3⟩
theorem call_max2 (hc : X.calm = true) : CallR X (.builtin "max") (fun xs H Q => ∃ i j, xs = [.int i, .int j] ∧ Q (.int (if j > i then j else i)) H) := by
  intro pins s σ H xs us Q I r h
  obtain ⟨i, j, rfl, q⟩ := h
  obtain ⟨u, w', rfl, ⟨t, rfl⟩, ⟨t', rfl⟩⟩ := vals2 r
  refine max_two_ints (I.ok.hd hc) fun h' tk k => ⟨_, H, I.kept k, ?_, q⟩
  by_cases hj : j > i
  · rw [if_pos hj, if_pos hj]; exact ⟨_, rfl⟩
  · rw [if_neg hj, if_neg hj]; exact ⟨_, rfl⟩
theorem call_str_int : CallR X (.type "str") (fun xs H Q => ∃ i, xs = [.int i] ∧ i.natAbs.log2 < 1920 ∧ Q (.str (toString i)) H) := by
  intro pins s σ H xs us Q I r h
  obtain ⟨i, rfl, hz, q⟩ := h
  obtain ⟨u, rfl, t, rfl⟩ := vals1 r
  exact PySem.P.str_of_int hz ⟨.str _, H, I.tok _, ⟨_, rfl⟩, q⟩
/-- len of a str, a bytes, a list, a tuple -/
def LenV (K : PySem.W.Frag) (x : V) (H : Hp) (n : Nat) : Prop :=
  match x with
  | .str y => y.length ≤ sizeLine ∧ n = y.length
  | .byt y => y.size ≤ sizeLine ∧ n = y.size
  | .ref p => (∃ xs, SqL K H p xs ∧ n = xs.length) ∨ ∃ xs, SqT K H p xs ∧ n = xs.length
  | _ => False
end
end L2

namespace L2
open PySem PySem.Spec PyProof.Rows

/-! ### an instance, its attributes a map -/
structure ObjM (h : Heap) (x dx C : Addr) (mA : Str → Option Value) : Prop where
  obj : h.get? x = some (PySem.W.instObj C dx)
  ns : h.Ns1 dx mA
  ne : dx ≠ x

theorem lookIn_ns {h : Heap} {dx : Addr} {mA : Str → Option Value} (n : h.Ns1 dx mA) : ∃ od, h.get? dx = some od ∧ ∀ name, PySem.W.lookIn name od = some (mA name) := by
  obtain ⟨o, es, ep, ho, hd, hk, _, hm⟩ := n
  refine ⟨o, ho, fun name => ?_⟩
  have e := hm name
  unfold nsFind findBy at e
  rw [← Array.find?_toList] at e
  unfold PySem.W.lookIn
  rw [hd]
  dsimp only
  split
  · rename_i y q
    rw [q] at e
    exact congrArg some e
  · rename_i q
    rw [q] at e
    have a : es.toList.any (·.refKey) = false := by
      rw [List.any_eq_false]
      intro y hy
      obtain ⟨z, t, hkey⟩ := hk y (Array.mem_toList_iff.mp hy)
      simp [DictEntry.refKey, hkey]
    have a' : ¬ es.toList.any (·.refKey) = true := by rw [a]; exact Bool.false_ne_true
    rw [if_neg a']
    exact congrArg some e

theorem ObjM.look {h : Heap} {x dx C : Addr} {mA : Str → Option Value} (I : ObjM h x dx C mA) : ∃ od, PySem.W.InstAt h x (PySem.W.instObj C dx) C (some od) ∧ ∀ name, PySem.W.lookIn name od = some (mA name) :=
  let ⟨od, ho, hl⟩ := lookIn_ns I.ns
  ⟨od, ⟨I.obj, rfl, rfl, ho⟩, hl⟩

section
variable {prog : Program} {w : World} {A : Around} {E : Value → Shared → Prop} {s : Shared} {K : PySem.W.Frag} {x dx C f : Addr} {mA : Str → Option Value} {name : Str} {v : Value}

theorem get_map {expr : Bool} {Q : Value → Shared → Prop} (X : K.In s.heap) (I : ObjM s.heap x dx C mA) (hg : PySem.W.plainGet K C name = true) (hh : PySem.W.hasDictIn K C = true)
    (ha : PySem.W.findIn K (.ref C) name = some none) (hv : mA name = some v) (hv' : PySem.W.handedIn v = true) (h : Q v { s with toks := s.toks + 1 }) :
    wpAny (model prog w) A (getAttr (.ref x) name expr) Q E s := by
  obtain ⟨od, J, hl⟩ := I.look
  exact PySem.W.get_value X J (PySem.W.plainGet_of hg).1 (PySem.W.findObj_own hh ha rfl (by rw [hl, hv])) hv' h

theorem get_meth {pl : Sem Bool} {Q : Value × List Value → Shared → Prop} (X : K.In s.heap) (I : ObjM s.heap x dx C mA) (hg : PySem.W.plainGet K C name = true)
    (hf : PySem.W.findIn K (.ref C) name = some (some (.ref f))) (ht : PySem.W.isFn K (.ref f) = true) (hv : mA name = none) (h : Q (.ref f, [.ref x]) s) :
    wpAny (model prog w) A (getMethod (.ref x) name pl) Q E s := by
  obtain ⟨od, J, hl⟩ := I.look
  exact PySem.W.method_fn X J (PySem.W.plainGet_of hg).1 (PySem.W.plainGet_of hg).2 hf (beq_iff_eq.mp ht) (by show (PySem.W.lookIn name od).map (·.isSome) = some false; rw [hl, hv]; rfl) h

theorem set_map {ns : List Str} {Q : Unit → Shared → Prop} (X : K.In s.heap) (I : ObjM s.heap x dx C mA)
    (hs : PySem.W.findIn K (.ref C) "__setattr__" = some (some (.builtin "object.__setattr__"))) (hp : PySem.W.plainOver K C = true) (ht : PySem.W.takerIn K C name = some none) (hh : PySem.W.hasDictIn K C = true)
    (hw : PySem.Within mA ns) (hsz : ns.length ≤ sizeLine)
    (h : ∀ h', ObjM h' x dx C (fun y => if y = name then some v else mA y) → Heap.SameBut dx s.heap h' → Q () { s with heap := h', toks := s.toks + 2 }) :
    wpAny (model prog w) A (setAttr (.ref x) name v) Q E s := by
  obtain ⟨od, J, hl⟩ := I.look
  refine PySem.W.set_plain X J hs (PySem.W.osa_open (s := { s with toks := s.toks + 1 }) (r := none) X J hp ht fun b => ?_)
  obtain ⟨cd, hc, hd'⟩ := PySem.W.any_some hh
  have hx : s.heap.get? x = some ⟨.ref C, some dx, .plain, #[]⟩ := I.obj
  refine wpAny_bind (wpAny_pure (wpAny_bind (wpAny_bind (wpAny_loadPart hx (wpAny_bind (PySem.W.Looks.here (s := { s with toks := s.toks + 1 }) (PySem.W.looks_clsIn X hc) ?_))))))
  rw [hd']
  refine wpAny_pure (a := some dx) (wpAny_bind (wpAny_pure (wpAny_bind ?_)))
  refine wpAny_nsSet1 (s := { s with toks := s.toks + 1 }) I.ns fun h' hn2 hs2 => ?_
  obtain ⟨oD, esD, epD, hoD, hdD, hcD⟩ := hn2.count (PySem.Within.cons name v hw)
  refine wpAny_bind (wpAny_lookBehind hoD (by rw [hdD]; exact pastItsLine_dict (Nat.le_trans hcD (by rw [List.length_cons]; omega))) ?_)
  exact wpAny_pure (h _ ⟨(hs2.2 _ (Ne.symm I.ne)).trans I.obj, hn2, I.ne⟩ hs2)

/-- C(..): the dict at the heap's end, the instance behind it; then its __init__ -/
theorem make_map {R : Result → Shared → Prop} {vs : List Value} {kw : List (Str × Value)} (X : K.In s.heap) (hm : PySem.W.makesIn K C = true)
    (hi : PySem.W.findIn K (.ref C) "__init__" = some (some (.ref f))) (hf : PySem.W.typeIn K (.ref f) = some (.type "function"))
    (h : codeAny (model prog w) (A.under (.builtin "type.__call__" ⟨.ref C :: vs, kw⟩)) (.call (.ref f) ⟨.ref (s.heap.objs.size + 1) :: vs, kw⟩) (PySem.W.InitBack (s.heap.objs.size + 1) R)
      { s with heap := (s.heap.push PySem.W.emptyDict).push (PySem.W.instObj C s.heap.objs.size) }) :
    codeAny (model prog w) A (.call (.ref C) ⟨vs, kw⟩) R s := by
  obtain ⟨hh, g, d, t, os⟩ := s
  exact PySem.W.make_core (PySem.W.makes_of X hm) (PySem.W.looks_findIn X hi) (fun self => PySem.W.bind_fn X self hf) (.inl rfl) h
end

/-! ### the attributes as a list of pairs -/
def putF (f : Str) (v : V) : List (Str × V) → List (Str × V)
  | [] => [(f, v)]
  | (g, x) :: r => if g = f then (g, v) :: r else (g, x) :: putF f v r
theorem lookup_putF (f g : Str) (v : V) : ∀ fs : List (Str × V), (putF f v fs).lookup g = if g = f then some v else fs.lookup g
  | [] => by
    show List.lookup g [(f, v)] = _
    by_cases h : g = f
    · have hb : (g == f) = true := beq_iff_eq.mpr h
      simp only [List.lookup, hb, if_pos h]
    · have hb : (g == f) = false := beq_eq_false_iff_ne.mpr h
      simp only [List.lookup, hb, if_neg h]
  | (k, x) :: r => by
    have ih := lookup_putF f g v r
    rw [show putF f v ((k, x) :: r) = (if k = f then (k, v) :: r else (k, x) :: putF f v r) from rfl]
    by_cases hk : k = f
    · rw [if_pos hk]
      by_cases h : g = k
      · have hb : (g == k) = true := beq_iff_eq.mpr h
        simp only [List.lookup, hb, if_pos (h.trans hk)]
      · have hb : (g == k) = false := beq_eq_false_iff_ne.mpr h
        simp only [List.lookup, hb, if_neg (fun e : g = f => h (e.trans hk.symm))]
    · rw [if_neg hk]
      by_cases h : g = k
      · have hb : (g == k) = true := beq_iff_eq.mpr h
        simp only [List.lookup, hb, if_neg (fun e : g = f => hk (h.symm.trans e))]
      · have hb : (g == k) = false := beq_eq_false_iff_ne.mpr h
        simp only [List.lookup, hb]
        exact ih
theorem keys_putF (f : Str) (v : V) : ∀ fs : List (Str × V), f ∈ (putF f v fs).map (·.1) ∧ ∀ g, g ∈ fs.map (·.1) → g ∈ (putF f v fs).map (·.1)
  | [] => ⟨by simp [putF], fun g h => by simp at h⟩
  | (k, x) :: r => by
    obtain ⟨i1, i2⟩ := keys_putF f v r
    rw [show putF f v ((k, x) :: r) = (if k = f then (k, v) :: r else (k, x) :: putF f v r) from rfl]
    by_cases hk : k = f
    · rw [if_pos hk]
      subst hk
      exact ⟨by simp, fun g h => by simpa using h⟩
    · rw [if_neg hk]
      refine ⟨?_, fun g h => ?_⟩
      · rw [List.map_cons]
        exact List.mem_cons_of_mem _ i1
      · rw [List.map_cons] at h ⊢
        rcases List.mem_cons.mp h with e | e
        · exact List.mem_cons.mpr (.inl e)
        · exact List.mem_cons_of_mem _ (i2 g e)
theorem length_putF (f : Str) (v : V) : ∀ fs : List (Str × V), (putF f v fs).length ≤ fs.length + 1
  | [] => by simp [putF]
  | (k, x) :: r => by
    have ih := length_putF f v r
    rw [show putF f v ((k, x) :: r) = (if k = f then (k, v) :: r else (k, x) :: putF f v r) from rfl]
    by_cases hk : k = f
    · rw [if_pos hk, List.length_cons, List.length_cons]; omega
    · rw [if_neg hk, List.length_cons, List.length_cons]; omega

theorem RelO.some_of {v : V} {o : Option Value} (r : RelO (some v) o) : ∃ u, o = some u ∧ RelV v u := by
  cases o with
  | none => exact (show False from r).elim
  | some u => exact ⟨u, rfl, r⟩
theorem RelO.none_of {o : Option Value} (r : RelO none o) : o = none := by
  cases o with
  | none => rfl
  | some u => exact (show False from r).elim
theorem handed_of {v : V} {u : Value} (r : RelV v u) : PySem.W.handedIn u = true := by
  cases v with
  | non => cases (show u = Value.none from r); rfl
  | bl b => cases (show u = Value.bool b from r); rfl
  | int i => obtain ⟨t, e⟩ := (show ∃ t, u = Value.int i t from r); cases e; rfl
  | str x => obtain ⟨t, e⟩ := (show ∃ t, u = Value.str x t from r); cases e; rfl
  | byt b => obtain ⟨t, e⟩ := (show ∃ t, u = Value.bytes b t from r); cases e; rfl
  | flt b => obtain ⟨t, e⟩ := (show ∃ t, u = Value.float b t from r); cases e; rfl
  | ref a => cases (show u = Value.ref a from r); rfl
  | ty n => cases (show u = Value.type n from r); rfl

section
variable {P : Program} {w : World} {H H' : Hp} {h h' : Heap} {a C dx : Addr} {fs fs' : List (Str × V)}
theorem ins_get (hok : HOk P w H h) (e : H a = some (.ins C dx fs)) : ∃ mA, ObjM h a dx C mA ∧ (∀ f, RelO (fs.lookup f) (mA f)) ∧ PySem.Within mA (fs.map (·.1)) ∧ fs.length ≤ 1000 ∧ H dx = some (.own a) := by
  obtain ⟨d, z, ne, ob, mA, n, r, q⟩ := (show ObjOk P w H h a (.ins C dx fs) from hok a _ e)
  exact ⟨mA, ⟨ob, n, ne⟩, r, q, z, d⟩
end

/-! ### what of the text a class must have -/
structure Cls (K : PySem.W.Frag) (C : Addr) : Prop where
  pg : PySem.W.plainGet K C Str.empty = true
  hd : PySem.W.hasDictIn K C = true
  po : PySem.W.plainOver K C = true
  sa : PySem.W.findIn K (.ref C) "__setattr__" = some (some (.builtin "object.__setattr__"))
theorem Cls.get {K : PySem.W.Frag} {C : Addr} (c : Cls K C) (f : Str) : PySem.W.plainGet K C f = true := c.pg
/-- no class of it has the name -/
def NoAttr (K : PySem.W.Frag) (C : Addr) (f : Str) : Prop := PySem.W.findIn K (.ref C) f = some none
theorem NoAttr.taker {K : PySem.W.Frag} {C : Addr} {f : Str} (n : NoAttr K C f) : PySem.W.takerIn K C f = some none := by
  unfold PySem.W.takerIn
  rw [show PySem.W.findIn K (.ref C) f = some none from n]
  rfl
/-- a constant of the class -/
structure Con (K : PySem.W.Frag) (C : Addr) (f : Str) (v : V) (u : Value) : Prop where
  at_ : PySem.W.findIn K (.ref C) f = some (some u)
  rel : RelV v u
  get : PySem.W.specialIn K u "__get__" = some none
  cp : PySem.W.copiedNames.contains f = false
/-- a method: a plain def of the class or of one above it -/
structure Meth (K : PySem.W.Frag) (C : Addr) (m : Str) (f : Addr) : Prop where
  at_ : PySem.W.findIn K (.ref C) m = some (some (.ref f))
  fn : PySem.W.isFn K (.ref f) = true
  kp : PySem.W.keepIn K (.ref f) = true

section
variable {X : Cx} {pins : List (Addr × Obj)} {σ : St} {H : Hp} {s : Shared} {a C dx : Addr} {fs : List (Str × V)} {f : Str} {v : V} {A : Around} {E : Value → Shared → Prop}

theorem getattr_ok {b : Bool} {Q : Value → Shared → Prop} (I : Inv X pins σ H s) (e : H a = some (.ins C dx fs)) (c : Cls X.K C) (n : NoAttr X.K C f) (l : fs.lookup f = some v)
    (h : ∀ u s', Inv X pins σ H s' → RelV v u → Q u s') : wpAny (model X.prog X.w) A (getAttr (.ref a) f b) Q E s := by
  obtain ⟨mA, O, r, _, _, _⟩ := ins_get I.hok e
  obtain ⟨u, hu, ru⟩ := RelO.some_of (v := v) (o := mA f) (by rw [← l]; exact r f)
  exact get_map I.kIn O (c.get f) c.hd n hu (handed_of ru) (h u _ (I.tok _) ru)

theorem getmeth_ok {m : Str} {g : Addr} {pl : Sem Bool} {Q : Value × List Value → Shared → Prop} (I : Inv X pins σ H s) (e : H a = some (.ins C dx fs)) (c : Cls X.K C) (k : Meth X.K C m g) (l : fs.lookup m = none)
    (h : Q (.ref g, [.ref a]) s) : wpAny (model X.prog X.w) A (getMethod (.ref a) m pl) Q E s := by
  obtain ⟨mA, O, r, _, _, _⟩ := ins_get I.hok e
  have hn : mA m = none := RelO.none_of (by rw [← l]; exact r m)
  exact get_meth I.kIn O (c.get m) k.at_ k.fn hn h

theorem setattr_ok {y : V} {u : Value} {Q : Unit → Shared → Prop} (I : Inv X pins σ H s) (e : H a = some (.ins C dx fs)) (c : Cls X.K C) (n : NoAttr X.K C f) (hl : fs.length < 1000) (ry : RelV y u)
    (h : ∀ s', Inv X pins σ (upd H a (.ins C dx (putF f y fs))) s' → Q () s') : wpAny (model X.prog X.w) A (setAttr (.ref a) f u) Q E s := by
  obtain ⟨mA, O, r, wi, _, ho⟩ := ins_get I.hok e
  have hz : (fs.map (·.1)).length ≤ sizeLine := by rw [List.length_map, sizeLine_eq]; omega
  refine set_map I.kIn O c.sa c.po n.taker c.hd wi hz fun h' O' sb => h _ ?_
  have hd : ∃ o, h'.get? dx = some o := let ⟨o, _, _, e', _⟩ := O'.ns; ⟨o, e'⟩
  refine I.write (x := a) (e := dx) (by rw [e]; exact True.intro) (.inr ho) (fun b q hb z => (sb.2 b hb).trans z) hd ?_
  refine ⟨by rw [upd_ne O.ne]; exact ho, ?_, O.ne, O'.obj, _, O'.ns, fun g => ?_, fun g hg => ?_⟩
  · have := length_putF f y fs; omega
  · show RelO ((putF f y fs).lookup g) (if g = f then some u else mA g)
    rw [lookup_putF]
    by_cases q : g = f
    · rw [if_pos q, if_pos q]; exact ry
    · rw [if_neg q, if_neg q]; exact r g
  · by_cases q : g = f
    · rw [q]; exact (keys_putF f y fs).1
    · refine (keys_putF f y fs).2 g (wi g fun z => hg ?_)
      show (if g = f then some u else mA g) = none
      rw [if_neg q]; exact z

/-- a new instance, tracked, without attributes -/
theorem Inv.made (I : Inv X pins σ H s) : Inv X pins σ (upd (upd H s.heap.objs.size (.own (s.heap.objs.size + 1))) (s.heap.objs.size + 1) (.ins C s.heap.objs.size []))
    { s with heap := (s.heap.push PySem.W.emptyDict).push (PySem.W.instObj C s.heap.objs.size) } := by
  have e1 : (s.heap.push PySem.W.emptyDict).get? s.heap.objs.size = some PySem.W.emptyDict := Heap.get?_push_size s.heap rfl
  have e2 : ((s.heap.push PySem.W.emptyDict).push (PySem.W.instObj C s.heap.objs.size)).get? (s.heap.objs.size + 1) = some (PySem.W.instObj C s.heap.objs.size) := by
    have := Heap.get?_push_size (s.heap.push PySem.W.emptyDict) (o := PySem.W.instObj C s.heap.objs.size) rfl
    rwa [Heap.size_push] at this
  have e3 : (s.heap.push PySem.W.emptyDict).Ns s.heap.objs.size (fun _ => none) := ⟨PySem.W.emptyDict, #[], _, e1, rfl, (fun e he => absurd he (by simp)), fun _ => rfl⟩
  have I1 := I.laid (a := s.heap.objs.size) (o := .own (s.heap.objs.size + 1)) (h' := s.heap.push PySem.W.emptyDict) (t' := s.toks) (fun b u q => Heap.get?_push_of_some _ q) (Nat.le_refl _) ⟨_, e1⟩
  refine I1.laid (a := s.heap.objs.size + 1) (o := .ins C s.heap.objs.size []) (t' := s.toks) (fun b u q => Heap.get?_push_of_some _ q) (Nat.le_of_eq (Heap.size_push _ _)) ?_
  have ne : s.heap.objs.size ≠ s.heap.objs.size + 1 := Nat.ne_of_lt (Nat.lt_succ_self _)
  refine ⟨by rw [upd_ne ne, upd_same], Nat.zero_le _, ne, e2, fun _ => none, (Heap.Ns1.of_empty e3).at fun o q => Heap.get?_push_of_some _ q, fun _ => True.intro, fun y hy => absurd rfl hy⟩

/-- e.f where nothing but the object is asked: through attributeBase (super) and the last hold -/
theorem attr_of {prog : Program} {w : World} {env : Env} {e : Expr} {f : Str} {pos : Pos} {s : Shared} {Q : Value → Shared → Prop} (hb : attributeBase e f env (eval e env) = eval e env)
    (h : wpAny (model prog w) A (eval e env) (fun o s₁ => wpAny (model prog w) A (getAttr o f true) Q E s₁) E s) : wpAny (model prog w) A (eval (.Attribute e f pos) env) Q E s :=
  Attribute_any_ h (by rw [arm_eval_Attribute, hb])
end

/-! ### readings and rules -/
/-- e.f, an attribute of the instance -/
def tFld (K : PySem.W.Frag) (ta : TE) (f : Str) : TE := fun σ H Q => ta σ H fun x H1 => ∃ a C dx fs v, x = .ref a ∧ H1 a = some (.ins C dx fs) ∧ Cls K C ∧ NoAttr K C f ∧ fs.lookup f = some v ∧ Q v H1
/-- e.f, a constant of the class -/
def tCon (K : PySem.W.Frag) (ta : TE) (f : Str) : TE := fun σ H Q => ta σ H fun x H1 => ∃ a C dx fs v u, x = .ref a ∧ H1 a = some (.ins C dx fs) ∧ Cls K C ∧ Con K C f v u ∧ fs.lookup f = none ∧ Q v H1
/-- e.f = value -/
def sFld (K : PySem.W.Frag) (ta tv : TE) (f : Str) : TS := fun D σ H => tv σ H fun y H1 => ta σ H1 fun x H2 => ∃ a C dx fs, x = .ref a ∧ H2 a = some (.ins C dx fs) ∧ Cls K C ∧ NoAttr K C f ∧ fs.length < 1000 ∧
  D.nx σ (upd H2 a (.ins C dx (putF f y fs)))
/-- an augmented operator on two values -/
def InOp (X : Cx) (op : Operator) (rd : V → V → Hp → VK → Prop) : Prop :=
  ∀ (pins : List (Addr × Obj)) (s : Shared) (σ : St) (H : Hp) (x y : V) (u v : Value) (Q : VK), Inv X pins σ H s → RelV x u → RelV y v → rd x y H Q → wpAny (model X.prog X.w) X.A (inplaceOp op u v) (EP X pins σ Q) X.xe s
/-- e.f op= value -/
def sFldAug (K : PySem.W.Frag) (ta tv : TE) (rd : V → V → Hp → VK → Prop) (f : Str) : TS := fun D σ H => ta σ H fun x H1 => ∃ a C dx fs v, x = .ref a ∧ H1 a = some (.ins C dx fs) ∧ Cls K C ∧ NoAttr K C f ∧ fs.lookup f = some v ∧
  tv σ H1 fun y H2 => rd v y H2 fun z H3 => ∃ dx' fs', H3 a = some (.ins C dx' fs') ∧ fs'.length < 1000 ∧ D.nx σ (upd H3 a (.ins C dx' (putF f z fs')))

section
variable {X : Cx} {o e value : Expr} {f : Str} {pos pos' tpos : Pos} {ta tv : TE}
theorem pe_fld (he : PE X e ta) (hb : attributeBase e f X.env (eval e X.env) = eval e X.env) : PE X (.Attribute e f pos) (tFld X.K ta f) := by
  intro pins s σ H Q I h
  refine attr_of hb (thn (he pins s σ H _ I h) fun u s1 ⟨x, H1, I1, rx, a, C, dx, fs, v, ex, ea, c, n, l, q⟩ => ?_)
  subst ex
  obtain rfl : u = Value.ref a := rx
  exact getattr_ok I1 ea c n l fun u' s2 I2 ru => ⟨v, H1, I2, ru, q⟩
theorem ps_fld (ha : PE X o ta) (hv : PE X value tv) (hs : swapsWith value (some (.Attribute o f pos')) pos.line X.env = pure false) : PS X (.Assign [.Attribute o f pos'] value pos) (sFld X.K ta tv f) := by
  intro pins s σ H D I h
  refine plainObj_wpAny_Assign_Attribute (thn (hv pins s σ H _ I h) fun u s1 ⟨y, H1, I1, ry, q⟩ => thn (ha pins s1 σ H1 _ I1 q) fun ov s2 ⟨x, H2, I2, rx, a, C, dx, fs, ex, ea, c, n, l, q2⟩ => ?_) hs
  subst ex
  obtain rfl : ov = Value.ref a := rx
  exact setattr_ok I2 ea c n l ry fun s3 I3 => ⟨σ, _, I3, q2⟩
def rAdd : V → V → Hp → VK → Prop := fun x y H Q => ∃ i j, x = .int i ∧ y = .int j ∧ Q (.int (i + j)) H
def rSub : V → V → Hp → VK → Prop := fun x y H Q => ∃ i j, x = .int i ∧ y = .int j ∧ Q (.int (i - j)) H
end

/-! ### isinstance -/
section
variable {X : Cx} {pins : List (Addr × Obj)} {σ : St} {H : Hp} {s : Shared} {A : Around} {E : Value → Shared → Prop} {Q : Value → Shared → Prop} {c : Value} {b : Bool}
/-- the type of a value, as the fragment's deciders take it; for an instance its class -/
inductive TyOf (K : PySem.W.Frag) (H : Hp) : V → Value → Prop where
  | non : TyOf K H .non (.type "NoneType")
  | bl (x : Bool) : TyOf K H (.bl x) (.type "bool")
  | int (i : Int) : TyOf K H (.int i) (.type "int")
  | str (x : Str) : TyOf K H (.str x) (.type "str")
  | flt (x : UInt64) : TyOf K H (.flt x) (.type "float")
  | lst {a : Addr} {xs : List V} (e : H a = some (.lst xs)) : TyOf K H (.ref a) (.type "list")
  | frz {a : Addr} {o : Obj} {xs : List V} (e : H a = some (.frz o (.lst xs))) : TyOf K H (.ref a) (.type "list")
  | tup {a : Addr} {xs : List V} (e : H a = some (.tup xs)) : TyOf K H (.ref a) (.type "tuple")
  | dK {a : Addr} {kvs : List (Key × V)} (e : H a = some (.dK kvs)) : TyOf K H (.ref a) (.type "dict")
  | dT {a : Addr} {kvs : List (List Key × V)} (e : H a = some (.dT kvs)) : TyOf K H (.ref a) (.type "dict")
  | ins {a C dx : Addr} {fs : List (Str × V)} (e : H a = some (.ins C dx fs)) (cl : Cls K C) (ha : PySem.W.findIn K (.ref C) "__class__" = some (some (.builtin "object.__class__")))
      (hn : PySem.W.specialIn K (.builtin "object.__class__") "__get__" = some (some (.builtin "getset_descriptor.__get__"))) (htk : PySem.W.takesIn K (.builtin "object.__class__") = some true)
      (hm : PySem.W.mroIn K C (.type "object") = some true) : TyOf K H (.ref a) (.ref C)
end
end L2

namespace L2
open PySem PySem.Spec PyProof.Rows

/-! ### room -/
structure Room (k : Nat) (A : Around) : Prop where
  hd : A.handled = none
  dp : A.depth + 3 * k + 5 < recursionLimit
  un : A.units + 16 * k + 200 < cLine
  gd : A.guards = some []
theorem Room.mono {j k : Nat} {A : Around} (r : Room k A) (h : j ≤ k) : Room j A := ⟨r.hd, by have := r.dp; omega, by have := r.un; omega, r.gd⟩
theorem Room.deeper {k : Nat} {A : Around} (r : Room (k + 1) A) (env : Env) : Room k (A.deeper env) :=
  ⟨r.hd, by have := r.dp; show A.depth + 1 + 3 * k + 5 < _; omega, by have := r.un; show A.units + 3 + 16 * k + 200 < _; omega, r.gd⟩
theorem make_depth {A : Around} {C : Addr} {us : List Value} {kw : List (Str × Value)} : (A.under (.builtin "type.__call__" ⟨.ref C :: us, kw⟩)).depth = A.depth + 1 := by
  first | rfl | simp [Around.under, Code.weight, Code.isCreation, Code.isGuard, Code.isCaller, Code.frames, Code.isFrame, guardIds]
theorem make_units {A : Around} {C : Addr} {us : List Value} {kw : List (Str × Value)} : (A.under (.builtin "type.__call__" ⟨.ref C :: us, kw⟩)).units = A.units + 1 := by
  first | rfl | simp [Around.under, Code.cUnits, Code.frames, Code.isFrame]
theorem make_guards {A : Around} {C : Addr} {us : List Value} {kw : List (Str × Value)} : (A.under (.builtin "type.__call__" ⟨.ref C :: us, kw⟩)).guards = A.guards := by
  have hg : guardIds.contains "type.__call__" = false := by decide +kernel
  have e : Code.guards (.builtin "type.__call__" ⟨.ref C :: us, kw⟩) = [] := by
    unfold Code.guards
    rw [if_neg (fun z => by rw [show Code.isGuard (.builtin "type.__call__" ⟨.ref C :: us, kw⟩) = guardIds.contains "type.__call__" from rfl, hg] at z; cases z)]
  unfold Around.under
  rw [e]
  rfl
theorem Room.make {k : Nat} {A : Around} (r : Room (k + 1) A) (C : Addr) (us : List Value) (kw : List (Str × Value)) : Room k (A.under (.builtin "type.__call__" ⟨.ref C :: us, kw⟩)) :=
  ⟨r.hd, by have := r.dp; rw [make_depth]; omega, by have := r.un; rw [make_units]; omega, make_guards.trans r.gd⟩
theorem Room.depth {k : Nat} {A : Around} (r : Room k A) : A.depth < recursionLimit := by have := r.dp; omega
theorem Room.units {k : Nat} {A : Around} (r : Room k A) : A.units + 64 < cLine := by have := r.un; omega
/-! ### argument lists and displays -/
def tNil : TA := fun _ H Q => Q [] H
def tCons (ta : TE) (tr : TA) : TA := fun σ H Q => ta σ H fun x H1 => tr σ H1 fun xs H2 => Q (x :: xs) H2
section
variable {X : Cx} {e : Expr} {es : List Expr} {te : TE} {t : TA} {pos : Pos}
theorem pa_nil : PA X [] tNil := fun _ _ _ _ H Q I h => Calls.spliced_nil ⟨[], H, I, .nil, h⟩
theorem pa_cons (ha : PE X e te) (hr : PA X es t) (hs : starEach (e :: es) X.env = (false, eval e X.env) :: starEach es X.env := by rfl) : PA X (e :: es) (tCons te t) := by
  intro pos pins s σ H Q I h
  rw [hs]
  show wpAny _ _ (spliced ((false, eval e X.env) :: backTo pos (starEach es X.env))) _ _ s
  refine Calls.spliced_cons (thn (ha pins s σ H _ I h) fun u s1 ⟨x, H1, I1, r1, q1⟩ => ?_)
  exact thn (hr pos pins s1 σ H1 _ I1 q1) fun us s2 ⟨xs, H2, I2, r2, q2⟩ => ⟨x :: xs, H2, I2, .cons r1 r2, q2⟩

/-- a tuple, a list of written items -/
def tTup (t : TA) : TE := fun σ H Q => t σ H fun xs H1 => xs.length ≤ sizeLine ∧ ∀ p, H1 p = none → Q (.ref p) (upd H1 p (.tup xs))
def tLst (t : TA) : TE := fun σ H Q => t σ H fun xs H1 => xs.length ≤ sizeLine ∧ ∀ p, H1 p = none → Q (.ref p) (upd H1 p (.lst xs))
theorem pe_tup {x1} (h : PA X es t) : PE X (.Tuple es x1 pos) (tTup t) := by
  intro pins s σ H Q I hq
  refine wpAny_Tuple_spliced (thn (h pos pins s σ H _ I hq) fun us s1 ⟨xs, H1, I1, r, z, q⟩ => ⟨by rw [← r.length]; exact z, ?_⟩)
  have hf : H1 s1.heap.objs.size = none := I1.hok.fresh (Nat.le_refl _)
  refine ⟨.ref s1.heap.objs.size, upd H1 s1.heap.objs.size (.tup xs), I1.laid (t' := s1.toks) (fun b u e => Heap.get?_push_of_some _ e) (Nat.le_refl _) ?_, rfl, q _ hf⟩
  exact ⟨z, us, r, ⟨_, Heap.get?_push_size _ rfl, rfl, _, rfl⟩⟩
theorem pe_lst (h : PA X es t) : PE X (.List es pos) (tLst t) := by
  intro pins s σ H Q I hq
  refine wpAny_List_spliced (thn (h pos pins s σ H _ I hq) fun us s1 ⟨xs, H1, I1, r, z, q⟩ => ⟨by rw [← r.length]; exact z, ?_⟩)
  have hf : H1 s1.heap.objs.size = none := I1.hok.fresh (Nat.le_refl _)
  refine ⟨.ref s1.heap.objs.size, upd H1 s1.heap.objs.size (.lst xs), I1.laid (t' := s1.toks) (fun b u e => Heap.get?_push_of_some _ e) (Nat.le_refl _) ?_, rfl, q _ hf⟩
  exact ⟨z, us, 0, r, Heap.get?_push_size _ rfl⟩
end

/-! ### what a def promises -/
/-- a def's promise: the bound arguments in the parameters' order, the heap, the wanted end, the wanted exception -/
abbrev Sp := List V → Hp → VK → XK → Prop
/-- how an exception lies behind a call (file 08 gives it): the callers' frames, abstract heap and state ahead of the call, the wish, the exception, the state -/
abbrev CXT := List Env → Hp → Shared → XK → Value → Shared → Prop

/-- the state at a call -/
structure Env0 (P : Program) (w : World) (K : PySem.W.Frag) (mg : Str → Option Value) (base : Heap) (A : Around) (outer : List Env) (s : Shared) (H : Hp) : Prop where
  frames : A.frames = some outer
  mod : Mod K mg base
  bs : ∀ b o, base.get? b = some o → s.heap.get? b = some o ∧ H b = none
  bsz : base.objs.size ≤ s.heap.objs.size
  funs : s.heap.FunFrames base outer
  frf : ∀ b ∈ frs outer, H b = none
  hok : HOk P w H s.heap
  bare : AllBare s.gens
/-- a call's end -/
def CE (outer : List Env) (P : Program) (w : World) (H : Hp) (s : Shared) (Q : VK) (u : Value) (s' : Shared) : Prop :=
  ∃ v H', s'.os = s.os ∧ AllBare s'.gens ∧ Un (frs outer) [] H H' s.heap s'.heap ∧ HOk P w H' s'.heap ∧ RelV v u ∧ Q v H'
def CR (CX : CXT) (outer : List Env) (P : Program) (w : World) (H : Hp) (s : Shared) (Q : VK) (E : XK) (r : Result) (s' : Shared) : Prop :=
  match r with
  | .ok (.ret u) => CE outer P w H s Q u s'
  | .ok _ => False
  | .error e => CX outer H s E e s'
structure FnOk (P : Program) (w : World) (K : PySem.W.Frag) (mg : Str → Option Value) (base : Heap) (CX : CXT) (k : Nat) (f : Addr) (fd : FuncData) (ps : List Str) (sp : Sp) : Prop where
  len : ∀ vs H Q E, sp vs H Q E → vs.length = ps.length
  run : ∀ (A : Around) (outer : List Env) (s : Shared) (H : Hp) (args : Args) (us : List Value) (vs : List V) (Q : VK) (E : XK), Room k A → Env0 P w K mg base A outer s H → BindsTo s fd args (ps.zip us) → Vals vs us → sp vs H Q E →
    codeAny (model P w) A (.call (.ref f) args) (CR CX outer P w H s Q E) s
theorem FnOk.mono {P : Program} {w : World} {K : PySem.W.Frag} {mg : Str → Option Value} {base : Heap} {CX : CXT} {j k : Nat} {f : Addr} {fd : FuncData} {ps : List Str} {sp : Sp} (F : FnOk P w K mg base CX j f fd ps sp) (h : j ≤ k) :
    FnOk P w K mg base CX k f fd ps sp := ⟨F.len, fun A outer s H args us vs Q E hr => F.run A outer s H args us vs Q E (hr.mono h)⟩
theorem Env0.make {P : Program} {w : World} {K : PySem.W.Frag} {mg : Str → Option Value} {base : Heap} {A : Around} {outer : List Env} {s : Shared} {H : Hp} (e : Env0 P w K mg base A outer s H) (C : Addr) (us : List Value) (kw : List (Str × Value)) :
    Env0 P w K mg base (A.under (.builtin "type.__call__" ⟨.ref C :: us, kw⟩)) outer s H := ⟨by first | exact e.frames | (simpa [Around.under, Code.envs, Code.isFrame, pushEnvs] using e.frames), e.mod, e.bs, e.bsz, e.funs, e.frf, e.hok, e.bare⟩
section
variable {X : Cx} {pins : List (Addr × Obj)} {σ : St} {H : Hp} {s s' : Shared}
/-- from a body: what a callee wants -/
theorem Inv.env0 (I : Inv X pins σ H s) : Env0 X.prog X.w X.K X.mg X.base X.A X.stack s H :=
  ⟨I.ok.frames, I.ok.mod, I.bs, Nat.le_trans I.ok.bsz I.sz, I.stack, I.stkFree, I.hok, I.bare⟩
/-- behind a call -/
theorem Inv.after {Q : VK} {u : Value} (I : Inv X pins σ H s) (h : CE X.stack X.prog X.w H s Q u s') : EP X pins σ Q u s' := by
  obtain ⟨v, H', os, bare, un, hok, r, q⟩ := h
  obtain ⟨hh, g, d, t, os'⟩ := s'
  obtain rfl : os' = s.os := os
  exact ⟨v, H', I.call (h' := hh) (g' := g) (d' := d) (t' := t) (ch := []) un hok bare (fun b z => absurd z (by simp)), r, q⟩
end

/-! ### calls -/
/-- f(..): the written arguments, then the defaults dvs; E: what is wanted of an exception -/
def tCall (sp : Sp) (dvs : List V) (E : XK) (t : TA) : TE := fun σ H Q => t σ H fun vs H1 => sp (vs ++ dvs) H1 Q E
/-- o.m(..) of an instance of the class at C -/
def tMeth (C : Addr) (m : Str) (sp : Sp) (dvs : List V) (E : XK) (ta : TE) (t : TA) : TE := fun σ H Q => ta σ H fun x H1 => ∃ a dx fs, x = .ref a ∧ H1 a = some (.ins C dx fs) ∧ fs.lookup m = none ∧
  t σ H1 fun vs H2 => sp (x :: (vs ++ dvs)) H2 Q E
/-- C(..): a new instance and its dict, then __init__ -/
def tMake (C : Addr) (sp : Sp) (dvs : List V) (E : XK) (t : TA) : TE := fun σ H Q => t σ H fun vs H1 => ∀ x dx, H1 x = none → H1 dx = none → dx ≠ x →
  sp (.ref x :: (vs ++ dvs)) (upd (upd H1 dx (.own x)) x (.ins C dx [])) (fun v H2 => v = .non ∧ Q (.ref x) H2) E

/-- how the parameters are bound: us the positional arguments, kw the keywords' values by name, ds the defaults that fill up -/
def Binds (K : PySem.W.Frag) (fd : FuncData) (ps : List Str) (ds : List Value) : Prop :=
  ∀ (s : Shared) (us : List Value), K.In s.heap → (us ++ ds).length = ps.length → BindsTo s fd ⟨us, []⟩ (ps.zip (us ++ ds))
/-- every parameter is given -/
theorem Binds.all {K : PySem.W.Frag} {fd : FuncData} {ps : List Str} (h : ∀ us : List Value, us.length = ps.length → bindArgs fd ⟨us, []⟩ = pure (ps.zip us)) : Binds K fd ps [] := fun s us _ hl => by
  rw [List.append_nil] at hl ⊢
  exact .of_eq (h us hl)

/-- an exception of a callee reaches what this body wants of exceptions -/
def Passes (CX : CXT) (X : Cx) (E : XK) : Prop := ∀ (pins : List (Addr × Obj)) (σ : St) (H : Hp) (s : Shared) (e : Value) (s' : Shared), Inv X pins σ H s → CX X.stack H s E e s' → X.xe e s'

section
variable {X : Cx} {CX : CXT} {k : Nat} {f C : Addr} {fd : FuncData} {ps : List Str} {sp : Sp} {dvs : List V} {ds : List Value} {E : XK} {x m : Str} {p pos apos : Pos} {e o : Expr} {es : List Expr} {ta : TE} {t : TA}

/-- the callee runs -/
theorem run_fn {pins : List (Addr × Obj)} {σ : St} {H : Hp} {s : Shared} {Q : VK} {us : List Value} {vs : List V} (F : FnOk X.prog X.w X.K X.mg X.base CX k f fd ps sp) (hr : Room k X.A) (hb : Binds X.K fd ps ds) (hd : Vals dvs ds) (hx : Passes CX X E)
    (I : Inv X pins σ H s) (r : Vals vs us) (h : sp (vs ++ dvs) H Q E) : wpAny (model X.prog X.w) X.A (call (.ref f) us) (EP X pins σ Q) X.xe s := by
  have r2 : Vals (vs ++ dvs) (us ++ ds) := r.append hd
  have hl : (us ++ ds).length = ps.length := by rw [← r2.length]; exact F.len _ _ _ _ h
  refine wpAny_call (codeAny_mono (F.run X.A X.stack s H ⟨us, []⟩ (us ++ ds) (vs ++ dvs) Q E hr I.env0 (hb s us I.kIn hl) r2 h) fun r s' hq => ?_)
  cases r with
  | error e => exact hx pins σ H s e s' I hq
  | ok fl =>
    cases fl with
    | ret u => exact I.after hq
    | next => exact False.elim hq
    | brk => exact False.elim hq
    | cont => exact False.elim hq

theorem pe_call (F : FnOk X.prog X.w X.K X.mg X.base CX k f fd ps sp) (hr : Room k X.A) (hg : Gl X x) (hm : X.mg x = some (.ref f)) (hk : PySem.W.keepIn X.K (.ref f) = true) (hb : Binds X.K fd ps ds) (hd : Vals dvs ds) (hx : Passes CX X E)
    (ha : PA X (e :: es) t) (hdb : (x == ("__debug__" : Str)) = false := by decide) (he : starEach (e :: es) X.env = (false, eval e X.env) :: starEach es X.env := by rfl) (hpl : (backTo pos (starEach es X.env)).any (·.1) = false := by rfl) :
    PE X (.Call (.Name x p) (e :: es) [] pos) (tCall sp dvs E t) := by
  intro pins s σ H Q I h
  refine wpAny_Call_Name_kw (ld_glob I hg hm ?_ hdb)
  refine PySem.W.callWith_K (h₀ := X.base) I.ok.mod.kin hk (thn (ha pos pins s σ H _ I h) fun us s1 ⟨vs, H1, I1, r, q⟩ => ⟨I1.kIn, ?_⟩) he hpl
  exact run_fn F hr hb hd hx I1 r q
/-- o.m(e, ..) -/
theorem pe_meth {pl : Sem Bool} (he : PE X o ta) (c : Cls X.K C) (hm : Meth X.K C m f) (F : FnOk X.prog X.w X.K X.mg X.base CX k f fd ps sp) (hr : Room k X.A) (hb : Binds X.K fd ps ds) (hd : Vals dvs ds) (hx : Passes CX X E) (ha : PA X (e :: es) t)
    (hst : starEach (e :: es) X.env = (false, eval e X.env) :: starEach es X.env := by rfl) (hpl : (backTo pos (starEach es X.env)).any (·.1) = false := by rfl)
    (ht : eval (.Call (.Attribute o m apos) (e :: es) [] pos) X.env = (do
      let ov ← eval o X.env
      standAt apos.atName
      let (f, first) ← holding [ov] (getMethod ov m pl)
      callWith pos f first (backTo pos (starEach (e :: es) X.env)) (backToKw pos (keywordEach [] X.env))) := by rfl) :
    PE X (.Call (.Attribute o m apos) (e :: es) [] pos) (tMeth C m sp dvs E ta t) := by
  intro pins s σ H Q I h
  refine PySem.W.methodCall_KW (pl := pl) (thn (he pins s σ H _ I h) fun u s1 ⟨x, H1, I1, rx, a, dx, fs, ex, ea, l, q⟩ => ?_) ht
  subst ex
  obtain rfl : u = Value.ref a := rx
  refine getmeth_ok I1 ea c hm l ?_
  refine PySem.W.callWith_K (first := [.ref a]) (h₀ := X.base) I.ok.mod.kin hm.kp (thn (ha pos pins s1 σ H1 _ I1 q) fun us s2 ⟨vs, H2, I2, r, q2⟩ => ⟨I2.kIn, ?_⟩) hst hpl
  exact run_fn (us := .ref a :: us) (vs := .ref a :: vs) F hr hb hd hx I2 (.cons rfl r) q2
/-- what a class must have to be made -/
structure Mk (K : PySem.W.Frag) (C f : Addr) : Prop where
  makes : PySem.W.makesIn K C = true
  init : PySem.W.findIn K (.ref C) "__init__" = some (some (.ref f))
  fn : PySem.W.isFn K (.ref f) = true
  kp : PySem.W.keepIn K (.ref C) = true

theorem run_make {pins : List (Addr × Obj)} {σ : St} {H : Hp} {s : Shared} {Q : VK} {us : List Value} {vs : List V} (M : Mk X.K C f) (F : FnOk X.prog X.w X.K X.mg X.base CX k f fd ps sp) (hr : Room (k + 1) X.A) (hb : Binds X.K fd ps ds) (hd : Vals dvs ds)
    (hx : Passes CX X E) (I : Inv X pins σ H s) (r : Vals vs us)
    (h : ∀ x dx, H x = none → H dx = none → dx ≠ x → sp (.ref x :: (vs ++ dvs)) (upd (upd H dx (.own x)) x (.ins C dx [])) (fun v H2 => v = .non ∧ Q (.ref x) H2) E) :
    wpAny (model X.prog X.w) X.A (call (.ref C) us) (EP X pins σ Q) X.xe s := by
  have hq := h (s.heap.objs.size + 1) s.heap.objs.size (I.hok.fresh (Nat.le_succ _)) (I.hok.fresh (Nat.le_refl _)) (Nat.ne_of_lt (Nat.lt_succ_self _))
  have I2 := Inv.made (C := C) I
  have r2 : Vals (V.ref (s.heap.objs.size + 1) :: (vs ++ dvs)) (Value.ref (s.heap.objs.size + 1) :: (us ++ ds)) := .cons rfl (r.append hd)
  have hl : (Value.ref (s.heap.objs.size + 1) :: us ++ ds).length = ps.length := by
    have e := r2.length
    rw [F.len _ _ _ _ hq] at e
    exact e.symm
  refine wpAny_call (make_map (f := f) I.kIn M.makes M.init (beq_iff_eq.mp M.fn) (codeAny_mono (F.run _ X.stack _ _ ⟨Value.ref (s.heap.objs.size + 1) :: us, []⟩ (Value.ref (s.heap.objs.size + 1) :: (us ++ ds)) _ _ E (hr.make C us [])
    (I2.env0.make C us []) (hb _ (Value.ref (s.heap.objs.size + 1) :: us) I2.kIn hl) r2 hq) fun r s' hq' => ?_))
  cases r with
  | error e => exact hx pins σ _ _ e s' I2 hq'
  | ok fl =>
    cases fl with
    | ret u =>
      obtain ⟨v, H', I3, rv, ev, q3⟩ := I2.after hq'
      subst ev
      exact ⟨rv, ⟨V.ref (s.heap.objs.size + 1), H', I3, rfl, q3⟩⟩
    | next => exact False.elim hq'
    | brk => exact False.elim hq'
    | cont => exact False.elim hq'
theorem pe_make (M : Mk X.K C f) (F : FnOk X.prog X.w X.K X.mg X.base CX k f fd ps sp) (hr : Room (k + 1) X.A) (hg : Gl X x) (hm : X.mg x = some (.ref C)) (hb : Binds X.K fd ps ds) (hd : Vals dvs ds) (hx : Passes CX X E)
    (ha : PA X (e :: es) t) (hdb : (x == ("__debug__" : Str)) = false := by decide) (he : starEach (e :: es) X.env = (false, eval e X.env) :: starEach es X.env := by rfl) (hpl : (backTo pos (starEach es X.env)).any (·.1) = false := by rfl) :
    PE X (.Call (.Name x p) (e :: es) [] pos) (tMake C sp dvs E t) := by
  intro pins s σ H Q I h
  refine wpAny_Call_Name_kw (ld_glob I hg hm ?_ hdb)
  refine PySem.W.callWith_K (h₀ := X.base) I.ok.mod.kin M.kp (thn (ha pos pins s σ H _ I h) fun us s1 ⟨vs, H1, I1, r, q⟩ => ⟨I1.kIn, ?_⟩) he hpl
  exact run_make M F hr hb hd hx I1 r q
end

/-! ### keywords -/
/-- the values of the keywords, from the left -/
def PK (X : Cx) (kws : List Keyword) (t : TA) : Prop :=
  ∀ (pos : Pos) (pins : List (Addr × Obj)) (s : Shared) (σ : St) (H : Hp) (Q : List V → Hp → Prop), Inv X pins σ H s → t σ H Q → wpAny (model X.prog X.w) X.A (evalAll ((backToKw pos (keywordEach kws X.env)).map (·.2))) (AP X pins σ Q) X.xe s
section
variable {X : Cx} {CX : CXT} {k : Nat} {f C : Addr} {fd : FuncData} {ps ks : List Str} {sp : Sp} {E : XK} {x m : Str} {p pos apos kpos : Pos} {e o : Expr} {es : List Expr} {kws : List Keyword} {te ta : TE} {t tk : TA} {nm : Option Str}
/-- how a call with keywords binds: g puts the positional values us and the keywords' values ws (names ks) in the parameters' order, defaults among them -/
structure KBinds (K : PySem.W.Frag) (fd : FuncData) (ps ks : List Str) (g : List Value → List Value → List Value) (gV : List V → List V → List V) : Prop where
  to : ∀ (s : Shared) (us ws : List Value), K.In s.heap → (g us ws).length = ps.length → BindsTo s fd ⟨us, ks.zip ws⟩ (ps.zip (g us ws))
  rel : ∀ {vs : List V} {us : List Value} {zs : List V} {ws : List Value}, Vals vs us → Vals zs ws → Vals (gV vs zs) (g us ws)
def tCallK (sp : Sp) (gV : List V → List V → List V) (E : XK) (t tk : TA) : TE := fun σ H Q => t σ H fun vs H1 => tk σ H1 fun zs H2 => sp (gV vs zs) H2 Q E
variable {g : List Value → List Value → List Value} {gV : List V → List V → List V}
end

/-! ### a def's body keeps its promise -/
/-- names: the parameters first -/
structure FnScope (N P : List Str) (sc : Scope) : Prop where
  kind : sc.kind = .function
  co : sc.isCoroutine = false
  gen : sc.isGenerator = false
  nd : N.Nodup
  pre : N.take P.length = P
  par : ∀ x ∈ P, sc.names.lookup x = some .local ∨ sc.names.lookup x = some .cell
  nofree : ∀ y ∈ sc.names, y.2 ≠ .free

theorem bindL_out {kindOf : Str → Option NameKind} {x : Str} : ∀ {binds : List (Str × Value)} {m : Str → Option Value}, (∀ v, (x, v) ∉ binds) → bindL kindOf binds m x = m x
  | [], _, _ => rfl
  | (n, v) :: r, m, h => by
    unfold bindL
    rw [bindL_out fun w hw => h w (List.mem_cons_of_mem _ hw)]
    split
    · have : x ≠ n := by rintro rfl; exact h v List.mem_cons_self
      simp [this]
    · rfl
theorem bindC_out {kindOf : Str → Option NameKind} {x : Str} : ∀ {binds : List (Str × Value)} {m : Str → Option Value}, (∀ v, (x, v) ∉ binds) → bindC kindOf binds m x = m x
  | [], _, _ => rfl
  | (n, v) :: r, m, h => by
    unfold bindC
    rw [bindC_out fun w hw => h w (List.mem_cons_of_mem _ hw)]
    split
    · rfl
    · have : x ≠ n := by rintro rfl; exact h v List.mem_cons_self
      simp [this]
theorem bindL_get {kindOf : Str → Option NameKind} {x : Str} {v : Value} : ∀ {P : List Str} {vs : List Value} {i : Nat} {m : Str → Option Value}, P.Nodup → P[i]? = some x → vs[i]? = some v → kindOf x = some .local →
    bindL kindOf (P.zip vs) m x = some v
  | [], _, _, _, _, h, _, _ => by simp at h
  | _ :: _, [], _, _, _, _, h, _ => by simp at h
  | p :: P, w :: vs, 0, m, nd, h1, h2, hk => by
    simp at h1 h2; subst h1; subst h2
    show bindL kindOf ((p, w) :: P.zip vs) m p = _
    unfold bindL
    rw [bindL_out fun v hv => (List.nodup_cons.mp nd).1 (List.of_mem_zip hv).1, if_pos hk]
    simp
  | p :: P, w :: vs, i + 1, m, nd, h1, h2, hk => by
    show bindL kindOf ((p, w) :: P.zip vs) m x = _
    unfold bindL
    exact bindL_get (i := i) (List.nodup_cons.mp nd).2 (by simpa using h1) (by simpa using h2) hk
theorem bindC_get {kindOf : Str → Option NameKind} {x : Str} {v : Value} : ∀ {P : List Str} {vs : List Value} {i : Nat} {m : Str → Option Value}, P.Nodup → P[i]? = some x → vs[i]? = some v → kindOf x ≠ some .local →
    bindC kindOf (P.zip vs) m x = some v
  | [], _, _, _, _, h, _, _ => by simp at h
  | _ :: _, [], _, _, _, _, h, _ => by simp at h
  | p :: P, w :: vs, 0, m, nd, h1, h2, hk => by
    simp at h1 h2; subst h1; subst h2
    show bindC kindOf ((p, w) :: P.zip vs) m p = _
    unfold bindC
    rw [bindC_out fun v hv => (List.nodup_cons.mp nd).1 (List.of_mem_zip hv).1, if_neg hk]
    simp
  | p :: P, w :: vs, i + 1, m, nd, h1, h2, hk => by
    show bindC kindOf ((p, w) :: P.zip vs) m x = _
    unfold bindC
    exact bindC_get (i := i) (List.nodup_cons.mp nd).2 (by simpa using h1) (by simpa using h2) hk

/-- the names' values at the entry -/
def start (N : List Str) (vs : List V) : St := vs.map some ++ List.replicate (N.length - vs.length) none

/-- the context of a def's body, at its entry; an exception leaves the frame, then lies as CX says -/
def cxOf (CX : CXT) (P : Program) (w : World) (K : PySem.W.Frag) (mg : Str → Option Value) (base : Heap) (N : List Str) (qual : Str) (scope : Scope) (f : Addr) (cd : Value) (A : Around) (outer : List Env) (s : Shared) (H : Hp) (E : XK) : Cx where
  prog := P
  w := w
  K := K
  mg := mg
  base := base
  A := A.deeper (envOfC qual scope s.heap.objs.size f cd)
  N := N
  s₀ := s
  H₀ := H
  env := envOfC qual scope s.heap.objs.size f cd
  outer := outer
  stack := envOfC qual scope s.heap.objs.size f cd :: outer
  ex := []
  calm := true
  fn := fun _ => true
  pn := []
  xe := fun e s' => wpAny (model P w) (A.deeper (envOfC qual scope s.heap.objs.size f cd)) (leaving (envOfC qual scope s.heap.objs.size f cd) e) (fun _ s'' => CX outer H s E e s'') (fun e' s'' => CX outer H s E e' s'') s'

theorem cell_has {sc : Scope} {n : Nat} {x : Str} (h : sc.names.lookup x = some .cell) : ∃ c, (cellsFrom n sc.names []).lookup x = some c := by
  have q := PySem.W.cellsFrom_some sc.names n [] (.inl h)
  exact Option.isSome_iff_exists.mp q

theorem inv_start {CX : CXT} {P : Program} {w : World} {K : PySem.W.Frag} {mg : Str → Option Value} {base : Heap} {N ps : List Str} {qual : Str} {scope : Scope} {f : Addr} {cd : Value} {A : Around} {outer : List Env} {s s1 : Shared} {H : Hp} {E : XK} {us : List Value} {vs : List V}
    (S : FnScope N ps scope) (hd : A.handled = none) (e0 : Env0 P w K mg base A outer s H) (hl : vs.length = ps.length) (r : Vals vs us)
    (x : InCallC s s.heap.objs.size (bindL (envOfC qual scope s.heap.objs.size f cd).kindOf (ps.zip us) fun _ => none) (cellsFrom (s.heap.objs.size + 1) scope.names []) (bindC (envOfC qual scope s.heap.objs.size f cd).kindOf (ps.zip us) fun _ => none) s1) :
    Inv (cxOf CX P w K mg base N qual scope f cd A outer s H E) [] (start N vs) H s1 := by
  have hpl : ps.length ≤ N.length := by have := congrArg List.length S.pre; rw [List.length_take] at this; omega
  obtain ⟨h1, tk, rfl, hk⟩ := x.done
  have noA : ∀ b : Addr, b ∉ (cxOf CX P w K mg base N qual scope f cd A outer s H E).ex := fun b z => absurd (show b ∈ ([] : List Addr) from z) (by simp)
  refine ⟨⟨e0.mod, S.kind, rfl, rfl, Nat.le_refl _, fun y z c h1 h2 => ?_, fun y hy => ?_, fun y c _ h => ?_, fun _ => hd, Around.frames_deeper e0.frames, .inr ⟨rfl, rfl⟩, fun b z => absurd z (noA b), e0.bs, e0.bsz, fun b _ _ => noA b, fun b z => absurd z (noA b), e0.funs, e0.frf⟩,
    rfl, e0.bare, Un.kept hk, ⟨_, x.toInCall.ns, fun i y v h1 h2 h3 => ?_⟩, fun y c h => ⟨_, x.cell y c h⟩, e0.hok.fresh (Nat.le_refl _), fun y c h => ?_, fun p hp => absurd (show p ∈ ([] : List (Addr × Obj)) from hp) (by simp), e0.hok.kept hk, ?_⟩
  · exact name_of_addr x.apart (PySem.mem_of_lookup h1) (PySem.mem_of_lookup h2)
  · have hy : scope.names.lookup y = some .cell ∨ scope.names.lookup y = some .free := hy
    rcases hy with hy | hy
    · exact cell_has hy
    · exact absurd rfl (S.nofree _ (PySem.mem_of_lookup hy))
  · exact Nat.le_of_lt (x.above y c (PySem.mem_of_lookup h))
  · have hi : i < vs.length := by
      unfold start at h2
      by_cases hi : i < vs.length
      · exact hi
      · rw [List.getElem?_append_right (by simpa using hi)] at h2
        rw [List.getElem?_replicate] at h2
        split at h2 <;> cases h2
    have ha : vs[i]? = some v := by
      unfold start at h2
      rw [List.getElem?_append_left (by simpa using hi), List.getElem?_map] at h2
      cases e : vs[i]? with
      | none => rw [e] at h2; cases h2
      | some a => rw [e] at h2; cases h2; rfl
    obtain ⟨u, hu, rv⟩ := r.get ha
    have hp : ps[i]? = some y := by
      rw [← S.pre, List.getElem?_take_of_lt (by omega)]; exact h1
    have ndP : ps.Nodup := by rw [← S.pre]; exact S.nd.sublist (List.take_sublist _ _)
    refine ⟨u, rv, ?_⟩
    rcases S.par y (List.mem_of_getElem? hp) with k | k
    · exact .inl ⟨k, bindL_get ndP hp hu k⟩
    · obtain ⟨c, e⟩ := cell_has (n := s.heap.objs.size + 1) k
      refine .inr ⟨.inl k, c, e, ?_⟩
      have q := x.cell y c e
      rw [bindC_get ndP hp hu (by show scope.names.lookup y ≠ _; rw [k]; decide)] at q
      exact q
  · exact e0.hok.fresh (Nat.le_of_lt (x.above y c (PySem.mem_of_lookup h)))
  · unfold start
    show _ = N.length
    rw [List.length_append, List.length_map, List.length_replicate]
    omega

/-- THE RULE: a def (or a method) of the text, by its body. The body's reading t is chosen for each entry; it is run at the parameters' values -/
theorem fn_of {CX : CXT} {P : Program} {w : World} {K : PySem.W.Frag} {mg : Str → Option Value} {base : Heap} {k : Nat} {f : Addr} {name qual : Str} {params : Arguments} {body : List Stmt} {scope : Scope} {dV kV doc pm cdv ct oc : Value} {an od : Option Addr}
    {osl : Array (Option Value)} {N ps : List Str} {sp : Sp} (lk : K.lookup f = some ⟨oc, od, .func (PySem.W.fnOf name qual params body scope dV kV doc pm an cdv ct), osl⟩) (hcd : PySem.W.codeIn K cdv qual = true) (S : FnScope N ps scope)
    (len : ∀ vs H Q E, sp vs H Q E → vs.length = ps.length)
    (hbody : ∀ (A : Around) (outer : List Env) (s : Shared) (H : Hp) (vs : List V) (Q : VK) (E : XK), Room k (A.deeper (envOfC qual scope s.heap.objs.size f cdv)) → sp vs H Q E →
      ∃ t, PSs (cxOf CX P w K mg base N qual scope f cdv A outer s H E) body t ∧ t { nx := fun _ H' => Q .non H', rt := Q } (start N vs) H) :
    FnOk P w K mg base CX (k + 1) f (PySem.W.fnOf name qual params body scope dV kV doc pm an cdv ct) ps sp := by
  refine ⟨len, fun A outer s H args us vs Q E hr e0 hb r hsp => ?_⟩
  have hl := len _ _ _ _ hsp
  have KX : K.In s.heap := e0.mod.kin.keeps fun b o e => (e0.bs b o e).1
  have lim : s.heap.NoLimit := e0.mod.nolimit.keeps fun b o e => (e0.bs b o e).1
  have hkind : ∀ y ∈ ps.zip us, scope.names.lookup y.1 = some .local ∨ (scope.names.lookup y.1 = some .cell ∧ ((cellsFrom (s.heap.objs.size + 1) scope.names []).lookup y.1).isSome = true) := fun ⟨n, v⟩ hy => by
    rcases S.par n (List.of_mem_zip hy).1 with q | q
    · exact .inl q
    · exact .inr ⟨q, PySem.W.cellsFrom_some _ _ _ (.inl q)⟩
  refine codeAny_call_function hr.depth (KX _ _ lk) rfl S.co S.gen rfl (PySem.W.codeRec_of KX hcd) (hb _ _ _ _ ?_)
  refine wpAny_newFunctionEnv_cells S.kind hkind fun env he s1 x => ?_
  subst he
  refine ⟨lim.keeps x.toInCall.keep, codeAny_func ?_⟩
  obtain ⟨t, ht, hq⟩ := hbody A outer s H vs Q E (hr.deeper _) hsp
  have I : Inv (cxOf CX P w K mg base N qual scope f cdv A outer s H E) [] (start N vs) H s1 := inv_start S hr.hd e0 hl r x
  refine wpAny_mono (ht [] s1 (start N vs) H _ I hq) (fun fl s' hs => ?_) fun e s' hs => hs
  have fin : ∀ {σ' : St} {H' : Hp} {v : V} {u : Value}, Inv (cxOf CX P w K mg base N qual scope f cdv A outer s H E) [] σ' H' s' → RelV v u → Q v H' → CE outer P w H s Q u s' :=
    fun {σ' H' v u} J rv q => ⟨v, H', J.os, J.bare, J.base, J.hok, rv, q⟩
  cases fl with
  | ret u =>
    obtain ⟨v, σ', H', J, rv, q⟩ := hs
    exact fin J rv q
  | next =>
    obtain ⟨σ', H', J, q⟩ := hs
    exact fin (v := V.non) (u := Value.none) J rfl q
  | brk =>
    obtain ⟨_, _, _, q⟩ := hs
    exact False.elim q
  | cont =>
    obtain ⟨_, _, _, q⟩ := hs
    exact False.elim q
end L2

namespace L2
open PySem PySem.Spec PyProof.Rows
section
variable {X : Cx} {x : Str} {p pos : Pos} {e : Expr} {es : List Expr} {t : TA} {id T : String} {r : List V → Hp → VK → Prop}

def tCB (r : List V → Hp → VK → Prop) (t : TA) : TE := fun σ H Q => t σ H fun vs H1 => r vs H1 Q
/-- f(e, ..), f a built-in function -/
theorem pe_callB (hc : CallR X (.builtin id) r) (hg : Gl X x) (hm : X.mg x = none) (hv : bootBuiltins x = some (.builtin id)) (ha : PA X (e :: es) t) (hn : x ≠ "__name__" := by decide) (hdb : (x == ("__debug__" : Str)) = false := by decide)
    (he : starEach (e :: es) X.env = (false, eval e X.env) :: starEach es X.env := by rfl) (hpl : (backTo pos (starEach es X.env)).any (·.1) = false := by rfl) : PE X (.Call (.Name x p) (e :: es) [] pos) (tCB r t) := by
  intro pins s σ H Q I h
  refine wpAny_Call_Name_kw (ld_blt I hg hm hv ?_ hn hdb)
  exact PyProof.Rows.callWith_builtin1 (thn (ha pos pins s σ H _ I h) fun us s1 ⟨vs, H1, I1, r1, q1⟩ => hc pins s1 σ H1 vs us Q I1 r1 q1) he hpl
/-- T(e, ..), T a built-in type -/
theorem pe_callTy (hc : CallR X (.type T) r) (hg : Gl X x) (hm : X.mg x = none) (hv : bootBuiltins x = some (.type T)) (ha : PA X (e :: es) t) (hn : x ≠ "__name__" := by decide) (hdb : (x == ("__debug__" : Str)) = false := by decide)
    (he : starEach (e :: es) X.env = (false, eval e X.env) :: starEach es X.env := by rfl) (hpl : (backTo pos (starEach es X.env)).any (·.1) = false := by rfl) : PE X (.Call (.Name x p) (e :: es) [] pos) (tCB r t) := by
  intro pins s σ H Q I h
  refine wpAny_Call_Name_kw (ld_blt I hg hm hv ?_ hn hdb)
  exact PyProof.Rows.callWith_type1 (thn (ha pos pins s σ H _ I h) fun us s1 ⟨vs, H1, I1, r1, q1⟩ => hc pins s1 σ H1 vs us Q I1 r1 q1) he hpl
end
end L2

namespace HT
open PySem PyProof.Rows

/-- t < u of tuples of ints -/
def lexLt : List Int → List Int → Bool
  | [], [] => false
  | [], _ :: _ => true
  | _ :: _, [] => false
  | x :: xs, y :: ys => if x = y then lexLt xs ys else decide (x < y)
section
open PySem.SeqAt
open PySem.AutoSeq1 (wpAny_loadPart')
open PySem.MeetsSeq PySem.MeetsSeq2 PySem.MeetsSeq3

end

section
variable {prog : Program} {w : World} {A : Around} {E : Value → Shared → Prop} {s : Shared}

/-- t + u, t not empty -/
theorem cat_tup {t b : Addr} {vs ws : List Value} {Q : Value → Shared → Prop} (ht : IsTup s.heap t vs.toArray) (hb : IsTup s.heap b ws.toArray) (hv : vs ≠ [])
    (h1 : ws = [] → Q (.ref t) s) (h2 : ws ≠ [] → Q (.ref s.heap.objs.size) { s with heap := s.heap.push { cls := .type "tuple", data := .seq (vs ++ ws).toArray } })
    (hsz : vs.length + ws.length ≤ sizeLine) : wpAny (model prog w) A (binaryOp .Add (.ref t) (.ref b)) Q E s := by
  obtain ⟨⟨cls, dd, data, sl⟩, ho, hc, n, hd⟩ := id ht
  obtain ⟨⟨cls2, dd2, data2, sl2⟩, ho2, hc2, n2, hd2⟩ := id hb
  simp only at hc hd hc2 hd2
  subst hc hd hc2 hd2
  have e : vs.toArray ++ ws.toArray = (vs ++ ws).toArray := by simp
  by_cases hw : ws = []
  · exact concat_meets ⟨_, ho, rfl⟩ ⟨_, ho2, rfl⟩ noFill_tuple_add seq_tuple_add PySem.F.slot_tuple_add PySem.F.entry_tuple_add (PySem.F.args_tuple_add_2 _ _)
      (tuple_addW1 t b vs.toArray ws.toArray n n2 dd dd2 sl sl2 (by simpa using hv) (by simp [hw])) ⟨ho, ho2, h1 hw⟩
  · refine concat_meets ⟨_, ho, rfl⟩ ⟨_, ho2, rfl⟩ noFill_tuple_add seq_tuple_add PySem.F.slot_tuple_add PySem.F.entry_tuple_add (PySem.F.args_tuple_add_2 _ _)
      (tuple_addW2 t b vs.toArray ws.toArray n n2 dd dd2 sl sl2 (by simpa using hv) (by simpa using hw) (by rw [List.size_toArray, List.size_toArray]; exact hsz)) ⟨ho, ho2, ?_⟩
    rw [e]
    exact h2 hw

/-! ### t[a:b], not the whole -/
/-- a slice's bound as a place among n (d where it is left out) -/
def sIx (n d : Nat) : Option Int → Nat
  | none => d
  | some v => if v < 0 then (v + (n : Int)).toNat else min v.toNat n
theorem sIx_none (n d : Nat) : sIx n d none = d := rfl
theorem sIx_nat (n d k : Nat) : sIx n d (some (k : Int)) = min k n := by
  show (if (k : Int) < 0 then ((k : Int) + (n : Int)).toNat else min (k : Int).toNat n) = min k n
  rw [if_neg (by omega), Int.toNat_natCast]
end
end HT

namespace L2
open PySem PySem.Spec PyProof.Rows

/-! ### the parts of a slice -/
abbrev TO := St → Hp → (Option Int → Hp → Prop) → Prop
/-- a slice's part (left out, or an int) -/
def PO (X : Cx) (e : Option Expr) (t : TO) : Prop :=
  ∀ (pins : List (Addr × Obj)) (s : Shared) (σ : St) (H : Hp) (Q : Option Int → Hp → Prop), Inv X pins σ H s → t σ H Q →
    wpAny (model X.prog X.w) X.A (evalPart e X.env) (fun u s' => ∃ o H', Inv X pins σ H' s' ∧ IsPart u o ∧ Q o H') X.xe s
def tNoPart : TO := fun _ H Q => Q none H
def tPart (t : TE) : TO := fun σ H Q => t σ H fun x H1 => ∃ i, x = .int i ∧ Q (some i) H1

theorem intsAre_of {ns : List Int} : ∀ {us : List Value}, Vals (ns.map V.int) us → IntsAre us ns := by
  induction ns with
  | nil => intro us r; rw [List.map_nil] at r; cases r; exact .nil
  | cons n ns ih =>
    intro us r
    rw [List.map_cons] at r
    cases r with
    | cons r1 r2 =>
      obtain ⟨t, e⟩ := r1
      subst e
      exact .cons n t (ih r2)

section
variable {X : Cx} {e : Expr} {te : TE} {lo hi : Option Expr} {tl th : TO} {pos p2 : Pos}

theorem po_none : PO X none tNoPart := by
  intro pins s σ H Q I h
  rw [evalPart_none]
  exact wpAny_pure ⟨none, H, I, .none, h⟩
theorem po_some (h : PE X e te) : PO X (some e) (tPart te) := by
  intro pins s σ H Q I hw
  rw [evalPart_some]
  refine thn (h pins s σ H _ I hw) fun u s1 ⟨x, H1, I1, r1, q1⟩ => ?_
  obtain ⟨i, rfl, q⟩ := q1
  obtain ⟨t, rfl⟩ := r1
  exact ⟨some i, H1, I1, .int i t, q⟩

/-- what a slice of a value is, by values: the slice object stands at sl -/
def SlR (X : Cx) (r : V → Option Int → Option Int → Hp → VK → Prop) : Prop :=
  ∀ (pins : List (Addr × Obj)) (s : Shared) (σ : St) (H : Hp) (x : V) (v vl vu : Value) (lo hi : Option Int) (sl : Addr) (Q : VK), Inv X pins σ H s → RelV x v → s.heap.IsSliceOf sl vl vu .none → IsPart vl lo → IsPart vu hi → r x lo hi H Q →
    ∃ T id, typeLookup (.type T) "__getitem__" = pure (some (.builtin id)) ∧ s.TypeIs v T ∧ wpAny (model X.prog X.w) X.A (getItem v (.ref sl)) (EP X pins σ Q) X.xe s
def tSl (r : V → Option Int → Option Int → Hp → VK → Prop) (te : TE) (tl th : TO) : TE := fun σ H Q => te σ H fun x H1 => tl σ H1 fun l H2 => th σ H2 fun u H3 => r x l u H3 Q
/-- a[lo:hi], any a -/
theorem pe_slice {r : V → Option Int → Option Int → Hp → VK → Prop} (hr : SlR X r) (he : PE X e te) (hl : PO X lo tl) (hu : PO X hi th) : PE X (.Subscript e (.Slice lo hi none p2) pos) (tSl r te tl th) := by
  intro pins s σ H Q I h
  refine Subscript_ (thn (he pins s σ H _ I h) fun v s1 ⟨x, H1, I1, r1, q1⟩ => ?_)
  refine wpAny_Slice (thn (hl pins s1 σ H1 _ I1 q1) fun vl s2 ⟨l, H2, I2, pl, q2⟩ => thn (hu pins s2 σ H2 _ I2 q2) fun vu s3 ⟨u, H3, I3, pu, q3⟩ => ?_)
  rw [evalPart_none]
  refine wpAny_pure ?_
  have I4 : Inv X pins σ H3 { s3 with heap := s3.heap.push { cls := .type "slice", data := .fields #[vl, vu, .none] } } := I3.kept (t' := s3.toks) fun b ob q => Heap.get?_push_of_some _ q
  obtain ⟨T, id, hT, ht, hg⟩ := hr pins { s3 with heap := s3.heap.push { cls := .type "slice", data := .fields #[vl, vu, .none] } } σ H3 x v vl vu l u s3.heap.objs.size Q I4 r1 (Heap.IsSliceOf.new ..) pl pu q3
  show wpAny (model X.prog X.w) X.A (subscriptTail e (.Slice lo hi none p2) v (.ref s3.heap.objs.size)) (EP X pins σ Q) X.xe { s3 with heap := s3.heap.push { cls := .type "slice", data := .fields #[vl, vu, .none] } }
  exact tail_any (ops := [.ref s3.heap.objs.size, v]) ht hT hg (by with_unfolding_all rfl)

/-- the items of xs[lo:hi] -/
def cutV (xs : List V) (lo hi : Option Int) : List V := (xs.drop (HT.sIx xs.length 0 lo)).take (HT.sIx xs.length xs.length hi - HT.sIx xs.length 0 lo)
theorem cutV_length (xs : List V) (lo hi : Option Int) : (cutV xs lo hi).length ≤ xs.length := by
  unfold cutV
  rw [List.length_take, List.length_drop]
  omega
/-- t[lo:hi], not the whole of it (the whole would be t itself) -/
def rSlT (K : PySem.W.Frag) : V → Option Int → Option Int → Hp → VK → Prop := fun x lo hi H Q => ∃ a xs, x = .ref a ∧ SqT K H a xs ∧
  ¬ (HT.sIx xs.length 0 lo = 0 ∧ HT.sIx xs.length xs.length hi = xs.length) ∧ ∀ p, H p = none → Q (.ref p) (upd H p (.tup (cutV xs lo hi)))
/-! ### t < u, t + u -/
def rLtT (K : PySem.W.Frag) : R2 := fun x y H Q => ∃ a b ns ms, x = .ref a ∧ y = .ref b ∧ SqT K H a (ns.map V.int) ∧ SqT K H b (ms.map V.int) ∧ Q (.bl (HT.lexLt ns ms)) H
/-- t + u, t not empty: u empty gives t itself -/
def rCatT (K : PySem.W.Frag) : R2 := fun x y H Q => ∃ a b xs ys, x = .ref a ∧ y = .ref b ∧ SqT K H a xs ∧ SqT K H b ys ∧ xs ≠ [] ∧ xs.length + ys.length ≤ sizeLine ∧
  (ys = [] → Q (.ref a) H) ∧ (ys ≠ [] → ∀ p, H p = none → Q (.ref p) (upd H p (.tup (xs ++ ys))))
theorem Vals.nil_iff {xs : List V} {us : List Value} (r : Vals xs us) : us = [] ↔ xs = [] := by
  cases r with
  | nil => simp
  | cons _ _ => simp
theorem op_catT : OpR X (binaryOp .Add) (rCatT X.K) := by
  intro pins s σ H x y v u Q I rx ry h
  obtain ⟨a, b, xs, ys, rfl, rfl, ha, hb, hx, hz, q1, q2⟩ := h
  cases rx
  cases ry
  obtain ⟨its, r1, p1, _⟩ := I.tuple ha
  obtain ⟨its2, r2, p2, _⟩ := I.tuple hb
  refine HT.cat_tup p1 p2 (fun z => hx (r1.nil_iff.mp z)) (fun z => ⟨.ref a, H, I, rfl, q1 (r2.nil_iff.mp z)⟩) (fun z => ?_) (by rw [← r1.length, ← r2.length]; exact hz)
  refine ⟨.ref s.heap.objs.size, _, I.laid (t' := s.toks) (o := .tup (xs ++ ys)) (fun b ob q => Heap.get?_push_of_some _ q) (Nat.le_refl _) ?_, rfl, q2 (fun w => z (r2.nil_iff.mpr w)) _ (I.hok.fresh (Nat.le_refl _))⟩
  exact ⟨by rw [List.length_append]; exact hz, _, r1.append r2, IsTup.new _ _⟩
end
end L2

namespace L2
open PySem PySem.Spec PyProof.Rows

/-! ### places -/
/-- the place that an index of any sign means -/
def ixN (n : Nat) (i : Int) : Option Nat := if 0 ≤ i then (if i < n then some i.toNat else none) else if -(n : Int) ≤ i then some (i + n).toNat else none
def atI {α : Type} (xs : List α) (i : Int) : Option α := (ixN xs.length i).bind fun j => xs[j]?
theorem ixN_seq {n : Nat} {i : Int} {j : Nat} (h : ixN n i = some j) : seqIndex? i n = some j ∧ j < n ∧ -(n : Int) ≤ i ∧ i < n := by
  unfold ixN at h
  by_cases h0 : 0 ≤ i
  · rw [if_pos h0] at h
    by_cases h1 : i < n
    · rw [if_pos h1] at h
      have e : i.toNat = j := Option.some.inj h
      exact ⟨by rw [seqIndex_of h0 h1, e], by omega, by omega, h1⟩
    · rw [if_neg h1] at h; cases h
  · rw [if_neg h0] at h
    by_cases h1 : -(n : Int) ≤ i
    · rw [if_pos h1] at h
      have e : (i + n).toNat = j := Option.some.inj h
      exact ⟨by rw [seqIndex_neg (by omega) h1, e], by omega, h1, by omega⟩
    · rw [if_neg h1] at h; cases h
theorem atI_get {α : Type} {xs : List α} {i : Int} {v : α} (h : atI xs i = some v) : ∃ j, seqIndex? i xs.length = some j ∧ xs[j]? = some v ∧ j < xs.length ∧ -(xs.length : Int) ≤ i ∧ i < xs.length := by
  unfold atI at h
  cases e : ixN xs.length i with
  | none => rw [e] at h; cases h
  | some j =>
    rw [e] at h
    obtain ⟨h1, h2, h3, h4⟩ := ixN_seq e
    exact ⟨j, h1, h, h2, h3, h4⟩
theorem atI_nat {α : Type} {xs : List α} {j : Nat} {v : α} (h : xs[j]? = some v) : atI xs (j : Int) = some v := by
  have hj : j < xs.length := (List.getElem?_eq_some_iff.mp h).1
  have e : ixN xs.length (j : Int) = some j := by
    unfold ixN
    rw [if_pos (by omega), if_pos (by omega)]; simp
  unfold atI; rw [e]; exact h
theorem atI_last {α : Type} (xs : List α) (v : α) : atI (xs ++ [v]) (-1) = some v := by
  have hl : (xs ++ [v]).length = xs.length + 1 := by simp
  have e : ixN (xs ++ [v]).length (-1) = some xs.length := by
    unfold ixN
    rw [hl, if_neg (by decide), if_pos (by omega)]
    congr 1
    omega
  unfold atI
  rw [e]
  show (xs ++ [v])[xs.length]? = some v
  simp

/-! ### what may be subscripted -/
/-- what stands as an index of a plain subscript -/
def PlainIx (b : Expr) : Prop := ∀ o i, subscripted b false o i = operate [o, i] (getItem o i)
/-- a subscript by values -/
def IxR (X : Cx) (r : R2) : Prop :=
  ∀ (value slice : Expr) (pins : List (Addr × Obj)) (s : Shared) (σ : St) (H : Hp) (x y : V) (v u : Value) (Q : VK), Inv X pins σ H s → RelV x v → RelV y u → r x y H Q →
    subscripted slice false v u = operate [v, u] (getItem v u) → wpAny (model X.prog X.w) X.A (subscriptTail value slice v u) (EP X pins σ Q) X.xe s
/-- a call of a builtin's method by values: the receiver, the arguments -/
def MtR (X : Cx) (id : String) (r : V → List V → Hp → VK → Prop) : Prop :=
  ∀ (pins : List (Addr × Obj)) (s : Shared) (σ : St) (H : Hp) (x : V) (xs : List V) (v : Value) (us : List Value) (Q : VK), Inv X pins σ H s → RelV x v → Vals xs us → r x xs H Q →
    wpAny (model X.prog X.w) X.A (call (.builtin id) (v :: us)) (EP X pins σ Q) X.xe s
section
variable {X : Cx} {a b : Expr} {ta tb : TE} {pos : Pos}
/-- a[b] -/
theorem pe_ix {r : R2} (hr : IxR X r) (ha : PE X a ta) (hb : PE X b tb) (hs : PlainIx b) : PE X (.Subscript a b pos) (tOp r ta tb) := by
  intro pins s σ H Q I h
  exact Subscript_ (binT ha hb I h fun v u s2 x y H2 I2 rx ry q => hr a b pins s2 σ H2 x y v u Q I2 rx ry q (hs _ _))

def rIxL (K : PySem.W.Frag) : R2 := fun x y H Q => ∃ p xs i v, x = .ref p ∧ y = .int i ∧ SqL K H p xs ∧ atI xs i = some v ∧ Q v H
def rIxT (K : PySem.W.Frag) : R2 := fun x y H Q => ∃ p xs i v, x = .ref p ∧ y = .int i ∧ SqT K H p xs ∧ atI xs i = some v ∧ Q v H
def rIxS : R2 := fun x y H Q => ∃ z i c, x = .str z ∧ y = .int i ∧ z.length ≤ sizeLine ∧ atI z.cps.toList i = some c ∧ Q (.str ⟨#[c]⟩) H
theorem ix_list : IxR X (rIxL X.K) := by
  intro value slice pins s σ H x y v u Q I rx ry h hs
  obtain ⟨p, xs, i, z, rfl, rfl, hq, he, q⟩ := h
  cases rx
  obtain ⟨t, rfl⟩ := ry
  obtain ⟨its, r, pl, hz⟩ := I.list hq
  obtain ⟨j, h1, h2, h3, h4, h5⟩ := atI_get he
  obtain ⟨w, ew, rw'⟩ := r.get h2
  have hl := r.length
  have hn := line63
  have fin : EP X pins σ Q w s := ⟨z, H, I, rw', q⟩
  by_cases h0 : 0 ≤ i
  · have hj : i.toNat = j := by
      rw [seqIndex_of h0 h5] at h1
      exact Option.some.inj h1
    exact item_listR pl.isList h0 (by omega) (by rw [hj]; simpa using ew) fin hs
  · have hj : (i + (its.toArray.size : Int)).toNat = j := by
      rw [seqIndex_neg (by omega) h4] at h1
      rw [List.size_toArray, ← hl]
      exact Option.some.inj h1
    exact subscriptTail_builtinR (x := w) pl.isList.typeIs slot_list_getitem.lookup
      (wpAny_getItem_list_neg (Q := fun r s' => r = w ∧ EP X pins σ Q r s') pl.isList (by omega) (by rw [List.size_toArray] <;> omega) (by omega) (by rw [hj]; simpa using ew) ⟨rfl, fin⟩) hs
/-- list, tuple or str -/
def rIx (K : PySem.W.Frag) : R2 := fun x y H Q => rIxL K x y H Q ∨ rIxT K x y H Q ∨ rIxS x y H Q
/-! ### xs[i] = v, any sign -/
def rSetL : V → V → V → Hp → (Hp → Prop) → Prop := fun o i v H Q => ∃ p xs k j, o = .ref p ∧ i = .int k ∧ H p = some (.lst xs) ∧ ixN xs.length k = some j ∧ Q (upd H p (.lst (xs.set j v)))
/-! ### slices -/
theorem slice_bounds (lo hi : Option Int) (n : Nat) : (sliceBounds lo hi none n).1 = ((HT.sIx n 0 lo : Nat) : Int) ∧ (sliceBounds lo hi none n).2.1 = ((HT.sIx n n hi : Nat) : Int) ∧ (sliceBounds lo hi none n).2.2 = 1 := by
  refine ⟨?_, ?_, rfl⟩
  · cases lo with
    | none => simp [sliceBounds, HT.sIx]
    | some i =>
      simp only [sliceBounds, HT.sIx, Option.getD_none, show (1 : Int) > 0 by decide, if_true]
      by_cases h : i < 0
      · simp only [h, if_true] <;> omega
      · simp only [h, if_false] <;> omega
  · cases hi with
    | none => simp [sliceBounds, HT.sIx]
    | some i =>
      simp only [sliceBounds, HT.sIx, Option.getD_none, show (1 : Int) > 0 by decide, if_true]
      by_cases h : i < 0
      · simp only [h, if_true] <;> omega
      · simp only [h, if_false] <;> omega
theorem slicePick_cut (its : List Value) (lo hi : Option Int) : slicePick its.toArray lo hi none = ((its.drop (HT.sIx its.length 0 lo)).take (HT.sIx its.length its.length hi - HT.sIx its.length 0 lo)).toArray := by
  obtain ⟨h1, h2, h3⟩ := slice_bounds lo hi its.toArray.size
  unfold slicePick
  rw [h1, h2, h3]
  simp only [sliceRange_one, pick_run, List.size_toArray] <;> rfl
/-- xs[lo:hi] of a list: a new list -/
def rSlL (K : PySem.W.Frag) : V → Option Int → Option Int → Hp → VK → Prop := fun x lo hi H Q => ∃ a xs, x = .ref a ∧ SqL K H a xs ∧ ∀ p, H p = none → Q (.ref p) (upd H p (.lst (cutV xs lo hi)))
theorem sl_list : SlR X (rSlL X.K) := by
  intro pins s σ H x v vl vu lo hi sl Q I rx hs pl pu h
  obtain ⟨a, xs, rfl, hx, q⟩ := h
  cases rx
  obtain ⟨its, r, ht, hz⟩ := I.list hx
  have hlen := r.length
  refine ⟨"list", _, slot_list_getitem.lookup, ht.isList.typeIs, ?_⟩
  refine wpAny_getItem_list_slice ht.isList hs pl pu .none (by simp) ?_ (by rw [List.size_toArray] <;> omega)
  rw [slicePick_cut, ← hlen]
  refine ⟨.ref s.heap.objs.size, _, I.laid (t' := s.toks) (o := .lst (cutV xs lo hi)) (fun b ob q => Heap.get?_push_of_some _ q) (Nat.le_refl _) ?_, rfl, q _ (I.hok.fresh (Nat.le_refl _))⟩
  exact ⟨Nat.le_trans (cutV_length xs lo hi) hz, _, 0, (r.drop (HT.sIx xs.length 0 lo)).take (HT.sIx xs.length xs.length hi - HT.sIx xs.length 0 lo), Heap.get?_push_size _ rfl⟩

/-! ### in, not in: flat items -/
def flatV : V → Bool
  | .non => true
  | .bl _ => true
  | .int _ => true
  | .str _ => true
  | _ => false
/-- == of flat values -/
def eqV : V → V → Bool
  | .non, .non => true
  | .bl a, .bl b => a == b
  | .bl a, .int b => (if a then 1 else 0) == b
  | .int a, .bl b => a == (if b then 1 else 0)
  | .int a, .int b => a == b
  | .str a, .str b => a == b
  | _, _ => false
theorem eqAt_V {A : Around} {s : Shared} {y x : V} {u v : Value} (ry : RelV y u) (rx : RelV x v) (fy : flatV y = true) (fx : flatV x = true) : SeqAt.EqAt A s u v (eqV y x) := by
  cases y with
  | non =>
    cases ry
    cases x with
    | non => cases rx; exact SeqAt.EqAt.same _
    | bl b => cases rx; exact SeqAt.EqAt.none_bool b
    | int b => obtain ⟨t, rfl⟩ := rx; exact SeqAt.EqAt.none_int b t
    | str b => obtain ⟨t, rfl⟩ := rx; exact SeqAt.EqAt.none_str b t
    | _ => exact absurd (show false = true from fx) Bool.false_ne_true
  | bl a =>
    cases ry
    cases x with
    | non => cases rx; exact SeqAt.EqAt.bool_none a
    | bl b => cases rx; exact SeqAt.EqAt.bool_bool a b
    | int b => obtain ⟨t, rfl⟩ := rx; exact SeqAt.EqAt.bool_int a b t
    | str b => obtain ⟨t, rfl⟩ := rx; exact SeqAt.EqAt.bool_str a b t
    | _ => exact absurd (show false = true from fx) Bool.false_ne_true
  | int a =>
    obtain ⟨t', rfl⟩ := ry
    cases x with
    | non => cases rx; exact SeqAt.EqAt.int_none a t'
    | bl b => cases rx; exact SeqAt.EqAt.int_bool a t' b
    | int b => obtain ⟨t, rfl⟩ := rx; exact SeqAt.EqAt.int_int a t' b t
    | str b => obtain ⟨t, rfl⟩ := rx; exact SeqAt.EqAt.int_str a t' b t
    | _ => exact absurd (show false = true from fx) Bool.false_ne_true
  | str a =>
    obtain ⟨t', rfl⟩ := ry
    cases x with
    | non => cases rx; exact SeqAt.EqAt.str_none a t'
    | bl b => cases rx; exact SeqAt.EqAt.str_bool a t' b
    | int b => obtain ⟨t, rfl⟩ := rx; exact SeqAt.EqAt.str_int a t' b t
    | str b => obtain ⟨t, rfl⟩ := rx; exact SeqAt.EqAt.str_str a t' b t
    | _ => exact absurd (show false = true from fx) Bool.false_ne_true
  | _ => exact absurd (show false = true from fy) Bool.false_ne_true
/-- the items' answers, read off the values (a value's own answer does not lean on its token) -/
def eqU (x : V) (u : Value) : Bool := match u with
  | .none => eqV .non x
  | .bool b => eqV (.bl b) x
  | .int i _ => eqV (.int i) x
  | .str z _ => eqV (.str z) x
  | _ => false
theorem eqU_of {x y : V} {u : Value} (r : RelV y u) (f : flatV y = true) : eqU x u = eqV y x := by
  cases y with
  | non => cases r; rfl
  | bl b => cases r; rfl
  | int i => obtain ⟨t, rfl⟩ := r; rfl
  | str z => obtain ⟨t, rfl⟩ := r; rfl
  | _ => exact absurd (show false = true from f) Bool.false_ne_true
theorem any_eqU {x : V} : ∀ {xs : List V} {us : List Value}, Vals xs us → xs.all flatV = true → us.any (eqU x) = xs.any fun y => eqV y x
  | _, _, .nil, _ => rfl
  | y :: xs, u :: us, .cons r t, f => by
    rw [List.all_cons, Bool.and_eq_true] at f
    rw [List.any_cons, List.any_cons, eqU_of r f.1, any_eqU t f.2]
theorem mem_eqAt {A : Around} {s : Shared} {x : V} {v : Value} (rx : RelV x v) (fx : flatV x = true) : ∀ {xs : List V} {us : List Value}, Vals xs us → xs.all flatV = true → ∀ u ∈ us, SeqAt.EqAt A s u v (eqU x u)
  | _, _, .nil, _ => fun u hu => by cases hu
  | y :: xs, u :: us, .cons r t, f => fun u' hu => by
    rw [List.all_cons, Bool.and_eq_true] at f
    rcases List.mem_cons.mp hu with rfl | hu
    · rw [eqU_of r f.1]; exact eqAt_V r rx f.1 fx
    · exact mem_eqAt rx fx t f.2 u' hu
def inV (x : V) (xs : List V) : Bool := xs.any fun y => eqV y x
/-- x in a list or tuple of flat items -/
def rIn (K : PySem.W.Frag) (neg : Bool) : R2 := fun x y H Q => ∃ p xs, y = .ref p ∧ (SqL K H p xs ∨ SqT K H p xs) ∧ flatV x = true ∧ xs.all flatV = true ∧ Q (.bl (if neg then !inV x xs else inV x xs)) H
theorem op_notIn_seq : OpR X (compareOp .NotIn) (rIn X.K true) := by
  intro pins s σ H x y v u Q I rx ry h
  obtain ⟨p, xs, rfl, hq, fx, fs, q⟩ := h
  cases ry
  rcases hq with hq | hq
  · obtain ⟨its, r, pl, hz⟩ := I.list hq
    refine SeqAt.notIn_listAt (eqU x) pl.isList (fun w hw => mem_eqAt rx fx r fs w (by simpa using hw)) ⟨.bl _, H, I, rfl, ?_⟩
    rw [show its.toArray.any (eqU x) = its.any (eqU x) by simp, any_eqU r fs]
    exact q
  · obtain ⟨its, r, pl, hz⟩ := I.tuple hq
    refine SeqAt.notIn_tupleAt (eqU x) pl (fun w hw => mem_eqAt rx fx r fs w (by simpa using hw)) ⟨.bl _, H, I, rfl, ?_⟩
    rw [show its.toArray.any (eqU x) = its.any (eqU x) by simp, any_eqU r fs]
    exact q
/-! ### len, list(x), tuple(x) of any list or tuple that is read -/
theorem call_len_seq : CallR X (.builtin "len") (fun xs H Q => ∃ p ys, xs = [.ref p] ∧ (SqL X.K H p ys ∨ SqT X.K H p ys) ∧ Q (.int ys.length) H) := by
  intro pins s σ H xs us Q I r h
  obtain ⟨p, ys, rfl, hq, q⟩ := h
  obtain ⟨u, rfl, rx⟩ := vals1 r
  cases rx
  have hn := line63
  rcases hq with hq | hq
  · obtain ⟨its, r', pl, hz⟩ := I.list hq
    have hlen := r'.length
    exact Calls.call_len_list pl.isList (by simp only [List.size_toArray] <;> omega) ⟨.int ys.length, H, I.tok _, ⟨s.toks + 1, by rw [List.size_toArray, hlen]⟩, q⟩
  · obtain ⟨its, r', pl, hz⟩ := I.tuple hq
    have hlen := r'.length
    exact len_tuple pl (by simp only [List.size_toArray] <;> omega) ⟨.int ys.length, H, I.tok _, ⟨s.toks + 1, by rw [List.size_toArray, hlen]⟩, q⟩
theorem call_list_of : CallR X (.type "list") (fun xs H Q => ∃ p ys, xs = [.ref p] ∧ (SqL X.K H p ys ∨ SqT X.K H p ys) ∧ ∀ l, H l = none → Q (.ref l) (upd H l (.lst ys))) := by
  intro pins s σ H xs us Q I r h
  obtain ⟨p, ys, rfl, hq, q⟩ := h
  obtain ⟨u, rfl, rx⟩ := vals1 r
  cases rx
  have fin : ∀ (its : List Value), Vals ys its → ys.length ≤ sizeLine → ∀ (h' : Heap) (c' : Nat), (∀ b o', s.heap.get? b = some o' → h'.get? b = some o') →
      h'.get? s.heap.objs.size = some { cls := .type "list", dict := none, data := .seq its.toArray c', slots := #[] } → EP X pins σ Q (.ref s.heap.objs.size) { s with heap := h' } := fun its r' hz h' c' kp e =>
    ⟨.ref s.heap.objs.size, _, I.laid (t' := s.toks) kp (Nat.le_refl _) (show ObjOk X.prog X.w _ h' _ (.lst ys) from ⟨hz, its, c', r', e⟩), rfl, q _ (I.hok.fresh (Nat.le_refl _))⟩
  rcases hq with hq | hq
  · obtain ⟨its, r', pl, hz⟩ := I.list hq
    have hlen := r'.length
    obtain ⟨o, ho, hc, n, hd⟩ := pl.isList
    exact call_list_seq p (.inl rfl) ho hc hd (fun h' c' kp e => fin its r' hz h' c' kp e) (by simp only [List.size_toArray] <;> omega)
  · obtain ⟨its, r', pl, hz⟩ := I.tuple hq
    have hlen := r'.length
    obtain ⟨o, ho, hc, n, hd⟩ := pl
    exact call_list_seq p (.inr rfl) ho hc hd (fun h' c' kp e => fin its r' hz h' c' kp e) (by simp only [List.size_toArray] <;> omega)
theorem call_tuple_of : CallR X (.type "tuple") (fun xs H Q => ∃ p ys, xs = [.ref p] ∧ ((SqL X.K H p ys ∧ ∀ l, H l = none → Q (.ref l) (upd H l (.tup ys))) ∨ (SqT X.K H p ys ∧ Q (.ref p) H))) := by
  intro pins s σ H xs us Q I r h
  obtain ⟨p, ys, rfl, h⟩ := h
  obtain ⟨u, rfl, rx⟩ := vals1 r
  cases rx
  rcases h with ⟨hq, q⟩ | ⟨hq, q⟩
  · obtain ⟨its, r', pl, hz⟩ := I.list hq
    have hlen := r'.length
    refine call_tuple_list pl.isList (fun h' kp => ?_) (by simp only [List.size_toArray] <;> omega)
    have I1 : Inv X pins σ H { s with heap := h' } := I.kept (t' := s.toks) kp
    have I2 : Inv X pins σ (upd H h'.objs.size (.tup ys)) { s with heap := h'.push { cls := .type "tuple", data := .seq its.toArray } } :=
      I1.laid (t' := s.toks) (fun b o e => Heap.get?_push_of_some _ e) (Nat.le_refl _) (show ObjOk X.prog X.w _ _ _ (.tup ys) from ⟨hz, its, r', IsTup.new _ _⟩)
    exact ⟨.ref h'.objs.size, _, I2, rfl, q _ (I1.hok.fresh (Nat.le_refl _))⟩
  · obtain ⟨its, r', pl, hz⟩ := I.tuple hq
    exact call_tuple_same pl ⟨.ref p, H, I, rfl, q⟩

/-! ### the call of a builtin's method: o.m(..) -/
/-- the value is of that builtin type -/
def tyV (K : PySem.W.Frag) (T : String) (x : V) (H : Hp) : Prop := match x with
  | .str _ => T = "str"
  | .int _ => T = "int"
  | .ref p => (T = "list" ∧ ∃ xs, SqL K H p xs) ∨ (T = "tuple" ∧ ∃ o, K.lookup p = some o ∧ o.cls = .type "tuple" ∧ o.dict = none) ∨
      (T = "dict" ∧ ((∃ kvs, H p = some (.dK kvs)) ∨ ∃ kvs, H p = some (.dT kvs))) ∨ (T = "set" ∧ ∃ S n, H p = some (.set S n))
  | _ => False
theorem tyV_is {pins : List (Addr × Obj)} {σ : St} {H : Hp} {s : Shared} {T : String} {x : V} {v : Value} (I : Inv X pins σ H s) (r : RelV x v) (ty : tyV X.K T x H) :
    s.TypeIs v T ∧ ∀ a, v = .ref a → ∃ ob, s.heap.get? a = some ob ∧ ob.dict = none := by
  cases x with
  | str z =>
    obtain ⟨t, rfl⟩ := r
    cases (show T = "str" from ty)
    exact ⟨typeIs_str s z t, fun _ e => nomatch e⟩
  | int i =>
    obtain ⟨t, rfl⟩ := r
    cases (show T = "int" from ty)
    exact ⟨typeIs_int s i t, fun _ e => nomatch e⟩
  | ref p =>
    cases r
    rcases ty with ⟨rfl, xs, hq⟩ | ⟨rfl, o, hk, hc, hd⟩ | ⟨rfl, hk⟩ | ⟨rfl, S, n, hk⟩
    · obtain ⟨its, _, pl, _⟩ := I.list hq
      refine ⟨pl.isList.typeIs, fun a e => ?_⟩
      cases e
      obtain ⟨o, n, e, c, hd, _⟩ := pl
      exact ⟨o, e, hd⟩
    · refine ⟨⟨o, I.kIn p o hk, hc⟩, fun a e => ?_⟩
      cases e
      exact ⟨o, I.kIn _ o hk, hd⟩
    · have z : ∃ o, s.heap.get? p = some o ∧ o.ExactDict := by
        rcases hk with ⟨kvs, hk⟩ | ⟨kvs, hk⟩
        · obtain ⟨_, _, _, _, o, _, _, e, ex, _⟩ := I.hok p _ hk
          exact ⟨o, e, ex⟩
        · obtain ⟨_, _, _, _, o, _, _, e, ex, _⟩ := I.hok p _ hk
          exact ⟨o, e, ex⟩
      obtain ⟨o, e, ex⟩ := z
      refine ⟨⟨o, e, ex.1⟩, fun a e2 => ?_⟩
      cases e2
      exact ⟨o, e, ex.2.1⟩
    · obtain ⟨o, _, _, _, e, ex, _⟩ := I.hok p _ hk
      refine ⟨⟨o, e, ex.1⟩, fun a e2 => ?_⟩
      cases e2
      exact ⟨o, e, ex.2.1⟩
  | _ => exact False.elim ty
def tBM0 (K : PySem.W.Frag) (T : String) (r : V → List V → Hp → VK → Prop) (to : TE) : TE := fun σ H Q => to σ H fun x H1 => tyV K T x H1 ∧ r x [] H1 Q
def tBM (K : PySem.W.Frag) (T : String) (r : V → List V → Hp → VK → Prop) (to : TE) (t : TA) : TE := fun σ H Q => to σ H fun x H1 => tyV K T x H1 ∧ t σ H1 fun xs H2 => r x xs H2 Q
variable {o e : Expr} {es : List Expr} {to : TE} {t : TA} {name : Str} {apos cpos : Pos} {T id : String} {r : V → List V → Hp → VK → Prop}
theorem pe_bm0 (pa : PlainAttrs T) (slot : Slot T name id) (hty : typeOf (.builtin id) = pure (.type "method_descriptor")) (hm : MtR X id r) (ho : PE X o to)
    (hbase : attributeBase o name X.env (eval o X.env) = eval o X.env := by rfl) (hline : (apos.endLine == cpos.line) = true := by rfl) : PE X (.Call (.Attribute o name apos) [] [] cpos) (tBM0 X.K T r to) := by
  intro pins s σ H Q I h
  refine wpAny_Call_method0_late hbase hline (thn (ho pins s σ H _ I h) fun v s1 ⟨x, H1, I1, r1, ty, q1⟩ => ?_)
  obtain ⟨h1, h2⟩ := tyV_is I1 r1 ty
  exact ⟨T, id, pa, slot, hty, h1, h2, Calls.callWith_builtin rfl (PySem.evalArgs_none (hm pins s1 σ H1 x [] v [] Q I1 r1 .nil q1))⟩
theorem pe_bm (pa : PlainAttrs T) (slot : Slot T name id) (hty : typeOf (.builtin id) = pure (.type "method_descriptor")) (hm : MtR X id r) (ho : PE X o to) (ha : PA X (e :: es) t)
    (hbase : attributeBase o name X.env (eval o X.env) = eval o X.env := by rfl)
    (hfew : ((backTo cpos (starEach (e :: es) X.env)).all (fun x => !x.1) && (backToKw cpos (keywordEach [] X.env)).all (fun x => x.1.isSome)
      && decide ((e :: es).length + ([] : List Keyword).length + (if ([] : List Keyword).isEmpty then 0 else 1) < 30)) = true := by rfl)
    (hline : (apos.endLine == cpos.line) = true := by rfl) (hs : starEach (e :: es) X.env = (false, eval e X.env) :: starEach es X.env := by rfl) (hplain : (backTo cpos (starEach es X.env)).any (·.1) = false := by rfl) :
    PE X (.Call (.Attribute o name apos) (e :: es) [] cpos) (tBM X.K T r to t) := by
  intro pins s σ H Q I h
  refine wpAny_Call_method_late hbase hfew hline rfl (thn (ho pins s σ H _ I h) fun v s1 ⟨x, H1, I1, r1, ty, q1⟩ => ?_)
  obtain ⟨h1, h2⟩ := tyV_is I1 r1 ty
  refine ⟨T, id, pa, slot, hty, h1, h2, ?_⟩
  have hA := ha cpos pins s1 σ H1 _ I1 q1
  rw [hs] at hA ⊢
  refine Calls.callWith_builtin (by show (false || (backTo cpos (starEach es X.env)).any (·.1)) = false; rw [hplain] <;> rfl) (Calls.evalArgs_plain ?_)
  exact thn hA fun us s2 ⟨vs, H2, I2, r2, q2⟩ => hm pins s2 σ H2 x vs v us Q I2 r1 r2 q2
/- xs.append(e), list.index on a module's tuple .. are MtR facts of 06m -/
end
end L2

namespace L2
open PySem PySem.Spec PyProof.Rows

def MtM (X : Cx) (id : String) (r : V → List V → Hp → VK → Prop) : Prop :=
  ∀ (pins : List (Addr × Obj)) (s : Shared) (σ : St) (H : Hp) (x : V) (xs : List V) (v : Value) (us : List Value) (Q : VK), Inv X pins σ H s → RelV x v → Vals xs us → r x xs H Q →
    wpAny (model X.prog X.w) X.A (call (.builtin id) (v :: us)) (EP X pins σ Q) X.xe s

/-! ### lists of values -/
theorem Vals.one : ∀ {x : V} {us : List Value}, Vals [x] us → ∃ u, us = [u] ∧ RelV x u
  | _, _, .cons r .nil => ⟨_, rfl, r⟩
theorem Vals.two : ∀ {x y : V} {us : List Value}, Vals [x, y] us → ∃ u v, us = [u, v] ∧ RelV x u ∧ RelV y v
  | _, _, _, .cons r (.cons q .nil) => ⟨_, _, rfl, r, q⟩
theorem Vals.zero : ∀ {us : List Value}, Vals [] us → us = []
  | _, .nil => rfl
theorem Vals.dropLast {xs : List V} {us : List Value} (h : Vals xs us) : Vals xs.dropLast us.dropLast := by
  induction h with
  | nil => exact .nil
  | cons r t ih =>
    cases t with
    | nil => exact .nil
    | cons q t' => exact .cons r ih
theorem erase_last {α : Type} (l : List α) : l.eraseIdx (l.length - 1) = l.dropLast := by
  induction l with
  | nil => rfl
  | cons a r ih =>
    cases r with
    | nil => rfl
    | cons b r =>
      have e : (a :: b :: r).length - 1 = ((b :: r).length - 1) + 1 := by
        have h1 : (a :: b :: r).length = r.length + 2 := rfl
        have h2 : (b :: r).length = r.length + 1 := rfl
        omega
      rw [e, List.eraseIdx_cons_succ, ih]
      all_goals rfl
section
variable {X : Cx} {pins : List (Addr × Obj)} {σ : St} {H : Hp} {s : Shared} {l b : Addr} {xs ys zs : List V}

/-! ### the two steps: a tracked list is rewritten, a new list is laid -/
theorem Inv.lset {its its' : List Value} {n : Nat} {f : Array Value → Array Value} {t' : Nat} (I : Inv X pins σ H s) (hH : H l = some (.lst xs))
    (e : s.heap.get? l = some { cls := .type "list", data := .seq its.toArray n }) (hf : f its.toArray = its'.toArray) (hv : Vals ys its') (hz : ys.length ≤ sizeLine) :
    Inv X pins σ (upd H l (.lst ys)) { s with heap := s.heap.update l (Obj.mapSeq f), toks := t' } := by
  have q := PySem.IsL.update e f
  rw [hf] at q
  refine I.write (x := l) (e := l) (by rw [hH]; exact trivial) (.inl rfl) (fun b' u hb hu => (Heap.get?_update_other s.heap (Obj.mapSeq f) (Ne.symm hb)).trans hu) ⟨_, q⟩ ?_
  exact ⟨hz, its', _, hv, q⟩
theorem Inv.lnew {its : List Value} {t' : Nat} (I : Inv X pins σ H s) (hv : Vals ys its) (hz : ys.length ≤ sizeLine) :
    Inv X pins σ (upd H s.heap.objs.size (.lst ys)) { s with heap := s.heap.push { cls := .type "list", data := .seq its.toArray }, toks := t' } :=
  I.laid (fun _ _ q => Heap.get?_push_of_some _ q) (Nat.le_refl _) ⟨hz, its, 0, hv, Heap.get?_push_size _ rfl⟩
theorem Inv.fresh (I : Inv X pins σ H s) : H s.heap.objs.size = none := I.hok.fresh (Nat.le_refl _)
theorem Inv.lstM (I : Inv X pins σ H s) (hH : H l = some (.lst xs)) : xs.length ≤ sizeLine ∧ ∃ (its : List Value) (n : Nat), Vals xs its ∧ xs.length = its.length ∧ s.heap.get? l = some { cls := .type "list", data := .seq its.toArray n } := by
  obtain ⟨z, its, n, r, e⟩ := I.hok l _ hH
  exact ⟨z, its, n, r, r.length, e⟩

theorem notLongL {n : Nat} (h : n ≤ sizeLine) : Builtin.List.listTooLong n = false := by
  unfold Builtin.List.listTooLong
  exact decide_eq_false (by omega)
end

section
variable {X : Cx}

/-! ### methods -/
def rAppend : V → List V → Hp → VK → Prop := fun x vs H Q => ∃ l xs y, x = .ref l ∧ vs = [y] ∧ H l = some (.lst xs) ∧ xs.length < sizeLine ∧ Q .non (upd H l (.lst (xs ++ [y])))
theorem mt_append : MtM X "list.append" rAppend := by
  intro pins s σ H x vs v us Q I rx rv h
  obtain ⟨l, xs, y, rfl, rfl, hH, hz, q⟩ := h
  cases rx
  obtain ⟨u, rfl, ru⟩ := rv.one
  obtain ⟨z, its, n, r, hl, e⟩ := I.lstM hH
  refine call_meets F.slot_list_append ⟨_, e, rfl⟩ F.entry_list_append (F.args_list_append_2 _ _) (PySem.list_append l its.toArray n u (by rw [List.size_toArray]; omega)) ⟨e, ?_⟩
  refine ⟨.non, _, I.lset (its' := its ++ [u]) hH e (by simp) (r.append (.cons ru .nil)) ?_, rfl, q⟩
  rw [List.length_append, List.length_singleton]
  omega

def rExtend : V → List V → Hp → VK → Prop := fun x vs H Q => ∃ l b xs zs, x = .ref l ∧ vs = [.ref b] ∧ H l = some (.lst xs) ∧ H b = some (.lst zs) ∧ xs.length + zs.length ≤ sizeLine ∧ Q .non (upd H l (.lst (xs ++ zs)))
theorem mt_extend : MtM X "list.extend" rExtend := by
  intro pins s σ H x vs v us Q I rx rv h
  obtain ⟨l, b, xs, zs, rfl, rfl, hH, hB, hz, q⟩ := h
  cases rx
  obtain ⟨u, rfl, ru⟩ := rv.one
  cases ru
  obtain ⟨z, its, n, r, hl, e⟩ := I.lstM hH
  obtain ⟨z2, its2, n2, r2, hl2, e2⟩ := I.lstM hB
  have hsz : its.toArray.size + its2.toArray.size ≤ sizeLine := by rw [List.size_toArray, List.size_toArray]; omega
  have hlong : ¬ (!its.toArray.isEmpty && Builtin.List.listTooLong (its.toArray.size + its2.toArray.size)) = true := by
    rw [notLongL hsz, Bool.and_false]
    exact Bool.false_ne_true
  refine call_meets F.slot_list_extend ⟨_, e, rfl⟩ F.entry_list_extend (F.args_list_extend_2 _ _)
    (AutoSeq1.list_extend_list_list_0 l its.toArray n b its2.toArray n2 hlong (by rw [List.size_toArray]; omega) (by omega)) ⟨e, e2, ?_⟩
  refine ⟨.non, _, I.lset (its' := its ++ its2) hH e (by simp) (r.append r2) ?_, rfl, q⟩
  rw [List.length_append]
  omega

def rPop : V → List V → Hp → VK → Prop := fun x vs H Q => ∃ l xs y, x = .ref l ∧ vs = [] ∧ H l = some (.lst xs) ∧ xs[xs.length - 1]? = some y ∧ Q y (upd H l (.lst xs.dropLast))
theorem mt_pop : MtM X "list.pop" rPop := by
  intro pins s σ H x vs v us Q I rx rv h
  obtain ⟨l, xs, y, rfl, rfl, hH, hy, q⟩ := h
  cases rx
  have hus := rv.zero
  subst hus
  obtain ⟨z, its, n, r, hl, e⟩ := I.lstM hH
  obtain ⟨u, hu, ru⟩ := r.get hy
  have hy' : its.toArray[its.toArray.size - 1]? = some u := by
    show its.toArray[its.length - 1]? = some u
    rw [← Array.getElem?_toList, ← hl]
    exact hu
  refine call_meets F.slot_list_pop ⟨_, e, rfl⟩ F.entry_list_pop (F.args_list_pop_1 _) (MeetsSeq.list_pop_last l its.toArray n u hy' (by rw [List.size_toArray]; omega)) ⟨e, ?_⟩
  refine ⟨y, _, I.lset (its' := its.dropLast) hH e ?_ r.dropLast ?_, ru, q⟩
  · show its.toArray.eraseIdxIfInBounds (its.toArray.size - 1) = its.dropLast.toArray
    rw [List.size_toArray, List.eraseIdxIfInBounds_toArray, erase_last]
  · rw [List.length_dropLast]
    omega

def rPopAt : V → List V → Hp → VK → Prop := fun x vs H Q => ∃ l xs i k y, x = .ref l ∧ vs = [.int i] ∧ H l = some (.lst xs) ∧ -(2 ^ 63) ≤ i ∧ i < 2 ^ 63 ∧ seqIndex? i xs.length = some k ∧ xs[k]? = some y ∧ Q y (upd H l (.lst (xs.eraseIdx k)))
def rReverse : V → List V → Hp → VK → Prop := fun x vs H Q => ∃ l xs, x = .ref l ∧ vs = [] ∧ H l = some (.lst xs) ∧ Q .non (upd H l (.lst xs.reverse))
def rClear : V → List V → Hp → VK → Prop := fun x vs H Q => ∃ l xs, x = .ref l ∧ vs = [] ∧ H l = some (.lst xs) ∧ Q .non (upd H l (.lst []))
/-! ### list + list, list += list, list * int -/
def rCat : R2 := fun x y H Q => ∃ l b xs zs, x = .ref l ∧ y = .ref b ∧ H l = some (.lst xs) ∧ H b = some (.lst zs) ∧ xs.length + zs.length ≤ sizeLine ∧ ∀ p, H p = none → Q (.ref p) (upd H p (.lst (xs ++ zs)))
theorem op_cat : OpR X (binaryOp .Add) rCat := by
  intro pins s σ H x y v u Q I rx ry h
  obtain ⟨l, b, xs, zs, rfl, rfl, hH, hB, hz, q⟩ := h
  cases rx
  cases ry
  obtain ⟨z, its, n, r, hl, e⟩ := I.lstM hH
  obtain ⟨z2, its2, n2, r2, hl2, e2⟩ := I.lstM hB
  refine PySem.P.add_list e e2 ?_ (by rw [List.size_toArray, List.size_toArray]; omega)
  have ea : its.toArray ++ its2.toArray = (its ++ its2).toArray := by simp
  rw [ea]
  exact ⟨.ref _, _, I.lnew (t' := s.toks) (r.append r2) (by rw [List.length_append]; omega), rfl, q _ I.fresh⟩
/-- a list times an int (a negative one is nothing) -/
def rRep : R2 := fun x y H Q => ∃ l k xs, x = .ref l ∧ y = .int k ∧ H l = some (.lst xs) ∧ -(2 ^ 63) ≤ k ∧ k < 2 ^ 63 ∧ xs.length * k.toNat ≤ sizeLine ∧
  ∀ p, H p = none → Q (.ref p) (upd H p (.lst (List.replicate k.toNat xs).flatten))
/-! ### del xs[i] -/
end

/-! ### xs[a:b] = ys -/
section
variable {prog : Program} {w : World} {A : Around} {E : Value → Shared → Prop} {s : Shared}
end

section
variable {X : Cx}
end
end L2

namespace Att
open PySem PySem.W PySem.Calls PyProof.Rows

/-! ### the script -/
theorem ints_of_wellAll {P : Params} {h : Heap} : ∀ (ns : List Int) (vs : List Value), WellAll P h vs (ns.map WData.int) → IntsAre vs ns := by
  intro ns
  induction ns with
  | nil =>
    intro vs w
    rw [List.map_nil] at w
    cases w
    exact .nil
  | cons n ns ih =>
    intro vs w
    rw [List.map_cons] at w
    cases w with
    | cons a b =>
      cases a
      exact .cons _ _ (ih _ b)

theorem script_of {l : OpenLaw} {n : Nat} (hn : l.most = some n) {P : Params} {h : Heap} {args : List WData} {vals : List Value}
    (hpre : l.row.toRowW.claim.pre args = true) (hwl : WellAll P h vals args) :
    ∃ a vs ns, vals = [Value.ref a] ∧ args = [WData.list (ns.map WData.int)] ∧ h.get? a = some { cls := .type "list", data := .seq vs.toArray } ∧ IntsAre vs ns ∧ ns.length ≤ n := by
  have hsh : WShape.hasAll [] args [.list .int] = true := (pre_splitW hpre).1
  have hc : l.pre.holds [] { args := args } = true := (pre_splitW hpre).2
  obtain ⟨d, r, rfl, h1, h2⟩ := hasAllW_cons hsh
  obtain rfl := hasAllW_nil h2
  obtain ⟨xs, rfl, h3⟩ := hasW_list h1
  obtain ⟨ns, rfl⟩ := items_int h3
  have hlen : ns.length ≤ n := by
    unfold OpenLaw.pre at hc
    have h4 : (WTm.not (.lt (.lit (.int (n : Int))) (.len (.arg 0)))).holds [] { args := [.list (ns.map .int)] } = true := by
      have h4 := (holds_andW hc).1
      rw [hn] at h4
      exact h4
    have h5 := condW_of h4 (w_not (w_lt w_lit (w_len_list (w_arg rfl))))
    rw [List.length_map] at h5
    refine Nat.le_of_not_lt fun q => ?_
    have q' : (n : Int) < ((ns.length : Nat) : Int) := by omega
    first
      | (rw [decide_eq_true q'] at h5; exact absurd h5 (by decide))
      | (simp at h5; omega)
  cases hwl with
  | cons w1 w2 =>
    cases w2
    cases w1 with
    | list ho hall => exact ⟨_, _, ns, rfl, rfl, ho, ints_of_wellAll ns _ hall, hlen⟩

theorem post_true (l : OpenLaw) (args : List WData) : l.row.toRowW.claim.post args (.bool true) args = true :=
  postW_of (r := l.row.toRowW) (X := (true == true))
    (show WShape.has [] (.bool true) .bool = true by first | rfl | decide | simp [WShape.has, WShape.arms, WShape.armsAll])
    (show (WTm.eq .res (.lit (.bool true))).value [] { args := args, res := some (.bool true), after := args } = some (.bool (true == true)) from w_eq_bool (w_res rfl) w_lit) rfl

/-! ### the attachment: holds_open's last premise (the goal 'hc' behind k_head) from a wpAny of the law's body -/
/-- the same from a codeAny of the CALL (for a layer whose function contracts speak of calls) -/
theorem attach_call {l : OpenLaw} {n : Nat} {q : Program} {loose : List Str} {XP : (Str → Option Value) → Heap → Prop} {YP : World → Heap → Prop} {d : DefRec}
    (hn : l.most = some n) (hdf : d.params.defaults = [])
    (call : ∀ (w : World) (s₀ s₁ : Shared) (mg mb : Str → Option Value) (fa : Addr) (o : Obj) (pm cd doc : Value) (a : Addr) (vs : List Value) (ns : List Int),
      Ground q loose [] XP w s₀ mg mb s₁.heap → YP w s₁.heap →
      s₁.heap.get? fa = some o → o.data = .func (docDef d.name d.params d.body d.scope pm cd doc) → s₁.heap.CodeRec cd d.name → mg d.name = some (.ref fa) →
      s₁.heap.get? a = some { cls := .type "list", data := .seq vs.toArray } → IntsAre vs ns → ns.length ≤ n → s₁.gens = #[] →
      codeAny (model l.prog w) callerA (.call (.ref fa) ⟨[.ref a], []⟩) (fun r s' => r = .ok (.ret (.bool true)) ∧ OldK s₁.heap s'.heap ∧ s'.os = s₁.os ∧ AllBare s'.gens) s₁) :
    WalkO q loose XP YP l.row.toRowW d [] (fun f vs => PySem.call f vs) := by
  intro w s₀ s₁ mg mb G Y fa o pm cd doc dV kV ho hd hcd hD hmg hg args vals as hpre hlay hrd hwl hlo
  obtain rfl : dV = .none := Dflts.none hD hdf
  obtain rfl : kV = .none := Dflts.noKw hD
  obtain ⟨a, vs, ns, rfl, rfl, hobj, hints, hlen⟩ := script_of hn hpre hwl
  refine enter_call (codeAny_mono (call w s₀ s₁ mg mb fa o pm cd doc a vs ns G Y ho (fd_plain hd) hcd hmg hobj hints hlen hg) fun r s' hq => ?_)
  obtain ⟨rfl, h2, h3, h4⟩ := hq
  exact ⟨.inl ⟨.bool true, .bool true, [], rfl, fun _ => rfl, .bool true, post_true l _, fun _ => ⟨List.Pairwise.nil, fun _ hm => (nomatch hm)⟩⟩, h2, h3, h4⟩

/-! ### rules over ANY heap (no ledger) from facts about the written part K: the library's own take a ledger (News) for what they write -/
section
variable {prog : Program} {w : World} {A : Around} {E : Value → Shared → Prop} {s : Shared} {K : Frag}

/-! the whole heap as the ledger: makes every rule that writes through a ledger a rule over any heap -/
def noObjs (h : Heap) : Heap := { h with objs := #[] }
def ledger (h : Heap) (L d : Addr) : List (Addr × Obj) := (List.range h.objs.size).filterMap fun a => if a = L ∨ a = d then none else (h.get? a).map fun o => (a, o)
end
end Att

namespace L2
open PySem PySem.Spec PyProof.Rows

theorem vals_ints : ∀ {vs : List Value} {ns : List Int}, IntsAre vs ns → Vals (ns.map V.int) vs
  | _, _, .nil => .nil
  | _, _, .cons n t h => .cons ⟨t, rfl⟩ (vals_ints h)

/-- nothing is tracked but the script, known to the object (or it is an object of the module) -/
def Only (H : Hp) : Prop := ∀ b, H b = none ∨ ∃ o xs, H b = some (.frz o (.lst xs))

/-- THE HEAD: the law's promise, at the heap behind the top. F, the promise of the law's def, may use that base is part of the heap (so K.In base, base.Ns mainGlobals mg stand in Mod) -/
theorem law_call {P : Program} {w : World} {K : PySem.W.Frag} {mg mb : Str → Option Value} {CX : CXT} {k : Nat} {fa a : Addr} {fd : FuncData} {x : Str} {sp : Sp} {s₁ : Shared} {vs : List Value} {ns : List Int}
    (KX : K.In s₁.heap) (hns : s₁.heap.Ns mainGlobals mg) (hb : s₁.heap.Ns builtinsNs mb) (hbb : ∀ x : Str, x ≠ "__name__" → mb x = bootBuiltins x) (hlim : s₁.heap.NoLimit) (hg : s₁.gens = #[])
    (ha : s₁.heap.get? a = some { cls := .type "list", data := .seq vs.toArray }) (hi : IntsAre vs ns) (hl : ns.length ≤ sizeLine) (hr : Room k callerA)
    (F : ∀ base : Heap, K.In base → base.Ns mainGlobals mg → FnOk P w K mg base CX k fa fd [x] sp) (hbind : ∀ (s : Shared) (u : Value), BindsTo s fd ⟨[u], []⟩ [(x, u)])
    (hsp : ∀ H : Hp, Only H → SqL K H a (ns.map V.int) → sp [.ref a] H (fun v _ => v = .bl true) fun _ _ _ => False)
    (hCX : ∀ H e s', CX [] H s₁ (fun _ _ _ => False) e s' → False) :
    codeAny (model P w) callerA (.call (.ref fa) ⟨[.ref a], []⟩) (fun r s' => r = .ok (.ret (.bool true)) ∧ OldK s₁.heap s'.heap ∧ s'.os = s₁.os ∧ AllBare s'.gens) s₁ := by
  have rv := vals_ints hi
  have lenV := hi.length
  -- from an abstract heap in which nothing but the script may be tracked
  have core : ∀ H : Hp, Only H → SqL K H a (ns.map V.int) → HOk P w H s₁.heap → (∀ b, H b ≠ none → b = a) → (H a ≠ none → K.lookup a = none) →
      codeAny (model P w) callerA (.call (.ref fa) ⟨[.ref a], []⟩) (fun r s' => r = .ok (.ret (.bool true)) ∧ OldK s₁.heap s'.heap ∧ s'.os = s₁.os ∧ AllBare s'.gens) s₁ := by
    intro H hO hS hok hA hK
    have base_of : ∀ {b : Addr} {o : Obj}, s₁.heap.get? b = some o → H b = none → (hidT s₁.heap H).get? b = some o := fun e n => hidT_get e n
    have noA : ∀ {b : Addr} {o : Obj} {es : Array DictEntry} {ep : Nat}, s₁.heap.get? b = some o → o.data = .dict es ep → H b = none := fun {b o es ep} e d => by
      cases q : H b with
      | none => rfl
      | some u =>
        have e' : b = a := hA b (by rw [q]; simp)
        subst e'
        rw [ha] at e; cases e
        have d' : Data.seq vs.toArray _ = Data.dict es ep := d
        cases d'
    have nsK : ∀ {b : Addr} {m : Str → Option Value}, s₁.heap.Ns b m → (hidT s₁.heap H).Ns b m := fun {b m} ⟨o, es, ep, e, d, r⟩ => ⟨o, es, ep, base_of e (noA e d), d, r⟩
    have hKb : K.In (hidT s₁.heap H) := fun b o e => base_of (KX b o e) (by
      cases q : H b with
      | none => rfl
      | some u =>
        have e' : b = a := hA b (by rw [q]; simp)
        subst e'
        rw [hK (by rw [q]; simp)] at e; cases e)
    have hM : Mod K mg (hidT s₁.heap H) := ⟨hKb, nsK hns, ⟨mb, nsK hb, hbb⟩, let ⟨mc, h1, h2⟩ := hlim; ⟨mc, nsK h1, h2⟩⟩
    have e0 : Env0 P w K mg (hidT s₁.heap H) callerA [] s₁ H := ⟨rfl, hM, fun b o e => of_hidT e, Nat.le_of_eq (hidT_size _ _), trivial, fun b hb => absurd (show b ∈ ([] : List Addr) from hb) (by simp), hok, .of_eq hg⟩
    refine codeAny_mono ((F _ hKb (nsK hns)).run callerA [] s₁ H ⟨[.ref a], []⟩ [.ref a] [.ref a] _ _ hr e0 (hbind s₁ (.ref a)) (.cons rfl .nil) (hsp H hO hS)) fun r s' h => ?_
    cases r with
    | error e => exact (hCX H e s' h).elim
    | ok fl =>
      cases fl with
      | next => exact False.elim h
      | brk => exact False.elim h
      | cont => exact False.elim h
      | ret u =>
        obtain ⟨v, H', os, bare, un, hok', r', q⟩ := h
        have q' : v = .bl true := q
        subst q'
        obtain rfl : u = Value.bool true := r'
        refine ⟨rfl, OldK.of_keep fun b o e => ?_, os, bare⟩
        cases q : H b with
        | none => exact un.keep b o e q (by intro z; exact absurd (show b ∈ ([] : List Addr) from z) (by simp)) (by simp)
        | some u =>
          rcases hO b with z | ⟨ob, xs, z⟩
          · rw [q] at z; cases z
          · have z2 := un.frzs b ob _ z
            obtain ⟨e1, _⟩ := hok b _ z
            obtain ⟨e2, _⟩ := hok' b _ z2
            rw [e] at e1; cases e1
            exact e2
  cases hk : K.lookup a with
  | some o =>
    -- the script is one of the module's own objects
    have e := KX a o hk
    rw [ha] at e
    cases e
    refine core (fun _ => none) (fun _ => .inl rfl) (.inr ⟨_, vs.toArray, _, hk, rfl, rfl, rfl, by rw [List.size_toArray, lenV]; exact hl, by simpa using rv⟩) (fun b u z => by have z' : (none : Option HO) = some u := z; cases z') (fun b z => absurd rfl z) fun z => absurd rfl z
  | none =>
    refine core (fun b => if b = a then some (.frz { cls := .type "list", data := .seq vs.toArray } (.lst (ns.map V.int))) else none) (fun b => ?_) (.inl (.inr ⟨{ cls := .type "list", data := .seq vs.toArray }, if_pos rfl⟩)) (fun b u z => ?_) (fun b z => ?_) fun _ => hk
    · by_cases hb : b = a
      · exact .inr ⟨_, _, if_pos hb⟩
      · exact .inl (if_neg hb)
    · by_cases hb : b = a
      · have z' := (if_pos hb).symm.trans z
        cases z'
        subst hb
        exact ⟨ha, by rw [List.length_map]; exact hl, vs, _, rv, ha⟩
      · have z' := (if_neg hb).symm.trans z
        cases z'
    · by_cases hb : b = a
      · exact hb
      · exact absurd (if_neg hb) z
end L2

namespace L2
open PySem PySem.Spec PyProof.Rows

abbrev KOf {K : PySem.W.Frag} {h : Heap} (_ : K.In h) : PySem.W.Frag := K

/-- the goal that k_head leaves (case hc), from the law's promise. F gives the function object fd (K's own) once, then the promise over every base -/
theorem walk_of {l : PySem.W.OpenLaw} {n k : Nat} {q : Program} {loose : List Str} {XP : (Str → Option Value) → Heap → Prop} {YP : World → Heap → Prop} {d : DefRec} {K : Params → PySem.W.Frag} {CX : World → CXT} {sp : World → Sp} {x : Str}
    (hn : l.most = some n) (hn2 : n ≤ sizeLine) (hdf : d.params.defaults = []) (hr : Room k callerA)
    (hY : ∀ (w : World) (h : Heap), YP w h → (K w.params).In h)
    (F : ∀ (w : World) (mg : Str → Option Value) (fa : Addr) (h : Heap), (K w.params).In h → h.Ns mainGlobals mg → mg d.name = some (.ref fa) →
      ∃ fd : FuncData, (∀ (s : Shared) (u : Value), BindsTo s fd ⟨[u], []⟩ [(x, u)]) ∧
        ∀ base : Heap, (K w.params).In base → base.Ns mainGlobals mg → FnOk l.prog w (K w.params) mg base (CX w) k fa fd [x] (sp w))
    (hsp : ∀ (w : World) (H : Hp) (a : Addr) (ns : List Int), ns.length ≤ n → Only H → SqL (K w.params) H a (ns.map V.int) → sp w [.ref a] H (fun v _ => v = .bl true) fun _ _ _ => False)
    (hCX : ∀ (w : World) (H : Hp) (s : Shared) (e : Value) (s' : Shared), CX w [] H s (fun _ _ _ => False) e s' → False) :
    PySem.W.WalkO q loose XP YP l.row.toRowW d [] (fun f vs => PySem.call f vs) := by
  refine Att.attach_call hn hdf fun w s₀ s₁ mg mb fa o pm cd doc a vs ns G Y ho hd hcd hmg hobj hints hlen hg => ?_
  have KX := hY w _ Y
  obtain ⟨fd, hb, hF⟩ := F w mg fa _ KX G.T.g hmg
  exact law_call KX G.T.g G.T.b G.T.builtins G.T.nolimit hg hobj hints (Nat.le_trans hlen hn2) hr hF hb (fun H hO hS => hsp w H a ns hlen hO hS) fun H e s' => hCX w H s₁ e s'
end L2

/- THE LAST THEOREM (shape; LID, My.* are yours):
   My.Adr: a structure of the addresses that your layer names (classes, functions); My.Txt K t: a structure (Prop) of the equations over K;
   My.txt_mk : {K} {implicit addresses ..} (e1 : nsIn K mainGlobals "law" = some (some (.ref f))) (e2 : K.lookup f = some ⟨oc, od, .func (fnOf "law" "law" params body scope dV kV doc pm an cdv ct), sl⟩) (e3 : codeIn K cdv "law" = true) .. : ∃ t, My.Txt K t

set_option maxRecDepth 100000 in
set_option maxHeartbeats 0 in
theorem PySem.Challenge.cw_LID_holds : PySem.Challenge.rw_LID.Holds := by
  w_on; o_law; k_head; (case hw => w_witness2)
  k_fill
  refine L2.walk_of (l := PySem.Challenge.rw_LID) (n := 63) (k := 40) (x := "script") (CX := fun w => ..) (sp := fun _ => My.sp_law) rfl (by decide) rfl ⟨rfl, by decide, by decide⟩ (fun w h Y => PySem.W.kIn_of Y) ?F ?S ?C
  case F =>
    intro w mg fa h KX G hmg
    have T : ∃ t, My.Txt (L2.KOf KX) t := by
      dsimp only [L2.KOf]                          -- K must stand as «<heap const> w.params» for k_is
      refine' My.txt_mk ?e1 ?e2 ?e3 ..
      (case e1 => PySem.W.k_is)                    -- in the order: a name -> its address -> its object -> its parts
      (case e2 => PySem.W.k_is)
      ..
    obtain ⟨t, T⟩ := T
    have e0 := hmg.symm.trans (PySem.W.mg_of KX G T.law)
    cases e0                                       -- fa is the law's own address
    exact ⟨_, fun s u => .of_eq rfl, fun base kb nb => My.law_fn T kb nb⟩     -- if «.of_eq rfl» comes too early: refine' ⟨_, ?b, fun base kb nb => My.law_fn T kb nb⟩; exact fun s u => .of_eq rfl
  case S => exact fun w H a ns hl hO hS => ..
  case C => exact ..
(the tactic k_is has no namespace: write k_is) -/

/-! SHORT WORDS over the layer: a def of the text, its body, what a loop and a test want. -/
namespace L2
open PySem PySem.Spec PyProof.Rows

/-! ### the text by places -/
/-- the j-th statement of a class's body -/
def inClass (s : Stmt) (j : Nat) : Stmt := match s with
  | .ClassDef _ _ _ body _ _ _ _ _ _ _ => body.getD j (.Pass ⟨0, 0, 0, 0⟩)
  | _ => .Pass ⟨0, 0, 0, 0⟩
def defArgs (s : Stmt) : Arguments := match s with
  | .FunctionDef _ a _ _ _ _ _ _ _ _ => a
  | _ => { posonlyargs := [], args := [], vararg := none, kwonlyargs := [], kw_defaults := [], kwarg := none, defaults := [] }
def defBody (s : Stmt) : List Stmt := match s with
  | .FunctionDef _ _ b _ _ _ _ _ _ _ => b
  | _ => []
def defScope (s : Stmt) : Scope := match s with
  | .FunctionDef _ _ _ _ _ _ sc _ _ _ => sc
  | _ => { kind := .function, names := [], isGenerator := false, isCoroutine := false }

/-! ### no exception leaves a def -/
abbrev CX0 : CXT := fun _ _ _ _ _ _ => False
abbrev E0 : XK := fun _ _ _ => False
theorem pass0 {X : Cx} : Passes CX0 X E0 := fun _ _ _ _ _ _ _ h => h.elim

/-! ### a def (or method) of the text as it stands behind the top -/
structure Fun (K : PySem.W.Frag) (x qual : Str) (st : Stmt) (f : Addr) (fd : FuncData) : Prop where
  ex : ∃ (oc : Value) (od : Option Addr) (kV doc pm : Value) (an : Option Addr) (cdv ct : Value) (osl : Array (Option Value)),
    fd = PySem.W.fnOf x qual (defArgs st) (defBody st) (defScope st) .none kV doc pm an cdv ct ∧ K.lookup f = some ⟨oc, od, .func fd, osl⟩ ∧ PySem.W.codeIn K cdv qual = true
  kp : PySem.W.keepIn K (.ref f) = true
section
variable {P : Program} {w : World} {K : PySem.W.Frag} {mg : Str → Option Value} {base : Heap}
/-- THE RULE for a def: its body as a term of rules, and the reading of that term -/
theorem Fun.ok {x qual : Str} {st : Stmt} {f : Addr} {fd : FuncData} {N ps : List Str} {k : Nat} {sp : Sp} (F : Fun K x qual st f fd) (S : FnScope N ps (defScope st)) (len : ∀ vs H Q E, sp vs H Q E → vs.length = ps.length)
    (hbody : ∀ (cdv : Value) (A : Around) (outer : List Env) (s : Shared) (H : Hp) (vs : List V) (Q : VK) (E : XK), Room k (A.deeper (envOfC qual (defScope st) s.heap.objs.size f cdv)) → sp vs H Q E →
      ∃ t, PSs (cxOf CX0 P w K mg base N qual (defScope st) f cdv A outer s H E).nox (defBody st) t ∧ t { nx := fun _ H' => Q .non H', rt := Q } (start N vs) H) : FnOk P w K mg base CX0 (k + 1) f fd ps sp := by
  obtain ⟨oc, od, kV, doc, pm, an, cdv, ct, osl, rfl, lk, hcd⟩ := F.ex
  refine fn_of lk hcd S len fun A outer s H vs Q E hr hsp => ?_
  obtain ⟨t, h, q⟩ := hbody cdv A outer s H vs Q E hr hsp
  exact ⟨t, h.nox, q⟩
/-- how its arguments bind (no defaults): h is «fun _ _ _ _ _ _ us hl => match us, hl with | [_, _], _ => rfl», one _ a parameter -/
theorem Fun.binds {x qual : Str} {st : Stmt} {f : Addr} {fd : FuncData} {ps : List Str} (F : Fun K x qual st f fd)
    (h : ∀ (kV doc pm : Value) (an : Option Addr) (cdv ct : Value) (us : List Value), us.length = ps.length → bindArgs (PySem.W.fnOf x qual (defArgs st) (defBody st) (defScope st) .none kV doc pm an cdv ct) ⟨us, []⟩ = pure (ps.zip us)) : Binds K fd ps [] := by
  obtain ⟨oc, od, kV, doc, pm, an, cdv, ct, osl, rfl, lk, hcd⟩ := F.ex
  exact .all (h kV doc pm an cdv ct)
theorem fun_mk {x qual : Str} {st : Stmt} {f : Addr} {oc : Value} {od an : Option Addr} {osl : Array (Option Value)} {kV doc pm cdv ct : Value} (l : K.lookup f = some ⟨oc, od, .func (PySem.W.fnOf x qual (defArgs st) (defBody st) (defScope st) .none kV doc pm an cdv ct), osl⟩)
    (c : PySem.W.codeIn K cdv qual = true) (k : PySem.W.keepIn K (.ref f) = true) : Fun K x qual st f (PySem.W.fnOf x qual (defArgs st) (defBody st) (defScope st) .none kV doc pm an cdv ct) := ⟨⟨oc, od, kV, doc, pm, an, cdv, ct, osl, rfl, l, c⟩, k⟩
end
theorem small1000 {n : Nat} (h : n ≤ 1000) : n < sizeLine := Nat.lt_of_le_of_lt h (by decide)

/-! ### expressions in short: the name that stands in the i-th slot -/
section
variable {X : Cx}
theorem pv (i : Nat) {x : Str} {pos : Pos} (hN : X.N[i]? = some x := by rfl) (hv : Vis X.env.scope x := by first | exact Or.inl rfl | exact Or.inr (Or.inl rfl) | exact Or.inr (Or.inr rfl)) (hd : (x == ("__debug__" : Str)) = false := by decide)
    (hcd : (x == ("__classdict__" : Str)) = false := by decide) : PE X (.Name x pos) (tVar i) := pe_var hN hv hd hcd
end

/-! ### tests -/
theorem iteF {A B : Prop} (h : B) : if false = true then A else B := by
  rw [if_neg Bool.false_ne_true]
  exact h
theorem ite2 {c A B : Prop} [Decidable c] (h1 : c → A) (h2 : ¬ c → B) : if c then A else B := by
  by_cases h : c
  · rw [if_pos h]
    exact h1 h
  · rw [if_neg h]
    exact h2 h
/-! ### heaps -/
/-- all that was tracked is as it was -/
def Same (H H' : Hp) : Prop := ∀ b o, H b = some o → H' b = some o
theorem Same.refl (H : Hp) : Same H H := fun _ _ h => h
theorem Same.trans {H H1 H2 : Hp} (a : Same H H1) (b : Same H1 H2) : Same H H2 := fun c o h => b c o (a c o h)
theorem Same.free {H H' : Hp} (e : Same H H') {l : Addr} (h : H' l = Option.none) : H l = Option.none := by
  cases q : H l with
  | none => rfl
  | some o =>
    rw [e l o q] at h
    cases h
theorem Same.seq {K : PySem.W.Frag} {H H' : Hp} {a : Addr} {xs : List V} (e : Same H H') (h : SqL K H a xs) : SqL K H' a xs := by
  rcases h with (h | ⟨o, h⟩) | h
  · exact .inl (.inl (e _ _ h))
  · exact .inl (.inr ⟨o, e _ _ h⟩)
  · exact .inr h

end L2
set_option maxHeartbeats 4000000
/-! More rules over the hand layer: isinstance, list equality, unpacking of a list, all, reversed. -/
namespace L2
open PySem PySem.Spec PyProof.Rows

theorem Vals.getR : ∀ {xs : List V} {us : List Value} {i : Nat} {u : Value}, Vals xs us → us[i]? = some u → ∃ x, xs[i]? = some x ∧ RelV x u
  | _, _, _, _, .nil, e => by simp at e
  | _, _, 0, _, .cons r _, e => by simp at e; subst e; exact ⟨_, rfl, r⟩
  | _, _, i + 1, u, .cons _ t, e => by
    obtain ⟨x, h1, h2⟩ := Vals.getR (i := i) (u := u) t (by simpa using e)
    exact ⟨x, by simpa using h1, h2⟩

/-! ### isinstance with a built-in type -/
/-- is a value of the type t of the type T -/
def isa (t T : String) : Bool := t == T || (t == "bool" && T == "int")
/-- the type's name of a value -/
def tyN (K : PySem.W.Frag) (x : V) (H : Hp) (t : String) : Prop :=
  match x with
  | .non => t = "NoneType"
  | .bl _ => t = "bool"
  | .int _ => t = "int"
  | .str _ => t = "str"
  | .ref p => (t = "list" ∧ ∃ xs, SqL K H p xs) ∨ (t = "tuple" ∧ ∃ xs, SqT K H p xs)
  | _ => False
def isiTs : List String := ["int", "bool", "str", "list", "tuple", "dict"]
section
variable {X : Cx}
theorem call_isi : CallR X (.builtin "isinstance") (fun xs H Q => ∃ x T t, xs = [x, .ty T] ∧ T ∈ isiTs ∧ tyN X.K x H t ∧ Q (.bl (isa t T)) H) := by
  intro pins s σ H xs us Q I r h
  obtain ⟨x, T, t, rfl, hT, ht, q⟩ := h
  obtain ⟨u, w', rfl, rx, rT⟩ := vals2 r
  cases rT
  have hT' : T = "int" ∨ T = "bool" ∨ T = "str" ∨ T = "list" ∨ T = "tuple" ∨ T = "dict" := by simpa [isiTs] using hT
  have fin : ∀ {k : Bool} {s' : Shared}, isa t T = k → Inv X pins σ H s' → EP X pins σ Q (.bool k) s' := fun {k s'} e I' => by subst e; exact ⟨.bl _, H, I', rfl, q⟩
  cases x with
  | non =>
    cases rx
    have ht' : t = "NoneType" := ht
    subst ht'
    rcases hT' with rfl | rfl | rfl | rfl | rfl | rfl
    · exact IsiPair.NoneType_int (fin (by decide) (I.tok _))
    · exact IsiPair.NoneType_bool (fin (by decide) (I.tok _))
    · exact IsiPair.NoneType_str (fin (by decide) (I.tok _))
    · exact IsiPair.NoneType_list (fin (by decide) (I.tok _))
    · exact IsiPair.NoneType_tuple (fin (by decide) (I.tok _))
    · exact IsiPair.NoneType_dict (fin (by decide) (I.tok _))
  | bl b =>
    cases rx
    have ht' : t = "bool" := ht
    subst ht'
    rcases hT' with rfl | rfl | rfl | rfl | rfl | rfl
    · exact IsiPair.bool_int (fin (by decide) I)
    · exact IsiPair.bool_bool (fin (by decide) I)
    · exact IsiPair.bool_str (fin (by decide) (I.tok _))
    · exact IsiPair.bool_list (fin (by decide) (I.tok _))
    · exact IsiPair.bool_tuple (fin (by decide) (I.tok _))
    · exact IsiPair.bool_dict (fin (by decide) (I.tok _))
  | int i =>
    obtain ⟨tk, rfl⟩ := rx
    have ht' : t = "int" := ht
    subst ht'
    rcases hT' with rfl | rfl | rfl | rfl | rfl | rfl
    · exact IsiPair.int_int (fin (by decide) I)
    · exact IsiPair.int_bool (fin (by decide) (I.tok _))
    · exact IsiPair.int_str (fin (by decide) (I.tok _))
    · exact IsiPair.int_list (fin (by decide) (I.tok _))
    · exact IsiPair.int_tuple (fin (by decide) (I.tok _))
    · exact IsiPair.int_dict (fin (by decide) (I.tok _))
  | str y =>
    obtain ⟨tk, rfl⟩ := rx
    have ht' : t = "str" := ht
    subst ht'
    rcases hT' with rfl | rfl | rfl | rfl | rfl | rfl
    · exact IsiPair.str_int (fin (by decide) (I.tok _))
    · exact IsiPair.str_bool (fin (by decide) (I.tok _))
    · exact IsiPair.str_str (fin (by decide) I)
    · exact IsiPair.str_list (fin (by decide) (I.tok _))
    · exact IsiPair.str_tuple (fin (by decide) (I.tok _))
    · exact IsiPair.str_dict (fin (by decide) (I.tok _))
  | ref p =>
    cases rx
    have ht' : (t = "list" ∧ ∃ xs, SqL X.K H p xs) ∨ (t = "tuple" ∧ ∃ xs, SqT X.K H p xs) := ht
    rcases ht' with ⟨rfl, ys, hy⟩ | ⟨rfl, ys, hy⟩
    · obtain ⟨its, rv, ⟨o, n, e, hc, _, _⟩, hz⟩ := I.list hy
      rcases hT' with rfl | rfl | rfl | rfl | rfl | rfl
      · exact IsiPair.list_int e hc (fin (by decide) (I.tok _))
      · exact IsiPair.list_bool e hc (fin (by decide) (I.tok _))
      · exact IsiPair.list_str e hc (fin (by decide) (I.tok _))
      · exact IsiPair.list_list e hc (fin (by decide) I)
      · exact IsiPair.list_tuple e hc (fin (by decide) (I.tok _))
      · exact IsiPair.list_dict e hc (fin (by decide) (I.tok _))
    · obtain ⟨its, rv, ⟨o, e, hc, n, _⟩, hz⟩ := I.tuple hy
      rcases hT' with rfl | rfl | rfl | rfl | rfl | rfl
      · exact IsiPair.tuple_int e hc (fin (by decide) (I.tok _))
      · exact IsiPair.tuple_bool e hc (fin (by decide) (I.tok _))
      · exact IsiPair.tuple_str e hc (fin (by decide) (I.tok _))
      · exact IsiPair.tuple_list e hc (fin (by decide) (I.tok _))
      · exact IsiPair.tuple_tuple e hc (fin (by decide) I)
      · exact IsiPair.tuple_dict e hc (fin (by decide) (I.tok _))
  | _ => exact (show False from ht).elim

/-! ### two lists of ints compared -/
def rEqI (K : PySem.W.Frag) : R2 := fun x y H Q => ∃ (a b : Addr) (ns ms : List Int), x = .ref a ∧ y = .ref b ∧ SqL K H a (ns.map V.int) ∧ SqL K H b (ms.map V.int) ∧ Q (.bl (decide (ns = ms))) H
def rNeI (K : PySem.W.Frag) : R2 := fun x y H Q => ∃ (a b : Addr) (ns ms : List Int), x = .ref a ∧ y = .ref b ∧ SqL K H a (ns.map V.int) ∧ SqL K H b (ms.map V.int) ∧ Q (.bl (!decide (ns = ms))) H
theorem op_neI (hu : X.A.units + 64 < cLine) : OpR X (compareOp .NotEq) (rNeI X.K) := by
  intro pins s σ H x y v u Q I rx ry h
  obtain ⟨a, b, ns, ms, rfl, rfl, ha, hb, q⟩ := h
  cases rx
  cases ry
  obtain ⟨i1, r1, p1, _⟩ := I.list ha
  obtain ⟨i2, r2, p2, _⟩ := I.list hb
  exact PySem.W.ne_intsK p1.isList (intsAre_of r1) p2.isList (intsAre_of r2) hu ⟨.bl _, H, I, rfl, q⟩
end

/-! ### a, b = a list -/
section
variable {prog : Program} {w : World} {A : Around} {E : Value → Shared → Prop}
end
section
variable {X : Cx} {pos : Pos}
def gLst (K : PySem.W.Frag) (n : Nat) (t : TGs) : TG := fun v σ H Q => ∃ a xs, v = .ref a ∧ SqL K H a xs ∧ xs.length = n ∧ t xs σ H Q
/-! ### all(a list of truths) -/
theorem range_all_bools (bs : List Bool) : (List.range bs.length).all (fun i => bs.getD i false) = bs.all id := by
  rw [Bool.eq_iff_iff]
  simp only [List.all_eq_true, List.mem_range, id]
  constructor
  · intro h x hx
    obtain ⟨i, hi, rfl⟩ := List.mem_iff_getElem.mp hx
    have := h i hi
    simpa [List.getD_eq_getElem?_getD, List.getElem?_eq_getElem hi] using this
  · intro h i hi
    have := h bs[i] (List.getElem_mem hi)
    simpa [List.getD_eq_getElem?_getD, List.getElem?_eq_getElem hi] using this
theorem call_all (hc : X.calm = true) : CallR X (.builtin "all") (fun xs H Q => ∃ (a : Addr) (bs : List Bool), xs = [.ref a] ∧ SqL X.K H a (bs.map V.bl) ∧ Q (.bl (bs.all id)) H) := by
  intro pins s σ H xs us Q I r h
  obtain ⟨a, bs, rfl, ha, q⟩ := h
  obtain ⟨u, rfl, rx⟩ := vals1 r
  cases rx
  obtain ⟨its, rv, pl, hz⟩ := I.list ha
  have hlen : bs.length = its.length := by have := rv.length; simpa using this
  have hlt : a ≠ s.heap.objs.size := by obtain ⟨o, n, ho, _⟩ := pl; exact Nat.ne_of_lt (Heap.lt_size ho)
  refine call_all_walk (wpAny_pyIter_list pl.isList ?_)
  refine ⟨s.heap.objs.size, _, _, _, _, _, fun i => bs.getD i false, rfl, Walks.list (show X.A.in1.handled = none from I.ok.hd hc) _ a hlt its.toArray, ⟨⟨_, Heap.get?_push_size _ rfl, rfl, rfl⟩, pl.isList.push _⟩, ?_, fun h' tk hk => ?_⟩
  · intro i v s' Q' E' hP hQ
    have hv : its[i]? = some v := by simpa using hP
    obtain ⟨x, hx, rxv⟩ := rv.getR hv
    rw [List.getElem?_map] at hx
    cases hb : bs[i]? with
    | none => rw [hb] at hx; cases hx
    | some b =>
      rw [hb] at hx
      cases hx
      cases rxv
      have e : bs.getD i false = b := by simp [List.getD_eq_getElem?_getD, hb]
      have hQ' : Q' (bs.getD i false) s' := hQ
      rw [e] at hQ'
      exact wpAny_truthy_bool hQ'
  · refine ⟨.bl (bs.all id), H, I.kept fun b o e => hk b o (by simp; exact Nat.ne_of_lt (Heap.lt_size e)) (Heap.get?_push_of_some _ e), ?_, q⟩
    show Value.bool _ = Value.bool _
    rw [← range_all_bools bs, hlen]
    simp

/-! ### for x in reversed(a list) -/
def Itv (K : PySem.W.Frag) (a : Addr) (n : Nat) : It :=
  ⟨fun i H => i < n ∧ ∃ xs, SqL K H a xs ∧ xs.length = n, fun i H x H' => H' = H ∧ ∀ xs, SqL K H a xs → xs[n - 1 - i]? = some x, fun i _ => n ≤ i⟩
def iRev (K : PySem.W.Frag) (ta : TA) : TI := fun σ H R => ta σ H fun vs H1 => ∃ a xs, vs = [.ref a] ∧ SqL K H1 a xs ∧ R (Itv K a xs.length) H1
end
end L2

/-! A list comprehension of one clause, over the hand layer. -/
namespace L2
open PySem PySem.Spec PyProof.Rows

/-- the context of a comprehension's block; no exception leaves it -/
abbrev Cx.comp (X : Cx) (scope : Scope) (cl : List (Str × Addr)) (N : List Str) (s : Shared) (H : Hp) (fp : List Addr) (C : Addr) : Cx where
  prog := X.prog
  w := X.w
  K := X.K
  mg := X.mg
  base := X.base
  A := X.A
  N := N
  s₀ := s
  H₀ := H
  env := compEnvC scope cl C X.env
  outer := X.stack
  stack := X.stack
  ex := fp
  fn := fun _ => false
  calm := X.calm
  pn := []
  xe := fun _ _ => False

/-- the cells handed in are those of the frame around -/
def subCl (env : Env) : List (Str × Addr) → Prop
  | [] => True
  | p :: r => env.cells.lookup p.1 = some p.2 ∧ subCl env r
theorem subCl.all {env : Env} : ∀ {cl : List (Str × Addr)}, subCl env cl → ∀ p ∈ cl, env.cells.lookup p.1 = some p.2
  | [], _, p, hp => by simp at hp
  | _ :: _, h, p, hp => (List.mem_cons.mp hp).elim (fun e => e ▸ h.1) (subCl.all h.2 p)
theorem subCl.at {env : Env} {cl : List (Str × Addr)} {x : Str} {c : Addr} (h : subCl env cl) (e : cl.lookup x = some c) : env.cells.lookup x = some c :=
  h.all (x, c) (PySem.mem_of_lookup e)
/-- the names ys that the block has from around, by their slots js there -/
def capt (X : Cx) (scope : Scope) (cl : List (Str × Addr)) : List Str → List Nat → Prop
  | [], [] => True
  | y :: ys, j :: js => (X.N[j]? = some y ∧ X.env.kindOf y = some .cell ∧ (relabel scope X.env).names.lookup y = some .cell ∧ ∃ c, cl.lookup y = some c) ∧ capt X scope cl ys js
  | _, _ => False
theorem capt.get {X : Cx} {scope : Scope} {cl : List (Str × Addr)} : ∀ {ys : List Str} {js : List Nat} {k : Nat} {y : Str}, capt X scope cl ys js → ys[k]? = some y →
    ∃ j, js[k]? = some j ∧ X.N[j]? = some y ∧ X.env.kindOf y = some .cell ∧ (relabel scope X.env).names.lookup y = some .cell ∧ ∃ c, cl.lookup y = some c
  | [], [], k, y, _, e => by simp at e
  | y' :: ys, j :: js, 0, y, h, e => by
    simp at e
    subst e
    exact ⟨j, rfl, h.1⟩
  | y' :: ys, j :: js, k + 1, y, h, e => by
    obtain ⟨j', e1, r⟩ := capt.get (k := k) h.2 (by simpa using e)
    exact ⟨j', by simpa using e1, r⟩
  | [], _ :: _, _, _, h, _ => h.elim
  | _ :: _, [], _, _, h, _ => h.elim
theorem capt.len {X : Cx} {scope : Scope} {cl : List (Str × Addr)} : ∀ {ys : List Str} {js : List Nat}, capt X scope cl ys js → ys.length = js.length
  | [], [], _ => rfl
  | _ :: _, _ :: _, h => by rw [List.length_cons, List.length_cons, capt.len h.2]
  | [], _ :: _, h => h.elim
  | _ :: _, [], h => h.elim
/-- the block's names at its entry: k targets, then what comes from around -/
def capSt (k : Nat) (js : List Nat) (σ : St) : St := List.replicate k none ++ js.map fun j => σ.getD j none

/-- the tests of the clause -/
def PIf (X : Cx) (ifs : List Expr) (t : TT) : Prop :=
  ∀ (pins : List (Addr × Obj)) (s : Shared) (σ : St) (H : Hp) (Q : Bool → Hp → Prop), Inv X pins σ H s → t σ H Q →
    wpAny (model X.prog X.w) X.A (forIn ifs true fun c r => if r = true then do let ok ← isTrue c X.env (eval c X.env); pure (ForInStep.yield ok) else pure (ForInStep.yield r)) (TP X pins σ Q) X.xe s
def tYes : TT := fun _ H Q => Q true H
theorem pif_nil {X : Cx} : PIf X [] tYes := fun _ _ _ H _ I h => wpAny_tests_nil ⟨H, I, h⟩
theorem pif_one {X : Cx} {c : Expr} {t : TT} (h : PT X c t) : PIf X [c] t := fun pins s σ H Q I hq => wpAny_tests_one (h pins s σ H Q I hq)

/-- the turns of a comprehension by an invariant W and a measure -/
def CompR (J : It) (k : Nat) (js : List Nat) (g : TG) (tc : TT) (te : TE) (σ : St) (Q : VK) (H1 : Hp) : Prop :=
  ∃ W : Nat → Nat → St → List V → Hp → Prop, (∃ m, W 0 m (capSt k js σ) [] H1) ∧ ∀ i m σ' xs H', W i m σ' xs H' →
    (J.stop i H' ∧ ∀ p, H' p = none → Q (.ref p) (upd H' p (.lst xs))) ∨
    (J.go i H' ∧ xs.length < sizeLine ∧ ∃ N : St → List V → Hp → Prop, (∀ σ' ys H', N σ' ys H' → ∃ m', m' < m ∧ W (i + 1) m' σ' ys H') ∧
      ∀ x H2, J.yld i H' x H2 → g x σ' H2 fun σ3 H3 => tc σ3 H3 fun b H4 => if b = true then te σ3 H4 fun v H5 => N σ3 (xs ++ [v]) H5 else N σ3 xs H4)
def tComp (wi : TI) (k : Nat) (js : List Nat) (g : TG) (tc : TT) (te : TE) : TE := fun σ H Q => wi σ H fun J H1 => CompR J k js g tc te σ Q H1

section
variable {prog : Program} {w : World} {A : Around} {R : Result → Shared → Prop} {s : Shared}
theorem compLoop_gen {elt target iter : Expr} {ifs : List Expr} {scope : Scope} {pos : Pos} {it acc : Value} {env : Env} (I : Nat → Shared → Prop)
    (turn : ∀ n s, I n s → wpAny (model prog w) A (pyNext it) (fun r s₁ => match r with
      | none => R (.ok .next) s₁
      | some v => wpAny (model prog w) A (letOwnedTupleGo target it v) (fun _ s₀ => wpAny (model prog w) A (assign target env v) (fun _ s₂ =>
          wpAny (model prog w) A (forIn ifs true fun c r => if r = true then do let ok ← isTrue c env (eval c env); pure (ForInStep.yield ok) else pure (ForInStep.yield r)) (fun ok s₃ =>
            if ok = true then wpAny (model prog w) A (eval elt env) (fun x s₄ =>
              wpAny (model prog w) A (call (.builtin "list.append") [acc, x]) (fun _ s₅ => ∃ m, m < n ∧ I m s₅) (fun _ _ => False) s₄) (fun _ _ => False) s₃
            else ∃ m, m < n ∧ I m s₃) (fun _ _ => False) s₂) (fun _ _ => False) s₀) (fun _ _ => False) s₁) (fun _ _ => False) s)
    (n : Nat) (h : I n s) : codeAny (model prog w) A (.compLoop (.ListComp elt [⟨target, iter, ifs, 0⟩] scope pos) 0 it acc env) R s := by
  refine codeAny_loop rfl I (fun n s hI => ?_) n h
  show wpAny _ A ((compTurn (.ListComp elt [⟨target, iter, ifs, 0⟩] scope pos) 0 it acc env).onRaise (fun x => do noteFrame x env; theTreesLotGoes x)) _ _ s
  refine wpAny_noted ?_
  rw [compTurn_list]
  refine wpAny_bind (wpAny_standAt (wpAny_bind (wpAny_mono (turn n s hI) (fun r s₁ h₁ => ?_) fun _ _ z => False.elim z)))
  cases r with
  | none => exact wpAny_pure h₁
  | some v =>
    refine wpAny_bind (wpAny_mono h₁ (fun _ s₀ h₀ => ?_) fun _ _ z => False.elim z)
    refine wpAny_bind (wpAny_mono h₀ (fun _ s₂ h₂ => wpAny_bind (wpAny_mono h₂ (fun ok s₃ h₃ => ?_) fun _ _ z => False.elim z)) fun _ _ z => False.elim z)
    cases ok with
    | false => exact wpAny_pure ⟨rfl, h₃⟩
    | true =>
      exact wpAny_bind (wpAny_bind (wpAny_mono h₃ (fun x s₄ h₄ => wpAny_bind (wpAny_mono h₄ (fun _ s₅ h₅ => wpAny_pure (wpAny_pure ⟨rfl, h₅⟩)) fun _ _ z => False.elim z)) fun _ _ z => False.elim z))
end

/-- an untracked record has turned, another one is tracked now -/
theorem HOk.but {P : Program} {w : World} {H : Hp} {h h' : Heap} {C : Addr} (x : HOk P w H h) (hn : H C = none) (k : ∀ b o, b ≠ C → h.get? b = some o → h'.get? b = some o) : HOk P w H h' := fun b u e =>
  (x b u e).stay (fun c v hc q => k c v (by
    rcases hc with z | z
    · intro y; rw [← z, y, hn] at e; cases e
    · intro y; rw [y, hn] at z; cases z) q) (fun _ q => q) fun _ _ q => q
theorem HOk.track {P : Program} {w : World} {H : Hp} {h : Heap} {a : Addr} {o : HO} (x : HOk P w H h) (hn : H a = none) (new : ObjOk P w (upd H a o) h a o) : HOk P w (upd H a o) h := fun b u e => by
  by_cases hb : b = a
  · subst hb; rw [upd_same] at e; cases e; exact new
  · rw [upd_ne hb] at e
    exact (x b u e).stay (fun _ _ _ q => q) (fun c q => by rw [upd_ne (ne_of_none q hn)]; exact q) fun c xs q => by rw [upd_ne (ne_of_none q hn)]; exact q

section
variable {X : Cx} {elt tg iter : Expr} {ifs : List Expr} {scope : Scope} {cl : List (Str × Addr)} {ts ys : List Str} {js : List Nat} {pos : Pos} {wi : TI} {g : TG} {tc : TT} {te : TE}

theorem capSt_get {k : Nat} {σ : St} {i : Nat} {v : V} (h : (capSt k js σ)[i]? = some (some v)) : ∃ n j, i = k + n ∧ js[n]? = some j ∧ σ[j]? = some (some v) := by
  unfold capSt at h
  by_cases hi : i < k
  · rw [List.getElem?_append_left (by simpa using hi), List.getElem?_replicate] at h
    split at h <;> cases h
  · rw [List.getElem?_append_right (by simpa using hi), List.getElem?_map, List.length_replicate] at h
    cases e : js[i - k]? with
    | none => rw [e] at h; cases h
    | some j =>
      rw [e] at h
      have h' : σ.getD j none = some v := Option.some.inj h
      refine ⟨i - k, j, by omega, e, ?_⟩
      rw [List.getD_eq_getElem?_getD] at h'
      cases q : σ[j]? with
      | none => rw [q] at h'; cases h'
      | some o => rw [q] at h'; exact congrArg some h'

/-- the block's entry -/
theorem inv_comp {pins : List (Addr × Obj)} {σ : St} {H : Hp} {s : Shared} {fp : List Addr} {C : Addr} {h1 : Heap} {m : Str → Option Value} {t' : Nat} (I : Inv X pins σ H s) (hsub : subCl X.env cl) (hcap : capt X scope cl ys js)
    (hkind : scope.kind = .function) (hhas : ∀ x, ((relabel scope X.env).names.lookup x = some .cell ∨ (relabel scope X.env).names.lookup x = some .free) → ∃ c, cl.lookup x = some c)
    (f2 : ∀ b ∈ fp, FpOk X pins H b) (fl : ∀ b ∈ fp, b < s.heap.objs.size) (hC : s.heap.objs.size ≤ C) (hn : h1.Ns C m) (old : ∀ b o, s.heap.get? b = some o → h1.get? b = some o) :
    Inv (X.comp scope cl (ts ++ ys) s H fp C) [] (capSt ts.length js σ) H { s with heap := h1, toks := t' } := by
  obtain ⟨mo, hno, hlo⟩ := id I.loc
  refine ⟨⟨I.ok.mod, hkind, I.ok.glob, I.ok.blt, hC, fun x y c e1 e2 => I.ok.inj x y c (hsub.at e1) (hsub.at e2), fun x hx => hhas x hx, fun x c z _ => (by cases z), I.ok.hd, I.ok.frames, .inl rfl,
      fun b hb => ⟨Nat.ne_of_lt (Nat.lt_of_lt_of_le (fl b hb) hC), fun x c e => (f2 b hb).2.2.2.2.1 x c (hsub.at e)⟩, I.bs, Nat.le_trans I.ok.bsz I.sz, fun b o e hb => ?_, fun b hb z => ?_, I.stack, I.stkFree⟩,
    rfl, I.bare, Un.kept old, ⟨m, hn, fun i x v e1 e2 e3 => ?_⟩, fun x c e => ?_, I.hok.fresh hC, fun x c e => I.freeC x c (hsub.at e), fun p hp => absurd (show p ∈ ([] : List (Addr × Obj)) from hp) (by simp), I.hok.kept old, ?_⟩
  · -- an object of the base is none of the iterator's
    obtain ⟨_, _, _, h3, _⟩ := f2 b hb
    rcases h3 with z | z
    · exact I.ok.noex b o e z
    · exact absurd (Nat.lt_of_lt_of_le (Heap.lt_size e) (Nat.le_trans I.ok.bsz z)) (Nat.lt_irrefl _)
  · obtain ⟨_, h1', h2', _⟩ := f2 b hb
    rcases List.mem_cons.mp (I.stkSub b z) with e | e
    · exact h1' e
    · exact h2' e
  · obtain ⟨n, j, rfl, ej, es⟩ := capSt_get e2
    have ey : ys[n]? = some x := by
      have e1' : (ts ++ ys)[ts.length + n]? = some x := e1
      rw [List.getElem?_append_right (by omega)] at e1'
      simpa using e1'
    obtain ⟨j', ej', hN, hk, hr, c, hc⟩ := hcap.get ey
    rw [ej] at ej'
    cases ej'
    obtain ⟨u, ru, l⟩ := hlo j x v hN es (.inr (.inl hk))
    refine ⟨u, ru, .inr ⟨.inl hr, c, hc, ?_⟩⟩
    rcases l with ⟨k1, _⟩ | ⟨_, c', hc', ⟨o, ho, hd⟩⟩
    · rw [hk] at k1; cases k1
    · have := hsub.at hc
      rw [hc'] at this
      cases this
      exact ⟨o, old _ o ho, hd⟩
  · obtain ⟨v, o, ho, hd⟩ := I.cell x c (hsub.at e)
    exact ⟨v, o, old _ o ho, hd⟩
  · show (capSt ts.length js σ).length = (ts ++ ys).length
    unfold capSt
    rw [List.length_append, List.length_append, List.length_replicate, List.length_map, hcap.len]

/-- behind the block -/
theorem comp_end {pins pins' : List (Addr × Obj)} {σ σ' : St} {H2 H3 : Hp} {s2 s4 : Shared} {fp : List Addr} {C D : Addr} {N : List Str} {h' : Heap} {its : List Value} {xs : List V} {n : Nat} (I2 : Inv X pins σ H2 s2) (f2 : ∀ b ∈ fp, FpOk X pins H2 b)
    (I4 : Inv (X.comp scope cl N s2 H2 fp C) pins' σ' H3 s4) (hC : s2.heap.objs.size ≤ C) (hD : s2.heap.objs.size ≤ D) (hDC : D ≠ C) (hs' : Heap.SameBut C s4.heap h') (rv : Vals xs its) (hz : xs.length ≤ sizeLine) (e4 : s4.heap.get? D = some { cls := .type "list", data := .seq its.toArray n }) (hn : H3 D = none) :
    Inv X pins σ (upd H3 D (.lst xs)) { s4 with heap := h' } := by
  have ext := hs'.extBut
  have neC : ∀ b o, s2.heap.get? b = some o → b ≠ C := fun b o e => Nat.ne_of_lt (Nat.lt_of_lt_of_le (Heap.lt_size e) hC)
  have neD : ∀ b o, s2.heap.get? b = some o → b ≠ D := fun b o e => Nat.ne_of_lt (Nat.lt_of_lt_of_le (Heap.lt_size e) hD)
  have hok : HOk X.prog X.w (upd H3 D (.lst xs)) h' := by
    have h1 : HOk X.prog X.w H3 h' := HOk.but (C := C) I4.hok I4.free fun b o hb e => ext b o hb e
    exact HOk.track h1 hn ⟨hz, its, n, rv, ext D _ hDC e4⟩
  have B : Un (frs X.stack) fp H2 H3 s2.heap s4.heap := I4.base
  have u : Un (frs X.stack) fp H2 (upd H3 D (.lst xs)) s2.heap h' := by
    refine ⟨fun b o e q hb hx => ext b o (neC b o e) (B.keep b o e q hb hx), fun b o e q hb hx => ?_, fun b o e q hx => ?_, fun b o e hx => ?_, fun b ys q => ?_, fun b o ys q => ?_, fun b ps q => ?_⟩
    · obtain ⟨sl, e1⟩ := B.slot b o e q hb hx
      exact ⟨sl, ext b _ (neC b o e) e1⟩
    · rw [upd_ne (neD b o e)]; exact B.free b o e q hx
    · obtain ⟨o', e1⟩ := B.there b o e hx
      exact ⟨o', ext b _ (neC b o e) e1⟩
    · have := B.tups b ys q
      rw [upd_ne (ne_of_none this hn)]; exact this
    · have := B.frzs b o ys q
      rw [upd_ne (ne_of_none this hn)]; exact this
    · obtain ⟨m1, e1⟩ := B.tbls b ps q
      exact ⟨m1, by rw [upd_ne (ne_of_none e1 hn)]; exact e1⟩
  have os : s4.os = s2.os := I4.os
  have gb := I4.bare
  obtain ⟨hh, gg, dd, tt, os'⟩ := s4
  obtain rfl : os' = s2.os := os
  have fin := I2.call (h' := h') (g' := gg) (d' := dd) (t' := tt) (ch := fp) u hok gb fun b hb => ⟨(f2 b hb).2.2.2.1, (f2 b hb).2.1, (f2 b hb).2.2.2.2.1, (f2 b hb).2.2.2.2.2⟩
  exact fin

theorem pe_comp (ts ys : List Str) (js : List Nat) (hc : X.calm = true) (hi : PI X tg iter wi) (hclos : closureFor scope X.env = pure cl) (hsub : subCl X.env cl) (hcap : capt X scope cl ys js)
    (hg : ∀ s H fp C, PG (X.comp scope cl (ts ++ ys) s H fp C) tg g) (ht : ∀ s H fp C, PIf (X.comp scope cl (ts ++ ys) s H fp C) ifs tc) (he : ∀ s H fp C, PE (X.comp scope cl (ts ++ ys) s H fp C) elt te)
    (hkind : scope.kind = .function := by rfl) (hcell : (scope.names.all fun y => y.2 != .cell) = true := by rfl)
    (hnames : (scope.names.all fun y => y.2 != .local || scope.names.lookup y.1 == some .local) = true := by rfl)
    (hhas : ((relabel scope X.env).names.all fun p => (p.2 != .cell && p.2 != .free) || (cl.lookup p.1).isSome) = true := by rfl)
    (hs : ∀ x, foldedSetIterable iter X.env x = pure x := by intro _; rfl) : PE X (.ListComp elt [⟨tg, iter, ifs, 0⟩] scope pos) (tComp wi ts.length js g tc te) := by
  intro pins s σ H Q I h
  have hcell' : ∀ y ∈ scope.names, y.2 ≠ .cell := fun y hy z => by
    have := List.all_eq_true.mp hcell y hy
    rw [z] at this
    exact absurd this (by decide)
  have hnames' : ∀ y ∈ scope.names, y.2 = .local → scope.names.lookup y.1 = some .local := fun y hy z => by
    have := List.all_eq_true.mp hnames y hy
    rw [z] at this
    simpa using this
  have hhas' : ∀ x, ((relabel scope X.env).names.lookup x = some .cell ∨ (relabel scope X.env).names.lookup x = some .free) → ∃ c, cl.lookup x = some c := fun x hx => by
    rcases hx with hx | hx
    · have := List.all_eq_true.mp hhas _ (PySem.mem_of_lookup hx)
      exact Option.isSome_iff_exists.mp (by simpa using this)
    · have := List.all_eq_true.mp hhas _ (PySem.mem_of_lookup hx)
      exact Option.isSome_iff_exists.mp (by simpa using this)
  rw [eval_ListComp]
  refine wpAny_comprehension_free (use := none) rfl hs hclos hkind hnames' (thn (hi pins s σ H _ I h) fun v s1 h1 => thn h1 fun itv s2 h2 => ?_)
  obtain ⟨it, fp, tn, J, H2, e, I2, T, st2, f2, W, ⟨m0, w0⟩, turn⟩ := h2
  subst e
  have fl : ∀ b ∈ fp, b < s2.heap.objs.size := fun b hb => by
    obtain ⟨o, e, _⟩ := T.obj _ _ st2 b hb
    exact Heap.lt_size e
  refine wpAny_newObj_type (wpAny_newFunctionEnv hcell' (by intro y hy; simp at hy) (fun h₁ hns₁ hsb₁ => ?_) hkind)
  dsimp only at hns₁ hsb₁ ⊢
  generalize hHH : s2.heap.push { cls := .type "list", dict := none, data := .seq ([] : List Value).toArray } = HH at hns₁ hsb₁ ⊢
  have hC : HH.objs.size = s2.heap.objs.size + 1 := by rw [← hHH, Heap.size_push]
  have hDC : s2.heap.objs.size ≠ HH.objs.size := by rw [hC]; exact Nat.ne_of_lt (Nat.lt_succ_self _)
  have hCle : s2.heap.objs.size ≤ HH.objs.size := by rw [hC]; exact Nat.le_succ _
  have old : ∀ b o, s2.heap.get? b = some o → h₁.get? b = some o := fun b o e =>
    hsb₁.extBut b o (Nat.ne_of_lt (Nat.lt_of_lt_of_le (Heap.lt_size e) hCle)) (Heap.get?_push_of_some _ (hHH ▸ Heap.get?_push_of_some _ e))
  have hacc : h₁.get? s2.heap.objs.size = some { cls := .type "list", data := .seq ([] : List Value).toArray } := hsb₁.extBut _ _ hDC (Heap.get?_push_of_some _ (hHH ▸ Heap.get?_push_size _ rfl))
  have nofs : ∀ b, s2.heap.objs.size ≤ b → b ∉ frs X.stack := fun b hb z => by
    rcases List.mem_cons.mp (I2.stkSub b z) with e | e
    · exact absurd (Nat.lt_of_lt_of_le I2.lt (e ▸ hb)) (Nat.lt_irrefl _)
    · exact I2.nofs hb e
  have nocell : ∀ b, s2.heap.objs.size ≤ b → ∀ x c, cl.lookup x = some c → c ≠ b := fun b hb x c e z => by
    obtain ⟨v, q⟩ := I2.cell x c (hsub.at e)
    exact absurd (Nat.lt_of_lt_of_le q.lt (z ▸ hb)) (Nat.lt_irrefl _)
  have I' : Inv (X.comp scope cl (ts ++ ys) s2 H2 fp HH.objs.size) [] (capSt ts.length js σ) H2 { s2 with heap := h₁, toks := s2.toks + ([] : List (Str × Value)).length } :=
    inv_comp I2 hsub hcap hkind hhas' f2 fl hCle hns₁ old
  have addPin : ∀ {σ' : St} {H' : Hp} {s' : Shared} {o : Obj}, Inv (X.comp scope cl (ts ++ ys) s2 H2 fp HH.objs.size) [] σ' H' s' → s'.heap.get? s2.heap.objs.size = some o → H' s2.heap.objs.size = none → (∀ v, o.data ≠ .cell v) →
      Inv (X.comp scope cl (ts ++ ys) s2 H2 fp HH.objs.size) [(s2.heap.objs.size, o)] σ' H' s' := fun {σ' H' s' o} J e n d => J.pins_of fun p hp => by
    have e' : p = (s2.heap.objs.size, o) := by simpa using hp
    subst e'
    exact ⟨e, n, hDC, nofs _ (Nat.le_refl _), d⟩
  have stat : ∀ {pins' : List (Addr × Obj)} {H' : Hp}, (∀ p ∈ pins', p.1 = s2.heap.objs.size) → (∀ b ∈ fp, H' b = none) → ∀ b ∈ fp, FpOk (X.comp scope cl (ts ++ ys) s2 H2 fp HH.objs.size) pins' H' b := fun {pins' H'} hp hn b hb =>
    ⟨hn b hb, Nat.ne_of_lt (Nat.lt_of_lt_of_le (fl b hb) hCle), I'.ok.exfs b hb, .inl hb, (I'.ok.exf b hb).2, fun p hq z => by
      have hq' : p ∈ pins' := by simpa using hq
      exact absurd (fl b hb) (by rw [← z, hp p hq']; exact Nat.lt_irrefl _)⟩
  have tn1 : tn 0 h₁ := T.keep _ _ _ st2 fun b _ o e => old b o e
  have loop : ∀ s₃ : Shared, s₃ = { s2 with heap := h₁, toks := s2.toks + ([] : List (Str × Value)).length } →
      codeAny (model X.prog X.w) X.A (.compLoop (.ListComp elt [⟨tg, iter, ifs, 0⟩] scope pos) 0 (.ref it) (.ref s2.heap.objs.size) (compEnvC scope cl HH.objs.size X.env))
        (compPost (model X.prog X.w) X.A X.xe none (EP X pins σ Q) (.ref s2.heap.objs.size) HH.objs.size) s₃ := by
    rintro s₃ rfl
    refine compLoop_gen (fun n s' => ∃ i σ' xs H' its nn, Inv (X.comp scope cl (ts ++ ys) s2 H2 fp HH.objs.size) [] σ' H' s' ∧ Vals xs its ∧ xs.length ≤ sizeLine ∧ s'.heap.get? s2.heap.objs.size = some { cls := .type "list", data := .seq its.toArray nn } ∧ H' s2.heap.objs.size = none ∧
      tn i s'.heap ∧ (∀ b ∈ fp, H' b = none) ∧ W i n σ' xs H') ?_ m0 ⟨0, _, [], H2, [], 0, I', .nil, Nat.zero_le _, hacc, I2.hok.fresh (Nat.le_refl _), tn1, fun b hb => (f2 b hb).1, w0⟩
    rintro n s3 ⟨i, σ3, xs, H3, its, nn, I3, rv, hz3, ac3, nD3, st3, fr3, w3⟩
    have nd : ∀ v, ({ cls := .type "list", data := .seq its.toArray nn } : Obj).data ≠ .cell v := fun v z => by
      have z' : Data.seq its.toArray nn = Data.cell v := z
      cases z'
    have I3p := addPin I3 ac3 nD3 nd
    have pinD : ∀ p ∈ [(s2.heap.objs.size, ({ cls := .type "list", data := .seq its.toArray nn } : Obj))], p.1 = s2.heap.objs.size := fun p hp => by
      rw [List.mem_singleton] at hp
      rw [hp]
    rcases turn i n σ3 xs H3 w3 with ⟨stop, qn⟩ | ⟨go, hz, N, hN, step⟩
    · refine thn (T.done (X.comp scope cl (ts ++ ys) s2 H2 fp HH.objs.size) rfl rfl rfl hc i _ s3 σ3 H3 (fun _ _ => False) I3p (stat pinD fr3) st3 stop) fun r s4 ⟨hr, I4⟩ => ?_
      subst hr
      obtain ⟨m, hn, _⟩ := I4.loc
      have ac4 := (I4.pin _ (List.mem_append_right _ (List.mem_singleton.mpr rfl))).1
      exact ⟨m, hn, fun h' hs' => ⟨.ref s2.heap.objs.size, _, comp_end I2 f2 I4 hCle (Nat.le_refl _) hDC hs' rv hz3 ac4 nD3, rfl, qn _ nD3⟩⟩
    · refine thn (T.item (X.comp scope cl (ts ++ ys) s2 H2 fp HH.objs.size) rfl rfl rfl hc i _ s3 σ3 H3 (fun _ _ => False) I3p (stat pinD fr3) st3 go) fun r s4 ⟨u, hr, h4⟩ => ?_
      subst hr
      refine thn h4 fun _ s5 ⟨x, H5, I5, r5, y5, st5, fr5⟩ => ?_
      have I5' := I5.pinned (stat pinD fr5) (T.obj _ _ st5)
      refine thn (hg _ _ _ _ _ s5 σ3 H5 x u _ I5' r5 (step x H5 y5)) fun _ s6 ⟨σ6, H6, I6, q6⟩ => ?_
      refine thn (ht _ _ _ _ _ s6 σ6 H6 _ I6 q6) fun b s7 ⟨H7, I7, q7⟩ => ?_
      -- what stands of the pins
      have facts : ∀ {σ' : St} {H' : Hp} {s' : Shared}, Inv (X.comp scope cl (ts ++ ys) s2 H2 fp HH.objs.size) ([(s2.heap.objs.size, ({ cls := .type "list", data := .seq its.toArray nn } : Obj))] ++ pinsAt fp s5.heap) σ' H' s' →
          s'.heap.get? s2.heap.objs.size = some { cls := .type "list", data := .seq its.toArray nn } ∧ H' s2.heap.objs.size = none ∧ tn (i + 1) s'.heap ∧ (∀ b ∈ fp, H' b = none) := fun {σ' H' s'} J => by
        have p1 := J.pin (s2.heap.objs.size, ({ cls := .type "list", data := .seq its.toArray nn } : Obj)) (by simp)
        refine ⟨p1.1, p1.2.1, T.keep _ _ _ st5 fun b hb o e => (J.pin (b, o) (List.mem_append_right _ (List.mem_append_right _ (mem_pinsAt hb e)))).1, fun b hb => ?_⟩
        obtain ⟨o, e, d⟩ := T.obj _ _ st5 b hb
        exact (J.pin (b, o) (List.mem_append_right _ (List.mem_append_right _ (mem_pinsAt hb e)))).2.1
      have bare : ∀ {σ' : St} {H' : Hp} {s' : Shared}, Inv (X.comp scope cl (ts ++ ys) s2 H2 fp HH.objs.size) ([(s2.heap.objs.size, ({ cls := .type "list", data := .seq its.toArray nn } : Obj))] ++ pinsAt fp s5.heap) σ' H' s' →
          Inv (X.comp scope cl (ts ++ ys) s2 H2 fp HH.objs.size) [] σ' H' s' := fun J => J.pins_of fun p hp => absurd hp (by simp)
      cases b with
      | false =>
        have q7' : N σ6 xs H7 := by simpa using q7
        obtain ⟨m', hm, w7⟩ := hN _ _ _ q7'
        obtain ⟨a1, a2, a3, a4⟩ := facts I7
        show ∃ m, m < n ∧ _
        exact ⟨m', hm, i + 1, σ6, xs, H7, its, nn, bare I7, rv, hz3, a1, a2, a3, a4, w7⟩
      | true =>
        have q7' : te σ6 H7 fun v H5 => N σ6 (xs ++ [v]) H5 := by
          rw [if_pos rfl] at q7
          exact q7
        show wpAny _ _ (eval elt _) _ _ s7
        refine thn (he _ _ _ _ _ s7 σ6 H7 _ I7 q7') fun xv s8 ⟨v, H8, I8, r8, n8⟩ => ?_
        obtain ⟨m', hm, w8⟩ := hN _ _ _ n8
        obtain ⟨a1, a2, a3, a4⟩ := facts I8
        have hl := rv.length
        refine call_meets F.slot_list_append ⟨_, a1, rfl⟩ F.entry_list_append (F.args_list_append_2 _ _) (PySem.list_append s2.heap.objs.size its.toArray nn xv (by rw [List.size_toArray]; omega)) ⟨a1, ?_⟩
        obtain ⟨n9, q9⟩ : ∃ n9, (s8.heap.update s2.heap.objs.size (Obj.mapSeq fun a => a.push xv)).get? s2.heap.objs.size = some { cls := .type "list", data := .seq (its ++ [xv]).toArray n9 } :=
          ⟨_, by rw [show (its ++ [xv]).toArray = its.toArray.push xv by simp]; exact PySem.IsL.update a1 (fun a => a.push xv)⟩
        have I9 : Inv (X.comp scope cl (ts ++ ys) s2 H2 fp HH.objs.size) [] σ6 H8 { s8 with heap := s8.heap.update s2.heap.objs.size (Obj.mapSeq fun a => a.push xv), toks := s8.toks } :=
          (bare I8).turned (it := s2.heap.objs.size) (fun b o hb e => (Heap.get?_update_other s8.heap _ (Ne.symm hb)).trans e) a2 hDC (.inr (Nat.le_refl _)) (nocell _ (Nat.le_refl _)) fun p hp => absurd (show p ∈ ([] : List (Addr × Obj)) from hp) (by simp)
        refine ⟨m', hm, i + 1, σ6, xs ++ [v], H8, its ++ [xv], n9, I9, rv.append (.cons r8 .nil), ?_, q9, a2, ?_, a4, w8⟩
        · rw [List.length_append, List.length_singleton]; omega
        · exact T.keep _ _ _ a3 fun b hb o e => (Heap.get?_update_other s8.heap _ (Ne.symm (Nat.ne_of_lt (fl b hb)))).trans e
  exact codeAny_compStart_list (loop _ rfl) (T.self _ 0 _ _ _ tn1 (loop _ rfl))
end

/-! ### the forms one uses: one name as target. At a turn's end: what P says, and (_, rfl) that the names from around are as they were -/
abbrev capV (js : List Nat) (σ : St) : St := js.map fun j => σ.getD j none
def CompN (P : Nat → List V → Hp → Prop) (i : Nat) (js : List Nat) (σ : St) : St → List V → Hp → Prop := fun σ' ys H => P (i + 1) ys H ∧ ∃ o, σ' = o :: capV js σ
theorem comp_list {K : PySem.W.Frag} {a : Addr} {xs : List V} {k : Nat} {js : List Nat} {tc : TT} {te : TE} {σ : St} {Q : VK} {H1 : Hp} (P : Nat → List V → Hp → Prop) (h0 : P 0 [] H1) (hl : ∀ i ys H, i ≤ xs.length → P i ys H → SqL K H a xs ∧ ys.length ≤ i) (hz : xs.length < sizeLine)
    (hs : ∀ i x ys H, xs[i]? = some x → P i ys H → tc (some x :: capV js σ) H fun b H2 => if b = true then te (some x :: capV js σ) H2 fun v H3 => CompN P i js σ (some x :: capV js σ) (ys ++ [v]) H3 else CompN P i js σ (some x :: capV js σ) ys H2)
    (hd : ∀ ys H, P xs.length ys H → ∀ p, H p = none → Q (.ref p) (upd H p (.lst ys))) (hk : k = 1 := by rfl) :
    CompR (Itl K a) k js (gName 0) tc te σ Q H1 := by
  subst hk
  refine ⟨fun i m σ' ys H => m = xs.length - i ∧ i ≤ xs.length ∧ P i ys H ∧ ∃ o, σ' = o :: capV js σ, ⟨xs.length, by simp, Nat.zero_le _, h0, none, rfl⟩, ?_⟩
  rintro i m σ' ys H ⟨rfl, hi, p, o, rfl⟩
  obtain ⟨q, hy⟩ := hl i ys H hi p
  by_cases hlt : i < xs.length
  · refine .inr ⟨⟨xs, xs[i], q, by simp [hlt]⟩, by omega, CompN P i js σ, fun σ3 zs H3 z => ⟨xs.length - (i + 1), by omega, rfl, hlt, z.1, z.2⟩, fun x H' y => ?_⟩
    obtain ⟨e, y⟩ := y
    subst e
    exact hs i x ys _ (y xs q) p
  · have e : i = xs.length := by omega
    subst e
    exact .inl ⟨⟨xs, q, Nat.le_refl _⟩, hd ys H p⟩
theorem comp_range {lo : Int} {n : Nat} {k : Nat} {js : List Nat} {tc : TT} {te : TE} {σ : St} {Q : VK} {H1 : Hp} (P : Nat → List V → Hp → Prop) (h0 : P 0 [] H1) (hl : ∀ i ys H, i ≤ n → P i ys H → ys.length ≤ i) (hz : n < sizeLine)
    (hs : ∀ i ys H, i < n → P i ys H → tc (some (.int (lo + i)) :: capV js σ) H fun b H2 => if b = true then te (some (.int (lo + i)) :: capV js σ) H2 fun v H3 => CompN P i js σ (some (.int (lo + i)) :: capV js σ) (ys ++ [v]) H3 else CompN P i js σ (some (.int (lo + i)) :: capV js σ) ys H2)
    (hd : ∀ ys H, P n ys H → ∀ p, H p = none → Q (.ref p) (upd H p (.lst ys))) (hk : k = 1 := by rfl) :
    CompR (Itr lo n) k js (gName 0) tc te σ Q H1 := by
  subst hk
  refine ⟨fun i m σ' ys H => m = n - i ∧ i ≤ n ∧ P i ys H ∧ ∃ o, σ' = o :: capV js σ, ⟨n, by simp, Nat.zero_le _, h0, none, rfl⟩, ?_⟩
  rintro i m σ' ys H ⟨rfl, hi, p, o, rfl⟩
  have hy := hl i ys H hi p
  by_cases hlt : i < n
  · refine .inr ⟨hlt, by omega, CompN P i js σ, fun σ3 zs H3 z => ⟨n - (i + 1), by omega, rfl, hlt, z.1, z.2⟩, fun x H' y => ?_⟩
    obtain ⟨e, y⟩ := y
    subst e
    subst y
    exact hs i ys _ hlt p
  · have e : i = n := by omega
    subst e
    exact .inl ⟨Nat.le_refl _, hd ys H p⟩
end L2

/-! range objects made and listed, of any ints; a negated int -/
namespace L2
open PySem PySem.Spec PyProof.Rows
section
variable {prog : Program} {w : World} {A : Around} {E : Value → Shared → Prop} {s : Shared}
end
/-- lo, lo + 1, .. (n of them) -/
def rangeL (lo : Int) (n : Nat) : List Int := (List.range n).map fun i : Nat => lo + (i : Int)
theorem rangeL_length (lo : Int) (n : Nat) : (rangeL lo n).length = n := by simp [rangeL]
theorem rangeL_succ (lo : Int) (n : Nat) : rangeL lo (n + 1) = rangeL lo n ++ [lo + n] := by simp [rangeL, List.range_succ]
section
variable {X : Cx}
theorem ix_listK (K : PySem.W.Frag) (h : X.K = K) : IxR X (rIxL K) := h ▸ ix_list
end
end L2

namespace L2
open PySem PySem.Spec PyProof.Rows

/-! ### lists of pairs as tables -/
section
variable {κ : Type} [DecidableEq κ]
def valV (kvs : List (κ × V)) (k : κ) : Option V := (kvs.find? fun kv => decide (kv.1 = k)).map (·.2)
/-- in its place, or at the end -/
def putK (kvs : List (κ × V)) (k : κ) (v : V) : List (κ × V) :=
  if (kvs.any fun kv => decide (kv.1 = k)) = true then kvs.map (fun kv => if kv.1 = k then (kv.1, v) else kv) else kvs ++ [(k, v)]
def dropK (kvs : List (κ × V)) (k : κ) : List (κ × V) := kvs.filter fun kv => decide (kv.1 ≠ k)

end


/-! ### a tracked dict, its keys ints and texts or tuples of these -/
/-- raw entries of a dict with tuple keys -/
abbrev KT (H : Hp) : List (List Key × V) → List (List Key × Addr × Value) → Prop := Paired fun p q => p.1 = q.1 ∧ H q.2.1 = some (.tup (p.1.map kV)) ∧ RelV p.2 q.2.2
section
variable {P : Program} {w : World} {H : Hp} {h : Heap} {a : Addr}
end

/-- what the dict at a holds at the key y -/
def DGet (H : Hp) (a : Addr) (y : V) (r : Option V) : Prop :=
  (∃ kvs k, Rd H a (.dK kvs) ∧ y = kV k ∧ r = valV kvs k) ∨ ∃ kvs k b, Rd H a (.dT kvs) ∧ y = .ref b ∧ H b = some (.tup (k.map kV)) ∧ r = valV kvs k
/-- the heap behind a[y] = v -/
def DPut (H : Hp) (a : Addr) (y v : V) (H' : Hp) : Prop :=
  (∃ kvs k, H a = some (.dK kvs) ∧ y = kV k ∧ kvs.length < sizeLine ∧ H' = upd H a (.dK (putK kvs k v))) ∨
  ∃ kvs k b, H a = some (.dT kvs) ∧ y = .ref b ∧ H b = some (.tup (k.map kV)) ∧ kvs.length < sizeLine ∧ H' = upd H a (.dT (putK kvs k v))
section
variable {X : Cx} {pins : List (Addr × Obj)} {σ : St} {H : Hp} {s : Shared} {a : Addr} {y v : V} {u r : Value} {o : Option V} {A : Around} {E : Value → Shared → Prop}

theorem Inv.big (I : Inv X pins σ H s) : sysModules < s.heap.objs.size := by
  have h : mainGlobals < s.heap.objs.size := (I.mod.glob.keeps I.bk).lt
  exact Nat.lt_trans (by decide) h

end

section
variable {X : Cx} {pins : List (Addr × Obj)} {σ : St} {H : Hp} {s : Shared} {a : Addr} {kvs : List (Key × V)} {k : Key} {u : Value} {A : Around} {E : Value → Shared → Prop}
end


/-! ### readings and rules -/
/-- the element of a subscription, not a slice -/
def NoSl (i : Expr) : Prop := ∀ ov iv, subscripted i false ov iv = operate [ov, iv] (getItem ov iv)
/-- d[y] -/
def tDGet (td ty : TE) : TE := fun σ H Q => td σ H fun x H1 => ty σ H1 fun y H2 => ∃ a v, x = .ref a ∧ DGet H2 a y (some v) ∧ Q v H2
/-- y in d, y not in d -/
def tDIn (ty td : TE) : TE := fun σ H Q => ty σ H fun y H1 => td σ H1 fun x H2 => ∃ a o, x = .ref a ∧ DGet H2 a y o ∧ Q (.bl o.isSome) H2
def tDNotIn (ty td : TE) : TE := fun σ H Q => ty σ H fun y H1 => td σ H1 fun x H2 => ∃ a o, x = .ref a ∧ DGet H2 a y o ∧ Q (.bl (!o.isSome)) H2
/-- d[y] = v -/
def sDPut (td ty tv : TE) : TS := fun D σ H => tv σ H fun v H1 => td σ H1 fun x H2 => ty σ H2 fun y H3 => ∃ a H4, x = .ref a ∧ DPut H3 a y v H4 ∧ D.nx σ H4
/-- d[y] op= v -/
def sDAug (td ty tv : TE) (rd : V → V → Hp → VK → Prop) : TS := fun D σ H => td σ H fun x H1 => ty σ H1 fun y H2 => ∃ a v, x = .ref a ∧ DGet H2 a y (some v) ∧
  tv σ H2 fun y2 H3 => rd v y2 H3 fun z H4 => ∃ H5, DPut H4 a y z H5 ∧ D.nx σ H5
/-- del d[y] -/
def sDDel (td ty : TE) : TS := fun D σ H => td σ H fun x H1 => ty σ H1 fun y H2 => ∃ a kvs k, x = .ref a ∧ H2 a = some (.dK kvs) ∧ y = kV k ∧ (valV kvs k).isSome = true ∧ D.nx σ (upd H2 a (.dK (dropK kvs k)))

section
variable {X : Cx} {o i e value : Expr} {pos pos' tpos : Pos} {td ty tv : TE}
end


/-! ### displays -/
theorem dk_empty {P : Program} {w : World} {H : Hp} (h : Heap) (hb : sysModules < h.objs.size) : ObjOk P w H (h.push { cls := .type "dict", data := .dict #[] }) h.objs.size (.dK []) :=
  ⟨Nat.zero_le _, beq_eq_false_iff_ne.mpr (Ne.symm (Nat.ne_of_lt hb)), [], .nil, Heap.DictOf.new h⟩
/-- {}, to be a dict of the kind that is wanted -/
def tDNewK : TE := fun _ H Q => ∀ p, H p = none → Q (.ref p) (upd H p (.dK []))
def tDNewT : TE := fun _ H Q => ∀ p, H p = none → Q (.ref p) (upd H p (.dT []))
section
variable {X : Cx} {pos : Pos}
theorem pe_dnewK : PE X (.Dict [] [] pos) tDNewK := fun pins s σ H Q I h =>
  wpAny_Dict_empty ⟨.ref s.heap.objs.size, _, I.laid (a := s.heap.objs.size) (o := .dK []) (t' := s.toks) (fun _ _ q => Heap.get?_push_of_some _ q) (Nat.le_refl _) (dk_empty s.heap I.big), rfl, h _ (I.hok.fresh (Nat.le_refl _))⟩
end

/-- the pairs of a display, from the left -/
def tPairs : List (TE × TE) → St → Hp → (List (V × V) → Hp → Prop) → Prop
  | [], _, H, Q => Q [] H
  | (tk, tv) :: r, σ, H, Q => tk σ H fun x H1 => tv σ H1 fun y H2 => tPairs r σ H2 fun ps H3 => Q ((x, y) :: ps) H3
abbrev VV : List (V × V) → List (Value × Value) → Prop := Paired fun p q => RelV p.1 q.1 ∧ RelV p.2 q.2
def PPs (X : Cx) (pos : Pos) (keys : List (Option Expr)) (values : List Expr) (trs : List (TE × TE)) : Prop :=
  ∀ (pins : List (Addr × Obj)) (s : Shared) (σ : St) (H : Hp) (Q : List (V × V) → Hp → Prop), Inv X pins σ H s → tPairs trs σ H Q →
    wpAny (model X.prog X.w) X.A (evalPairs (pairTrees keys values X.env pos)) (fun vs s' => ∃ ps H', Inv X pins σ H' s' ∧ VV ps vs ∧ Q ps H') X.xe s
def mergeK (kvs more : List (Key × V)) : List (Key × V) := more.foldl (fun acc kv => putK acc kv.1 kv.2) kvs
/-- {k: v, ..} with keys ints and texts; the new dict stands empty while the pairs are made -/
def tDisp (trs : List (TE × TE)) : TE := fun σ H Q => ∀ p, H p = none → tPairs trs σ (upd H p (.dK [])) fun ps H2 => H2 p = some (.dK []) ∧ ∃ kvs : List (Key × V), ps = kvs.map (fun kv => (kV kv.1, kv.2)) ∧ kvs.length ≤ 15 ∧ Q (.ref p) (upd H2 p (.dK (mergeK [] kvs)))
/-! ### methods -/
/-- a method call o.m(e) of a built-in, with one argument: what must be seen of the text -/
structure M1 (X : Cx) (o : Expr) (m : Str) (apos : Pos) (e : Expr) (cpos : Pos) : Prop where
  base : attributeBase o m X.env (eval o X.env) = eval o X.env
  few : ((backTo cpos (starEach [e] X.env)).all (fun x => !x.1) && (backToKw cpos (keywordEach [] X.env)).all (fun x => x.1.isSome)
    && decide (([e] : List Expr).length + ([] : List Keyword).length + (if ([] : List Keyword).isEmpty then 0 else 1) < 30)) = true
  line : (apos.endLine == cpos.line) = true
  trees : backTo cpos (starEach [e] X.env) = [(false, eval e X.env)]
structure M2 (X : Cx) (o : Expr) (m : Str) (apos : Pos) (e f : Expr) (cpos : Pos) : Prop where
  base : attributeBase o m X.env (eval o X.env) = eval o X.env
  few : ((backTo cpos (starEach [e, f] X.env)).all (fun x => !x.1) && (backToKw cpos (keywordEach [] X.env)).all (fun x => x.1.isSome)
    && decide (([e, f] : List Expr).length + ([] : List Keyword).length + (if ([] : List Keyword).isEmpty then 0 else 1) < 30)) = true
  line : (apos.endLine == cpos.line) = true
  trees : backTo cpos (starEach [e, f] X.env) = [(false, eval e X.env), (false, eval f X.env)]

/-- a is a dict, whatever its keys -/
def IsD (H : Hp) (a : Addr) : Prop := (∃ kvs, Rd H a (.dK kvs)) ∨ ∃ kvs, Rd H a (.dT kvs)
section
variable {X : Cx} {pins : List (Addr × Obj)} {σ : St} {H : Hp} {s : Shared} {a : Addr} {y d : V} {u r : Value} {o : Option V} {A : Around} {E : Value → Shared → Prop}
end

def tDGet1 (td ty : TE) : TE := fun σ H Q => td σ H fun x H1 => ∃ a, x = .ref a ∧ IsD H1 a ∧ ty σ H1 fun y H2 => ∃ o, DGet H2 a y o ∧ Q (o.getD .non) H2
def tDGet2 (td ty tx : TE) : TE := fun σ H Q => td σ H fun x H1 => ∃ a, x = .ref a ∧ IsD H1 a ∧ ty σ H1 fun y H2 => tx σ H2 fun z H3 => ∃ o, DGet H3 a y o ∧ Q (o.getD z) H3
/-- d.pop(k): there; d.pop(k, x): there or not -/
def tDPop1 (td ty : TE) : TE := fun σ H Q => td σ H fun x H1 => ∃ a, x = .ref a ∧ IsD H1 a ∧ ty σ H1 fun y H2 => ∃ kvs k v, H2 a = some (.dK kvs) ∧ y = kV k ∧ valV kvs k = some v ∧ Q v (upd H2 a (.dK (dropK kvs k)))
def tDPop2 (td ty tx : TE) : TE := fun σ H Q => td σ H fun x H1 => ∃ a, x = .ref a ∧ IsD H1 a ∧ ty σ H1 fun y H2 => tx σ H2 fun z H3 => ∃ kvs k, H3 a = some (.dK kvs) ∧ y = kV k ∧
  (∀ v, valV kvs k = some v → Q v (upd H3 a (.dK (dropK kvs k)))) ∧ (valV kvs k = none → Q z H3)
section
variable {X : Cx} {o e f : Expr} {apos cpos : Pos} {td ty tx : TE}
end

/-! ### dict(d): a copy -/
section
variable {X : Cx} {pins : List (Addr × Obj)} {σ : St} {H : Hp} {s : Shared} {a : Addr} {kvs : List (Key × V)} {A : Around} {E : Value → Shared → Prop}
end


section
variable {X : Cx} {pins : List (Addr × Obj)} {σ : St} {H : Hp} {s : Shared} {a : Addr} {y : V} {u : Value} {A : Around} {E : Value → Shared → Prop}
end
end L2

/-! texts over the hand layer -/
namespace L2
open PySem PySem.Spec PyProof.Rows
section
variable {X : Cx}
theorem call_isiD : CallR X (.builtin "isinstance") (fun xs H Q => ∃ p T kvs, xs = [.ref p, .ty T] ∧ T ∈ isiTs ∧ H p = some (.dK kvs) ∧ Q (.bl (isa "dict" T)) H) := by
  intro pins s σ H xs us Q I r h
  obtain ⟨p, T, kvs, rfl, hT, ht, q⟩ := h
  obtain ⟨u, w', rfl, rx, rT⟩ := vals2 r
  cases rT
  cases rx
  have hT' : T = "int" ∨ T = "bool" ∨ T = "str" ∨ T = "list" ∨ T = "tuple" ∨ T = "dict" := by simpa [isiTs] using hT
  have fin : ∀ {k : Bool} {s' : Shared}, isa "dict" T = k → Inv X pins σ H s' → EP X pins σ Q (.bool k) s' := fun {k s'} e I' => by subst e; exact ⟨.bl _, H, I', rfl, q⟩
  obtain ⟨_, _, vs, _, o, es, ep, e, hx, _⟩ := I.hok p _ ht
  have hc : o.cls = .type "dict" := hx.1
  rcases hT' with rfl | rfl | rfl | rfl | rfl | rfl
  · exact IsiPair.dict_int e hc (fin (by decide) (I.tok _))
  · exact IsiPair.dict_bool e hc (fin (by decide) (I.tok _))
  · exact IsiPair.dict_str e hc (fin (by decide) (I.tok _))
  · exact IsiPair.dict_list e hc (fin (by decide) (I.tok _))
  · exact IsiPair.dict_tuple e hc (fin (by decide) (I.tok _))
  · exact IsiPair.dict_dict e hc (fin (by decide) I)

/-! ### for c in a text -/
def Itx (x : Str) : It := ⟨fun i _ => i < x.cps.size, fun i H v H' => H' = H ∧ ∃ c, x.cps[i]? = some c ∧ v = .str ⟨#[c]⟩, fun i _ => x.cps.size ≤ i⟩
def iStr (tl : TE) : TI := fun σ H R => tl σ H fun v H1 => ∃ x, v = .str x ∧ R (Itx x) H1
/-! ### texts compared -/
/-- int, None beside each other -/
def intOrN : V → Bool
  | .non => true
  | .int _ => true
  | _ => false
/-! ### a part of a text: some text, not longer -/
/-! ### join, split, index, int(text) -/
/-- split by a sign that stands in the text -/
def splitL (x y : Str) : List Str := Builtin.Str.partsBetween x (Builtin.Str.occurrences x y 0 x.length (x.length + 1)) y.length
end
end L2
namespace L2
open PySem PySem.Spec PyProof.Rows
end L2
namespace L2
open PySem
theorem se_const {c k p} {es : List Expr} {env : Env} : starEach (.Constant c k p :: es) env = (false, eval (.Constant c k p) env) :: starEach es env := rfl
end L2
/-! the judgements as structures: where an app's type would be evaluated too far (a display of many things) -/
namespace L2
open PySem PySem.Spec PyProof.Rows
structure PEx (X : Cx) (e : Expr) (t : TE) : Prop where
  h : PE X e t
structure PAx (X : Cx) (es : List Expr) (t : TA) : Prop where
  h : PA X es t
structure PStx (X : Cx) (st : Stmt) (t : TS) : Prop where
  h : PS X st t
structure PSx (X : Cx) (sts : List Stmt) (t : TS) : Prop where
  h : PSs X sts t
section
variable {X : Cx} {e : Expr} {es : List Expr} {te : TE} {t : TA} {st : Stmt} {rest : List Stmt} {ts us : TS}
end
end L2

/-! long division, list + list of what is read alone, == and != of data -/
namespace L2
open PySem PySem.Spec PyProof.Rows
/-- // by a positive divisor of some size -/
def CDivL (i j : Int) : Prop := 0 < j ∧ j < 2 ^ 128
theorem log2_small {n : Nat} (h : n < 2 ^ 128) : n.log2 < 9000 := by
  by_cases h0 : n = 0
  · subst h0; decide
  · have := (Nat.log2_lt h0).mpr h
    omega
section
variable {X : Cx}
theorem op_fdivL : OpR X (binaryOp .FloorDiv) (rI CDivL fun i j => .int (i / j)) := opI fun i j _ _ _ _ _ hc q => by
  have hj : 0 ≤ j := Int.le_of_lt hc.1
  have e : i.fdiv j = i / j := Int.fdiv_eq_ediv_of_nonneg _ hj
  refine floordiv_int (Int.ne_of_gt hc.1) (by rw [e]; exact q) (.inl (PyProof.noPylong_of_log2 (log2_small ?_)))
  obtain ⟨n, rfl⟩ := Int.eq_ofNat_of_zero_le hj
  have h2 := hc.2
  simp only [Int.natAbs_natCast]
  exact_mod_cast h2
/-- list + list, both read alone -/
def rCatS (K : PySem.W.Frag) : R2 := fun x y H Q => ∃ l b xs zs, x = .ref l ∧ y = .ref b ∧ SqL K H l xs ∧ SqL K H b zs ∧ xs.length + zs.length ≤ sizeLine ∧ ∀ p, H p = none → Q (.ref p) (upd H p (.lst (xs ++ zs)))
theorem list_add_any (l : Addr) (items : Array Value) (n : Nat) (b : Addr) (items2 : Array Value) (n2 : Nat) (sl sl2 : Array (Option Value)) (hc0 : items.size + items2.size ≤ sizeLine) :
    Meets (Builtin.«list.__add__» ⟨[.ref l, .ref b], []⟩) (fun _ R s => s.heap.get? l = some { cls := .type "list", dict := none, data := .seq items n, slots := sl } ∧ s.heap.get? b = some { cls := .type "list", dict := none, data := .seq items2 n2, slots := sl2 } ∧ R (.ok (.ret (Value.ref s.heap.objs.size))) { s with heap := s.heap.push { cls := Value.type "list", data := Data.seq (items ++ items2) }, toks := s.toks }) :=
  .of_wp fun prog w A R s h => by obtain ⟨hp, g, d, tk, os⟩ := s; obtain ⟨hl, hb, h⟩ := h; have f1 := AutoSeq1.idx_int; have f2 := AutoSeq1.sub_tuple_tuple; have f3 := AutoSeq1.sub_list_list; have f4 := AutoSeq1.sub_tuple_list; have f5 := AutoSeq1.sub_list_tuple; wp_walk using AutoSeq1.wpAny_loadPart' hl, AutoSeq1.wpAny_loadPart' hb; exact ⟨_, rfl, h⟩
theorem op_catS : OpR X (binaryOp .Add) (rCatS X.K) := by
  intro pins s σ H x y v u Q I rx ry h
  obtain ⟨l, b, xs, zs, rfl, rfl, hH, hB, hz, q⟩ := h
  cases rx
  cases ry
  obtain ⟨its, r, ⟨o, n, e, hc, hdn, hd⟩, _⟩ := I.list hH
  obtain ⟨its2, r2, ⟨o2, n2, e2, hc2, hdn2, hd2⟩, _⟩ := I.list hB
  obtain ⟨c, d, dt, sl⟩ := o
  obtain ⟨c2, d2, dt2, sl2⟩ := o2
  cases hc; cases hdn; cases hd
  cases hc2; cases hdn2; cases hd2
  have l1 := r.length
  have l2 := r2.length
  refine concat_meets ⟨_, e, rfl⟩ ⟨_, e2, rfl⟩ PySem.noFill_list_add PySem.seq_list_add F.slot_list_add F.entry_list_add (F.args_list_add_2 _ _) (list_add_any l its.toArray n b its2.toArray n2 sl sl2 (by rw [List.size_toArray, List.size_toArray]; omega)) ⟨e, e2, ?_⟩
  have ea : its.toArray ++ its2.toArray = (its ++ its2).toArray := by simp
  rw [ea]
  exact ⟨.ref _, _, I.lnew (t' := s.toks) (r.append r2) (by rw [List.length_append]; omega), rfl, q _ I.fresh⟩

/-! ### data -/
mutual
inductive Dat (K : PySem.W.Frag) (H : Hp) : V → PyData → Prop
  | non : Dat K H .non .none
  | bl (b : Bool) : Dat K H (.bl b) (.bool b)
  | int (i : Int) : Dat K H (.int i) (.int i)
  | str (x : Str) : Dat K H (.str x) (.str x)
  | lst {a : Addr} {xs : List V} {ds : List PyData} : SqL K H a xs → DatAll K H xs ds → Dat K H (.ref a) (.list ds)
  | tup {a : Addr} {xs : List V} {ds : List PyData} : SqT K H a xs → DatAll K H xs ds → Dat K H (.ref a) (.tuple ds)
inductive DatAll (K : PySem.W.Frag) (H : Hp) : List V → List PyData → Prop
  | nil : DatAll K H [] []
  | cons {x : V} {xs : List V} {d : PyData} {ds : List PyData} : Dat K H x d → DatAll K H xs ds → DatAll K H (x :: xs) (d :: ds)
end
mutual
theorem Inv.reads {pins : List (Addr × Obj)} {σ : St} {H : Hp} {s : Shared} (I : Inv X pins σ H s) : ∀ {x : V} {d : PyData} {u : Value}, Dat X.K H x d → RelV x u → ∃ as, Reads s.heap u d as
  | _, _, _, .non, r => by cases r; exact ⟨_, .none⟩
  | _, _, _, .bl b, r => by cases r; exact ⟨_, .bool b⟩
  | _, _, _, .int i, r => by obtain ⟨t, rfl⟩ := r; exact ⟨_, .int i t⟩
  | _, _, _, .str x, r => by obtain ⟨t, rfl⟩ := r; exact ⟨_, .str x t⟩
  | _, _, _, .lst h ds, r => by
    cases r
    obtain ⟨its, rv, ⟨o, n, e, hc, _, hd⟩, _⟩ := I.list h
    obtain ⟨as, ra⟩ := Inv.readsAll I ds rv
    exact ⟨_, .list e hc hd ra⟩
  | _, _, _, .tup h ds, r => by
    cases r
    obtain ⟨its, rv, ⟨o, e, hc, n, hd⟩, _⟩ := I.tuple h
    obtain ⟨as, ra⟩ := Inv.readsAll I ds rv
    exact ⟨_, .tuple e hc hd ra⟩
theorem Inv.readsAll {pins : List (Addr × Obj)} {σ : St} {H : Hp} {s : Shared} (I : Inv X pins σ H s) : ∀ {xs : List V} {ds : List PyData} {us : List Value}, DatAll X.K H xs ds → Vals xs us → ∃ as, ReadsAll s.heap us ds as
  | _, _, _, .nil, r => by cases r; exact ⟨_, .nil⟩
  | _, _, _, .cons h t, r => by
    cases r with
    | cons r1 r2 =>
      obtain ⟨a1, e1⟩ := Inv.reads I h r1
      obtain ⟨a2, e2⟩ := Inv.readsAll I t r2
      exact ⟨_, .cons e1 e2⟩
end
def rEqD (K : PySem.W.Frag) (neg : Bool) : R2 := fun x y H Q => ∃ d d' : PyData, Dat K H x d ∧ Dat K H y d' ∧ SeqAt.shaped d = true ∧ SeqAt.shaped d' = true ∧ Q (.bl (xor neg (PyData.eqv d d'))) H
theorem op_eqD (hu : X.A.units + 64 < cLine) : OpR X (compareOp .Eq) (rEqD X.K false) := by
  intro pins s σ H x y v u Q I rx ry h
  obtain ⟨d, d', hx, hy, s1, s2, q⟩ := h
  obtain ⟨as, ra⟩ := I.reads hx rx
  obtain ⟨bs, rb⟩ := I.reads hy ry
  exact eq_dataH ra rb s1 s2 hu ⟨.bl _, H, I, rfl, by simpa using q⟩
theorem op_neD (hu : X.A.units + 64 < cLine) : OpR X (compareOp .NotEq) (rEqD X.K true) := by
  intro pins s σ H x y v u Q I rx ry h
  obtain ⟨d, d', hx, hy, s1, s2, q⟩ := h
  obtain ⟨as, ra⟩ := I.reads hx rx
  obtain ⟨bs, rb⟩ := I.reads hy ry
  exact ne_dataH ra rb s1 s2 hu ⟨.bl _, H, I, rfl, by simpa using q⟩
end
mutual
theorem Dat.same {K : PySem.W.Frag} {H H' : Hp} (g : Same H H') : ∀ {x : V} {d : PyData}, Dat K H x d → Dat K H' x d
  | _, _, .non => .non
  | _, _, .bl b => .bl b
  | _, _, .int i => .int i
  | _, _, .str x => .str x
  | _, _, .lst h t => .lst (g.seq h) (DatAll.same g t)
  | _, _, .tup h t => .tup (by
      rcases h with (h | ⟨o, h⟩) | h
      · exact .inl (.inl (g _ _ h))
      · exact .inl (.inr ⟨o, g _ _ h⟩)
      · exact .inr h) (DatAll.same g t)
theorem DatAll.same {K : PySem.W.Frag} {H H' : Hp} (g : Same H H') : ∀ {xs : List V} {ds : List PyData}, DatAll K H xs ds → DatAll K H' xs ds
  | _, _, .nil => .nil
  | _, _, .cons h t => .cons (Dat.same g h) (DatAll.same g t)
end
end L2

/-! sum of a list of ints, << of long ints, range falling by one, a slice given -/
namespace L2
open PySem PySem.Spec PyProof.Rows
section
variable {X : Cx}
/-- << of an int of some size -/
def CShl (i j : Int) : Prop := 0 ≤ j ∧ j ≤ 1000000 ∧ i.natAbs < 2 ^ 4000
/-- lo, lo + st, .. (n of them) -/
def Itrs (lo st : Int) (n : Nat) : It := ⟨fun i _ => i < n, fun i H x H' => H' = H ∧ x = .int (lo + i * st), fun i _ => n ≤ i⟩
def iRngD (ta : TA) : TI := fun σ H R => ta σ H fun vs H1 => ∃ i j : Int, vs = [.int i, .int j, .int (-1)] ∧ (-(2 ^ 62) ≤ i ∧ i < 2 ^ 62 ∧ -(2 ^ 62) ≤ j ∧ j < 2 ^ 62) ∧ R (Itrs i (-1) (i - j).toNat) H1
/-- o[lo:hi] = a list -/
def gSlc (to : TE) (tl th : TO) : TG := fun v σ H Q => to σ H fun o H1 => tl σ H1 fun l H2 => th σ H2 fun u H3 => ∃ (p b : Addr) (xs ys : List V) (a c : Int), o = .ref p ∧ v = .ref b ∧ H3 p = some (.lst xs) ∧ H3 b = some (.lst ys) ∧ p ≠ b ∧ l = some a ∧ u = some c ∧
  0 ≤ a ∧ a ≤ c ∧ c ≤ xs.length ∧ xs.length + ys.length ≤ sizeLine ∧ Q σ (upd H3 p (.lst (xs.take a.toNat ++ ys ++ xs.drop c.toNat)))
end
end L2

/-! name = [.. for ..] : the value is stored ahead of the block's end -/
namespace L2
open PySem PySem.Spec PyProof.Rows
section
variable {X : Cx} {elt tg iter : Expr} {ifs : List Expr} {scope : Scope} {cl : List (Str × Addr)} {ts ys : List Str} {js : List Nat} {pos : Pos} {wi : TI} {g : TG} {tc : TT} {te : TE}
end
end L2

/-! list.insert(0, x), list.remove(n) of ints; a comprehension whose target is a tuple of names -/
namespace L2
open PySem PySem.Spec PyProof.Rows
section
variable {X : Cx}
def rInsert0 : V → List V → Hp → VK → Prop := fun x vs H Q => ∃ l xs y, x = .ref l ∧ vs = [.int 0, y] ∧ H l = some (.lst xs) ∧ xs.length < sizeLine ∧ Q .non (upd H l (.lst (y :: xs)))
theorem mt_insert0 : MtM X "list.insert" rInsert0 := by
  intro pins s σ H x vs v us Q I rx rv h
  obtain ⟨l, xs, y, rfl, rfl, hH, hz, q⟩ := h
  cases rx
  obtain ⟨u0, u, rfl, ⟨t0, rfl⟩, ru⟩ := rv.two
  obtain ⟨z, its, n, r, hl, e⟩ := I.lstM hH
  refine call_meets F.slot_list_insert ⟨_, e, rfl⟩ F.entry_list_insert (F.args_list_insert_3 _ _ _) (PySem.AutoSeq1.list_insert_list_int_val_1 l its.toArray n 0 t0 u (by decide) (by rw [List.size_toArray]; omega)) ⟨e, ?_⟩
  refine ⟨.non, _, I.lset (its' := u :: its) hH e ?_ (.cons ru r) ?_, rfl, q⟩
  · show (its.toArray.extract 0 (if (0 : Int) < 0 then ((0 : Int) + (its.toArray.size : Int)).toNat else min (0 : Int).toNat its.toArray.size)).push u ++ its.toArray.extract (if (0 : Int) < 0 then ((0 : Int) + (its.toArray.size : Int)).toNat else min (0 : Int).toNat its.toArray.size) = (u :: its).toArray
    rw [if_neg (by decide), show min (0 : Int).toNat its.toArray.size = 0 by simp]
    apply Array.toList_inj.mp
    simp
  · rw [List.length_cons]; omega
def rRemoveI : V → List V → Hp → VK → Prop := fun x vs H Q => ∃ (l : Addr) (ns : List Int) (k : Int), x = .ref l ∧ vs = [.int k] ∧ H l = some (.lst (ns.map V.int)) ∧ k ∈ ns ∧ Q .non (upd H l (.lst ((ns.erase k).map V.int)))
theorem vals_kf : ∀ {ns : List Int} {us : List Value}, Vals (ns.map V.int) us → PySem.W.kf_ints us = true
  | [], us, r => by cases r; rfl
  | n :: ns, us, r => by
    cases r with
    | cons r1 r2 =>
      obtain ⟨t, rfl⟩ := r1
      have h := vals_kf (ns := ns) r2
      unfold PySem.W.kf_ints
      exact h
theorem vals_at {k : Int} : ∀ {ns : List Int} {us : List Value}, Vals (ns.map V.int) us → k ∈ ns → ∃ j, PySem.W.kf_at k us = some j ∧ Vals ((ns.erase k).map V.int) (us.eraseIdx j)
  | n :: ns, us, r, h => by
    cases r with
    | cons r1 r2 =>
      obtain ⟨t, rfl⟩ := r1
      by_cases e : n = k
      · subst e
        refine ⟨0, ?_, ?_⟩
        · show cond (PyProof.Rows.isInt n (.int n t)) _ _ = _
          rw [show PyProof.Rows.isInt n (.int n t) = true by simp [PyProof.Rows.isInt]]; rfl
        · rw [List.erase_cons_head]; exact r2
      · have h' : k ∈ ns := by
          rcases List.mem_cons.mp h with z | z
          · exact absurd z.symm e
          · exact z
        obtain ⟨j, e1, e2⟩ := vals_at (ns := ns) r2 h'
        refine ⟨j + 1, ?_, ?_⟩
        · show cond (PyProof.Rows.isInt k (.int n t)) _ _ = _
          rw [show PyProof.Rows.isInt k (.int n t) = false by simp [PyProof.Rows.isInt, e]]
          show (match PySem.W.kf_at k _ with | some j => some (j + 1) | none => none) = _
          rw [e1]
        · rw [List.erase_cons_tail (by simpa using e)]
          exact .cons ⟨t, rfl⟩ e2
theorem mt_removeI : MtM X "list.remove" rRemoveI := by
  intro pins s σ H x vs v us Q I rx rv h
  obtain ⟨l, ns, k, rfl, rfl, hH, hk, q⟩ := h
  cases rx
  obtain ⟨u, rfl, ru⟩ := rv.one
  obtain ⟨t, rfl⟩ := ru
  obtain ⟨z, its, n, r, hl, e⟩ := I.lstM hH
  have hi := vals_kf r
  obtain ⟨j, ej, rj⟩ := vals_at r hk
  obtain ⟨a, b, c⟩ := PySem.W.kf_at_spec ej
  refine call_meets F.slot_list_remove ⟨_, e, rfl⟩ F.entry_list_remove (F.args_list_remove_2 _ _)
    (MeetsSeq.list_remove l its.toArray n (.int k t) (PyProof.Rows.isInt k) (fun y hy => PySem.W.kf_eq hi y (by simpa using hy)) j (by rw [List.size_toArray]; exact a) (by simpa using b) (fun i hi' hlt => by simpa using c i (by simpa using hi') hlt) (by rw [List.size_toArray]; omega)) ⟨e, ?_⟩
  refine ⟨.non, _, I.lset (its' := its.eraseIdx j) hH e ?_ rj ?_, rfl, q⟩
  · show its.toArray.eraseIdxIfInBounds j = (its.eraseIdx j).toArray
    rw [List.eraseIdxIfInBounds_toArray]
  · rw [List.length_map] at z ⊢
    have := List.length_erase_le (a := k) (l := ns)
    omega
theorem flat_nums : ∀ ns : List Int, (ns.map V.int).all flatV = true
  | [] => rfl
  | n :: ns => by rw [List.map_cons, List.all_cons, flat_nums ns]; rfl
theorem inV_nums (x : Int) : ∀ ns : List Int, inV (.int x) (ns.map V.int) = decide (x ∈ ns)
  | [] => rfl
  | n :: ns => by
    show (eqV (.int n) (.int x) || inV (.int x) (ns.map V.int)) = _
    rw [inV_nums x ns, Bool.eq_iff_iff]
    simp only [eqV, Bool.or_eq_true, beq_iff_eq, decide_eq_true_eq, List.mem_cons]
    exact ⟨fun h => h.imp Eq.symm id, fun h => h.imp Eq.symm id⟩
def rInI (K : PySem.W.Frag) : R2 := fun x y H Q => ∃ (p : Addr) (n : Int) (ns : List Int), x = .int n ∧ y = .ref p ∧ SqL K H p (ns.map V.int) ∧ Q (.bl (decide (n ∈ ns))) H
def rNotInI (K : PySem.W.Frag) : R2 := fun x y H Q => ∃ (p : Addr) (n : Int) (ns : List Int), x = .int n ∧ y = .ref p ∧ SqL K H p (ns.map V.int) ∧ Q (.bl (decide (n ∉ ns))) H
theorem op_notInI : OpR X (compareOp .NotIn) (rNotInI X.K) := by
  intro pins s σ H x y v u Q I rx ry h
  obtain ⟨p, n, ns, rfl, rfl, hS, q⟩ := h
  refine op_notIn_seq pins s σ H _ _ v u Q I rx ry ⟨p, _, rfl, .inl hS, rfl, flat_nums ns, ?_⟩
  rw [if_pos rfl, inV_nums, ← decide_not]
  exact q
theorem op_catTK {K : PySem.W.Frag} (hK : X.K = K) : OpR X (binaryOp .Add) (rCatT K) := hK ▸ op_catT
theorem pg_tupK {K : PySem.W.Frag} {es : List Expr} {k : Nat} {t : TGs} {n : Nat} {pos : Pos} (hK : X.K = K) (hc : X.calm = true) (h : PGs X es t)
    (hn : (assignEach es X.env).length = n := by rfl) (hst : (assignEach es X.env).findIdx? (·.1) = none := by rfl) : PG X (.Tuple es k pos) (gTup K n t) := hK ▸ pg_tup hc h hn hst
end
/-- a comprehension over a list with any target: the names' cells are the first k -/
def CompM (P : Nat → List V → Hp → Prop) (i k : Nat) (js : List Nat) (σ : St) : St → List V → Hp → Prop := fun σ' ys H => P (i + 1) ys H ∧ ∃ os : St, os.length = k ∧ σ' = os ++ capV js σ
/-- all but the list at l is as it was -/
def But (l : Addr) (H H' : Hp) : Prop := ∀ b o, b ≠ l → H b = some o → H' b = some o
theorem But.trans {l : Addr} {H H1 H2 : Hp} (a : But l H H1) (b : But l H1 H2) : But l H H2 := fun x o n q => b x o n (a x o n q)
theorem But.refl {l : Addr} {H : Hp} : But l H H := fun _ _ _ q => q
theorem But.of {l : Addr} {H H' : Hp} (g : Same H H') : But l H H' := fun x o _ q => g x o q
theorem But.upd {l : Addr} {H : Hp} {o : HO} : But l H (upd H l o) := fun x u n q => by rw [upd_ne n]; exact q
theorem But.tup {K : PySem.W.Frag} {l : Addr} {H H' : Hp} {zs : List V} (e : But l H H') (hl : H l = some (.lst zs)) {a : Addr} {xs : List V} (h : SqT K H a xs) : SqT K H' a xs := by
  rcases h with (h | ⟨o, h⟩) | h
  · exact .inl (.inl (e _ _ (ne_of h hl (by intro z; cases z)) h))
  · exact .inl (.inr ⟨o, e _ _ (ne_of h hl (by intro z; cases z)) h⟩)
  · exact .inr h
end L2

/-! an exception of one's own on its way through the frames -/
namespace L2
open PySem
/-- the record of the exception at e: its class, its dict, its newest entry T of the way (e itself where there is none), and where that entry flies -/
def Xc (h : Heap) (e C : Addr) (dx : Option Addr) (T : Addr) (fl : Option Value) : Prop :=
  ∃ oe vs, h.get? e = some oe ∧ oe.cls = .ref C ∧ oe.dict = dx ∧ oe.data = .fields vs ∧ 1 < vs.size ∧
    ((fl = none ∧ T = e ∧ vs[1]? = some .none) ∨ ∃ oT ts v, fl = some v ∧ T ≠ e ∧ vs[1]? = some (.ref T) ∧ h.get? T = some oT ∧ oT.data = .fields ts ∧ ts[3]? = some v)
/-- all but e and T is as it was, the frames at S up to their slots -/
def Mv (S : List Addr) (e T : Addr) (h h' : Heap) : Prop :=
  ∀ b o, h.get? b = some o → b ≠ e → b ≠ T → (b ∉ S → h'.get? b = some o) ∧ ∃ sl, h'.get? b = some { o with slots := sl }
section
variable {M : Model} {A : Around} {E : Value → Shared → Prop} {s : Shared} {base : Heap} {env : Env} {outer : List Env} {L e C : Addr} {dx : Option Addr} {T : Addr} {fl : Option Value} {Q : Unit → Shared → Prop}
end
end L2

/-! an exception of one's own class is made: __new__ is ValueError's, __init__ its own -/
namespace L2
open PySem
/-- what the tail of the class's line must have -/
structure XTail (bm : List Value) : Prop where
  v : bm.contains (.type "ValueError") = true
  b : bm.contains (.type "BaseException") = true
  a : bm.contains (.type "AttributeError") = false
  n : bm.contains (.type "NameError") = false
section
variable {prog : Program} {w : World} {M : Model} {A : Around} {E : Value → Shared → Prop} {h : Heap} {g : Array GenState} {d : Drawn} {t : Nat} {os : OsState}
  {nm qn : Str} {C N : Addr} {bs bm : List Value} {hdct : Bool} {sn : List Str} {sub : List Value} {ab : Bool} {col : Option Bool} {dd : Option Addr} {k0 k1 k2 k3 k5 : Option Value}
abbrev xcls (nm qn : Str) (C N : Addr) (bs bm : List Value) (hdct : Bool) (sn : List Str) (sub : List Value) (ab : Bool) (col : Option Bool) (dd : Option Addr) (k0 k1 k2 k3 k5 : Option Value) : Obj :=
  excClassObj nm qn C N bs bm hdct sn sub ab col dd k0 k1 k2 k3 k5 "ValueError.__new__"
end
end L2

/-! attributes of exceptions of one's own: stored by their __init__, read in a handler -/
namespace L2
open PySem PyProof.Rows
abbrev VB : List Value := [.type "ValueError", .type "Exception", .type "BaseException", .type "object"]
/-- an exception class of the text: its base R is a class of the text under ValueError; fI its own __init__ -/
structure ExCl (K : PySem.W.Frag) (C R fI : Addr) : Prop where
  obj : ∃ (nm qn : Str) (N : Addr) (bs : List Value) (sn : List Str) (sub : List Value) (ab : Bool) (col : Option Bool) (dd : Option Addr) (k0 k1 k2 k3 k5 : Option Value),
    K.lookup C = some (xcls nm qn C N bs (.ref R :: VB) true sn sub ab col dd k0 k1 k2 k3 k5) ∧ PySem.W.nsOkIn K N = true ∧ PySem.W.nsIn K N "__init__" = some (some (.ref fI))
  fn : PySem.W.isFn K (.ref fI) = true
  kp : PySem.W.keepIn K (.ref C) = true
  sa : PySem.W.findIn K (.ref C) "__setattr__" = some (some (.builtin "object.__setattr__"))
  ga : PySem.W.findIn K (.ref C) "__getattribute__" = some (some (.builtin "BaseException.__getattribute__"))
  gh : PySem.W.findIn K (.ref C) "__getattr__" = some none
section
variable {prog : Program} {w : World} {A : Around} {E : Value → Shared → Prop} {s : Shared} {K : PySem.W.Frag} {e C R fI : Addr} {oe : Obj} {vs : Array Value} {name : Str} {v : Value}
end
end L2

namespace L2
open PySem PyProof.Rows
section
variable {prog : Program} {w : World} {A : Around} {E : Value → Shared → Prop} {s : Shared} {K : PySem.W.Frag} {e C R fI : Addr} {oe : Obj} {vs : Array Value} {name : Str} {v : Value}
end
end L2

/-! exceptions of one's own over the hand layer: the abstract heap bears them, they leave defs, they are raised -/
namespace L2
open PySem PySem.Spec PyProof.Rows
/-- an exception that was made and has not flown -/
def Ex0 (e C : Addr) (dx : Option Addr) : HO := .ext fun h => ∃ oe vs, h.get? e = some oe ∧ oe.cls = .ref C ∧ oe.dict = dx ∧ oe.data = .fields vs ∧ 1 < vs.size ∧ vs[1]? = some .none
/-- one that flies, or has flown -/
def ExF (e C : Addr) (dx : Option Addr) : HO := .ext fun h => ∃ oe vs, h.get? e = some oe ∧ oe.cls = .ref C ∧ oe.dict = dx ∧ oe.data = .fields vs
structure Fly (X : Cx) (pins : List (Addr × Obj)) (σ : St) (H : Hp) (s : Shared) (e C : Addr) (dx : Option Addr) (T : Addr) (fl : Option Value) : Prop where
  inv : Inv X pins σ H s
  at_ : H e = some (ExF e C dx)
  xc : Xc s.heap e C dx T fl
  ye : X.s₀.heap.objs.size ≤ e
  fp : T = e ∨ FpOk X pins H T
section
variable {X : Cx} {pins : List (Addr × Obj)} {σ : St} {H H' : Hp} {s s' : Shared} {e C : Addr} {dx : Option Addr} {T : Addr} {fl : Option Value}
/-- how an exception lies behind a call -/
def CXE (P : Program) (w : World) : CXT := fun outer H s E ev s' => ∃ (e C : Addr) (dx : Option Addr) (T : Addr) (H' : Hp), ev = .ref e ∧ s'.os = s.os ∧ AllBare s'.gens ∧ Un (frs outer) [] H H' s.heap s'.heap ∧ HOk P w H' s'.heap ∧
  H' e = some (ExF e C dx) ∧ Xc s'.heap e C dx T (some .none) ∧ s.heap.objs.size ≤ e ∧ s.heap.objs.size ≤ T ∧ H' T = none ∧ E ev none H'
end
/-! ### an exception leaves a def -/
section
variable {P : Program} {w : World} {K : PySem.W.Frag} {mg : Str → Option Value} {base : Heap} {N : List Str} {qual : Str} {scope : Scope} {f : Addr} {cd : Value} {A : Around} {outer : List Env} {s₀ : Shared} {H₀ : Hp} {E E' : XK}
/-- what is wanted of an exception that is raised here -/
def Raises (X : Cx) (S : St → Prop) (E : XK) : Prop := ∀ (pins : List (Addr × Obj)) (σ : St) (H : Hp) (s : Shared) (e C : Addr) (dx : Option Addr), S σ → Inv X pins σ H s → H e = some (Ex0 e C dx) → X.s₀.heap.objs.size ≤ e → E (.ref e) none (upd H e (ExF e C dx)) → X.xe (.ref e) s
end
end L2

/-! try with an exception of one's own: body, handler, the name unbound -/
namespace L2
open PySem PySem.Spec PyProof.Rows
/-! ### the same state in another context -/
section
variable {X : Cx} {pins : List (Addr × Obj)} {σ : St} {H : Hp} {s : Shared}
/-- the wish within a try: the exception flies, the names are as S tells -/
def XT (X : Cx) (pn : List (Addr × Obj)) (S : St → Prop) (W : XK) : Value → Shared → Prop := fun ev s => ∃ (e C : Addr) (dx : Option Addr) (T : Addr) (fl : Option Value) (σ : St) (H : Hp),
  ev = .ref e ∧ Fly { X with pn := pn, xe := fun _ _ => False } [] σ H s e C dx T fl ∧ (fl = none ∨ fl = some .none) ∧ S σ ∧ W ev none H
/-- the context of a try's body -/
abbrev XB (X : Cx) (pn : List (Addr × Obj)) (S : St → Prop) (W : XK) : Cx := { X with pn := pn, xe := XT X pn S W }
/-- .. an exception of a callee, where the names are as S tells -/
def PassesS (CX : CXT) (X : Cx) (S : St → Prop) (E : XK) : Prop := ∀ (pins : List (Addr × Obj)) (σ : St) (H : Hp) (s : Shared) (e : Value) (s' : Shared), S σ → Inv X pins σ H s → CX X.stack H s E e s' → X.xe e s'
end
/-! ### calls within a try -/
section
variable {X : Cx} {CX : CXT} {k : Nat} {f C : Addr} {fd : FuncData} {ps : List Str} {sp : Sp} {dvs : List V} {ds : List Value} {E : XK} {S : St → Prop} {x m : Str} {p pos apos : Pos} {e o : Expr} {es : List Expr} {ta : TE} {t : TA}
def tCallS (S : St → Prop) (sp : Sp) (dvs : List V) (E : XK) (t : TA) : TE := fun σ H Q => t σ H fun vs H1 => S σ ∧ sp (vs ++ dvs) H1 Q E
def tMethS (S : St → Prop) (C : Addr) (m : Str) (sp : Sp) (dvs : List V) (E : XK) (ta : TE) (t : TA) : TE := fun σ H Q => ta σ H fun x H1 => ∃ a dx fs, x = .ref a ∧ H1 a = some (.ins C dx fs) ∧ fs.lookup m = none ∧
  t σ H1 fun vs H2 => S σ ∧ sp (x :: (vs ++ dvs)) H2 Q E
end
/-! ### the handler -/
/-- an exception class of the text, and its line behind it -/
structure XCls (K : PySem.W.Frag) (C : Addr) (bm : List Value) : Prop where
  obj : ∃ (nm q : Str) (N : Addr) (bs : List Value) (hd : Bool) (sn : List Str) (sub : List Value) (ab : Bool) (col : Option Bool) (dd : Option Addr) (k0 k1 k2 k3 k5 : Option Value) (ni : String), K.lookup C = some (excClassObj nm q C N bs bm hd sn sub ab col dd k0 k1 k2 k3 k5 ni)
  b : bm.contains (.type "BaseException") = true
/-- the context of a handler's suite -/
abbrev XH (X : Cx) (e : Addr) : Cx := { X with A := X.A.mark (some (.ref e)), calm := false, xe := fun _ _ => False }
section
variable {X : Cx} {pins : List (Addr × Obj)} {σ : St} {H : Hp} {s : Shared}
/-- the except clause is reached with an exception that flies -/
def tTry (tb : (St → Prop) → XK → TS) (K : PySem.W.Frag) (Cn : Addr) (i : Nat) (ts : TS) : TS := fun D σ H => ∃ (S : St → Prop) (W : XK), tb S W D σ H ∧
  ∀ (σ' : St) (e : Addr) (H' : Hp), S σ' → W (.ref e) none H' → ∃ C dx bm, H' e = some (ExF e C dx) ∧ XCls K C bm ∧ (Value.ref C :: bm).contains (.ref Cn) = true ∧
    ts { nx := fun σ2 H2 => D.nx (σ2.set i none) H2, rt := D.rt, bk := fun σ2 H2 => D.bk (σ2.set i none) H2, ct := fun σ2 H2 => D.ct (σ2.set i none) H2 } (σ'.set i (some (.ref e))) H'
end
end L2

/-! exceptions of one's own: made, their attributes, raised -/
namespace L2
open PySem PySem.Spec PyProof.Rows
/-- the dict of an exception -/
def XD (dx : Addr) (fs : List (Str × V)) : HO := .ext fun h => ∃ mA, h.Ns1 dx mA ∧ (∀ f, RelO (fs.lookup f) (mA f)) ∧ PySem.Within mA (fs.map (·.1))
section
variable {X : Cx} {pins : List (Addr × Obj)} {σ : St} {H : Hp} {s : Shared} {e C R fI dx : Addr}
/-- self.f = value, in the __init__ of an exception -/
def sXfld (K : PySem.W.Frag) (ta tv : TE) (f : Str) : TS := fun D σ H => tv σ H fun y H1 => ta σ H1 fun x H2 => ∃ e C R fI, x = .ref e ∧ ExCl K C R fI ∧ PySem.W.findIn K (.ref C) f = some none ∧
  ((H2 e = some (Ex0 e C none) ∧ ∀ dx, H2 dx = none → D.nx σ (upd (upd H2 dx (XD dx [(f, y)])) e (Ex0 e C (some dx)))) ∨
   ∃ dx fs, H2 e = some (Ex0 e C (some dx)) ∧ H2 dx = some (XD dx fs) ∧ fs.length < 1000 ∧ D.nx σ (upd H2 dx (XD dx (putF f y fs))))
/-- e.f of an exception -/
def tXfld (K : PySem.W.Frag) (ta : TE) (f : Str) : TE := fun σ H Q => ta σ H fun x H1 => ∃ e C R fI dx fs v, x = .ref e ∧ (H1 e = some (ExF e C (some dx)) ∨ H1 e = some (Ex0 e C (some dx))) ∧ H1 dx = some (XD dx fs) ∧ ExCl K C R fI ∧ PySem.W.findIn K (.ref C) f = some none ∧ fs.lookup f = some v ∧ Q v H1
end
/-! ### the __init__ of the classes above -/
structure CInit (K : PySem.W.Frag) (B f : Addr) : Prop where
  r : PySem.W.readsIn K B (.type "type") = true
  fd : PySem.W.findCls K (.ref B) (.type "type") "__init__" = some (.val (.ref f))
  g : PySem.W.specialIn K (.ref B) "__getattribute__" = some (some (.builtin "type.__getattribute__"))
  k : PySem.W.keepIn K (.ref f) = true
structure VInit (K : PySem.W.Frag) : Prop where
  ga : PySem.W.findIn K (.type "type") "__getattribute__" = some (some (.builtin "type.__getattribute__"))
  sub : PySem.W.subIn K (.type "type") (.type "type") = some true
  f : PySem.W.findCls K (.type "ValueError") (.type "type") "__init__" = some (.val (.builtin "ValueError.__init__"))
section
variable {X : Cx} {CX : CXT} {k : Nat} {f B C R : Addr} {fd : FuncData} {ps : List Str} {sp : Sp} {dvs : List V} {ds : List Value} {E : XK} {x : Str} {p pos apos : Pos} {e o : Expr} {es : List Expr} {t : TA}
/-- ValueError.__init__(self, words) -/
def tVinit (K : PySem.W.Frag) (t : TA) : TE := fun σ H Q => t σ H fun vs H1 => ∃ e v C R fI dx, vs = [.ref e, v] ∧ H1 e = some (Ex0 e C dx) ∧ ExCl K C R fI ∧ Q .non H1
/-- raise C(..) -/
def tRaise (S : St → Prop) (C : Addr) (sp : Sp) (dvs : List V) (E : XK) (t : TA) : TS := fun _ σ H => S σ ∧ t σ H fun vs H1 => vs.length ≤ 1000 ∧ ∀ e, H1 e = none →
  sp (.ref e :: (vs ++ dvs)) (upd H1 e (Ex0 e C none)) (fun v H2 => v = .non ∧ ∃ e' dx, V.ref e = .ref e' ∧ H2 e' = some (Ex0 e' C dx) ∧ E (.ref e') none (upd H2 e' (ExF e' C dx))) E0
end
end L2

/-! repr of data, isinstance of an exception, isinstance of an empty dict among the rest -/
namespace L2
open PySem PySem.Spec PyProof.Rows
section
variable {X : Cx}
end
/-- data, the empty dict too -/
def DatE (K : PySem.W.Frag) (H : Hp) (x : V) (d : PyData) : Prop := (Dat K H x d ∧ d.hasDict = false) ∨ ((∃ a, x = .ref a ∧ H a = some (.dK [])) ∧ d = .dict [])
def rRepr (K : PySem.W.Frag) : List V → Hp → VK → Prop := fun xs H Q => ∃ x d, xs = [x] ∧ DatE K H x d ∧ d.showable = true ∧ d.depth ≤ 8 ∧ d.shown.length ≤ sizeLine ∧ Q (.str d.shown) H
section
variable {X : Cx}
/-- the type's name of a value, an empty dict's too -/
def tyM (K : PySem.W.Frag) (x : V) (H : Hp) (t : String) : Prop := tyN K x H t ∨ (t = "dict" ∧ ∃ p kvs, x = .ref p ∧ H p = some (.dK kvs))
theorem call_isiM : CallR X (.builtin "isinstance") (fun xs H Q => ∃ x T t, xs = [x, .ty T] ∧ T ∈ isiTs ∧ tyM X.K x H t ∧ Q (.bl (isa t T)) H) := by
  intro pins s σ H xs us Q I r h
  obtain ⟨x, T, t, rfl, hT, ht | ⟨rfl, p, kvs, rfl, hp⟩, q⟩ := h
  · exact call_isi pins s σ H _ us Q I r ⟨x, T, t, rfl, hT, ht, q⟩
  · exact call_isiD pins s σ H _ us Q I r ⟨p, T, kvs, rfl, hT, hp, q⟩
end
end L2

/-! for a, b in enumerate(a list): each turn's tuple is new -/
namespace L2
open PySem PySem.Spec PyProof.Rows
section
variable {X : Cx} {pins : List (Addr × Obj)} {σ : St} {H : Hp} {s : Shared} {h' : Heap}
end
def Ite (K : PySem.W.Frag) (a : Addr) : It :=
  ⟨fun i H => ∃ xs x, SqL K H a xs ∧ xs[i]? = some x, fun i H x H' => ∃ y p, x = .ref p ∧ H p = none ∧ H' = upd H p (.tup [.int (i : Int), y]) ∧ ∀ xs, SqL K H a xs → xs[i]? = some y, fun i H => ∃ xs, SqL K H a xs ∧ xs.length ≤ i⟩
def iEnum (K : PySem.W.Frag) (ta : TA) : TI := fun σ H R => ta σ H fun vs H1 => ∃ a xs, vs = [.ref a] ∧ SqL K H1 a xs ∧ R (Ite K a) H1
end L2

/-! zip of two lists or of two tuples -/
namespace L2
open PySem PySem.Spec PyProof.Rows
/-- b: tuples; else lists -/
def Sq2 (K : PySem.W.Frag) : Bool → Hp → Addr → List V → Prop
  | false, H, a, xs => SqL K H a xs
  | true, H, a, xs => SqT K H a xs
def IsIt2 : Bool → Heap → Addr → Addr → Nat → Prop
  | false, h, j, a, i => h.IsListIter j a i
  | true, h, j, a, i => h.IsTupleIter j a i
def IsSq2 : Bool → Heap → Addr → Array Value → Prop
  | false, h, a, xs => h.IsList a xs
  | true, h, a, xs => h.IsTuple a xs
theorem IsIt2.keep {b : Bool} {h g : Heap} {j a : Addr} {i : Nat} (x : IsIt2 b h j a i) (k : ∀ o, h.get? j = some o → g.get? j = some o) : IsIt2 b g j a i := by
  cases b <;> (obtain ⟨o, e, r⟩ := x; exact ⟨o, k o e, r⟩)
theorem IsSq2.keep {b : Bool} {h g : Heap} {a : Addr} {xs : Array Value} (x : IsSq2 b h a xs) (k : ∀ o, h.get? a = some o → g.get? a = some o) : IsSq2 b g a xs := by
  cases b <;> (obtain ⟨o, e, r⟩ := x; exact ⟨o, k o e, r⟩)
theorem IsIt2.obj {b : Bool} {h : Heap} {j a : Addr} {i : Nat} (x : IsIt2 b h j a i) : ∃ o, h.get? j = some o ∧ ∀ v, o.data ≠ .cell v := by
  cases b <;> (obtain ⟨o, e, c, d⟩ := x; exact ⟨o, e, fun v z => by rw [d] at z; cases z⟩)
theorem IsSq2.lt {b : Bool} {h : Heap} {a : Addr} {xs : Array Value} (x : IsSq2 b h a xs) : a < h.objs.size := by
  cases b <;> (obtain ⟨o, e, _⟩ := x; exact Heap.lt_size e)
section
variable {P : Program} {w : World} {A : Around} {E : Value → Shared → Prop} {s : Shared}
theorem tupNext {j a : Addr} {n : Nat} {vs : Array Value} {v : Value} {Q : Value → Shared → Prop} (hj : s.heap.IsTupleIter j a n) (ha : s.heap.IsTuple a vs) (hv : vs[n]? = some v)
    (q : ∀ g, g.IsTupleIter j a (n + 1) → Heap.SameBut j s.heap g → Q v { s with heap := g }) : wpAny (model P w) A (Builtin.SmallTypes.nextOf (.ref j)) Q E s := by
  obtain ⟨oj, ej, cj, dj⟩ := id hj
  obtain ⟨oa, ea, ca, na, da⟩ := ha
  unfold Builtin.SmallTypes.nextOf
  refine wpAny_bind (wpAny_callSpecial?_slot (name := Str.ofString "__next__") hj.typeIs F.slot_tuple_iterator_next (wpAny_call_entry F.slot_tuple_iterator_next hj.typeIs F.entry_tuple_iterator_next ?_ (F.args_tuple_iterator_next_1 _)))
  show wpAny _ _ (field (.ref j) 0 >>= _) _ _ s
  refine wpAny_bind (wpAny_field ej dj (x := .ref a) rfl ?_)
  show wpAny _ _ (if (Value.ref a == Value.none) = true then _ else _) _ _ s
  rw [if_neg (show ¬ ((Value.ref a == Value.none) = true) from Bool.false_ne_true)]
  show wpAny _ _ (field (.ref j) 1 >>= _) _ _ s
  refine wpAny_bind (wpAny_field ej dj (x := .int n 0) rfl ?_)
  show wpAny _ _ (seqItems? (.ref a) >>= _) _ _ s
  refine wpAny_bind (wpAny_seqItems ea da ?_)
  simp only [Int.toNat_natCast, hv]
  refine wpAny_bind (wpAny_setField ej dj (by simp) (wpAny_pure ⟨v, rfl, wpAny_pure (q _ ?_ (Heap.SameBut.update ..))⟩))
  exact ⟨_, Heap.get?_update_self _ ej (Obj.isFreed_of_fields (Obj.data_mapFields dj _)), (Obj.cls_mapFields ..).trans cj, by rw [Obj.data_mapFields dj]; simp [rawInt]⟩
theorem tupEnd {j a : Addr} {n : Nat} {vs : Array Value} {Q : Value → Shared → Prop} (hh : A.handled = none) (hj : s.heap.IsTupleIter j a n) (ha : s.heap.IsTuple a vs) (hv : vs[n]? = none)
    (hE : ∀ g x, Heap.ExtBut j s.heap g → (∃ o, g.get? x = some o ∧ o.cls = .type "StopIteration") → E (.ref x) { s with heap := g }) : wpAny (model P w) A (Builtin.SmallTypes.nextOf (.ref j)) Q E s := by
  obtain ⟨oj, ej, cj, dj⟩ := id hj
  obtain ⟨oa, ea, ca, na, da⟩ := ha
  unfold Builtin.SmallTypes.nextOf
  refine wpAny_bind (wpAny_callSpecial?_slot (name := Str.ofString "__next__") hj.typeIs F.slot_tuple_iterator_next (wpAny_call_entry F.slot_tuple_iterator_next hj.typeIs F.entry_tuple_iterator_next ?_ (F.args_tuple_iterator_next_1 _)))
  show wpAny _ _ (field (.ref j) 0 >>= _) _ _ s
  refine wpAny_bind (wpAny_field ej dj (x := .ref a) rfl ?_)
  show wpAny _ _ (if (Value.ref a == Value.none) = true then _ else _) _ _ s
  rw [if_neg (show ¬ ((Value.ref a == Value.none) = true) from Bool.false_ne_true)]
  show wpAny _ _ (field (.ref j) 1 >>= _) _ _ s
  refine wpAny_bind (wpAny_field ej dj (x := .int n 0) rfl ?_)
  show wpAny _ _ (seqItems? (.ref a) >>= _) _ _ s
  refine wpAny_bind (wpAny_seqItems ea da ?_)
  simp only [Int.toNat_natCast, hv]
  refine wpAny_bind (wpAny_rule (wpAny_bind (wpAny_setField ej dj (by simp) ?_)))
  show wpAny _ _ (newExc (.type "StopIteration") [] >>= fun x => raiseNew x) _ _ _
  refine wpAny_bind ?_
  simp only [newExc, newTuple]
  refine wpAny_bind (wpAny_newObj_type ?_ (by size_fits))
  refine wpAny_bind (m := firstArgMember _ _) (wpAny_of_eq (a := Value.none) (by first | rfl | (simp only [firstArgMember]; rfl)) ?_)
  refine wpAny_newObj_type ?_ (by size_fits)
  simp only [raiseNew]
  refine wpAny_bind (wpAny_handled ?_)
  first | rw [show A.in1.handled = none from hh] | rw [hh]
  exact wpAny_bind (wpAny_pure (wpAny_throw (hE _ _ (((Heap.SameBut.update ..).extBut.push _).push _) ⟨_, Heap.get?_push_size _ rfl, rfl⟩)))
theorem sqNext {b : Bool} {j a : Addr} {n : Nat} {vs : Array Value} {v : Value} {Q : Value → Shared → Prop} (hj : IsIt2 b s.heap j a n) (ha : IsSq2 b s.heap a vs) (hv : vs[n]? = some v)
    (q : ∀ g, IsIt2 b g j a (n + 1) → Heap.SameBut j s.heap g → Q v { s with heap := g }) : wpAny (model P w) A (Builtin.SmallTypes.nextOf (.ref j)) Q E s := by
  cases b
  · exact wpAny_nextOf_list_item hj ha hv q
  · exact tupNext hj ha hv q
theorem sqEnd {b : Bool} {j a : Addr} {n : Nat} {vs : Array Value} {Q : Value → Shared → Prop} (hh : A.handled = none) (hj : IsIt2 b s.heap j a n) (ha : IsSq2 b s.heap a vs) (hv : vs[n]? = none)
    (hE : ∀ g x, Heap.ExtBut j s.heap g → (∃ o, g.get? x = some o ∧ o.cls = .type "StopIteration") → E (.ref x) { s with heap := g }) : wpAny (model P w) A (Builtin.SmallTypes.nextOf (.ref j)) Q E s := by
  cases b
  · exact wpAny_nextOf_list_end hh hj ha hv hE
  · exact tupEnd hh hj ha hv hE
/-- the zip's own objects: itself, its iterators' tuple, the tuple it owns, the two iterators -/
structure Zp (b : Bool) (h : Heap) (z ti to j1 j2 a1 a2 : Addr) (n : Nat) : Prop where
  z : IsZip h z ti to .none
  ti : IsPair h ti (.ref j1) (.ref j2)
  to : ∃ p q, IsPair h to p q
  i1 : IsIt2 b h j1 a1 n
  i2 : IsIt2 b h j2 a2 n
theorem zpItem {b : Bool} {z ti to j1 j2 a1 a2 : Addr} {n : Nat} {us vs : Array Value} {u v : Value} {Q : Option Value → Shared → Prop} (D : ZipApart z ti to j1 j2 a1 a2) (hz : Zp b s.heap z ti to j1 j2 a1 a2 n)
    (g1 : IsSq2 b s.heap a1 us) (g2 : IsSq2 b s.heap a2 vs) (hu : us[n]? = some u) (hv : vs[n]? = some v)
    (k : ∀ g, IsZip g z ti to (rawInt s.heap.objs.size) → IsPair g to u v → IsIt2 b g j1 a1 (n + 1) → IsIt2 b g j2 a2 (n + 1) → IsPair g s.heap.objs.size u v →
      (∀ c o, c ∉ [z, to, j1, j2] → s.heap.get? c = some o → g.get? c = some o) → Q (some (.ref s.heap.objs.size)) { s with heap := g }) : wpAny (model P w) A (pyNext (.ref z)) Q E s := by
  obtain ⟨hz, hi, ⟨p, q, ho⟩, h1, h2⟩ := hz
  have ty : s.TypeIs (.ref z) "zip" := ⟨_, hz, rfl⟩
  unfold pyNext
  refine wpAny_bind (wpAny_attempt (wpAny_callSpecial?_slot (name := Str.ofString "__next__") ty F.slot_zip_next (wpAny_call_entry F.slot_zip_next ty F.entry_zip_next ?_ (F.args_zip_next_1 _))))
  show wpAny _ _ (field (.ref z) 2 >>= fun _ => _) _ _ _
  refine wpAny_bind (wpAny_field hz rfl (x := .bool false) rfl ?_)
  show wpAny _ _ (field (.ref z) 3 >>= fun _ => _) _ _ _
  refine wpAny_bind (wpAny_field hz rfl (x := .ref ti) rfl ?_)
  refine wpAny_bind (wpAny_seqItems hi rfl ?_)
  show wpAny _ _ (Builtin.SmallTypes.ownedTupleIsFree (.ref z) >>= fun _ => _) _ _ _
  refine wpAny_bind ?_
  unfold Builtin.SmallTypes.ownedTupleIsFree
  refine wpAny_bind (wpAny_field hz rfl (x := Value.none) rfl (wpAny_pure ?_))
  simp only [if_true]
  refine wpAny_bind (wpAny_rule ?_)
  refine wpAny_bind (wpAny_field hz rfl (x := .ref to) rfl ?_)
  refine wpAny_bind (wpAny_setField_rec hz (by simp) fun e1 z1 s1 => ?_)
  replace z1 : IsZip e1 z ti to .ellipsis := z1
  refine wpAny_bind ?_
  simp only [List.zipIdx_cons, List.zipIdx_nil, List.forIn_cons, List.forIn_nil]
  have x1 := s1.extBut
  refine wpAny_bind (wpAny_bind (wpAny_onRaise ?_))
  show wpAny _ _ (Builtin.SmallTypes.nextOf (.ref j1) >>= fun _ => _) _ _ _
  refine wpAny_bind (sqNext (h1.keep fun o e => x1 _ o D.i1z e) (g1.keep fun o e => x1 _ o D.l1z e) hu fun e2 m2 s2 => wpAny_pure ?_)
  have x2 := s2.extBut
  have o2 : IsPair e2 to p q := x2 _ _ D.TOi1 (x1 _ _ D.TOz ho)
  refine wpAny_bind (wpAny_seqItems o2 rfl ?_)
  refine wpAny_bind (wpAny_updateSeq_pair o2 fun e3 o3 s3 => ?_)
  replace o3 : IsPair e3 to u q := o3
  have x3 := s3.extBut
  refine wpAny_bind (wpAny_letGo (wpAny_pure ?_))
  refine wpAny_bind (wpAny_bind (wpAny_onRaise ?_))
  show wpAny _ _ (Builtin.SmallTypes.nextOf (.ref j2) >>= fun _ => _) _ _ _
  refine wpAny_bind (sqNext (h2.keep fun o e => x3 _ o D.TOi2.symm (x2 _ o D.i12.symm (x1 _ o D.i2z e))) (g2.keep fun o e => x3 _ o D.l2TO (x2 _ o D.l2i1 (x1 _ o D.l2z e))) hv fun e4 m4 s4 => wpAny_pure ?_)
  have x4 := s4.extBut
  have o4 : IsPair e4 to u q := x4 _ _ D.TOi2 o3
  refine wpAny_bind (wpAny_seqItems o4 rfl ?_)
  refine wpAny_bind (wpAny_updateSeq_pair o4 fun e5 o5 s5 => ?_)
  replace o5 : IsPair e5 to u v := o5
  have x5 := s5.extBut
  refine wpAny_bind (wpAny_letGo (wpAny_pure (wpAny_pure ?_)))
  refine wpAny_bind (wpAny_seqItems o5 rfl ?_)
  refine wpAny_bind (wpAny_newTuple ?_)
  have sz : e5.objs.size = s.heap.objs.size := by rw [s5.1, s4.1, s3.1, s2.1, s1.1]
  have z5 : IsZip e5 z ti to .ellipsis := x5 _ _ D.TOz.symm (x4 _ _ D.i2z.symm (x3 _ _ D.TOz.symm (x2 _ _ D.i1z.symm z1)))
  have k5 : ∀ c o, c ∉ [z, to, j1, j2] → s.heap.get? c = some o → e5.get? c = some o := fun c o hc e => by
    simp only [List.mem_cons, List.not_mem_nil, or_false, not_or] at hc
    exact x5 _ _ hc.2.1 (x4 _ _ hc.2.2.2 (x3 _ _ hc.2.1 (x2 _ _ hc.2.2.1 (x1 _ _ hc.1 e))))
  have m25 : IsIt2 b e5 j1 a1 (n + 1) := m2.keep fun o e => x5 _ o D.TOi1.symm (x4 _ o D.i12 (x3 _ o D.TOi1.symm e))
  have m45 : IsIt2 b e5 j2 a2 (n + 1) := m4.keep fun o e => x5 _ o D.TOi2.symm e
  have lz : z < e5.objs.size := Heap.lt_size z5
  show wpAny _ _ (Builtin.SmallTypes.ownedTupleHandOut (.ref z) (.ref e5.objs.size) >>= fun _ => _) _ _ _
  refine wpAny_bind ?_
  unfold Builtin.SmallTypes.ownedTupleHandOut
  have z6 : IsZip (e5.push { cls := .type "tuple", data := .seq #[u, v] }) z ti to .ellipsis := Heap.get?_push_of_some _ z5
  refine wpAny_bind (wpAny_setField_rec z6 (by simp) fun e7 z7 s7 => ?_)
  replace z7 : IsZip e7 z ti to (rawInt e5.objs.size) := z7
  refine wpAny_setField_rec z7 (by simp) fun e8 z8 s8 => ?_
  replace z8 : IsZip e8 z ti to (rawInt e5.objs.size) := z8
  have up : ∀ c o, c ≠ z → e5.get? c = some o → e8.get? c = some o := fun c o c1 e => s8.extBut _ _ c1 (s7.extBut _ _ c1 (Heap.get?_push_of_some _ e))
  have t8 : IsPair e8 e5.objs.size u v := s8.extBut _ _ (Nat.ne_of_gt lz) (s7.extBut _ _ (Nat.ne_of_gt lz) (Heap.get?_push_size _ rfl))
  rw [sz] at z8 t8
  refine wpAny_pure ⟨_, rfl, wpAny_pure ?_⟩
  rw [sz]
  exact k e8 z8 (up _ _ D.TOz o5) (m25.keep fun o e => up _ o D.i1z e) (m45.keep fun o e => up _ o D.i2z e) t8 fun c o hc e => up c o (fun x => hc (by simp [x])) (k5 c o hc e)
theorem zpEnd {b : Bool} {z ti to j1 j2 a1 a2 : Addr} {n : Nat} {us vs : Array Value} {Q : Option Value → Shared → Prop} (hh : A.handled = none) (D : ZipApart z ti to j1 j2 a1 a2) (hz : Zp b s.heap z ti to j1 j2 a1 a2 n)
    (g1 : IsSq2 b s.heap a1 us) (g2 : IsSq2 b s.heap a2 vs) (hend : us[n]? = none ∨ vs[n]? = none)
    (k : ∀ g, (∀ c o, c ∉ [z, to, j1, j2] → s.heap.get? c = some o → g.get? c = some o) → Q none { s with heap := g }) : wpAny (model P w) A (pyNext (.ref z)) Q E s := by
  obtain ⟨hz, hi, ⟨p, q, ho⟩, h1, h2⟩ := hz
  have ty : s.TypeIs (.ref z) "zip" := ⟨_, hz, rfl⟩
  have nx : ∀ c, c ∉ [z, to, j1, j2] → c ≠ z ∧ c ≠ to ∧ c ≠ j1 ∧ c ≠ j2 := fun c hc => by simpa only [List.mem_cons, List.not_mem_nil, or_false, not_or] using hc
  unfold pyNext
  refine wpAny_bind (wpAny_attempt (wpAny_callSpecial?_slot (name := Str.ofString "__next__") ty F.slot_zip_next (wpAny_call_entry F.slot_zip_next ty F.entry_zip_next ?_ (F.args_zip_next_1 _))))
  show wpAny _ _ (field (.ref z) 2 >>= fun _ => _) _ _ _
  refine wpAny_bind (wpAny_field hz rfl (x := .bool false) rfl ?_)
  show wpAny _ _ (field (.ref z) 3 >>= fun _ => _) _ _ _
  refine wpAny_bind (wpAny_field hz rfl (x := .ref ti) rfl ?_)
  refine wpAny_bind (wpAny_seqItems hi rfl ?_)
  show wpAny _ _ (Builtin.SmallTypes.ownedTupleIsFree (.ref z) >>= fun _ => _) _ _ _
  refine wpAny_bind ?_
  unfold Builtin.SmallTypes.ownedTupleIsFree
  refine wpAny_bind (wpAny_field hz rfl (x := Value.none) rfl (wpAny_pure ?_))
  simp only [if_true]
  refine wpAny_bind (wpAny_rule ?_)
  refine wpAny_bind (wpAny_field hz rfl (x := .ref to) rfl ?_)
  refine wpAny_bind (wpAny_setField_rec hz (by simp) fun e1 z1 s1 => ?_)
  replace z1 : IsZip e1 z ti to .ellipsis := z1
  refine wpAny_bind ?_
  simp only [List.zipIdx_cons, List.zipIdx_nil, List.forIn_cons, List.forIn_nil]
  have x1 := s1.extBut
  refine wpAny_bind (wpAny_bind (wpAny_onRaise ?_))
  show wpAny _ _ (Builtin.SmallTypes.nextOf (.ref j1) >>= fun _ => _) _ _ _
  cases hu : us[n]? with
  | none =>
    refine wpAny_bind (sqEnd hh (h1.keep fun o e => x1 _ o D.i1z e) (g1.keep fun o e => x1 _ o D.l1z e) hu fun e2 x s2 hx => ?_)
    obtain ⟨ox, ex, cx⟩ := hx
    have z2 : IsZip e2 z ti to .ellipsis := s2 _ _ D.i1z.symm z1
    have nz : x ≠ z := fun y => by subst y; rw [z2] at ex; cases ex; simp at cx
    refine wpAny_setField_rec z2 (by simp) fun e3 _ s3 => ?_
    refine wpAny_bind (wpAny_isInstance (T := "StopIteration") (b := true) ⟨ox, s3.extBut _ _ nz ex, cx⟩ isSubtype_stop ?_)
    refine wpAny_pure (k _ fun c o hc e => ?_)
    exact s3.extBut _ _ (nx c hc).1 (s2 _ _ (nx c hc).2.2.1 (x1 _ _ (nx c hc).1 e))
  | some u =>
    have hv : vs[n]? = none := by
      rcases hend with y | y
      · rw [hu] at y; cases y
      · exact y
    refine wpAny_bind (sqNext (h1.keep fun o e => x1 _ o D.i1z e) (g1.keep fun o e => x1 _ o D.l1z e) hu fun e2 m2 s2 => wpAny_pure ?_)
    have x2 := s2.extBut
    have o2 : IsPair e2 to p q := x2 _ _ D.TOi1 (x1 _ _ D.TOz ho)
    refine wpAny_bind (wpAny_seqItems o2 rfl ?_)
    refine wpAny_bind (wpAny_updateSeq_pair o2 fun e3 o3 s3 => ?_)
    have x3 := s3.extBut
    refine wpAny_bind (wpAny_letGo (wpAny_pure ?_))
    refine wpAny_bind (wpAny_bind (wpAny_onRaise ?_))
    show wpAny _ _ (Builtin.SmallTypes.nextOf (.ref j2) >>= fun _ => _) _ _ _
    refine wpAny_bind (sqEnd hh (h2.keep fun o e => x3 _ o D.TOi2.symm (x2 _ o D.i12.symm (x1 _ o D.i2z e))) (g2.keep fun o e => x3 _ o D.l2TO (x2 _ o D.l2i1 (x1 _ o D.l2z e))) hv fun e4 x s4 hx => ?_)
    obtain ⟨ox, ex, cx⟩ := hx
    have z4 : IsZip e4 z ti to .ellipsis := s4 _ _ D.i2z.symm (x3 _ _ D.TOz.symm (x2 _ _ D.i1z.symm z1))
    have nz : x ≠ z := fun y => by subst y; rw [z4] at ex; cases ex; simp at cx
    refine wpAny_setField_rec z4 (by simp) fun e5 _ s5 => ?_
    refine wpAny_bind (wpAny_isInstance (T := "StopIteration") (b := true) ⟨ox, s5.extBut _ _ nz ex, cx⟩ isSubtype_stop ?_)
    refine wpAny_pure (k _ fun c o hc e => ?_)
    exact s5.extBut _ _ (nx c hc).1 (s4 _ _ (nx c hc).2.2.2 (x3 _ _ (nx c hc).2.1 (x2 _ _ (nx c hc).2.2.1 (x1 _ _ (nx c hc).1 e))))
end
abbrev itN (b : Bool) : String := if b then "tuple_iterator" else "list_iterator"
abbrev zp1 (b : Bool) (h : Heap) (a : Addr) : Heap := h.push { cls := .type (itN b), data := .fields #[.ref a, .int 0 0] }
abbrev zp3 (b : Bool) (h : Heap) (a1 a2 : Addr) : Heap := (zp1 b (zp1 b h a1) a2).push { cls := .type "tuple", data := .seq #[.ref h.objs.size, .ref (zp1 b h a1).objs.size] }
abbrev zp4 (b : Bool) (h : Heap) (a1 a2 : Addr) : Heap := (zp3 b h a1 a2).push { cls := .type "tuple", data := .seq #[.none, .none] }
abbrev zp5 (b : Bool) (h : Heap) (a1 a2 : Addr) : Heap := (zp4 b h a1 a2).push { cls := .type "zip", data := .fields #[.none, .bool false, .bool false, .ref (zp1 b (zp1 b h a1) a2).objs.size, .ref (zp3 b h a1 a2).objs.size] }
theorem zpMeets (b : Bool) (a1 a2 : Addr) (us vs : Array Value) : Meets (Builtin.«zip.__new__» ⟨[.type "zip", .ref a1, .ref a2], []⟩) (fun _ R s => IsSq2 b s.heap a1 us ∧ IsSq2 b s.heap a2 vs ∧ R (.ok (.ret (.ref (zp4 b s.heap a1 a2).objs.size))) { s with heap := zp5 b s.heap a1 a2 }) :=
  .of_wp fun prog w A R s h => by
    obtain ⟨hp, g, d, tk, os⟩ := s
    obtain ⟨k1, k2, h⟩ := h
    have hsub := sub_zip
    cases b
    · have y1 : Heap.IsList (Shared.heap ⟨hp, g, d, tk, os⟩) a1 us := k1
      have y2 : Heap.IsList (Shared.heap ⟨hp.push { cls := .type "list_iterator", data := .fields #[.ref a1, .int 0 0] }, g, d, tk, os⟩) a2 vs := Heap.IsList.push k2 _
      wp_walk using wpAny_pyIter_list y1, wpAny_pyIter_list y2
      exact ⟨_, rfl, h⟩
    · have y1 : Heap.IsTuple (Shared.heap ⟨hp, g, d, tk, os⟩) a1 us := k1
      have y2 : Heap.IsTuple (Shared.heap ⟨hp.push { cls := .type "tuple_iterator", data := .fields #[.ref a1, .int 0 0] }, g, d, tk, os⟩) a2 vs := Heap.IsTuple.push k2 _
      wp_walk using wpAny_pyIter_tuple y1, wpAny_pyIter_tuple y2
      exact ⟨_, rfl, h⟩
section
variable {P : Program} {w : World} {A : Around} {E : Value → Shared → Prop} {s : Shared}
theorem zpCall {b : Bool} {a1 a2 : Addr} {us vs : Array Value} {Q : Value → Shared → Prop} (k1 : IsSq2 b s.heap a1 us) (k2 : IsSq2 b s.heap a2 vs)
    (h : ∀ g, Zp b g (s.heap.objs.size + 4) (s.heap.objs.size + 2) (s.heap.objs.size + 3) s.heap.objs.size (s.heap.objs.size + 1) a1 a2 0 → (∀ c o, s.heap.get? c = some o → g.get? c = some o) → Q (.ref (s.heap.objs.size + 4)) { s with heap := g }) :
    wpAny (model P w) A (call (.type "zip") [.ref a1, .ref a2]) Q E s := by
  refine callType_new F.called_zip (by decide) (F.typeCall_zip_2 _ _) (F.newCall_zip_2 _ _) (fun obj => F.args_object_init_3 obj _ _) F.entry_zip_new (zpMeets b a1 a2 us vs) ⟨k1, k2, ?_⟩
  have z1 : (zp1 b s.heap a1).objs.size = s.heap.objs.size + 1 := Heap.size_push ..
  have z2 : (zp1 b (zp1 b s.heap a1) a2).objs.size = s.heap.objs.size + 2 := by rw [Heap.size_push, z1]
  have z3 : (zp3 b s.heap a1 a2).objs.size = s.heap.objs.size + 3 := by rw [Heap.size_push, z2]
  have z4 : (zp4 b s.heap a1 a2).objs.size = s.heap.objs.size + 4 := by rw [Heap.size_push, z3]
  have up := fun {h : Heap} {c : Addr} {x : Obj} (o : Obj) (e : h.get? c = some x) => Heap.get?_push_of_some o e
  have g5 : (zp5 b s.heap a1 a2).get? (zp4 b s.heap a1 a2).objs.size = some _ := Heap.get?_push_size _ rfl
  have g4 : (zp5 b s.heap a1 a2).get? (zp3 b s.heap a1 a2).objs.size = some _ := up _ (Heap.get?_push_size _ rfl)
  have g3 : (zp5 b s.heap a1 a2).get? (zp1 b (zp1 b s.heap a1) a2).objs.size = some _ := up _ (up _ (Heap.get?_push_size _ rfl))
  have g2 : (zp5 b s.heap a1 a2).get? (zp1 b s.heap a1).objs.size = some _ := up _ (up _ (up _ (Heap.get?_push_size _ rfl)))
  have g1 : (zp5 b s.heap a1 a2).get? s.heap.objs.size = some _ := up _ (up _ (up _ (up _ (Heap.get?_push_size _ rfl))))
  show _ ∧ _
  rw [z2, z3, z4] at g5
  rw [z1, z2] at g3
  rw [z3] at g4
  rw [z1] at g2
  rw [z4]
  refine ⟨⟨_, g5, rfl⟩, h _ ⟨g5, g3, ⟨_, _, g4⟩, ?_, ?_⟩ fun c o x => up _ (up _ (up _ (up _ (up _ x))))⟩
  · cases b <;> exact ⟨_, g1, rfl, rfl⟩
  · cases b <;> exact ⟨_, g2, rfl, rfl⟩
end
section
variable {X : Cx} {pins : List (Addr × Obj)} {σ : St} {H : Hp} {s : Shared} {h' : Heap}
theorem Inv.turnedL {t' : Nat} {ch : List Addr} {p : Addr} {o : HO} (I : Inv X pins σ H s) (k : ∀ b u, b ∉ ch → s.heap.get? b = some u → h'.get? b = some u) (f : ∀ b ∈ ch, FpOk X pins H b)
    (hp : s.heap.objs.size ≤ p) (new : ObjOk X.prog X.w (upd H p o) h' p o) : Inv X pins σ (upd H p o) { s with heap := h', toks := t' } := by
  have hn := I.hok.fresh hp
  have nx : ∀ b u, H b = some u → b ∉ ch := fun b u q z => ne_of_none q (f b z).1 rfl
  have np : ∀ b u, s.heap.get? b = some u → b ≠ p := fun b u q => Nat.ne_of_lt (Nat.lt_of_lt_of_le (Heap.lt_size q) hp)
  have u : Un (frs X.stack) ch H (upd H p o) s.heap h' := by
    refine ⟨fun b u q _ _ hx => k b u hx q, fun b u q _ _ hx => ⟨u.slots, k b u hx q⟩, fun b u q n _ => ?_, fun b u q hx => ⟨u, k b u hx q⟩, fun b xs q => ?_, fun b o' u q => ?_, fun b ps q => ⟨#[], ?_⟩⟩
    · rw [upd_ne (np b u q)]; exact n
    · rw [upd_ne (ne_of_none q hn)]; exact q
    · rw [upd_ne (ne_of_none q hn)]; exact q
    · rw [upd_ne (ne_of_none q hn), q]; simp
  have hok : HOk X.prog X.w (upd H p o) h' := fun b v eb => by
    by_cases hb : b = p
    · subst hb; rw [upd_same] at eb; cases eb; exact new
    · rw [upd_ne hb] at eb
      refine (I.hok b v eb).stay (fun c w hc q => k c w ?_ q) (fun c q => by rw [upd_ne (ne_of_none q hn)]; exact q) fun c xs q => by rw [upd_ne (ne_of_none q hn)]; exact q
      rcases hc with z | z
      · rw [z]; exact nx b v eb
      · exact nx c _ z
  exact I.call (g' := s.gens) (d' := s.drawn) (t' := t') (ch := ch) u hok I.bare fun b hb => ⟨(f b hb).2.2.2.1, (f b hb).2.1, (f b hb).2.2.2.2.1, (f b hb).2.2.2.2.2⟩
theorem Inv.turnedL0 {t' : Nat} {ch : List Addr} (I : Inv X pins σ H s) (k : ∀ b u, b ∉ ch → s.heap.get? b = some u → h'.get? b = some u) (f : ∀ b ∈ ch, FpOk X pins H b) : Inv X pins σ H { s with heap := h', toks := t' } := by
  have nx : ∀ b u, H b = some u → b ∉ ch := fun b u q z => ne_of_none q (f b z).1 rfl
  have u : Un (frs X.stack) ch H H s.heap h' := by
    refine ⟨fun b u q _ _ hx => k b u hx q, fun b u q _ _ hx => ⟨u.slots, k b u hx q⟩, fun b u q n _ => n, fun b u q hx => ⟨u, k b u hx q⟩, fun b xs q => q, fun b o' u q => q, fun b ps q => ⟨#[], ?_⟩⟩
    rw [q]; simp
  have hok : HOk X.prog X.w H h' := fun b v eb => by
    refine (I.hok b v eb).stay (fun c w hc q => k c w ?_ q) (fun c q => q) fun c xs q => q
    rcases hc with z | z
    · rw [z]; exact nx b v eb
    · exact nx c _ z
  exact I.call (g' := s.gens) (d' := s.drawn) (t' := t') (ch := ch) u hok I.bare fun b hb => ⟨(f b hb).2.2.2.1, (f b hb).2.1, (f b hb).2.2.2.2.1, (f b hb).2.2.2.2.2⟩
theorem Inv.seq2 {b : Bool} {a : Addr} {xs : List V} (I : Inv X pins σ H s) (h : Sq2 X.K b H a xs) : ∃ its : List Value, Vals xs its ∧ IsSq2 b s.heap a its.toArray := by
  cases b
  · obtain ⟨its, r, p, _⟩ := I.list h
    exact ⟨its, r, p.isList⟩
  · obtain ⟨its, r, p, _⟩ := I.tuple h
    exact ⟨its, r, p⟩
theorem Inv.seq2_inj {b : Bool} {a : Addr} {xs ys : List V} (I : Inv X pins σ H s) (h : Sq2 X.K b H a xs) (h' : Sq2 X.K b H a ys) : xs = ys := by
  cases b
  · exact I.list_inj h h'
  · exact I.tuple_inj h h'
end
def Itz (K : PySem.W.Frag) (b : Bool) (a1 a2 : Addr) : It :=
  ⟨fun i H => ∃ xs ys x y, Sq2 K b H a1 xs ∧ Sq2 K b H a2 ys ∧ xs[i]? = some x ∧ ys[i]? = some y,
   fun i H v H' => ∃ x y p, v = .ref p ∧ H p = none ∧ H' = upd H p (.tup [x, y]) ∧ (∀ xs, Sq2 K b H a1 xs → xs[i]? = some x) ∧ ∀ ys, Sq2 K b H a2 ys → ys[i]? = some y,
   fun i H => ∃ xs ys, Sq2 K b H a1 xs ∧ Sq2 K b H a2 ys ∧ (xs.length ≤ i ∨ ys.length ≤ i)⟩
theorem turn_zip {P : Program} {w : World} {K : PySem.W.Frag} {elts : List Expr} {x1 : Nat} {pos : Pos} {b : Bool} {z ti to j1 j2 a1 a2 : Addr} (D : ZipApart z ti to j1 j2 a1 a2) :
    Turn P w K (.Tuple elts x1 pos) (Itz K b a1 a2) [z, ti, to, j1, j2] z (fun i h => Zp b h z ti to j1 j2 a1 a2 i) where
  mem := by simp
  obj := fun i h st c hc => by
    obtain ⟨hz, hi, ⟨p, q, ho⟩, h1, h2⟩ := st
    have : c = z ∨ c = ti ∨ c = to ∨ c = j1 ∨ c = j2 := by simpa using hc
    rcases this with rfl | rfl | rfl | rfl | rfl
    · exact ⟨_, hz, fun v z => by cases z⟩
    · exact ⟨_, hi, fun v z => by cases z⟩
    · exact ⟨_, ho, fun v z => by cases z⟩
    · exact h1.obj
    · exact h2.obj
  keep := fun i h h' st k => by
    obtain ⟨hz, hi, ⟨p, q, ho⟩, h1, h2⟩ := st
    exact ⟨k z (by simp) _ hz, k ti (by simp) _ hi, ⟨p, q, k to (by simp) _ ho⟩, h1.keep fun o e => k j1 (by simp) o e, h2.keep fun o e => k j2 (by simp) o e⟩
  item := by
    intro X hP hw hK hc i pins s σ H E I hf st hg
    subst hP hw hK
    obtain ⟨xs, ys, x, y, hq1, hq2, hx, hy⟩ := hg
    obtain ⟨is1, r1, p1⟩ := I.seq2 hq1
    obtain ⟨is2, r2, p2⟩ := I.seq2 hq2
    obtain ⟨u, hu, ru⟩ := r1.get hx
    obtain ⟨v, hv, rv⟩ := r2.get hy
    refine zpItem D st p1 p2 (u := u) (v := v) (by simpa using hu) (by simpa using hv) fun g gz go g1 g2 gn gk => ⟨_, rfl, ?_⟩
    refine wpAny_letOwnedTupleGo_zip gz fun h2 z2 s2 => ?_
    replace s2 : Heap.SameBut z g h2 := s2
    have nz : s.heap.objs.size ≠ z := Nat.ne_of_gt (Heap.lt_size st.z)
    have t2 : IsPair h2 s.heap.objs.size u v := (s2.2 _ nz).trans gn
    have k2 : ∀ c o, c ∉ [z, to, j1, j2] → s.heap.get? c = some o → h2.get? c = some o := fun c o hc e => (s2.2 c (fun q => hc (by simp [q]))).trans (gk c o hc e)
    have mem : ∀ c ∈ [z, to, j1, j2], c ∈ [z, ti, to, j1, j2] := fun c hc => by
      simp only [List.mem_cons, List.not_mem_nil, or_false] at hc ⊢
      rcases hc with q | q | q | q <;> simp [q]
    refine ⟨.ref s.heap.objs.size, upd H s.heap.objs.size (.tup [x, y]), I.turnedL (t' := s.toks) k2 (fun c hc => hf c (mem c hc)) (Nat.le_refl _) ⟨(by show 2 ≤ sizeLine; decide), [u, v], .cons ru (.cons rv .nil), _, t2, rfl, _, rfl⟩, rfl,
      ⟨x, y, _, rfl, I.hok.fresh (Nat.le_refl _), rfl, fun zs hz => by rw [I.seq2_inj hz hq1]; exact hx, fun zs hz => by rw [I.seq2_inj hz hq2]; exact hy⟩,
      ⟨z2, k2 ti _ (by simp [D.TIz, D.TITO, D.TIi1, D.TIi2]) st.ti, ⟨_, _, (s2.2 to D.TOz).trans go⟩, g1.keep fun o e => (s2.2 j1 D.i1z).trans e, g2.keep fun o e => (s2.2 j2 D.i2z).trans e⟩, fun c hc => ?_⟩
    obtain ⟨oc, ec, _⟩ : ∃ o, s.heap.get? c = some o ∧ ∀ v, o.data ≠ .cell v := by
      obtain ⟨hz, hi, ⟨p, q, ho⟩, h1, h2⟩ := st
      have : c = z ∨ c = ti ∨ c = to ∨ c = j1 ∨ c = j2 := by simpa using hc
      rcases this with rfl | rfl | rfl | rfl | rfl
      · exact ⟨_, hz, fun v z => by cases z⟩
      · exact ⟨_, hi, fun v z => by cases z⟩
      · exact ⟨_, ho, fun v z => by cases z⟩
      · exact h1.obj
      · exact h2.obj
    rw [upd_ne (Nat.ne_of_lt (Heap.lt_size ec))]
    exact (hf c hc).1
  done := by
    intro X hP hw hK hc i pins s σ H E I hf st hg
    subst hP hw hK
    obtain ⟨xs, ys, hq1, hq2, hl⟩ := hg
    obtain ⟨is1, r1, p1⟩ := I.seq2 hq1
    obtain ⟨is2, r2, p2⟩ := I.seq2 hq2
    have e1 := r1.length
    have e2 := r2.length
    have mem : ∀ c ∈ [z, to, j1, j2], c ∈ [z, ti, to, j1, j2] := fun c hc => by
      simp only [List.mem_cons, List.not_mem_nil, or_false] at hc ⊢
      rcases hc with q | q | q | q <;> simp [q]
    refine zpEnd (I.ok.hd hc) D st p1 p2 ?_ fun g gk => ⟨rfl, I.turnedL0 (t' := s.toks) gk fun c hc => hf c (mem c hc)⟩
    rcases hl with q | q
    · exact .inl (by simp; omega)
    · exact .inr (by simp; omega)
  self := fun _ _ _ _ _ st h => wpAny_pyIter_zip st.z h
def iZip (K : PySem.W.Frag) (b : Bool) (ta : TA) : TI := fun σ H R => ta σ H fun vs H1 => ∃ a1 a2 xs ys, vs = [.ref a1, .ref a2] ∧ Sq2 K b H1 a1 xs ∧ Sq2 K b H1 a2 ys ∧ R (Itz K b a1 a2) H1
/-- of lists or of tuples: the reading says which -/
def iZip2 (K : PySem.W.Frag) (ta : TA) : TI := fun σ H R => ∃ b, iZip K b ta σ H R
theorem pi_zip {X : Cx} {elts : List Expr} {x1 : Nat} {tpos : Pos} {a c : Expr} {ta : TA} {p pos : Pos} (hg : Gl X "zip") (hm : X.mg "zip" = none) (ha : PA X [a, c] ta) (hs : starEach [a, c] X.env = (false, eval a X.env) :: starEach [c] X.env := by rfl) (hs2 : starEach [c] X.env = [(false, eval c X.env)] := by rfl) :
    PI X (.Tuple elts x1 tpos) (.Call (.Name "zip" p) [a, c] [] pos) (iZip2 X.K ta) := by
  intro pins s σ H R I h
  obtain ⟨b, h⟩ := h
  refine Call_ (ld_blt I hg hm (show bootBuiltins "zip" = some (.type "zip") from by decide +kernel) (PyProof.Rows.callWith_type1 (thn (ha pos pins s σ H _ I h) fun us s1 ⟨vs, H1, I1, r1, q1⟩ => ?_) (by rw [hs, hs2]) (by rw [hs2]; rfl)))
  obtain ⟨a1, a2, xs, ys, e, h1, h2, q⟩ := q1
  subst e
  obtain ⟨u, v, rfl, rx, ry⟩ := vals2 r1
  cases rx
  cases ry
  obtain ⟨is1, v1, p1⟩ := I1.seq2 h1
  obtain ⟨is2, v2, p2⟩ := I1.seq2 h2
  have l1 := p1.lt
  have l2 := p2.lt
  refine zpCall p1 p2 fun g gz gk => wpAny_pyIter_zip gz.z ?_
  have D : ZipApart (s1.heap.objs.size + 4) (s1.heap.objs.size + 2) (s1.heap.objs.size + 3) s1.heap.objs.size (s1.heap.objs.size + 1) a1 a2 := by
    have A1 : (s1.heap.objs.size : Nat) + 4 = s1.heap.objs.size + 4 := rfl
    constructor <;> simp <;> first | exact Nat.ne_of_lt (Nat.lt_of_lt_of_le l1 (Nat.le_add_right _ _)) | exact Nat.ne_of_lt (Nat.lt_of_lt_of_le l2 (Nat.le_add_right _ _)) | exact Nat.ne_of_lt l1 | exact Nat.ne_of_lt l2 | decide
  refine ⟨_, _, _, _, H1, rfl, I1.kept (t' := s1.toks) gk, turn_zip D, gz, fun c hc => ?_, q⟩
  have : c = s1.heap.objs.size + 4 ∨ c = s1.heap.objs.size + 2 ∨ c = s1.heap.objs.size + 3 ∨ c = s1.heap.objs.size ∨ c = s1.heap.objs.size + 1 := by simpa using hc
  have ge : s1.heap.objs.size ≤ c := by
    rcases this with rfl | rfl | rfl | rfl | rfl <;> first | exact Nat.le_add_right _ _ | exact Nat.le_refl _
  exact I1.fpOk ge (I1.hok.fresh ge)
theorem comp_zip {K : PySem.W.Frag} {b : Bool} {a1 a2 : Addr} {xs ys : List V} {k : Nat} {js : List Nat} {g : TG} {tc : TT} {te : TE} {σ : St} {Q : VK} {H1 : Hp} (P : Nat → List V → Hp → Prop) (he : ys.length = xs.length) (h0 : P 0 [] H1) (hl : ∀ i zs H, i ≤ xs.length → P i zs H → Sq2 K b H a1 xs ∧ Sq2 K b H a2 ys ∧ zs.length ≤ i) (hz : xs.length < sizeLine)
    (hs : ∀ i x y zs H p (os : St), os.length = k → xs[i]? = some x → ys[i]? = some y → P i zs H → H p = none → g (.ref p) (os ++ capV js σ) (upd H p (.tup [x, y])) fun σ3 H3 => tc σ3 H3 fun b H2 => if b = true then te σ3 H2 fun v H3 => CompM P i k js σ σ3 (zs ++ [v]) H3 else CompM P i k js σ σ3 zs H2)
    (hd : ∀ zs H, P xs.length zs H → ∀ p, H p = none → Q (.ref p) (upd H p (.lst zs))) :
    CompR (Itz K b a1 a2) k js g tc te σ Q H1 := by
  refine ⟨fun i m σ' zs H => m = xs.length - i ∧ i ≤ xs.length ∧ P i zs H ∧ ∃ os : St, os.length = k ∧ σ' = os ++ capV js σ, ⟨xs.length, by simp, Nat.zero_le _, h0, List.replicate k none, List.length_replicate, rfl⟩, ?_⟩
  rintro i m σ' zs H ⟨rfl, hi, p, os, ho, rfl⟩
  obtain ⟨q1, q2, hy⟩ := hl i zs H hi p
  by_cases hlt : i < xs.length
  · have hl2 : i < ys.length := by omega
    refine .inr ⟨⟨xs, ys, xs[i], ys[i], q1, q2, by simp [hlt], by simp [hl2]⟩, by omega, CompM P i k js σ, fun σ3 zs H3 z => ⟨xs.length - (i + 1), by omega, rfl, hlt, z.1, z.2⟩, fun v H' y => ?_⟩
    obtain ⟨x, y, pa, rfl, hn, rfl, hx, hy⟩ := y
    exact hs i x y zs H pa os ho (hx xs q1) (hy ys q2) p hn
  · have e : i = xs.length := by omega
    subst e
    exact .inl ⟨⟨xs, ys, q1, q2, .inl (Nat.le_refl _)⟩, hd zs H p⟩
end L2

/-! is, is not of truths; int of a truth; data with an empty dict among it -/
namespace L2
open PySem PySem.Spec PyProof.Rows
section
variable {X : Cx}
theorem op_isB : OpR X (compareOp .Is) (fun x y H Q => ∃ b c, x = .bl b ∧ y = .bl c ∧ Q (.bl (decide (b = c))) H) := by
  intro pins s σ H x y v u Q I rx ry h
  obtain ⟨b, c, rfl, rfl, q⟩ := h
  cases rx
  cases ry
  refine wpAny_is_plain (by cases b <;> cases c <;> rfl) (fin_bl I q ?_)
  cases b <;> cases c <;> rfl
theorem op_notB : OpR X (compareOp .IsNot) (fun x y H Q => ∃ b c, x = .bl b ∧ y = .bl c ∧ Q (.bl (!decide (b = c))) H) := by
  intro pins s σ H x y v u Q I rx ry h
  obtain ⟨b, c, rfl, rfl, q⟩ := h
  cases rx
  cases ry
  refine wpAny_isNot_plain (by cases b <;> cases c <;> rfl) (fin_bl I q ?_)
  cases b <;> cases c <;> rfl
theorem call_int_bl : CallR X (.type "int") (fun xs H Q => ∃ b : Bool, xs = [.bl b] ∧ Q (.int (if b then 1 else 0)) H) := by
  intro pins s σ H xs us Q I r h
  obtain ⟨b, rfl, q⟩ := h
  obtain ⟨u, rfl, r1⟩ := vals1 r
  cases r1
  exact call_int_bool ⟨.int _, H, I.tok _, ⟨_, rfl⟩, q⟩
end
/-- data, or a dict at the top -/
def DatT (K : PySem.W.Frag) (H : Hp) (x : V) (d : PyData) : Prop := Dat K H x d ∨ (∃ a kvs, x = .ref a ∧ H a = some (.dK kvs)) ∧ d = .dict []
def tyD : PyData → String
  | .none => "NoneType"
  | .bool _ => "bool"
  | .int _ => "int"
  | .str _ => "str"
  | .list _ => "list"
  | .tuple _ => "tuple"
  | .dict _ => "dict"
theorem Dat.ty {K : PySem.W.Frag} {H : Hp} {x : V} {d : PyData} (h : Dat K H x d) : tyN K x H (tyD d) := by
  cases h with
  | lst h _ => exact .inl ⟨rfl, _, h⟩
  | tup h _ => exact .inr ⟨rfl, _, h⟩
  | _ => rfl
theorem DatT.ty {K : PySem.W.Frag} {H : Hp} {x : V} {d : PyData} (h : DatT K H x d) : tyM K x H (tyD d) := by
  rcases h with h | ⟨⟨a, kvs, rfl, h⟩, rfl⟩
  · exact .inl h.ty
  · exact .inr ⟨rfl, a, kvs, rfl, h⟩
theorem DatT.same {K : PySem.W.Frag} {H H' : Hp} {x : V} {d : PyData} (h : DatT K H x d) (g : Same H H') : DatT K H' x d := by
  rcases h with h | ⟨⟨a, kvs, rfl, h⟩, rfl⟩
  · exact .inl (h.same g)
  · exact .inr ⟨⟨a, kvs, rfl, g _ _ h⟩, rfl⟩
theorem DatAll.length {K : PySem.W.Frag} {H : Hp} : ∀ {xs : List V} {ds : List PyData}, DatAll K H xs ds → xs.length = ds.length
  | _, _, .nil => rfl
  | _, _, .cons _ t => congrArg (· + 1) (DatAll.length t)
theorem DatAll.get {K : PySem.W.Frag} {H : Hp} : ∀ {xs : List V} {ds : List PyData} {i : Nat} {x : V}, DatAll K H xs ds → xs[i]? = some x → ∃ d, ds[i]? = some d ∧ Dat K H x d
  | _, _, _, _, .nil, e => by simp at e
  | _, _, 0, _, .cons h _, e => by simp at e; subst e; exact ⟨_, rfl, h⟩
  | _, _, i + 1, x, .cons _ t, e => by
    obtain ⟨d, h1, h2⟩ := DatAll.get (i := i) (x := x) t (by simpa using e)
    exact ⟨d, by simpa using h1, h2⟩
theorem DatAll.app {K : PySem.W.Frag} {H : Hp} : ∀ {xs ys : List V} {ds es : List PyData}, DatAll K H xs ds → DatAll K H ys es → DatAll K H (xs ++ ys) (ds ++ es)
  | _, _, _, _, .nil, s => s
  | _, _, _, _, .cons h t, s => .cons h (DatAll.app t s)
theorem DatAll.take {K : PySem.W.Frag} {H : Hp} : ∀ {xs : List V} {ds : List PyData} (n : Nat), DatAll K H xs ds → DatAll K H (xs.take n) (ds.take n)
  | _, _, 0, _ => .nil
  | _, _, _ + 1, .nil => .nil
  | _, _, n + 1, .cons h t => .cons h (DatAll.take n t)
theorem DatAll.drop {K : PySem.W.Frag} {H : Hp} : ∀ {xs : List V} {ds : List PyData} (n : Nat), DatAll K H xs ds → DatAll K H (xs.drop n) (ds.drop n)
  | _, _, 0, h => h
  | _, _, _ + 1, .nil => .nil
  | _, _, n + 1, .cons _ t => DatAll.drop n t
end L2

namespace L2
open PySem
theorem new_facts {H H1 : Hp} {p : Addr} {o : HO} (e : upd H p o = H1) (hp : H p = none) : Same H H1 ∧ H1 p = some o := by
  subst e
  exact ⟨fun b u q => by rw [upd_ne (ne_of_none q hp)]; exact q, upd_same⟩
theorem Same.at {H H1 : Hp} {a : Addr} {o : HO} (g : Same H H1) (h : H a = some o) : H1 a = some o := g _ _ h
theorem Same.tp {K : PySem.W.Frag} {H H' : Hp} {a : Addr} {xs : List V} (e : Same H H') (h : SqT K H a xs) : SqT K H' a xs := by
  rcases h with (h | ⟨o, h⟩) | h
  · exact .inl (.inl (e _ _ h))
  · exact .inl (.inr ⟨o, e _ _ h⟩)
  · exact .inr h
theorem Same.dt {K : PySem.W.Frag} {H H' : Hp} {x : V} {d : PyData} (g : Same H H') (h : Dat K H x d) : Dat K H' x d := h.same g
theorem Same.dts {K : PySem.W.Frag} {H H' : Hp} {xs : List V} {ds : List PyData} (g : Same H H') (h : DatAll K H xs ds) : DatAll K H' xs ds := h.same g
/-- the same, where it is stored (after `dsimp only [gName]`) -/
theorem joinA {v : V} {H' : Hp} {te : TE} {g : TG} {u : TS} {D : Ends} {σ : St} {H : Hp} (hk : g v σ H' (u D)) (h : ∀ Q : VK, Q v H' → te σ H Q) : tSeq (tAsg te g) u D σ H := h _ hk
theorem joinQ (P : St → Hp → Prop) {D : Ends} {rest : TS} {c : TT} {t u : TS} {σ : St} {H : Hp} (hk : ∀ σ' H', P σ' H' → rest D σ' H') (h : ∀ nx : St → Hp → Prop, (∀ σ' H', P σ' H' → nx σ' H') → tIfS c t u { D with nx := nx } σ H) : tSeq (tIfS c t u) rest D σ H := h (rest D) hk
end L2

local macro_rules | `(tactic| walk_at "hp") => `(tactic| first
  | assumption
  | exact L2.upd_same
  | exact L2.Same.refl _
  | (refine' L2.Same.at ?k1 ?_; (case k1 => assumption); walk_at "hp"; done)
  | (refine L2.SqL.of ?_; walk_at "hp"; done)
  | (refine L2.SqT.of ?_; walk_at "hp"; done)
  | (refine' L2.Same.seq ?k1 ?_; (case k1 => assumption); walk_at "hp"; done)
  | (refine' L2.Same.tp ?k1 ?_; (case k1 => assumption); walk_at "hp"; done)
  | (refine' L2.Same.dt ?k1 ?_; (case k1 => assumption); walk_at "hp"; done)
  | (refine' L2.Same.dts ?k1 ?_; (case k1 => assumption); walk_at "hp"; done)
  | (refine' L2.Same.dtt ?k1 ?_; (case k1 => assumption); walk_at "hp"; done)
  | (refine' L2.Same.trans ?_ ?k1; (case k1 => assumption); walk_at "hp"; done))
local macro_rules | `(tactic| walk_at "al") => `(tactic| (intro pX hX; generalize eX : L2.upd _ pX _ = HX; obtain ⟨gX, kX⟩ := L2.new_facts eX hX; clear eX))
local macro_rules | `(tactic| o_unpack $r:ident) => `(tactic| (intro $r:ident hX; generalize eX : L2.upd _ $r:ident _ = HX; obtain ⟨gX, kX⟩ := L2.new_facts eX hX; clear eX))
local macro_rules | `(tactic| walk_at "ch") => `(tactic| (generalize eX : L2.upd _ _ _ = HX; obtain ⟨gX, kX⟩ := L2.chg_facts eX; clear eX))
local macro_rules | `(tactic| walk_at "rd") => `(tactic| repeat first
  | (refine ⟨_, rfl, ?_⟩)
  | (refine ⟨_, _, rfl, rfl, ?_⟩)
  | (refine ⟨_, _, rfl, rfl, ⟨by decide, by decide⟩, ?_⟩)
  | (refine' ⟨_, _, rfl, .inl ?k1, ?_⟩; (case k1 => walk_at "hp"))
  | (refine' ⟨_, _, _, _, rfl, rfl, ?k1, ?k2, ?_⟩; (case k1 => walk_at "hp"); (case k2 => rfl)))
namespace M49
/-- the first of each -/
def firsts : List Int → List Int
  | [] => []
  | y :: ys => y :: (firsts ys).filter (fun z => decide (z ≠ y))
theorem fd_nodup : ∀ l : List Int, (firsts l).Nodup
  | [] => List.nodup_nil
  | y :: ys => by
    refine List.nodup_cons.mpr ⟨fun h => ?_, (fd_nodup ys).filter _⟩
    simp at h
/-- the lines that a store of B has behind these touches, the last first -/
def held (pre : List Int) (B : Nat) : List Int := (firsts pre.reverse).take B
theorem held_len (pre : List Int) (B : Nat) : (held pre B).length ≤ B := by
  unfold held; rw [List.length_take]; exact Nat.min_le_left _ _
theorem held_nil (B : Nat) : held [] B = [] := by simp [held, firsts]
theorem take_in {x : Int} : ∀ {L : List Int} {B : Nat}, L.Nodup → x ∈ L.take B → (L.filter (fun z => decide (z ≠ x))).take (B - 1) = (L.take B).erase x
  | [], B, _, h => by simp at h
  | y :: L, 0, _, h => by simp at h
  | y :: L, b + 1, hn, h => by
    obtain ⟨h1, h2⟩ := List.nodup_cons.mp hn
    by_cases e : y = x
    · subst e
      have : L.filter (fun z => decide (z ≠ y)) = L := List.filter_eq_self.mpr fun z hz => decide_eq_true fun w => h1 (w ▸ hz)
      rw [List.filter_cons_of_neg (by simp), this]
      show L.take b = (y :: L.take b).erase y
      rw [List.erase_cons_head]
    · have h' : x ∈ L.take b := by
        rcases List.mem_cons.mp (show x ∈ y :: L.take b from h) with w | w
        · exact absurd w.symm e
        · exact w
      obtain ⟨c, rfl⟩ : ∃ c, b = c + 1 := by
        cases b with
        | zero => simp at h'
        | succ c => exact ⟨c, rfl⟩
      have ih := take_in (B := c + 1) h2 h'
      rw [List.filter_cons_of_pos (by simpa using e)]
      show y :: (L.filter _).take c = (y :: L.take (c + 1)).erase x
      rw [List.erase_cons_tail (by simpa using e), ← ih]; rfl
theorem take_out {x : Int} : ∀ {L : List Int} {B : Nat}, x ∉ L.take B → (L.filter (fun z => decide (z ≠ x))).take (B - 1) = L.take (B - 1)
  | [], B, _ => by simp
  | y :: L, 0, _ => by simp
  | y :: L, b + 1, h => by
    have h' : x ∉ y :: L.take b := h
    have e : y ≠ x := fun w => h' (by rw [w]; exact List.mem_cons_self ..)
    rw [List.filter_cons_of_pos (by simpa using e)]
    cases b with
    | zero => simp
    | succ c =>
      have ih := take_out (L := L) (B := c + 1) (fun w => h' (List.mem_cons_of_mem _ w))
      show y :: (L.filter _).take c = y :: L.take c
      rw [show c = c + 1 - 1 from rfl, ih]
/-- what a touch makes of the lines -/
def tchL (B : Nat) (hs : List Int) (x : Int) : List Int := if x ∈ hs then x :: hs.erase x else if hs.length = B then (x :: hs).dropLast else x :: hs
/-- the line that goes out -/
def outO (B : Nat) (hs : List Int) (x : Int) : Option Int := if x ∈ hs then none else if hs.length = B then hs.getLast? else none
theorem held_touch {pre : List Int} {x : Int} {B : Nat} (hB : 1 ≤ B) : tchL B (held pre B) x = held (pre ++ [x]) B := by
  obtain ⟨b, rfl⟩ : ∃ b, B = b + 1 := ⟨B - 1, by omega⟩
  have e : held (pre ++ [x]) (b + 1) = x :: ((firsts pre.reverse).filter (fun z => decide (z ≠ x))).take b := by
    unfold held; rw [List.reverse_append]; rfl
  rw [e]
  unfold tchL
  by_cases h : x ∈ held pre (b + 1)
  · rw [if_pos h]
    have := take_in (B := b + 1) (fd_nodup pre.reverse) h
    rw [show b = b + 1 - 1 from rfl, this]; rfl
  · rw [if_neg h]
    have := take_out (B := b + 1) h
    rw [show ((firsts pre.reverse).filter (fun z => decide (z ≠ x))).take b = (firsts pre.reverse).take b from this]
    by_cases h2 : (held pre (b + 1)).length = b + 1
    · rw [if_pos h2, List.dropLast_eq_take, List.length_cons, h2]
      show x :: (held pre (b + 1)).take b = _
      unfold held
      rw [List.take_take, Nat.min_eq_left (by omega)]
    · rw [if_neg h2]
      have h3 := held_len pre (b + 1)
      unfold held at h2 h3 ⊢
      rw [List.length_take] at h2 h3
      rw [List.take_of_length_le (by omega), List.take_of_length_le (by omega)]
abbrev Row := Int × Bool × Option Int
def row (B : Nat) (hs : List Int) (x : Int) : Row := (x, decide (x ∉ hs), outO B hs x)
def dueL (ns : List Int) (B i : Nat) : List Row := (List.range i).map fun k => row B (held (ns.take k) B) (ns.getD k 0)
theorem dueL_succ (ns : List Int) (B i : Nat) : dueL ns B (i + 1) = dueL ns B i ++ [row B (held (ns.take i) B) (ns.getD i 0)] := by
  unfold dueL; rw [List.range_succ, List.map_append]; rfl
theorem dueL_length (ns : List Int) (B i : Nat) : (dueL ns B i).length = i := by unfold dueL; rw [List.length_map, List.length_range]
end M49

namespace M51
open PySem M49 L2
def isB : PyData → Bool
  | .bool _ => true
  | _ => false
def isAt : PyData → Bool
  | .none => true
  | .bool _ => true
  | .int _ => true
  | .str x => PyData.canLay0 (.str x)
  | _ => false
def al0 (d w : PyData) : Bool := if isB d != isB w then false else PyData.eqv d w
def alAll (f : PyData → PyData → Bool) : List PyData → List PyData → Bool
  | [], [] => true
  | d :: ds, w :: ws => f d w && alAll f ds ws
  | _, _ => false
def al : Nat → PyData → PyData → Bool
  | 0, d, w => al0 d w
  | n + 1, d, w => match w with
    | .list ws => (match d with | .list ds => alAll (al n) ds ws | _ => false)
    | .tuple ws => (match d with | .tuple ds => alAll (al n) ds ws | _ => false)
    | w => al0 d w
def fits : Nat → PyData → PyData → Prop
  | 0, d, w => isAt d = true ∧ isAt w = true
  | n + 1, d, w => (isAt d = true ∧ isAt w = true) ∨ (∃ ws, w = .list ws ∧ ws.length ≤ 100 ∧ ∀ ds, d = .list ds → ∀ (i : Nat) d w, ds[i]? = some d → ws[i]? = some w → fits n d w) ∨ (∃ ws, w = .tuple ws ∧ ws.length ≤ 100 ∧ ∀ ds, d = .tuple ds → ∀ (i : Nat) d w, ds[i]? = some d → ws[i]? = some w → fits n d w)
theorem al_at {n : Nat} {d w : PyData} (h : isAt w = true) : al n d w = al0 d w := by
  cases n with
  | zero => rfl
  | succ n => cases w <;> first | rfl | cases h
theorem alAll_len {f : PyData → PyData → Bool} : ∀ {ds ws : List PyData}, ds.length ≠ ws.length → alAll f ds ws = false
  | [], [], h => absurd rfl h
  | [], _ :: _, _ => rfl
  | _ :: _, [], _ => rfl
  | d :: ds, w :: ws, h => by
    show (f d w && alAll f ds ws) = false
    rw [alAll_len (ds := ds) (ws := ws) (fun e => h (congrArg (· + 1) e)), Bool.and_false]
theorem alAll_at {f : PyData → PyData → Bool} : ∀ {ds ws : List PyData} (i : Nat) {d w : PyData}, ds[i]? = some d → ws[i]? = some w → f d w = false → alAll f ds ws = false
  | [], _, _, _, _, h, _, _ => by simp at h
  | _ :: _, [], _, _, _, _, h, _ => by simp at h
  | d :: ds, w :: ws, 0, _, _, h, h', e => by
    simp at h h'; subst h; subst h'
    show (f d w && alAll f ds ws) = false
    rw [e, Bool.false_and]
  | d :: ds, w :: ws, i + 1, _, _, h, h', e => by
    show (f d w && alAll f ds ws) = false
    rw [alAll_at i (by simpa using h) (by simpa using h') e, Bool.and_false]
theorem alAll_all {f : PyData → PyData → Bool} : ∀ {ds ws : List PyData}, ds.length = ws.length → alAll f ds ws = ((List.range ds.length).map fun i => f (ds.getD i .none) (ws.getD i .none)).all id
  | [], [], _ => rfl
  | [], _ :: _, h => by cases h
  | _ :: _, [], h => by cases h
  | d :: ds, w :: ws, h => by
    show (f d w && alAll f ds ws) = _
    rw [alAll_all (ds := ds) (ws := ws) (Nat.succ.inj h), List.length_cons, List.range_succ_eq_map, List.map_cons, List.all_cons, List.map_map]
    rfl
/-- bits so far -/
def bits (f : PyData → PyData → Bool) (ds ws : List PyData) (i : Nat) : List Bool := (List.range i).map fun i => f (ds.getD i .none) (ws.getD i .none)
theorem bits_succ (f : PyData → PyData → Bool) (ds ws : List PyData) (i : Nat) : bits f ds ws (i + 1) = bits f ds ws i ++ [f (ds.getD i .none) (ws.getD i .none)] := by
  unfold bits; rw [List.range_succ, List.map_append]; rfl
theorem bits_length (f : PyData → PyData → Bool) (ds ws : List PyData) (i : Nat) : (bits f ds ws i).length = i := by unfold bits; rw [List.length_map, List.length_range]
theorem getD_of {ds : List PyData} {i : Nat} {d : PyData} (h : ds[i]? = some d) : ds.getD i .none = d := by
  rw [List.getD_eq_getElem?_getD, h]; rfl
def outD : Option Int → PyData
  | none => .none
  | some i => .int i
def rowD (r : Row) : PyData := .tuple [.int r.1, .bool r.2.1, outD r.2.2]
theorem at_out (o : Option Int) : isAt (outD o) = true := by cases o <;> rfl
/-- what may stand for a row: if a tuple, its items are plain -/
def rowish (d : PyData) : Prop := ∀ ds, d = .tuple ds → ∀ e ∈ ds, isAt e = true
theorem rowish_row (r : Row) : rowish (rowD r) := fun ds e x hx => by
  cases e
  simp only [List.mem_cons, List.not_mem_nil, or_false] at hx
  rcases hx with rfl | rfl | rfl
  · rfl
  · rfl
  · exact at_out _
theorem fits_row {d : PyData} (r : Row) (h : rowish d) : fits 1 d (rowD r) := by
  refine .inr (.inr ⟨_, rfl, (by show 3 ≤ 100; decide), fun ds e i x w hx hw => ⟨h ds e x (List.mem_of_getElem? hx), ?_⟩⟩)
  have := List.mem_of_getElem? hw
  simp only [List.mem_cons, List.not_mem_nil, or_false] at this
  rcases this with rfl | rfl | rfl
  · rfl
  · rfl
  · exact at_out _
theorem fits_rows {ds : List PyData} (rs : List Row) (hl : rs.length ≤ 100) (h : ∀ d ∈ ds, rowish d) : fits 2 (.list ds) (.list (rs.map rowD)) := by
  refine .inr (.inl ⟨_, rfl, (by rw [List.length_map]; exact hl), fun ds' e i x w hx hw => ?_⟩)
  cases e
  rw [List.getElem?_map] at hw
  cases q : rs[i]? with
  | none => rw [q] at hw; cases hw
  | some r => rw [q] at hw; cases hw; exact fits_row r (h x (List.mem_of_getElem? hx))
theorem al0_refl : ∀ {d : PyData}, isAt d = true → al0 d d = true
  | .none, _ => rfl
  | .bool b, _ => by cases b <;> rfl
  | .int i, _ => by show (i == i) = true; simp
  | .str x, _ => by show (x == x) = true; simp
theorem al_row (r : Row) : al 1 (rowD r) (rowD r) = true := by
  show (al0 _ _ && (al0 _ _ && (al0 _ _ && true))) = true
  rw [al0_refl rfl, al0_refl rfl, al0_refl (at_out _)]; rfl
theorem al_rows : ∀ rs : List Row, alAll (al 1) (rs.map rowD) (rs.map rowD) = true
  | [] => rfl
  | r :: rs => by
    show (al 1 (rowD r) (rowD r) && alAll (al 1) (rs.map rowD) (rs.map rowD)) = true
    rw [al_row, al_rows rs]; rfl
theorem al_same (rs : List Row) : al 2 (.list (rs.map rowD)) (.list (rs.map rowD)) = true := al_rows rs
theorem al0_eqv {d w : PyData} (h : al0 d w = true) : PyData.eqv d w = true := by
  unfold al0 at h
  split at h
  · cases h
  · exact h
theorem al_row_eqv (r r' : Row) (h : al 1 (rowD r) (rowD r') = true) : PyData.eqv (rowD r) (rowD r') = true := by
  have h : (al0 (.int r.1) (.int r'.1) && (al0 (.bool r.2.1) (.bool r'.2.1) && (al0 (outD r.2.2) (outD r'.2.2) && true))) = true := h
  simp only [Bool.and_eq_true, and_true] at h
  show (PyData.eqv (.int r.1) (.int r'.1) && (PyData.eqv (.bool r.2.1) (.bool r'.2.1) && (PyData.eqv (outD r.2.2) (outD r'.2.2) && true))) = true
  rw [al0_eqv h.1, al0_eqv h.2.1, al0_eqv h.2.2]; rfl
theorem al_rows_eqv : ∀ (rs rs' : List Row), alAll (al 1) (rs.map rowD) (rs'.map rowD) = true → PyData.eqvAll (rs.map rowD) (rs'.map rowD) = true
  | [], [], _ => rfl
  | [], _ :: _, h => by cases h
  | _ :: _, [], h => by cases h
  | r :: rs, r' :: rs', h => by
    have h : (al 1 (rowD r) (rowD r') && alAll (al 1) (rs.map rowD) (rs'.map rowD)) = true := h
    rw [Bool.and_eq_true] at h
    show (PyData.eqv (rowD r) (rowD r') && PyData.eqvAll (rs.map rowD) (rs'.map rowD)) = true
    rw [al_row_eqv _ _ h.1, al_rows_eqv _ _ h.2]; rfl
theorem al_other {rs rs' : List Row} (h : PyData.eqv (.list (rs.map rowD)) (.list (rs'.map rowD)) = false) : al 2 (.list (rs.map rowD)) (.list (rs'.map rowD)) = false := by
  cases e : al 2 (.list (rs.map rowD)) (.list (rs'.map rowD)) with
  | false => rfl
  | true =>
    have h : PyData.eqvAll (rs.map rowD) (rs'.map rowD) = false := h
    rw [al_rows_eqv rs rs' e] at h
    exact h
/-- three items against a row -/
theorem al_three (a b c : PyData) (r : Row) : al 1 (.tuple [a, b, c]) (rowD r) = (al0 a (.int r.1) && (al0 b (.bool r.2.1) && (al0 c (outD r.2.2) && true))) := rfl
theorem eqv_nil (ds : List PyData) : PyData.eqv (.list ds) (.list []) = ds.isEmpty := by cases ds <;> rfl
/-- the lines held, by the law's own way -/
theorem held_own {pre : List Int} {x : Int} {B : Nat} : x :: ((held pre B).filter fun z => decide (z ≠ x)).take (B - 1) = x :: ((firsts pre.reverse).filter fun z => decide (z ≠ x)).take (B - 1) := by
  unfold held
  have nd := fd_nodup pre.reverse
  generalize firsts pre.reverse = L at nd
  congr 1
  by_cases h : x ∈ L.take B
  · rw [take_in nd h]
    have nt : (L.take B).Nodup := (List.take_sublist B L).nodup nd
    rw [show (fun z : Int => decide (z ≠ x)) = (fun z => z != x) from by funext z; rw [Bool.eq_iff_iff]; simp, ← nt.erase_eq_filter]
    have l1 : ((L.take B).erase x).length = (L.take B).length - 1 := List.length_erase_of_mem h
    have l2 : (L.take B).length ≤ B := by rw [List.length_take]; exact Nat.min_le_left _ _
    exact List.take_of_length_le (by omega)
  · rw [take_out h, List.filter_eq_self.mpr (fun z hz => by
      by_cases e : z = x
      · subst e; exact absurd hz h
      · simp [e]), List.take_take, Nat.min_eq_left (Nat.sub_le _ _)]
theorem firsts_cons (x : Int) (l : List Int) : firsts (x :: l) = x :: (firsts l).filter fun z => decide (z ≠ x) := rfl
theorem held_next {pre : List Int} {x : Int} {B : Nat} (hB : 1 ≤ B) : held (pre ++ [x]) B = x :: ((held pre B).filter fun z => decide (z ≠ x)).take (B - 1) := by
  rw [held_own]
  unfold held
  rw [List.reverse_append, List.reverse_singleton, List.singleton_append, firsts_cons]
  obtain ⟨n, rfl⟩ : ∃ n, B = n + 1 := ⟨B - 1, by omega⟩
  rfl
theorem fits_no {d : PyData} (rs : List Row) (hl : rs.length ≤ 100) (h : ∀ ds, d ≠ .list ds) : fits 2 d (.list (rs.map rowD)) := .inr (.inl ⟨_, rfl, (by rw [List.length_map]; exact hl), fun ds e => absurd e (h ds)⟩)
def isL : PyData → Bool
  | .list _ => true
  | _ => false
def isT : PyData → Bool
  | .tuple _ => true
  | _ => false
theorem isaL (w : PyData) : isa (tyD w) "list" = isL w := by cases w <;> rfl
theorem isaT (w : PyData) : isa (tyD w) "tuple" = isT w := by cases w <;> rfl
theorem isaB (w : PyData) : isa (tyD w) "bool" = isB w := by cases w <;> rfl
theorem at_shaped : ∀ {d : PyData}, isAt d = true → SeqAt.shaped d = true
  | .none, _ => rfl
  | .bool _, _ => rfl
  | .int _, _ => rfl
  | .str x, h => by
    show (PyData.canLay0 (.str x) && decide (PyData.depth (.str x) ≤ 64)) = true
    rw [show PyData.canLay0 (.str x) = true from h]; rfl
theorem log2_lt100 {n : Nat} (h : n < 2 ^ 100) : n.log2 < 100 := by
  by_cases h0 : n = 0
  · subst h0; decide
  · exact (Nat.log2_lt h0).mpr h
theorem ok100 : ∀ n : Fin 100, PyData.canLay0 (.str (Str.ofString (toString ((n.val : Nat) : Int)))) = true := by decide +kernel
theorem fil_take {hs : List Int} {i : Nat} {x : Int} (p : Int → Bool) (h : hs[i]? = some x) : (hs.take (i + 1)).filter p = (hs.take i).filter p ++ (if p x = true then [x] else []) := by
  have e : hs.take (i + 1) = hs.take i ++ [x] := by rw [List.take_add_one, h] <;> rfl
  rw [e, List.filter_append]
  congr 1
  by_cases z : p x = true
  · rw [if_pos z]; simp [z]
  · rw [if_neg z]; simp [z]
theorem cut_rest (xs : List V) (k : Nat) : cutV xs (some (k : Int)) none = xs.drop k := by
  unfold cutV
  rw [HT.sIx_none, HT.sIx_nat]
  by_cases h : k ≤ xs.length
  · rw [Nat.min_eq_left h, List.take_of_length_le (by rw [List.length_drop]; omega)]
  · rw [Nat.min_eq_right (by omega), List.drop_length, List.take_nil, List.drop_of_length_le (by omega)]
theorem al_f1 {a b c : PyData} {r : Row} (h : al0 a (.int r.1) = false) : al 1 (.tuple [a, b, c]) (rowD r) = false := by rw [al_three, h, Bool.false_and]
theorem al_f2 {a b c : PyData} {r : Row} (h : al0 b (.bool r.2.1) = false) : al 1 (.tuple [a, b, c]) (rowD r) = false := by rw [al_three, h, Bool.false_and, Bool.and_false]
theorem al_f3 {a b c : PyData} {r : Row} (h : al0 c (outD r.2.2) = false) : al 1 (.tuple [a, b, c]) (rowD r) = false := by rw [al_three, h, Bool.false_and, Bool.and_false, Bool.and_false]
theorem al_more (i : Int) : al0 (.int (i + 1)) (.int i) = false := by
  show ((i + 1 : Int) == i) = false
  simp
  omega
theorem al_not (b : Bool) : al0 (.bool (!b)) (.bool b) = false := by cases b <;> rfl
theorem rowish_all {ds : List PyData} (h : ds.all isAt = true) : rowish (.tuple ds) := fun es e x hx => by
  cases e
  exact List.all_eq_true.mp h x hx
theorem ok_mod (i : Int) : isAt (.str (Str.ofString (toString (i % 100)))) = true := by
  have h := ok100 ⟨(i % 100).toNat, by omega⟩
  rw [show (((⟨(i % 100).toNat, by omega⟩ : Fin 100).val : Nat) : Int) = i % 100 by show (((i % 100).toNat : Nat) : Int) = i % 100; omega] at h
  exact h
theorem cut_two (xs : List V) (f e : Nat) (h : f ≤ e) (he : e ≤ xs.length) : cutV xs (some (f : Int)) (some (e : Int)) = (xs.drop f).take (e - f) := by
  unfold cutV
  rw [HT.sIx_nat, HT.sIx_nat, Nat.min_eq_left he, Nat.min_eq_left (Nat.le_trans h he)]
theorem cut_last (xs : List V) (h : 0 < xs.length) : cutV xs (some (-1)) none = xs.drop (xs.length - 1) := by
  unfold cutV
  have : HT.sIx xs.length 0 (some (-1)) = xs.length - 1 := by
    show (if (-1 : Int) < 0 then ((-1 : Int) + (xs.length : Int)).toNat else min (-1 : Int).toNat xs.length) = _
    rw [if_pos (by decide)]
    omega
  rw [this, HT.sIx_none, List.take_of_length_le (by rw [List.length_drop]; omega)]
theorem rowish_sub {ds : List PyData} {rs : List Row} (h : ∀ d ∈ ds, d ∈ rs.map rowD) : ∀ d ∈ ds, rowish d := fun d hd => by
  obtain ⟨r, _, rfl⟩ := List.mem_map.mp (h d hd)
  exact rowish_row r
theorem mem_take {ds : List PyData} {d : PyData} {n : Nat} (h : d ∈ ds.take n) : d ∈ ds := List.mem_of_mem_take h
theorem mem_drop {ds : List PyData} {d : PyData} {n : Nat} (h : d ∈ ds.drop n) : d ∈ ds := List.mem_of_mem_drop h
end M51

namespace K51
open PySem L2 M49 M51
/-! the text by places -/
def top (i : Nat) : Stmt := PySem.Challenge.pw_roomslaid_k51_fetches_forged.main.body.getD i (.Pass ⟨0, 0, 0, 0⟩)
def inClass : Stmt → Nat → Stmt
  | .ClassDef _ _ _ body _ _ _ _ _ _ _, j => body.getD j (.Pass ⟨0, 0, 0, 0⟩)
  | s, _ => s

theorem iteP {c A B : Prop} [Decidable c] (hc : c) (h : A) : if c then A else B := by rw [if_pos hc]; exact h
theorem iteN {c A B : Prop} [Decidable c] (hc : ¬ c) (h : B) : if c then A else B := by rw [if_neg hc]; exact h
/-- the built-in names are as they were -/
structure Blt (mg : Str → Option Value) : Prop where
  range : mg "range" = none
  len : mg "len" = none
  isinstance : mg "isinstance" = none
  int : mg "int" = none
  bool : mg "bool" = none
  list : mg "list" = none
  all : mg "all" = none
  max : mg "max" = none
  min : mg "min" = none
  reversed : mg "reversed" = none
  tuple : mg "tuple" = none
  divmod : mg "divmod" = none
  zip : mg "zip" = none
  str : mg "str" = none
/-- a def as its callers see it -/
structure Df (K : PySem.W.Frag) (mg : Str → Option Value) (x : Str) (f : Addr) (fd : FuncData) (ps : List Str) : Prop where
  m : mg x = some (.ref f)
  k : PySem.W.keepIn K (.ref f) = true
  b : Binds K fd ps []
/-- the state of the draws: a list of three ints -/
def St3 (H : Hp) (p : Addr) : Prop := ∃ a b c : Int, H p = some (.lst [.int a, .int b, .int c])
/-- the state at p has turned, new things may have come, all else is as it was -/
def Drawn (p : Addr) (H H' : Hp) : Prop := St3 H' p ∧ ∀ b o, b ≠ p → H b = some o → H' b = some o
theorem same_new {H : Hp} {p : Addr} (h : H p = none) (o : HO) : Same H (upd H p o) := fun b u q => by rw [upd_ne (ne_of_none q h)]; exact q
theorem small {n : Nat} (h : n ≤ 1000) : n ≤ sizeLine := Nat.le_of_lt (small1000 h)
theorem get_ints {ns : List Int} {i : Nat} {x : V} (h : (ns.map V.int)[i]? = some x) : ∃ c, ns[i]? = some c ∧ x = .int c := by
  rw [List.getElem?_map] at h
  cases e : ns[i]? with
  | none => rw [e] at h; cases h
  | some c => rw [e] at h; cases h; exact ⟨c, rfl, rfl⟩
theorem take_snoc {ns : List Int} {i : Nat} {c : Int} (h : ns[i]? = some c) : ns.take (i + 1) = ns.take i ++ [c] := by
  rw [List.take_add_one, h] <;> rfl
def spDraw : Sp := fun vs H Q _ => ∃ (p : Addr) (m : Int), vs = [.ref p, .int m] ∧ 0 < m ∧ m < 1073741824 ∧ St3 H p ∧ ∀ (v : Int) (H' : Hp), 0 ≤ v → v < m → Drawn p H H' → Q (.int v) H'
def spCell (K : PySem.W.Frag) : Sp := fun vs H Q _ => ∃ (a : Addr) (ns : List Int) (k : Int), vs = [.ref a, .int k] ∧ SqL K H a (ns.map V.int) ∧ 0 ≤ k ∧ k < 64 ∧ ∀ v : Int, Q (.int v) H
def spBegun : Sp := fun vs H Q _ => ∃ c : Int, vs = [.int c] ∧ ∀ (p : Addr) (H' : Hp), H p = none → Drawn p H H' → Q (.ref p) H'
def spWhole : Sp := fun vs H Q _ => ∃ i : Int, vs = [.int i] ∧ Q (.bl true) H
def spLaw (K : PySem.W.Frag) : Sp := fun vs H Q _ => ∃ (a : Addr) (ns : List Int), vs = [.ref a] ∧ SqL K H a (ns.map V.int) ∧ ns.length ≤ 63 ∧ ∀ H', Q (.bl true) H'
theorem Same.tup {K : PySem.W.Frag} {H H' : Hp} {a : Addr} {xs : List V} (e : Same H H') (h : SqT K H a xs) : SqT K H' a xs := by
  rcases h with (h | ⟨o, h⟩) | h
  · exact .inl (.inl (e _ _ h))
  · exact .inl (.inr ⟨o, e _ _ h⟩)
  · exact .inr h
structure TCls (K : PySem.W.Frag) (mg : Str → Option Value) (x : Str) (C fI : Addr) (as : List Str) : Prop where
  m : mg x = some (.ref C)
  cl : Cls K C
  ma : Mk K C fI
  na : ∀ a ∈ as, NoAttr K C a
structure DfM (K : PySem.W.Frag) (C : Addr) (m : Str) (f : Addr) (fd : FuncData) (ps : List Str) : Prop where
  me : Meth K C m f
  b : Binds K fd ps []
structure DfI (K : PySem.W.Frag) (fd : FuncData) (ps : List Str) : Prop where
  b : Binds K fd ps []

/-- the module's constants -/
structure Cst (K : PySem.W.Frag) (mg : Str → Option Value) (t1 : Tok) : Prop where
  MOST_KEPT : mg "MOST_KEPT" = some (.int 32 t1)
/-- each number drawn is below its bound -/
def Below (vs ms : List Int) : Prop := vs.length = ms.length ∧ ∀ (i : Nat) (v m : Int), vs[i]? = some v → ms[i]? = some m → 0 ≤ v ∧ v < m
theorem Below.nil : Below [] [] := ⟨rfl, fun i v m h => by simp at h⟩
theorem Below.snoc {vs ms : List Int} {i : Nat} {v m : Int} (h : Below vs (ms.take i)) (hm : ms[i]? = some m) (h0 : 0 ≤ v) (h1 : v < m) : Below (vs ++ [v]) (ms.take (i + 1)) := by
  rw [take_snoc hm]
  refine ⟨by rw [List.length_append, List.length_append, h.1]; rfl, fun j x y hx hy => ?_⟩
  by_cases hj : j < vs.length
  · rw [List.getElem?_append_left hj] at hx
    rw [List.getElem?_append_left (by rw [← h.1]; exact hj)] at hy
    exact h.2 j x y hx hy
  · rw [List.getElem?_append_right (by omega)] at hx
    rw [List.getElem?_append_right (by rw [← h.1]; omega), ← h.1] at hy
    cases e : j - vs.length with
    | zero => rw [e] at hx hy; simp at hx hy; subst hx; subst hy; exact ⟨h0, h1⟩
    | succ n => rw [e] at hx; simp at hx
theorem Below.len {vs ms : List Int} {i : Nat} (h : Below vs (ms.take i)) : vs.length ≤ ms.length := by
  rw [h.1, List.length_take]; exact Nat.min_le_right _ _
theorem Below.all {vs ms : List Int} (h : Below vs (ms.take ms.length)) : Below vs ms := by rw [List.take_length] at h; exact h
def spDrawn (K : PySem.W.Frag) : Sp := fun vs H Q _ => ∃ (c : Int) (l : Addr) (ms : List Int), vs = [.int c, .ref l] ∧ SqL K H l (ms.map V.int) ∧ (∀ m ∈ ms, 0 < m ∧ m < 2 ^ 128) ∧ ms.length ≤ 100 ∧
  ∀ (r : Addr) (ws : List Int), H r = none → Below ws ms → Q (.ref r) (upd H r (.lst (ws.map V.int)))

def spCount : Sp := fun vs H Q _ => ∃ x : Int, vs = [.int x] ∧ 0 ≤ x ∧ Q (.bl true) H
def spBtw : Sp := fun vs H Q _ => ∃ x lo hi : Int, vs = [.int x, .int lo, .int hi] ∧ lo ≤ x ∧ x ≤ hi ∧ Q (.bl true) H
def spNKeep : Sp := fun vs H Q _ => ∃ B : Nat, vs = [.int B] ∧ 1 ≤ B ∧ B ≤ 32 ∧ Q .non H
def spNLine : Sp := fun vs H Q _ => ∃ x : Int, vs = [.int x] ∧ 0 ≤ x ∧ Q .non H
def spNLines (K : PySem.W.Frag) : Sp := fun vs H Q _ => ∃ (a : Addr) (ns : List Int), vs = [.ref a] ∧ SqL K H a (ns.map V.int) ∧ (∀ n ∈ ns, 0 ≤ n) ∧ Q .non H
/-- a store of lines at a, its dict at dx, its list at l -/
def Kp (CK : Addr) (H : Hp) (a dx l : Addr) (B : Nat) : Prop := H a = some (.ins CK dx [("bound", .int B), ("held", .ref l)])
def spKInit (CK : Addr) : Sp := fun vs H Q _ => ∃ (a dx : Addr) (B : Nat), vs = [.ref a, .int B] ∧ H a = some (.ins CK dx []) ∧ 1 ≤ B ∧ B ≤ 32 ∧ ∀ l H', H l = none → (∀ b o, b ≠ a → H b = some o → H' b = some o) → Kp CK H' a dx l B → H' l = some (.lst []) → Q .non H'
def outV : Option Int → V
  | none => .non
  | some i => .int i
def spTouch (K : PySem.W.Frag) (CK : Addr) : Sp := fun vs H Q _ => ∃ (a dx l : Addr) (B : Nat) (hs : List Int) (x : Int), vs = [.ref a, .int x] ∧ Kp CK H a dx l B ∧ H l = some (.lst (hs.map V.int)) ∧ 0 ≤ x ∧ hs.length ≤ B ∧ 1 ≤ B ∧ B ≤ 32 ∧
  ∀ (t : Addr) (H' : Hp), But l H H' → H' l = some (.lst ((tchL B hs x).map V.int)) → SqT K H' t [.bl (decide (x ∉ hs)), outV (outO B hs x)] → Q (.ref t) H'
theorem made_kept {CK x dx l : Addr} {H' H2 : Hp} (hx : H' x = none) (hd : H' dx = none) (hl : upd (upd H' dx (.own x)) x (.ins CK dx []) l = none) (hk : ∀ b o, b ≠ x → upd (upd H' dx (.own x)) x (.ins CK dx []) b = some o → H2 b = some o) : Same H' H2 ∧ H' l = none := by
  refine ⟨fun b o q => ?_, ?_⟩
  · have n1 : b ≠ x := ne_of_none q hx
    have n2 : b ≠ dx := ne_of_none q hd
    exact hk b o n1 (by rw [upd_ne n1, upd_ne n2]; exact q)
  · have n1 : l ≠ x := fun z => by rw [z, upd_same] at hl; cases hl
    have n2 : l ≠ dx := fun z => by
      rw [upd_ne n1, z, upd_same] at hl; cases hl
    rw [upd_ne n1, upd_ne n2] at hl; exact hl
/-- a row of fetches, and where it lies -/
abbrev Rw := Addr × Row
def RwAll (K : PySem.W.Frag) (H : Hp) (ts : List Rw) : Prop := ∀ t ∈ ts, SqT K H t.1 [.int t.2.1, .bl t.2.2.1, outV t.2.2.2]
abbrev refs (ts : List Rw) : List V := ts.map fun t => V.ref t.1
theorem RwAll.same {K : PySem.W.Frag} {H H' : Hp} {ts : List Rw} (h : RwAll K H ts) (g : Same H H') : RwAll K H' ts := fun t ht => Same.tup g (h t ht)
theorem RwAll.but {K : PySem.W.Frag} {H H' : Hp} {ts : List Rw} {l : Addr} {zs : List V} (h : RwAll K H ts) (g : But l H H') (hl : H l = some (.lst zs)) : RwAll K H' ts := fun t ht => g.tup hl (h t ht)
theorem RwAll.snoc {K : PySem.W.Frag} {H : Hp} {ts : List Rw} {t : Rw} (h : RwAll K H ts) (ht : SqT K H t.1 [.int t.2.1, .bl t.2.2.1, outV t.2.2.2]) : RwAll K H (ts ++ [t]) := fun u hu => by
  rcases List.mem_append.mp hu with z | z
  · exact h u z
  · rw [List.mem_singleton.mp z]; exact ht
theorem RwAll.nil {K : PySem.W.Frag} {H : Hp} : RwAll K H [] := fun t ht => by simp at ht
theorem refs_snoc {ts : List Rw} {t : Rw} : refs (ts ++ [t]) = refs ts ++ [.ref t.1] := List.map_append
theorem dat_out {K : PySem.W.Frag} {H : Hp} : ∀ o : Option Int, Dat K H (outV o) (outD o)
  | none => .non
  | some i => .int i
theorem dat_rows {K : PySem.W.Frag} {H : Hp} : ∀ {ts : List Rw}, RwAll K H ts → DatAll K H (refs ts) ((ts.map (·.2)).map rowD)
  | [], _ => .nil
  | t :: ts, h => .cons (.tup (h t (List.mem_cons_self ..)) (.cons (.int _) (.cons (.bl _) (.cons (dat_out _) .nil)))) (dat_rows (ts := ts) fun x hx => h x (List.mem_cons_of_mem _ hx))
theorem lay_out : ∀ o : Option Int, PyData.canLay0 (outD o) = true
  | none => rfl
  | some _ => rfl
theorem lay_row (r : Row) : PyData.canLay0 (rowD r) = true := by
  show (PyData.canLay0 (.int r.1) && (PyData.canLay0 (.bool r.2.1) && (PyData.canLay0 (outD r.2.2) && true))) = true
  rw [lay_out]; rfl
theorem lay_rows : ∀ rs : List Row, PyData.canLayAll0 (rs.map rowD) = true
  | [] => rfl
  | r :: rs => by
    show (PyData.canLay0 (rowD r) && PyData.canLayAll0 (rs.map rowD)) = true
    rw [lay_rows rs, lay_row]; rfl
theorem depth_row (r : Row) : PyData.depth (rowD r) ≤ 1 := by
  obtain ⟨a, b, c⟩ := r
  cases c <;> exact Nat.le_refl _
theorem depth_rows : ∀ rs : List Row, PyData.depthAll (rs.map rowD) ≤ 1
  | [] => Nat.zero_le _
  | r :: rs => Nat.max_le.mpr ⟨depth_row r, depth_rows rs⟩
theorem shaped_rows (rs : List Row) : SeqAt.shaped (.list (rs.map rowD)) = true := by
  unfold SeqAt.shaped
  rw [Bool.and_eq_true]
  refine ⟨lay_rows rs, decide_eq_true ?_⟩
  have := depth_rows rs
  show PyData.depthAll _ + 1 ≤ 64
  omega
theorem same_rows (rs : List Row) : PyData.eqv (.list (rs.map rowD)) (.list (rs.map rowD)) = true := PySem.SeqAt.eqv_refl _ (SeqAt.canLay_of_shaped (shaped_rows rs))
/-- a list of rows -/
def RL (K : PySem.W.Frag) (H : Hp) (r : Addr) (rs : List Row) : Prop := ∃ ts : List Rw, H r = some (.lst (refs ts)) ∧ RwAll K H ts ∧ ts.map (·.2) = rs
theorem RL.dat {K : PySem.W.Frag} {H : Hp} {r : Addr} {rs : List Row} (h : RL K H r rs) : Dat K H (.ref r) (.list (rs.map rowD)) := by
  obtain ⟨ts, h1, h2, h3⟩ := h
  subst h3
  exact .lst (SqL.of h1) (dat_rows h2)
theorem rows_len {rs : List Row} {ts : List Rw} (h : ts.map (·.2) = rs) : (refs ts).length = rs.length := by
  rw [← h, List.length_map, List.length_map]
def NumL (ns : List Int) : Prop := ns.length ≤ 80 ∧ ∀ n ∈ ns, 0 ≤ n
def spFetches (K : PySem.W.Frag) : Sp := fun vs H Q _ => ∃ (a : Addr) (ns : List Int) (B : Nat), vs = [.ref a, .int B] ∧ SqL K H a (ns.map V.int) ∧ NumL ns ∧ 1 ≤ B ∧ B ≤ 32 ∧
  ∀ (r : Addr) (H' : Hp), Same H H' → H r = none → RL K H' r (dueL ns B ns.length) → Q (.ref r) H'
def manyR (rs : List Row) : Nat := (rs.filter (·.2.1)).length
def spHow (K : PySem.W.Frag) : Sp := fun vs H Q _ => ∃ (a : Addr) (ns : List Int) (B : Nat), vs = [.ref a, .int B] ∧ SqL K H a (ns.map V.int) ∧ NumL ns ∧ 1 ≤ B ∧ B ≤ 32 ∧
  ∀ H', Same H H' → Q (.int (manyR (dueL ns B ns.length) : Nat)) H'
def spLinesL (K : PySem.W.Frag) : Sp := fun vs H Q _ => ∃ (a : Addr) (ns : List Int), vs = [.ref a] ∧ SqL K H a (ns.map V.int) ∧
  ∀ (r : Addr) (H' : Hp) (ms : List Int), Same H H' → H r = none → NumL ms → H' r = some (.lst (ms.map V.int)) → Q (.ref r) H'
def spLast (K : PySem.W.Frag) : Sp := fun vs H Q _ => ∃ (a : Addr) (ns : List Int) (B : Nat), vs = [.ref a, .int B] ∧ SqL K H a (ns.map V.int) ∧ ns.length ≤ 80 ∧ 1 ≤ B ∧ B ≤ 32 ∧
  ∀ (r : Addr) (H' : Hp), Same H H' → H r = none → H' r = some (.lst ((held ns B).map V.int)) → Q (.ref r) H'
def spDueK (K : PySem.W.Frag) : Sp := fun vs H Q _ => ∃ (a : Addr) (ns : List Int) (B : Nat), vs = [.ref a, .int B] ∧ SqL K H a (ns.map V.int) ∧ ns.length ≤ 80 ∧ 1 ≤ B ∧ B ≤ 33 ∧
  ∀ (r : Addr) (H' : Hp), Same H H' → H r = none → RL K H' r (dueL ns B ns.length) → Q (.ref r) H'
def spKinds (K : PySem.W.Frag) : Sp := fun vs H Q _ => ∃ (a : Addr) (rs : List Row), vs = [.ref a] ∧ RL K H a rs ∧ ∀ H', Same H H' → Q (.bl true) H'
theorem cut_first (xs : List V) (k : Nat) : cutV xs none (some (k : Int)) = xs.take k := by
  unfold cutV
  rw [HT.sIx_none, HT.sIx_nat, Nat.sub_zero, List.drop_zero]
  by_cases h : k ≤ xs.length
  · rw [Nat.min_eq_left h]
  · rw [Nat.min_eq_right (by omega), List.take_of_length_le (Nat.le_refl _), List.take_of_length_le (by omega)]
/-- a part of a list of ints -/
theorem cut_ints (ms : List Int) (f d : Nat) : ∃ ks : List Int, cutV (ms.map V.int) (some (f : Int)) (some (((f + d : Nat)) : Int)) = ks.map V.int ∧ ks.length ≤ d ∧ ∀ k ∈ ks, k ∈ ms := by
  unfold cutV
  rw [HT.sIx_nat, HT.sIx_nat, List.length_map]
  refine ⟨(ms.drop (min f ms.length)).take (min (f + d) ms.length - min f ms.length), by rw [List.map_take, List.map_drop], ?_, fun k hk => List.mem_of_mem_drop (List.mem_of_mem_take hk)⟩
  rw [List.length_take]
  omega
theorem getLast_map {hs : List Int} {y : Int} (h : hs.getLast? = some y) (x : Int) : (V.int x :: hs.map V.int)[(V.int x :: hs.map V.int).length - 1]? = some (.int y) := by
  rw [List.getLast?_eq_getElem?] at h
  have : 0 < hs.length := by
    rcases Nat.eq_zero_or_pos hs.length with z | z
    · rw [List.length_eq_zero_iff.mp z] at h; simp at h
    · exact z
  rw [List.length_cons, List.length_map, Nat.add_sub_cancel]
  obtain ⟨n, hn⟩ : ∃ n, hs.length = n + 1 := ⟨hs.length - 1, by omega⟩
  rw [hn, List.getElem?_cons_succ, List.getElem?_map]
  rw [hn, Nat.add_sub_cancel] at h
  rw [h]; rfl
theorem last_at {hs : List Int} {y : Int} (h : hs.getLast? = some y) : atI (hs.map V.int) (-1) = some (.int y) := by
  obtain ⟨xs, rfl⟩ := List.getLast?_eq_some_iff.mp h
  rw [List.map_append]
  exact atI_last _ _
theorem last_some {hs : List Int} {B : Nat} (h : hs.length = B) (hB : 1 ≤ B) : ∃ y, hs.getLast? = some y := by
  cases e : hs.getLast? with
  | none => rw [List.getLast?_eq_none_iff] at e; subst e; simp at h; omega
  | some y => exact ⟨y, rfl⟩
theorem below5 {vs : List Int} {a b c d e : Int} (h : Below vs [a, b, c, d, e]) : ∃ v0 v1 v2 v3 v4, vs = [v0, v1, v2, v3, v4] ∧ (0 ≤ v0 ∧ v0 < a) ∧ (0 ≤ v1 ∧ v1 < b) ∧ (0 ≤ v2 ∧ v2 < c) ∧ (0 ≤ v3 ∧ v3 < d) ∧ (0 ≤ v4 ∧ v4 < e) := by
  obtain ⟨hl, h⟩ := h
  match vs, hl with
  | [v0, v1, v2, v3, v4], _ => exact ⟨v0, v1, v2, v3, v4, rfl, h 0 _ _ rfl rfl, h 1 _ _ rfl rfl, h 2 _ _ rfl rfl, h 3 _ _ rfl rfl, h 4 _ _ rfl rfl⟩
theorem num_get {ns : List Int} {i : Nat} {x : Int} (h : ns[i]? = some x) : ns.getD i 0 = x := by
  rw [List.getD_eq_getElem?_getD, h]; rfl
def spIs (K : PySem.W.Frag) (n : Nat) : Sp := fun vs H Q _ => ∃ x y d w, vs = [x, y] ∧ DatT K H x d ∧ Dat K H y w ∧ fits n d w ∧ ∀ H', Same H H' → Q (.bl (al n d w)) H'
def spAre (K : PySem.W.Frag) (n : Nat) : Sp := fun vs H Q _ => ∃ b a1 a2 xs ys ds ws, vs = [.ref a1, .ref a2] ∧ Sq2 K b H a1 xs ∧ Sq2 K b H a2 ys ∧ DatAll K H xs ds ∧ DatAll K H ys ws ∧ ws.length ≤ 100 ∧ (∀ (i : Nat) d w, ds[i]? = some d → ws[i]? = some w → fits n d w) ∧ ∀ H', Same H H' → Q (.bl (alAll (al n) ds ws)) H'
def spAreP (K : PySem.W.Frag) : Nat → Sp
  | 0 => fun _ _ _ _ => False
  | n + 1 => spAre K n
def rowsD (rs : List Row) : PyData := .list (rs.map rowD)
def spIsF (K : PySem.W.Frag) : Sp := fun vs H Q _ => ∃ (a : Addr) (ns : List Int) (B : Nat) (x : V) (d : PyData), vs = [.ref a, .int B, x] ∧ SqL K H a (ns.map V.int) ∧ NumL ns ∧ 1 ≤ B ∧ B ≤ 32 ∧ DatT K H x d ∧ fits 2 d (rowsD (dueL ns B ns.length)) ∧ ∀ H', Same H H' → Q (.bl (al 2 d (rowsD (dueL ns B ns.length)))) H'
def spRow (K : PySem.W.Frag) : Sp := fun vs H Q _ => ∃ (m : Nat) (t : Addr) (r : Row), vs = [.int m, .ref t] ∧ m < 13 ∧ SqT K H t [.int r.1, .bl r.2.1, outV r.2.2] ∧ ∀ H' v d, Same H H' → Dat K H' v d → rowish d → al 1 d (rowD r) = false → Q v H'
def spForged (K : PySem.W.Frag) : Sp := fun vs H Q _ => ∃ (m : Nat) (i : Int) (a l : Addr) (rs : List Row) (ns : List Int) (B : Nat), vs = [.int m, .int i, .ref a, .ref l, .int B] ∧ m < 20 ∧ RL K H a rs ∧ rs.length ≤ 80 ∧ SqL K H l (ns.map V.int) ∧ ns.length ≤ 80 ∧ 1 ≤ B ∧ B ≤ 32 ∧
  ∀ H' v d, Same H H' → DatT K H' v d → fits 2 d (rowsD rs) → al 2 d (rowsD rs) = false → Q v H'
theorem Sq2.sm {K : PySem.W.Frag} {b : Bool} {H H' : Hp} {a : Addr} {xs : List V} (h : Sq2 K b H a xs) (g : Same H H') : Sq2 K b H' a xs := by
  cases b
  · exact g.seq h
  · exact g.tp h
theorem Sq2.len {K : PySem.W.Frag} {b : Bool} {H : Hp} {a : Addr} {xs : List V} (h : Sq2 K b H a xs) : SqL K H a xs ∨ SqT K H a xs := by
  cases b
  · exact .inl h
  · exact .inr h
theorem len2 {os : St} (h : os.length = 2) : ∃ a b, os = [a, b] := by
  match os, h with
  | [a, b], _ => exact ⟨a, b, rfl⟩
theorem noAre {P : Program} {w : World} {K : PySem.W.Frag} {mg : Str → Option Value} {base : Heap} {k : Nat} {f : Addr} {fd : FuncData} {ps : List Str} : FnOk P w K mg base CX0 k f fd ps (spAreP K 0) := ⟨fun _ _ _ _ h => h.elim, fun _ _ _ _ _ _ _ _ _ _ _ _ _ h => h.elim⟩
end K51

namespace K51
open PySem L2 PyProof.Rows M49 M51
abbrev s_is_whole : Stmt := top 6
theorem sc_is_whole : FnScope ["thing"] ["thing"] (defScope s_is_whole) := ⟨rfl, rfl, rfl, by decide +kernel, rfl, by decide +kernel, by decide +kernel⟩
section
variable {P : Program} {w : World} {K : PySem.W.Frag} {mg : Str → Option Value} {base : Heap}
theorem ok_is_whole {k : Nat} {f : Addr} {fd : FuncData} (F : Fun K "is_whole" "is_whole" s_is_whole f fd) (M : Blt mg) {t1 : Tok} (C : Cst K mg t1) {C_Kept f_Kept_init : Addr} (T_Kept : TCls K mg "Kept" C_Kept f_Kept_init ["bound", "held"]) : FnOk P w K mg base CX0 (k + 2) f fd ["thing"] spWhole := by
  refine F.ok sc_is_whole (fun vs H Q E h => ?_) (fun cdv A outer s0 H vs Q E hr0 h => ?_)
  · obtain ⟨i, rfl, _⟩ := h; rfl
  obtain ⟨i, rfl, q⟩ := h
  have hr := hr0.mono (Nat.le_succ _)
  refine ⟨_, (pss_one (ps_ret (pe_and (pe_callB call_isi rfl M.isinstance boot_isinstance (pa_cons (pv 0) (pa_cons (pe_bltn (v := .ty "int") rfl M.int boot_int rfl) pa_nil))) (pe_one (pe_not (pe_callB call_isi rfl M.isinstance boot_isinstance (pa_cons (pv 0) (pa_cons (pe_bltn (v := .ty "bool") rfl M.bool boot_bool rfl) pa_nil)))))))), ?_⟩
  refine ⟨_, rfl, _, _, "int", rfl, by decide, rfl, _, rfl, iteP (by decide) ?_⟩
  refine ⟨_, rfl, _, _, "int", rfl, by decide, rfl, _, rfl, ?_⟩
  rw [show isa "int" "bool" = false by decide]
  exact q
end
end K51

namespace K51
open PySem L2 PyProof.Rows M49 M51
abbrev s_is_count : Stmt := top 7
theorem sc_is_count : FnScope ["thing"] ["thing"] (defScope s_is_count) := ⟨rfl, rfl, rfl, by decide +kernel, rfl, by decide +kernel, by decide +kernel⟩
section
variable {P : Program} {w : World} {K : PySem.W.Frag} {mg : Str → Option Value} {base : Heap}
theorem ok_is_count {k : Nat} {f : Addr} {fd : FuncData} (F : Fun K "is_count" "is_count" s_is_count f fd) (M : Blt mg) {t1 : Tok} (C : Cst K mg t1) {C_Kept f_Kept_init : Addr} (T_Kept : TCls K mg "Kept" C_Kept f_Kept_init ["bound", "held"]) {f_is_whole : Addr} {fd_is_whole : FuncData} (D_is_whole : Df K mg "is_whole" f_is_whole fd_is_whole ["thing"]) (G_is_whole : FnOk P w K mg base CX0 k f_is_whole fd_is_whole ["thing"] spWhole) : FnOk P w K mg base CX0 (k + 2) f fd ["thing"] spCount := by
  refine F.ok sc_is_count (fun vs H Q E h => ?_) (fun cdv A outer s0 H vs Q E hr0 h => ?_)
  · obtain ⟨x, rfl, _⟩ := h; rfl
  obtain ⟨x, rfl, hx, q⟩ := h
  have hr := hr0.mono (Nat.le_succ _)
  refine ⟨_, (pss_one (ps_ret (pe_and (pe_call G_is_whole hr rfl D_is_whole.m D_is_whole.k D_is_whole.b .nil pass0 (pa_cons (pv 0) pa_nil)) (pe_one (pe_cmpR op_ge (pv 0) pe_int (nomark _)))))), ?_⟩
  refine ⟨_, rfl, x, rfl, _, rfl, iteP (by decide) ⟨_, rfl, _, _, rfl, rfl, ?_⟩⟩
  exact (congrArg (fun b => Q (V.bl b) H) (decide_eq_true hx)).mpr q
end
end K51

namespace K51
open PySem L2 PyProof.Rows M49 M51
abbrev s_is_between : Stmt := top 8
theorem sc_is_between : FnScope ["thing", "low", "high"] ["thing", "low", "high"] (defScope s_is_between) := ⟨rfl, rfl, rfl, by decide +kernel, rfl, by decide +kernel, by decide +kernel⟩
section
variable {P : Program} {w : World} {K : PySem.W.Frag} {mg : Str → Option Value} {base : Heap}
theorem ok_is_between {k : Nat} {f : Addr} {fd : FuncData} (F : Fun K "is_between" "is_between" s_is_between f fd) (M : Blt mg) {t1 : Tok} (C : Cst K mg t1) {C_Kept f_Kept_init : Addr} (T_Kept : TCls K mg "Kept" C_Kept f_Kept_init ["bound", "held"]) {f_is_whole : Addr} {fd_is_whole : FuncData} (D_is_whole : Df K mg "is_whole" f_is_whole fd_is_whole ["thing"]) (G_is_whole : FnOk P w K mg base CX0 k f_is_whole fd_is_whole ["thing"] spWhole) : FnOk P w K mg base CX0 (k + 2) f fd ["thing", "low", "high"] spBtw := by
  refine F.ok sc_is_between (fun vs H Q E h => ?_) (fun cdv A outer s0 H vs Q E hr0 h => ?_)
  · obtain ⟨x, lo, hi, rfl, _⟩ := h; rfl
  obtain ⟨x, lo, hi, rfl, h1, h2, q⟩ := h
  have hr := hr0.mono (Nat.le_succ _)
  refine ⟨_, (pss_one (ps_ret (pe_and (pe_call G_is_whole hr rfl D_is_whole.m D_is_whole.k D_is_whole.b .nil pass0 (pa_cons (pv 0) pa_nil)) (pe_one (pe_chain op_le op_le (pv 1) (pv 0) (pv 2)))))), ?_⟩
  refine ⟨_, rfl, x, rfl, _, rfl, iteP (by decide) ⟨_, rfl, _, rfl, _, _, rfl, rfl, _, rfl, iteP (decide_eq_true h1) ⟨_, rfl, _, _, rfl, rfl, ?_⟩⟩⟩
  exact (congrArg (fun b => Q (V.bl b) H) (decide_eq_true h2)).mpr q
end
end K51

namespace K51
open PySem L2 PyProof.Rows M49 M51
abbrev s_need_keep : Stmt := top 14
theorem sc_need_keep : FnScope ["most"] ["most"] (defScope s_need_keep) := ⟨rfl, rfl, rfl, by decide +kernel, rfl, by decide +kernel, by decide +kernel⟩
section
variable {P : Program} {w : World} {K : PySem.W.Frag} {mg : Str → Option Value} {base : Heap}
theorem ok_need_keep {k : Nat} {f : Addr} {fd : FuncData} (F : Fun K "need_keep" "need_keep" s_need_keep f fd) (M : Blt mg) {t1 : Tok} (C : Cst K mg t1) {C_Kept f_Kept_init : Addr} (T_Kept : TCls K mg "Kept" C_Kept f_Kept_init ["bound", "held"]) {f_is_between : Addr} {fd_is_between : FuncData} (D_is_between : Df K mg "is_between" f_is_between fd_is_between ["thing", "low", "high"]) (G_is_between : FnOk P w K mg base CX0 k f_is_between fd_is_between ["thing", "low", "high"] spBtw) : FnOk P w K mg base CX0 (k + 2) f fd ["most"] spNKeep := by
  refine F.ok sc_need_keep (fun vs H Q E h => ?_) (fun cdv A outer s0 H vs Q E hr0 h => ?_)
  · obtain ⟨B, rfl, _⟩ := h; rfl
  obtain ⟨B, rfl, h1, h2, q⟩ := h
  have hr := hr0.mono (Nat.le_succ _)
  refine ⟨_, (pss_one (ps_if (pt_not (pt_val (pe_call G_is_between hr rfl D_is_between.m D_is_between.k D_is_between.b .nil pass0 (pa_cons (pv 0) (pa_cons pe_int (pa_cons (pe_glob (v := .int 32) rfl C.MOST_KEPT ⟨_, rfl⟩) pa_nil)))))) (pss_one ps_never) pss_nil)), ?_⟩
  exact ⟨_, rfl, _, 1, 32, rfl, by omega, by omega, _, rfl, iteN (by decide) q⟩
end
end K51

namespace K51
open PySem L2 PyProof.Rows M49 M51
abbrev s_need_line : Stmt := top 15
theorem sc_need_line : FnScope ["line"] ["line"] (defScope s_need_line) := ⟨rfl, rfl, rfl, by decide +kernel, rfl, by decide +kernel, by decide +kernel⟩
section
variable {P : Program} {w : World} {K : PySem.W.Frag} {mg : Str → Option Value} {base : Heap}
theorem ok_need_line {k : Nat} {f : Addr} {fd : FuncData} (F : Fun K "need_line" "need_line" s_need_line f fd) (M : Blt mg) {t1 : Tok} (C : Cst K mg t1) {C_Kept f_Kept_init : Addr} (T_Kept : TCls K mg "Kept" C_Kept f_Kept_init ["bound", "held"]) {f_is_count : Addr} {fd_is_count : FuncData} (D_is_count : Df K mg "is_count" f_is_count fd_is_count ["thing"]) (G_is_count : FnOk P w K mg base CX0 k f_is_count fd_is_count ["thing"] spCount) : FnOk P w K mg base CX0 (k + 2) f fd ["line"] spNLine := by
  refine F.ok sc_need_line (fun vs H Q E h => ?_) (fun cdv A outer s0 H vs Q E hr0 h => ?_)
  · obtain ⟨x, rfl, _⟩ := h; rfl
  obtain ⟨x, rfl, hx, q⟩ := h
  have hr := hr0.mono (Nat.le_succ _)
  refine ⟨_, (pss_one (ps_if (pt_not (pt_val (pe_call G_is_count hr rfl D_is_count.m D_is_count.k D_is_count.b .nil pass0 (pa_cons (pv 0) pa_nil)))) (pss_one ps_never) pss_nil)), ?_⟩
  exact ⟨_, rfl, _, rfl, hx, _, rfl, iteN (by decide) q⟩
end
end K51

namespace K51
open PySem L2 PyProof.Rows M49 M51
abbrev s_need_lines : Stmt := top 16
theorem sc_need_lines : FnScope ["lines", "line"] ["lines"] (defScope s_need_lines) := ⟨rfl, rfl, rfl, by decide +kernel, rfl, by decide +kernel, by decide +kernel⟩
section
variable {P : Program} {w : World} {K : PySem.W.Frag} {mg : Str → Option Value} {base : Heap}
theorem ok_need_lines {k : Nat} {f : Addr} {fd : FuncData} (F : Fun K "need_lines" "need_lines" s_need_lines f fd) (M : Blt mg) {t1 : Tok} (C : Cst K mg t1) {C_Kept f_Kept_init : Addr} (T_Kept : TCls K mg "Kept" C_Kept f_Kept_init ["bound", "held"]) {f_need_line : Addr} {fd_need_line : FuncData} (D_need_line : Df K mg "need_line" f_need_line fd_need_line ["line"]) (G_need_line : FnOk P w K mg base CX0 k f_need_line fd_need_line ["line"] spNLine) : FnOk P w K mg base CX0 (k + 2) f fd ["lines"] (spNLines K) := by
  refine F.ok sc_need_lines (fun vs H Q E h => ?_) (fun cdv A outer s0 H vs Q E hr0 h => ?_)
  · obtain ⟨a, ns, rfl, _⟩ := h; rfl
  obtain ⟨a, ns, rfl, hS, hp, q⟩ := h
  have hr := hr0.mono (Nat.le_succ _)
  refine ⟨_, (pss_one (ps_for PassesOwn.never rfl (pi_list (pv 0)) (pg_name (i := 1) sc_need_lines.nd rfl (Or.inl rfl)) (pss_one (ps_expr (pe_call G_need_line hr rfl D_need_line.m D_need_line.k D_need_line.b .nil pass0 (pa_cons (pv 1) pa_nil)))))), ?_⟩
  refine ⟨_, rfl, a, rfl, ⟨_, hS⟩, for_list (xs := ns.map V.int) (fun i σ H' => (∃ o1 : Option V, σ = [some (.ref a), o1]) ∧ H' = H) ⟨⟨none, rfl⟩, rfl⟩ (fun i σ H' _ z => z.2 ▸ hS) (fun i x σ H' hx z => ?_) (fun σ H' z => ?_)⟩
  · obtain ⟨⟨o1, rfl⟩, rfl⟩ := z
    obtain ⟨n, hn, rfl⟩ := get_ints hx
    exact ⟨_, rfl, n, rfl, hp n (List.mem_of_getElem? hn), ⟨_, rfl⟩, rfl⟩
  · obtain ⟨_, rfl⟩ := z
    exact q
end
end K51

namespace K51
open PySem L2 PyProof.Rows M49 M51
abbrev s_Kept_init : Stmt := inClass (top 13) 0
theorem sc_Kept_init : FnScope ["self", "most"] ["self", "most"] (defScope s_Kept_init) := ⟨rfl, rfl, rfl, by decide +kernel, rfl, by decide +kernel, by decide +kernel⟩
section
variable {P : Program} {w : World} {K : PySem.W.Frag} {mg : Str → Option Value} {base : Heap}
theorem ok_Kept_init {k : Nat} {f : Addr} {fd : FuncData} (F : Fun K "__init__" "Kept.__init__" s_Kept_init f fd) (M : Blt mg) {t1 : Tok} (C : Cst K mg t1) {C_Kept f_Kept_init : Addr} (T_Kept : TCls K mg "Kept" C_Kept f_Kept_init ["bound", "held"]) {f_need_keep : Addr} {fd_need_keep : FuncData} (D_need_keep : Df K mg "need_keep" f_need_keep fd_need_keep ["most"]) (G_need_keep : FnOk P w K mg base CX0 k f_need_keep fd_need_keep ["most"] spNKeep) : FnOk P w K mg base CX0 (k + 2) f fd ["self", "most"] (spKInit C_Kept) := by
  refine F.ok sc_Kept_init (fun vs H Q E h => ?_) (fun cdv A outer s0 H vs Q E hr0 h => ?_)
  · obtain ⟨a, dx, B, rfl, _⟩ := h; rfl
  obtain ⟨a, dx, B, rfl, hA, h1, h2, q⟩ := h
  have hr := hr0.mono (Nat.le_succ _)
  refine ⟨_, (pss_cons (ps_expr (pe_call G_need_keep hr rfl D_need_keep.m D_need_keep.k D_need_keep.b .nil pass0 (pa_cons (pv 1) pa_nil)))
      (pss_cons (ps_fld (pv 0) (pv 1) rfl)
      (pss_one (ps_fld (pv 0) (pe_lst pa_nil) rfl)))), ?_⟩
  refine ⟨_, rfl, B, rfl, h1, h2, _, rfl, _, rfl, a, C_Kept, dx, [], rfl, hA, T_Kept.cl, T_Kept.na _ (by decide), by decide, ?_⟩
  refine ⟨(by show 0 ≤ sizeLine; decide), fun l hl => ?_⟩
  have nal : a ≠ l := fun z => by rw [← z, upd_same] at hl; cases hl
  have hl0 : H l = none := by rw [upd_ne (Ne.symm nal)] at hl; exact hl
  refine ⟨_, rfl, a, C_Kept, dx, _, rfl, (by rw [upd_ne nal, upd_same]), T_Kept.cl, T_Kept.na _ (by decide), (by show 1 < 1000; decide), ?_⟩
  refine q l _ hl0 (fun b o nb q' => ?_) upd_same ?_
  · rw [upd_ne nb, upd_ne (ne_of_none q' hl0), upd_ne nb]; exact q'
  · rw [upd_ne (Ne.symm nal), upd_same]
end
end K51

namespace K51
open PySem L2 PyProof.Rows M49 M51
abbrev s_Kept_touch : Stmt := inClass (top 13) 1
theorem sc_Kept_touch : FnScope ["self", "line", "fetched", "out"] ["self", "line"] (defScope s_Kept_touch) := ⟨rfl, rfl, rfl, by decide +kernel, rfl, by decide +kernel, by decide +kernel⟩
section
variable {P : Program} {w : World} {K : PySem.W.Frag} {mg : Str → Option Value} {base : Heap}
theorem ok_Kept_touch {k : Nat} {f : Addr} {fd : FuncData} (F : Fun K "touch" "Kept.touch" s_Kept_touch f fd) (M : Blt mg) {t1 : Tok} (C : Cst K mg t1) {C_Kept f_Kept_init : Addr} (T_Kept : TCls K mg "Kept" C_Kept f_Kept_init ["bound", "held"]) {f_need_line : Addr} {fd_need_line : FuncData} (D_need_line : Df K mg "need_line" f_need_line fd_need_line ["line"]) (G_need_line : FnOk P w K mg base CX0 k f_need_line fd_need_line ["line"] spNLine) : FnOk P w K mg base CX0 (k + 2) f fd ["self", "line"] (spTouch K C_Kept) := by
  refine F.ok sc_Kept_touch (fun vs H Q E h => ?_) (fun cdv A outer s0 H vs Q E hr0 h => ?_)
  · obtain ⟨a, dx, l, B, hs, x, rfl, _⟩ := h; rfl
  obtain ⟨a, dx, l, B, hs, x, rfl, hA, hL, hx, hlen, hB1, hB2, q⟩ := h
  have hr := hr0.mono (Nat.le_succ _)
  refine ⟨_, (pss_cons (ps_expr (pe_call G_need_line hr rfl D_need_line.m D_need_line.k D_need_line.b .nil pass0 (pa_cons (pv 1) pa_nil)))
      (pss_cons (ps_set (i := 2) sc_Kept_touch.nd rfl (by first | exact Or.inl rfl | exact Or.inr rfl) (pe_cmpR op_notInI (pv 1) (pe_fld (pv 0) rfl) (by with_unfolding_all rfl)))
      (pss_cons (ps_if (pt_not (pt_val (pv 2))) (pss_one (ps_expr (pe_bm PySem.F.plainAttrs_list PySem.F.slot_list_remove PySem.F.type_list_remove mt_removeI (pe_fld (pv 0) rfl) (pa_cons (pv 1) pa_nil)))) pss_nil)
      (pss_cons (ps_expr (pe_bm PySem.F.plainAttrs_list PySem.F.slot_list_insert PySem.F.type_list_insert mt_insert0 (pe_fld (pv 0) rfl) (pa_cons pe_int (pa_cons (pv 1) pa_nil))))
      (pss_cons (ps_set (i := 3) sc_Kept_touch.nd rfl (by first | exact Or.inl rfl | exact Or.inr rfl) (pe_ifExp (pt_cmpR op_gt (pe_callB call_len_seq rfl M.len PySem.boot_len (pa_cons (pe_fld (pv 0) rfl) pa_nil)) (pe_fld (pv 0) rfl) (nomark _)) (pe_bm0 PySem.F.plainAttrs_list PySem.F.slot_list_pop PySem.F.type_list_pop mt_pop (pe_fld (pv 0) rfl)) pe_non))
      (pss_one (ps_ret (pe_tup (pa_cons (pv 2) (pa_cons (pv 3) pa_nil)))))))))), ?_⟩
  have nal : a ≠ l := fun z => by
    have h1 := hA
    unfold Kp at h1
    rw [z, hL] at h1; cases h1
  refine ⟨_, rfl, x, rfl, hx, _, rfl, _, rfl, a, C_Kept, dx, _, _, rfl, hA, T_Kept.cl, T_Kept.na _ (by decide), rfl, l, x, hs, rfl, rfl, SqL.of hL, _, rfl, _, rfl, ?_⟩
  by_cases hm : x ∈ hs
  · have e1 : outO B hs x = none := if_pos hm
    have e2 : tchL B hs x = x :: hs.erase x := if_pos hm
    have e3 : decide (x ∉ hs) = false := decide_eq_false fun z => z hm
    rw [e1, e2, e3] at q
    have le : (hs.erase x).length + 1 = hs.length := by
      have := List.length_erase_of_mem hm
      have := List.length_pos_of_mem hm
      omega
    refine iteP (by rw [e3]; rfl) ⟨_, rfl, a, C_Kept, dx, _, _, rfl, hA, T_Kept.cl, T_Kept.na _ (by decide), rfl, .inl ⟨rfl, _, SqL.of hL⟩, _, rfl, l, hs, x, rfl, rfl, hL, hm, ?_⟩
    have hA1 : Kp C_Kept (upd H l (.lst ((hs.erase x).map V.int))) a dx l B := by unfold Kp; rw [upd_ne nal]; exact hA
    have hL1 : upd H l (.lst ((hs.erase x).map V.int)) l = some (.lst ((hs.erase x).map V.int)) := upd_same
    have g1 : But l H (upd H l (.lst ((hs.erase x).map V.int))) := But.upd
    generalize upd H l (.lst ((hs.erase x).map V.int)) = H1 at hA1 hL1 g1 ⊢
    refine ⟨_, rfl, a, C_Kept, dx, _, _, rfl, hA1, T_Kept.cl, T_Kept.na _ (by decide), rfl, .inl ⟨rfl, _, SqL.of hL1⟩, _, rfl, l, _, _, rfl, rfl, hL1, (by rw [List.length_map]; exact small1000 (by omega)), ?_⟩
    have hA2 : Kp C_Kept (upd H1 l (.lst (.int x :: (hs.erase x).map V.int))) a dx l B := by unfold Kp; rw [upd_ne nal]; exact hA1
    have hL2 : upd H1 l (.lst (.int x :: (hs.erase x).map V.int)) l = some (.lst (.int x :: (hs.erase x).map V.int)) := upd_same
    have g2 : But l H (upd H1 l (.lst (.int x :: (hs.erase x).map V.int))) := g1.trans But.upd
    generalize upd H1 l (.lst (.int x :: (hs.erase x).map V.int)) = H2 at hA2 hL2 g2 ⊢
    refine ⟨_, rfl, a, C_Kept, dx, _, _, rfl, hA2, T_Kept.cl, T_Kept.na _ (by decide), rfl, l, _, rfl, .inl (SqL.of hL2), _, rfl, a, C_Kept, dx, _, _, rfl, hA2, T_Kept.cl, T_Kept.na _ (by decide), rfl, _, _, rfl, rfl, _, rfl, ite2 (fun c => ?_) (fun c => ?_)⟩
    · have c' : (((.int x :: (hs.erase x).map V.int : List V).length : Nat) : Int) > (B : Int) := of_decide_eq_true c
      rw [List.length_cons, List.length_map] at c'
      omega
    · refine ⟨_, rfl, _, rfl, (by show 2 ≤ sizeLine; decide), fun t ht => ?_⟩
      rw [e3]
      exact q t _ (g2.trans (But.of (same_new ht _))) (by rw [upd_ne (ne_of_none hL2 ht)]; exact hL2) (SqT.of upd_same)
  · have e3 : decide (x ∉ hs) = true := decide_eq_true hm
    rw [e3] at q
    refine iteN (by rw [e3]; decide) ⟨_, rfl, a, C_Kept, dx, _, _, rfl, hA, T_Kept.cl, T_Kept.na _ (by decide), rfl, .inl ⟨rfl, _, SqL.of hL⟩, _, rfl, l, _, _, rfl, rfl, hL, (by rw [List.length_map]; exact small1000 (by omega)), ?_⟩
    have hA2 : Kp C_Kept (upd H l (.lst (.int x :: hs.map V.int))) a dx l B := by unfold Kp; rw [upd_ne nal]; exact hA
    have hL2 : upd H l (.lst (.int x :: hs.map V.int)) l = some (.lst (.int x :: hs.map V.int)) := upd_same
    have g2 : But l H (upd H l (.lst (.int x :: hs.map V.int))) := But.upd
    generalize upd H l (.lst (.int x :: hs.map V.int)) = H2 at hA2 hL2 g2 ⊢
    refine ⟨_, rfl, a, C_Kept, dx, _, _, rfl, hA2, T_Kept.cl, T_Kept.na _ (by decide), rfl, l, _, rfl, .inl (SqL.of hL2), _, rfl, a, C_Kept, dx, _, _, rfl, hA2, T_Kept.cl, T_Kept.na _ (by decide), rfl, _, _, rfl, rfl, _, rfl, ite2 (fun c => ?_) (fun c => ?_)⟩
    · have c' : (((.int x :: hs.map V.int : List V).length : Nat) : Int) > (B : Int) := of_decide_eq_true c
      rw [List.length_cons, List.length_map] at c'
      have hlB : hs.length = B := by omega
      have e1 : outO B hs x = hs.getLast? := by unfold outO; rw [if_neg hm, if_pos hlB]
      have e2 : tchL B hs x = (x :: hs).dropLast := by unfold tchL; rw [if_neg hm, if_pos hlB]
      obtain ⟨y, hy⟩ := last_some hlB hB1
      rw [e1, e2, hy] at q
      refine ⟨_, rfl, a, C_Kept, dx, _, _, rfl, hA2, T_Kept.cl, T_Kept.na _ (by decide), rfl, .inl ⟨rfl, _, SqL.of hL2⟩, l, _, .int y, rfl, rfl, hL2, getLast_map hy x, ?_⟩
      have g3 : But l H (upd H2 l (.lst (V.int x :: hs.map V.int).dropLast)) := g2.trans But.upd
      have hL3 : upd H2 l (.lst (V.int x :: hs.map V.int).dropLast) l = some (.lst (((x :: hs).dropLast).map V.int)) := by
        rw [upd_same, List.map_dropLast]; rfl
      generalize upd H2 l (.lst (V.int x :: hs.map V.int).dropLast) = H3 at g3 hL3 ⊢
      refine ⟨_, rfl, _, rfl, (by show 2 ≤ sizeLine; decide), fun t ht => ?_⟩
      rw [e3]
      exact q t _ (g3.trans (But.of (same_new ht _))) (by rw [upd_ne (ne_of_none hL3 ht)]; exact hL3) (SqT.of upd_same)
    · have c' : ¬ (((.int x :: hs.map V.int : List V).length : Nat) : Int) > (B : Int) := fun z => c (decide_eq_true z)
      rw [List.length_cons, List.length_map] at c'
      have hlB : ¬ hs.length = B := by omega
      have e1 : outO B hs x = none := by unfold outO; rw [if_neg hm, if_neg hlB]
      have e2 : tchL B hs x = x :: hs := by unfold tchL; rw [if_neg hm, if_neg hlB]
      rw [e1, e2] at q
      refine ⟨_, rfl, _, rfl, (by show 2 ≤ sizeLine; decide), fun t ht => ?_⟩
      rw [e3]
      exact q t _ (g2.trans (But.of (same_new ht _))) (by rw [upd_ne (ne_of_none hL2 ht)]; exact hL2) (SqT.of upd_same)
end
end K51

namespace K51
open PySem L2 PyProof.Rows M49 M51
abbrev s_fetches : Stmt := top 17
theorem sc_fetches : FnScope ["lines", "most", "kept"] ["lines", "most"] (defScope s_fetches) := ⟨rfl, rfl, rfl, by decide +kernel, rfl, by decide +kernel, by decide +kernel⟩
section
variable {P : Program} {w : World} {K : PySem.W.Frag} {mg : Str → Option Value} {base : Heap}
theorem ok_fetches {k : Nat} {f : Addr} {fd : FuncData} (F : Fun K "fetches" "fetches" s_fetches f fd) (M : Blt mg) {t1 : Tok} (C : Cst K mg t1) {C_Kept f_Kept_init : Addr} (T_Kept : TCls K mg "Kept" C_Kept f_Kept_init ["bound", "held"]) {f_need_lines : Addr} {fd_need_lines : FuncData} (D_need_lines : Df K mg "need_lines" f_need_lines fd_need_lines ["lines"]) (G_need_lines : FnOk P w K mg base CX0 k f_need_lines fd_need_lines ["lines"] (spNLines K)) {fd_Kept_init : FuncData} (D_Kept_init : DfI K fd_Kept_init ["self", "most"]) (G_Kept_init : FnOk P w K mg base CX0 k f_Kept_init fd_Kept_init ["self", "most"] (spKInit C_Kept)) {f_Kept_touch : Addr} {fd_Kept_touch : FuncData} (D_Kept_touch : DfM K C_Kept "touch" f_Kept_touch fd_Kept_touch ["self", "line"]) (G_Kept_touch : FnOk P w K mg base CX0 k f_Kept_touch fd_Kept_touch ["self", "line"] (spTouch K C_Kept)) : FnOk P w K mg base CX0 (k + 2) f fd ["lines", "most"] (spFetches K) := by
  refine F.ok sc_fetches (fun vs H Q E h => ?_) (fun cdv A outer s0 H vs Q E hr0 h => ?_)
  · obtain ⟨la, ns, B, rfl, _⟩ := h; rfl
  obtain ⟨la, ns, B, rfl, hS, hN, hB1, hB2, q⟩ := h
  have hr := hr0.mono (Nat.le_succ _)
  refine ⟨_, (pss_cons (ps_expr (pe_call G_need_lines hr rfl D_need_lines.m D_need_lines.k D_need_lines.b .nil pass0 (pa_cons (pv 0) pa_nil)))
      (pss_cons (ps_set (i := 2) sc_fetches.nd rfl (by first | exact Or.inl rfl | exact Or.inr rfl) (pe_make T_Kept.ma G_Kept_init hr0 rfl T_Kept.m D_Kept_init.b .nil pass0 (pa_cons (pv 1) pa_nil)))
      (pss_one (ps_ret (pe_comp ["line"] ["kept"] [2] rfl (pi_list (pv 0)) rfl ⟨rfl, trivial⟩ ⟨⟨rfl, rfl, rfl, _, rfl⟩, trivial⟩ (fun _ _ _ _ => (pg_name (i := 0) (show List.Nodup (["line", "kept"] : List Str) from by decide +kernel) rfl (Or.inl rfl))) (fun _ _ _ _ => pif_nil) (fun _ _ _ _ => (pe_op (op_catTK (K := K) rfl) (pe_tup (pa_cons (pv 0) pa_nil)) (pe_meth (pv 1) T_Kept.cl D_Kept_touch.me G_Kept_touch hr D_Kept_touch.b .nil pass0 (pa_cons (pv 0) pa_nil))))))))), ?_⟩
  refine ⟨_, rfl, la, ns, rfl, hS, hN.2, _, rfl, fun a dx ha0 hd0 _ => ⟨a, dx, B, rfl, upd_same, hB1, hB2, fun l H1 hl hk hA hL => ?_⟩⟩
  obtain ⟨g1, hl0⟩ := made_kept ha0 hd0 hl hk
  have zl : (ns.map V.int).length = ns.length := List.length_map _
  have seqs : ∀ H', But l H1 H' → SqL K H' la (ns.map V.int) := fun H' g => by
    have g' : Same H H' := fun b o e => g b o (ne_of_none e hl0) (g1 _ _ e)
    exact g'.seq hS
  have nal : a ≠ l := fun z => by
    have h1 := hA
    unfold Kp at h1
    rw [z, hL] at h1; cases h1
  refine ⟨rfl, _, rfl, la, rfl, ⟨_, g1.seq hS⟩, comp_list (xs := ns.map V.int) (fun i ys H' => But l H1 H' ∧ H' l = some (.lst ((held (ns.take i) B).map V.int)) ∧ ∃ ts : List Rw, ys = refs ts ∧ RwAll K H' ts ∧ ts.map (·.2) = dueL ns B i) ⟨But.refl, (by rw [List.take_zero, held_nil]; exact hL), [], rfl, RwAll.nil, rfl⟩ (fun i ys H' _ z => ?_) (by rw [zl]; exact small1000 (by have := hN.1; omega)) (fun i x ys H' hx z => ?_) (fun ys H' z p hp => ?_)⟩
  · obtain ⟨g, _, ts, rfl, _, he⟩ := z
    refine ⟨seqs _ g, ?_⟩
    have := rows_len he
    rw [dueL_length] at this
    exact Nat.le_of_eq this
  · obtain ⟨g, hl', ts, rfl, hR, he⟩ := z
    obtain ⟨n, hn, rfl⟩ := get_ints hx
    have hA' : Kp C_Kept H' a dx l B := g _ _ nal hA
    refine ⟨_, rfl, (by show 1 ≤ sizeLine; decide), fun t1 ht1 => ?_⟩
    have g2 : Same H' (upd H' t1 (.tup [.int n])) := same_new ht1 _
    have k2 : SqT K (upd H' t1 (.tup [.int n])) t1 [.int n] := SqT.of upd_same
    generalize upd H' t1 (.tup [.int n]) = H2 at g2 k2 ⊢
    refine ⟨_, rfl, a, dx, _, rfl, g2 _ _ hA', rfl, _, rfl, a, dx, l, B, _, n, rfl, g2 _ _ hA', g2 _ _ hl', hN.2 n (List.mem_of_getElem? hn), held_len _ _, hB1, hB2, fun t H3 g3 hl3 hT => ?_⟩
    have k3 := g3.tup (g2 _ _ hl') k2
    refine ⟨t1, t, _, _, rfl, rfl, k3, hT, (by simp), (by show 3 ≤ sizeLine; decide), (fun z => by cases z), fun _ p hp => ⟨⟨?_, ?_, ts ++ [(p, row B (held (ns.take i) B) n)], ?_, ?_, ?_⟩, _, rfl⟩⟩
    · exact ((g.trans (But.of g2)).trans g3).trans (But.of (same_new hp _))
    · rw [upd_ne (ne_of_none hl3 hp), hl3, held_touch hB1, take_snoc hn]
    · exact (refs_snoc (t := (p, row B (held (ns.take i) B) n))).symm
    · exact (((hR.same g2).but g3 (g2 _ _ hl')).same (same_new hp _)).snoc (SqT.of upd_same)
    · rw [List.map_append, he, dueL_succ, num_get hn]; rfl
  · obtain ⟨g, hl', ts, rfl, hR, he⟩ := z
    rw [zl] at he
    have g' : Same H H' := fun b o e => g b o (ne_of_none e hl0) (g1 _ _ e)
    exact q p _ (g'.trans (same_new hp _)) (g'.free hp) ⟨ts, upd_same, hR.same (same_new hp _), he⟩
end
end K51

namespace K51
open PySem L2 PyProof.Rows M49 M51
abbrev s_law_drawn : Stmt := top 20
theorem sc_law_drawn : FnScope ["_law_cell", "_law_sizes", "_law_found", "_law_many", "_law_one", "_law_other"] ["_law_cell", "_law_sizes"] (defScope s_law_drawn) := ⟨rfl, rfl, rfl, by decide +kernel, rfl, by decide +kernel, by decide +kernel⟩
section
variable {P : Program} {w : World} {K : PySem.W.Frag} {mg : Str → Option Value} {base : Heap}
theorem ok_law_drawn {k : Nat} {f : Addr} {fd : FuncData} (F : Fun K "_law_drawn" "_law_drawn" s_law_drawn f fd) (M : Blt mg) {t1 : Tok} (C : Cst K mg t1) {C_Kept f_Kept_init : Addr} (T_Kept : TCls K mg "Kept" C_Kept f_Kept_init ["bound", "held"]) : FnOk P w K mg base CX0 (k + 2) f fd ["_law_cell", "_law_sizes"] (spDrawn K) := by
  refine F.ok sc_law_drawn (fun vs H Q E h => ?_) (fun cdv A outer s0 H vs Q E hr0 h => ?_)
  · obtain ⟨c, l, ms, rfl, _⟩ := h; rfl
  obtain ⟨c, l, ms, rfl, hS, hm, hl, q⟩ := h
  have hr := hr0.mono (Nat.le_succ _)
  refine ⟨_, (pss_cons (ps_set (i := 2) sc_law_drawn.nd rfl (by first | exact Or.inl rfl | exact Or.inr rfl) (pe_lst pa_nil))
      (pss_cons (ps_if (pt_cmpR op_ge (pv 0) (pe_op op_pow pe_int pe_int) (nomark _)) (pss_cons (ps_for PassesOwn.never rfl (pi_list (pv 1)) (pg_name (i := 3) sc_law_drawn.nd rfl (Or.inl rfl)) (pss_cons (ps_expr (pe_bm PySem.F.plainAttrs_list PySem.F.slot_list_append PySem.F.type_list_append mt_append (pv 2) (pa_cons (pe_op op_mod (pv 0) (pv 3)) pa_nil)))
      (pss_one (ps_set (i := 0) sc_law_drawn.nd rfl (by first | exact Or.inl rfl | exact Or.inr rfl) (pe_op op_fdivL (pv 0) (pv 3))))))
      (pss_one (ps_ret (pv 2)))) pss_nil)
      (pss_cons (ps_set (i := 4) sc_law_drawn.nd rfl (by first | exact Or.inl rfl | exact Or.inr rfl) (pe_op op_mod (pe_op op_add (pe_op op_mul (pv 0) pe_int) pe_int) pe_int))
      (pss_cons (ps_set (i := 5) sc_law_drawn.nd rfl (by first | exact Or.inl rfl | exact Or.inr rfl) (pe_op op_mod (pe_op op_add (pe_op op_mul (pv 0) pe_int) pe_int) pe_int))
      (pss_cons (ps_set (i := 4) sc_law_drawn.nd rfl (by first | exact Or.inl rfl | exact Or.inr rfl) (pe_op op_mod (pe_op op_add (pe_op op_add (pe_op op_mul (pv 4) (pv 4)) (pe_op op_mul pe_int (pv 4))) pe_int) pe_int))
      (pss_cons (ps_for PassesOwn.never rfl (pi_list (pv 1)) (pg_name (i := 3) sc_law_drawn.nd rfl (Or.inl rfl)) (pss_cons (ps_set (i := 4) sc_law_drawn.nd rfl (by first | exact Or.inl rfl | exact Or.inr rfl) (pe_op op_mod (pe_op op_add (pe_op op_add (pe_op op_mul (pv 4) (pv 4)) (pe_op op_mul pe_int (pv 4))) pe_int) pe_int))
      (pss_cons (ps_set (i := 5) sc_law_drawn.nd rfl (by first | exact Or.inl rfl | exact Or.inr rfl) (pe_op op_mod (pe_op op_add (pe_op op_add (pe_op op_mul (pv 5) pe_int) (pe_op op_mul pe_int (pe_op op_mod (pv 4) pe_int))) pe_int) pe_int))
      (pss_one (ps_expr (pe_bm PySem.F.plainAttrs_list PySem.F.slot_list_append PySem.F.type_list_append mt_append (pv 2) (pa_cons (pe_op op_mod (pe_op op_add (pe_op op_mul (pv 4) pe_int) (pv 5)) (pv 3)) pa_nil)))))))
      (pss_one (ps_ret (pv 2))))))))), ?_⟩
  refine ⟨(by show 0 ≤ sizeLine; decide), fun r hr0 => ?_⟩
  have zl : (ms.map V.int).length = ms.length := List.length_map _
  have hS1 : ∀ o, SqL K (upd H r o) l (ms.map V.int) := fun o => (same_new hr0 o).seq hS
  refine ⟨_, rfl, _, _, rfl, rfl, ⟨by decide, by decide, by decide⟩, _, _, rfl, rfl, _, rfl, ite2 (fun _ => ?_) (fun _ => ?_)⟩
  · refine ⟨_, rfl, l, rfl, ⟨_, hS1 _⟩, for_list (xs := ms.map V.int) (fun i σ H' => ∃ (cc : Int) (ws : List Int) (o3 o4 o5 : Option V), σ = [some (.int cc), some (.ref l), some (.ref r), o3, o4, o5] ∧ H' = upd H r (.lst (ws.map V.int)) ∧ Below ws (ms.take i)) ⟨c, [], _, _, _, rfl, rfl, by rw [List.take_zero]; exact Below.nil⟩ (fun i σ H' _ z => ?_) (fun i x σ H' hx z => ?_) (fun σ H' z => ?_)⟩
    · obtain ⟨cc, ws, o3, o4, o5, rfl, rfl, _⟩ := z; exact hS1 _
    · obtain ⟨cc, ws, o3, o4, o5, rfl, rfl, hb⟩ := z
      obtain ⟨m, hmi, rfl⟩ := get_ints hx
      have hm' := hm m (List.mem_of_getElem? hmi)
      have k : upd H r (.lst (ws.map V.int)) r = some (.lst (ws.map V.int)) := upd_same
      refine ⟨_, rfl, .inl ⟨rfl, _, SqL.of k⟩, _, rfl, _, rfl, _, _, rfl, rfl, hm'.1, r, _, _, rfl, rfl, k, ?_, ?_⟩
      · rw [List.length_map]; exact small1000 (by have := hb.len; omega)
      refine ⟨_, rfl, _, rfl, _, _, rfl, rfl, hm', _, ws ++ [cc % m], _, _, _, rfl, ?_, hb.snoc hmi (Int.emod_nonneg _ (by omega)) (Int.emod_lt_of_pos _ hm'.1)⟩
      rw [upd_upd, List.map_append]; rfl
    · obtain ⟨cc, ws, o3, o4, o5, rfl, rfl, hb⟩ := z
      rw [zl] at hb
      exact ⟨_, rfl, q r ws hr0 hb.all⟩
  · refine ⟨_, rfl, _, _, rfl, rfl, .inr ⟨by omega, by omega⟩, _, _, rfl, rfl, _, _, rfl, rfl, (by show (0 : Int) < _; decide), ?_⟩
    refine ⟨_, rfl, _, _, rfl, rfl, .inr ⟨by omega, by omega⟩, _, _, rfl, rfl, _, _, rfl, rfl, (by show (0 : Int) < _; decide), ?_⟩
    refine ⟨_, rfl, _, rfl, _, _, rfl, rfl, .inl ⟨by omega, by omega⟩, _, rfl, _, _, rfl, rfl, .inl ⟨by omega, by omega⟩, _, _, rfl, rfl, _, _, rfl, rfl, _, _, rfl, rfl, (by show (0 : Int) < _; decide), ?_⟩
    refine ⟨_, rfl, l, rfl, ⟨_, hS1 _⟩, for_list (xs := ms.map V.int) (fun i σ H' => ∃ (one oth : Int) (ws : List Int) (o3 : Option V), (0 ≤ one ∧ one < 2147483647) ∧ (0 ≤ oth ∧ oth < 998244353) ∧ σ = [some (.int c), some (.ref l), some (.ref r), o3, some (.int one), some (.int oth)] ∧ H' = upd H r (.lst (ws.map V.int)) ∧ Below ws (ms.take i)) ⟨_, _, [], _, ⟨by omega, by omega⟩, ⟨by omega, by omega⟩, rfl, rfl, by rw [List.take_zero]; exact Below.nil⟩ (fun i σ H' _ z => ?_) (fun i x σ H' hx z => ?_) (fun σ H' z => ?_)⟩
    · obtain ⟨one, oth, ws, o3, _, _, rfl, rfl, _⟩ := z; exact hS1 _
    · obtain ⟨one, oth, ws, o3, ho, hh, rfl, rfl, hb⟩ := z
      obtain ⟨m, hmi, rfl⟩ := get_ints hx
      have hm' := hm m (List.mem_of_getElem? hmi)
      have k : upd H r (.lst (ws.map V.int)) r = some (.lst (ws.map V.int)) := upd_same
      refine ⟨_, rfl, _, rfl, _, _, rfl, rfl, .inl ⟨by omega, by omega⟩, _, rfl, _, _, rfl, rfl, .inl ⟨by omega, by omega⟩, _, _, rfl, rfl, _, _, rfl, rfl, _, _, rfl, rfl, (by show (0 : Int) < _; decide), ?_⟩
      refine ⟨_, rfl, _, _, rfl, rfl, .inr ⟨by omega, by omega⟩, _, rfl, _, _, rfl, rfl, (by show (0 : Int) < _; decide), _, _, rfl, rfl, .inl ⟨by omega, by omega⟩, _, _, rfl, rfl, _, _, rfl, rfl, _, _, rfl, rfl, (by show (0 : Int) < _; decide), ?_⟩
      refine ⟨_, rfl, .inl ⟨rfl, _, SqL.of k⟩, _, rfl, _, _, rfl, rfl, .inr ⟨by omega, by omega⟩, _, rfl, _, _, rfl, rfl, _, rfl, _, _, rfl, rfl, hm'.1, r, _, _, rfl, rfl, k, ?_, ?_⟩
      · rw [List.length_map]; exact small1000 (by have := hb.len; omega)
      refine ⟨_, _, ws ++ [((one * one + 48271 * one + 13) % 2147483647 * 998244353 + (oth * 16807 + 48611 * ((one * one + 48271 * one + 13) % 2147483647 % 65536) + 5) % 998244353) % m], _, ⟨by omega, by omega⟩, ⟨by omega, by omega⟩, rfl, ?_, hb.snoc hmi (Int.emod_nonneg _ (by omega)) (Int.emod_lt_of_pos _ hm'.1)⟩
      rw [upd_upd, List.map_append]; rfl
    · obtain ⟨one, oth, ws, o3, _, _, rfl, rfl, hb⟩ := z
      rw [zl] at hb
      exact ⟨_, rfl, q r ws hr0 hb.all⟩
end
end K51

namespace K51
open PySem L2 PyProof.Rows M49 M51
abbrev s_law_lines : Stmt := top 21
theorem sc_law_lines : FnScope ["_law_script", "_law_found", "_law_cell", "_law_draws"] ["_law_script"] (defScope s_law_lines) := ⟨rfl, rfl, rfl, by decide +kernel, rfl, by decide +kernel, by decide +kernel⟩
section
variable {P : Program} {w : World} {K : PySem.W.Frag} {mg : Str → Option Value} {base : Heap}
theorem ok_law_lines {k : Nat} {f : Addr} {fd : FuncData} (F : Fun K "_law_lines" "_law_lines" s_law_lines f fd) (M : Blt mg) {t1 : Tok} (C : Cst K mg t1) {C_Kept f_Kept_init : Addr} (T_Kept : TCls K mg "Kept" C_Kept f_Kept_init ["bound", "held"]) {f_law_drawn : Addr} {fd_law_drawn : FuncData} (D_law_drawn : Df K mg "_law_drawn" f_law_drawn fd_law_drawn ["_law_cell", "_law_sizes"]) (G_law_drawn : FnOk P w K mg base CX0 k f_law_drawn fd_law_drawn ["_law_cell", "_law_sizes"] (spDrawn K)) : FnOk P w K mg base CX0 (k + 2) f fd ["_law_script"] (spLinesL K) := by
  refine F.ok sc_law_lines (fun vs H Q E h => ?_) (fun cdv A outer s0 H vs Q E hr0 h => ?_)
  · obtain ⟨a, ns, rfl, _⟩ := h; rfl
  obtain ⟨a, ns, rfl, hS, q⟩ := h
  have hr := hr0.mono (Nat.le_succ _)
  refine ⟨_, (pss_cons (ps_set (i := 1) sc_law_lines.nd rfl (by first | exact Or.inl rfl | exact Or.inr rfl) (pe_lst pa_nil))
      (pss_cons (ps_for PassesOwn.never rfl (pi_list (pe_op op_cat (pe_slice sl_list (pv 0) po_none (po_some pe_int)) (pe_lst (pa_cons (pe_callB call_len_seq rfl M.len PySem.boot_len (pa_cons (pv 0) pa_nil)) pa_nil)))) (pg_name (i := 2) sc_law_lines.nd rfl (Or.inl rfl)) (pss_cons (ps_set (i := 3) sc_law_lines.nd rfl (by first | exact Or.inl rfl | exact Or.inr rfl) (pe_call G_law_drawn hr rfl D_law_drawn.m D_law_drawn.k D_law_drawn.b .nil pass0 (pa_cons (pv 2) (pa_cons (pe_lst (pa_cons pe_int (pa_cons pe_int (pa_cons pe_int (pa_cons pe_int (pa_cons (pe_op op_pow pe_int pe_int) pa_nil) se_const) se_const) se_const) se_const)) pa_nil))))
      (pss_one (ps_if (pt_cmpR op_lt (pe_ix ix_list (pv 3) pe_int (fun _ _ => rfl)) pe_int (nomark _)) (pss_one (ps_expr (pe_bm PySem.F.plainAttrs_list PySem.F.slot_list_append PySem.F.type_list_append mt_append (pv 1) (pa_cons (pe_ix ix_list (pv 3) pe_int (fun _ _ => rfl)) pa_nil)))) (pss_one (ps_if (pt_cmpR op_eq (pe_ix ix_list (pv 3) pe_int (fun _ _ => rfl)) pe_int (nomark _)) (pss_one (ps_expr (pe_bm PySem.F.plainAttrs_list PySem.F.slot_list_extend PySem.F.type_list_extend mt_extend (pv 1) (pa_cons (pe_comp ["_law_k"] ["_law_draws"] [3] rfl (pi_range1 rfl M.range (pa_cons (pe_ix ix_list (pv 3) pe_int (fun _ _ => rfl)) pa_nil)) rfl ⟨rfl, trivial⟩ ⟨⟨rfl, rfl, rfl, _, rfl⟩, trivial⟩ (fun _ _ _ _ => (pg_name (i := 0) (show List.Nodup (["_law_k", "_law_draws"] : List Str) from by decide +kernel) rfl (Or.inl rfl))) (fun _ _ _ _ => pif_nil) (fun _ _ _ _ => (pe_op op_add (pe_ix (ix_listK K rfl) (pv 1) pe_int (fun _ _ => rfl)) (pv 0)))) pa_nil)))) (pss_one (ps_if (pt_cmpR op_eq (pe_ix ix_list (pv 3) pe_int (fun _ _ => rfl)) pe_int (nomark _)) (pss_one (ps_expr (pe_bm PySem.F.plainAttrs_list PySem.F.slot_list_extend PySem.F.type_list_extend mt_extend (pv 1) (pa_cons (pe_slice sl_list (pv 1) (po_some (pe_ix ix_list (pv 3) pe_int (fun _ _ => rfl))) (po_some (pe_op op_add (pe_ix ix_list (pv 3) pe_int (fun _ _ => rfl)) (pe_ix ix_list (pv 3) pe_int (fun _ _ => rfl))))) pa_nil)))) (pss_one (ps_if (pt_cmpR op_eq (pe_ix ix_list (pv 3) pe_int (fun _ _ => rfl)) pe_int (nomark _)) (pss_one (ps_expr (pe_bm PySem.F.plainAttrs_list PySem.F.slot_list_extend PySem.F.type_list_extend mt_extend (pv 1) (pa_cons (pe_lst (pa_cons (pe_op op_add (pe_ix ix_list (pv 3) pe_int (fun _ _ => rfl)) (pe_ix ix_list (pv 3) pe_int (fun _ _ => rfl))) (pa_cons (pe_ix ix_list (pv 3) pe_int (fun _ _ => rfl)) pa_nil))) pa_nil)))) (pss_one (ps_expr (pe_bm PySem.F.plainAttrs_list PySem.F.slot_list_extend PySem.F.type_list_extend mt_extend (pv 1) (pa_cons (pe_comp ["_law_k"] [] [] rfl (pi_range1 rfl M.range (pa_cons (pe_ix ix_list (pv 3) pe_int (fun _ _ => rfl)) pa_nil)) rfl trivial trivial (fun _ _ _ _ => (pg_name (i := 0) (show List.Nodup (["_law_k"] : List Str) from by decide +kernel) rfl (Or.inl rfl))) (fun _ _ _ _ => pif_nil) (fun _ _ _ _ => (pv 0))) pa_nil))))))))))))))
      (pss_one (ps_ret (pe_slice sl_list (pv 1) po_none (po_some pe_int)))))), ?_⟩
  refine ⟨(by show 0 ≤ sizeLine; decide), fun r hr0 => ?_⟩
  have g0 := same_new hr0 (.lst [])
  have k0 : upd H r (.lst []) r = some (.lst (([] : List Int).map V.int)) := upd_same
  generalize upd H r (.lst []) = H0 at g0 k0 ⊢
  refine ⟨_, rfl, _, rfl, a, _, rfl, g0.seq hS, fun p1 hp1 => ?_⟩
  have cut : cutV (ns.map V.int) none (some 14) = (ns.take 14).map V.int := by
    rw [List.map_take]; exact cut_first _ 14
  rw [cut]
  have g1 := same_new hp1 (.lst ((ns.take 14).map V.int))
  have k1 : upd H0 p1 (.lst ((ns.take 14).map V.int)) p1 = some (.lst ((ns.take 14).map V.int)) := upd_same
  generalize upd H0 p1 (.lst ((ns.take 14).map V.int)) = H1 at g1 k1 ⊢
  refine ⟨_, rfl, a, _, rfl, .inl ((g0.trans g1).seq hS), (by show 1 ≤ sizeLine; decide), fun p2 hp2 => ?_⟩
  have g2 := same_new hp2 (.lst [.int ((ns.map V.int).length : Nat)])
  have k2 : upd H1 p2 (.lst [.int ((ns.map V.int).length : Nat)]) p2 = some (.lst [.int ((ns.map V.int).length : Nat)]) := upd_same
  generalize upd H1 p2 (.lst [.int ((ns.map V.int).length : Nat)]) = H2 at g2 k2 ⊢
  have l14 : (ns.take 14).length ≤ 14 := by rw [List.length_take]; exact Nat.min_le_left _ _
  refine ⟨p1, p2, _, _, rfl, rfl, g2 _ _ k1, k2, (by rw [List.length_map]; exact small (by simp only [List.length_singleton]; omega)), fun p3 hp3 => ?_⟩
  obtain ⟨xs, ex, hxs⟩ : ∃ xs : List Int, (ns.take 14).map V.int ++ [V.int ((ns.map V.int).length : Nat)] = xs.map V.int ∧ xs.length ≤ 15 := by
    refine ⟨ns.take 14 ++ [(((ns.map V.int).length : Nat) : Int)], by rw [List.map_append]; rfl, ?_⟩
    rw [List.length_append, List.length_singleton]; omega
  rw [ex]
  have g3 := same_new hp3 (.lst (xs.map V.int))
  have k3 : upd H2 p3 (.lst (xs.map V.int)) p3 = some (.lst (xs.map V.int)) := upd_same
  have nr3 : r ≠ p3 := ne_of_none (g2 _ _ (g1 _ _ k0)) hp3
  have gA : Same H (upd H2 p3 (.lst (xs.map V.int))) := ((g0.trans g1).trans g2).trans g3
  have kr := g3 _ _ (g2 _ _ (g1 _ _ k0))
  generalize upd H2 p3 (.lst (xs.map V.int)) = H3 at k3 gA kr ⊢
  have zl : (xs.map V.int).length = xs.length := List.length_map _
  refine ⟨p3, rfl, ⟨_, SqL.of k3⟩, for_list (xs := xs.map V.int) (fun i σ H' => ∃ (ms : List Int) (o2 o3 : Option V), σ = [some (.ref a), some (.ref r), o2, o3] ∧ But r H3 H' ∧ H' r = some (.lst (ms.map V.int)) ∧ ms.length ≤ 41 * i ∧ ∀ n ∈ ms, 0 ≤ n) ⟨[], _, _, rfl, But.refl, kr, Nat.zero_le _, fun n hn => by simp at hn⟩ (fun i σ H' _ z => ?_) (fun i x σ H' hx z => ?_) (fun σ H' z => ?_)⟩
  · obtain ⟨ms, o2, o3, rfl, g, _⟩ := z; exact SqL.of (g _ _ (Ne.symm nr3) k3)
  · obtain ⟨ms, o2, o3, rfl, g, k, hlen, hpos⟩ := z
    have hi : i < xs.length := by
      have := (List.getElem?_eq_some_iff.mp hx).1
      rwa [zl] at this
    obtain ⟨c, _, rfl⟩ := get_ints hx
    refine ⟨_, rfl, _, _, rfl, rfl, ⟨by decide, by decide, by decide⟩, (by show 5 ≤ sizeLine; decide), fun l hl0 => ?_⟩
    have h1 := same_new hl0 (.lst [.int 6, .int 9, .int 12, .int 41, .int (10 ^ (29 : Int).toNat)])
    have j1 : upd H' l (.lst [.int 6, .int 9, .int 12, .int 41, .int (10 ^ (29 : Int).toNat)]) l = some (.lst (([6, 9, 12, 41, 10 ^ (29 : Int).toNat] : List Int).map V.int)) := upd_same
    generalize upd H' l (.lst [.int 6, .int 9, .int 12, .int 41, .int (10 ^ (29 : Int).toNat)]) = H4 at h1 j1 ⊢
    refine ⟨c, l, _, rfl, SqL.of j1, ?_, (by decide), fun d ws hd0 hB => ?_⟩
    · intro m hm
      simp only [List.mem_cons, List.not_mem_nil, or_false] at hm
      rcases hm with rfl | rfl | rfl | rfl | rfl
      · exact ⟨by decide, by decide⟩
      · exact ⟨by decide, by decide⟩
      · exact ⟨by decide, by decide⟩
      · exact ⟨by decide, by decide⟩
      · exact ⟨by decide, by decide⟩
    obtain ⟨v0, v1, v2, v3, v4, rfl, b0, b1, b2, b3, b4⟩ := below5 hB
    have h2 := h1.trans (same_new hd0 (.lst ([v0, v1, v2, v3, v4].map V.int)))
    have j2 : upd H4 d (.lst ([v0, v1, v2, v3, v4].map V.int)) d = some (.lst [.int v0, .int v1, .int v2, .int v3, .int v4]) := upd_same
    generalize upd H4 d (.lst ([v0, v1, v2, v3, v4].map V.int)) = H5 at h2 j2 ⊢
    have k5 := h2 _ _ k
    have g5 : But r H3 H5 := g.trans (But.of h2)
    have DR : ∀ {H6 : Hp}, Same H5 H6 → SqL K H6 d [.int v0, .int v1, .int v2, .int v3, .int v4] := fun g6 => SqL.of (g6 _ _ j2)
    -- a list ks laid at p is put behind
    have fin : ∀ (H6 : Hp) (ks : List Int), Same H5 H6 → ks.length ≤ 41 → (∀ n ∈ ks, 0 ≤ n) → ∃ (ms2 : List Int) (o2 o3 : Option V), [some (V.ref a), some (V.ref r), some (V.int c), some (V.ref d)] = [some (V.ref a), some (V.ref r), o2, o3] ∧ But r H3 (upd H6 r (.lst (ms.map V.int ++ ks.map V.int))) ∧ upd H6 r (.lst (ms.map V.int ++ ks.map V.int)) r = some (.lst (ms2.map V.int)) ∧ ms2.length ≤ 41 * (i + 1) ∧ ∀ n ∈ ms2, 0 ≤ n := fun H6 ks g6 hk hp => by
      refine ⟨ms ++ ks, _, _, rfl, (g5.trans (But.of g6)).trans But.upd, by rw [upd_same, List.map_append], by rw [List.length_append]; omega, fun n hn => ?_⟩
      rcases List.mem_append.mp hn with z | z
      · exact hpos n z
      · exact hp n z
    refine ⟨_, rfl, d, _, _, _, rfl, rfl, DR (Same.refl _), rfl, _, _, rfl, rfl, _, rfl, ite2 (fun _ => ?_) (fun _ => ?_)⟩
    · refine ⟨_, rfl, .inl ⟨rfl, _, SqL.of k5⟩, _, rfl, d, _, _, _, rfl, rfl, DR (Same.refl _), rfl, r, _, _, rfl, rfl, k5, (by rw [List.length_map]; exact small1000 (by omega)), ?_⟩
      exact fin H5 [v1] (Same.refl _) (by simp) (fun n hn => by rw [List.mem_singleton.mp hn]; exact b1.1)
    · refine ⟨_, rfl, d, _, _, _, rfl, rfl, DR (Same.refl _), rfl, rfl, _, rfl, ite2 (fun _ => ?_) (fun _ => ?_)⟩
      · refine ⟨_, rfl, .inl ⟨rfl, _, SqL.of k5⟩, _, rfl, d, _, _, _, rfl, rfl, DR (Same.refl _), rfl, _, rfl, by omega, by omega, comp_range (fun j ys H6 => H6 = H5 ∧ ys = (rangeL v1 j).map V.int) ⟨rfl, rfl⟩ (fun j ys H6 _ z => by rw [z.2, List.length_map, rangeL_length]; exact Nat.le_refl _) (by exact small1000 (by omega)) (fun j ys H6 hj z => ?_) (fun ys H6 z p hp => ?_)⟩
        · obtain ⟨rfl, rfl⟩ := z
          refine ⟨_, rfl, d, _, _, _, rfl, rfl, DR (Same.refl _), rfl, _, rfl, _, _, rfl, rfl, ⟨rfl, ?_⟩, _, rfl⟩
          rw [rangeL_succ, List.map_append, Int.zero_add]; rfl
        · obtain ⟨rfl, rfl⟩ := z
          have g6 := same_new hp (.lst ((rangeL v1 v2.toNat).map V.int))
          refine ⟨r, p, _, _, rfl, rfl, g6 _ _ k5, upd_same, (by rw [List.length_map, List.length_map, rangeL_length]; exact small (by omega)), ?_⟩
          refine fin _ (rangeL v1 v2.toNat) g6 (by rw [rangeL_length]; omega) (fun n hn => ?_)
          simp only [rangeL, List.mem_map, List.mem_range] at hn
          obtain ⟨j, _, rfl⟩ := hn
          omega
      · refine ⟨_, rfl, d, _, _, _, rfl, rfl, DR (Same.refl _), rfl, rfl, _, rfl, ite2 (fun _ => ?_) (fun _ => ?_)⟩
        · refine ⟨_, rfl, .inl ⟨rfl, _, SqL.of k5⟩, _, rfl, _, rfl, d, _, _, _, rfl, rfl, DR (Same.refl _), rfl, _, rfl, _, rfl, d, _, _, _, rfl, rfl, DR (Same.refl _), rfl, _, rfl, d, _, _, _, rfl, rfl, DR (Same.refl _), rfl, _, _, rfl, rfl, _, rfl, r, _, rfl, SqL.of k5, fun p hp => ?_⟩
          obtain ⟨n1, rfl⟩ := Int.eq_ofNat_of_zero_le b1.1
          obtain ⟨n2, rfl⟩ := Int.eq_ofNat_of_zero_le b2.1
          obtain ⟨ks, e1, e2, e3⟩ := cut_ints ms n1 n2
          have e1' : cutV (ms.map V.int) (some (n1 : Int)) (some ((n1 : Int) + (n2 : Int))) = ks.map V.int := by rw [← e1]; congr 2
          rw [e1']
          have g6 := same_new hp (.lst (ks.map V.int))
          refine ⟨r, p, _, _, rfl, rfl, g6 _ _ k5, upd_same, (by rw [List.length_map, List.length_map]; exact small (by omega)), ?_⟩
          exact fin _ ks g6 (by omega) (fun n hn => hpos n (e3 n hn))
        · refine ⟨_, rfl, d, _, _, _, rfl, rfl, DR (Same.refl _), rfl, rfl, _, rfl, ite2 (fun _ => ?_) (fun _ => ?_)⟩
          · refine ⟨_, rfl, .inl ⟨rfl, _, SqL.of k5⟩, _, rfl, d, _, _, _, rfl, rfl, DR (Same.refl _), rfl, _, rfl, d, _, _, _, rfl, rfl, DR (Same.refl _), rfl, _, _, rfl, rfl, _, rfl, d, _, _, _, rfl, rfl, DR (Same.refl _), rfl, (by show 2 ≤ sizeLine; decide), fun p hp => ?_⟩
            have g6 := same_new hp (.lst [.int (v4 + v1), .int v4])
            refine ⟨r, p, _, _, rfl, rfl, g6 _ _ k5, upd_same, (by rw [List.length_map]; exact small (by simp only [List.length_cons, List.length_nil]; omega)), ?_⟩
            refine fin _ [v4 + v1, v4] g6 (by simp) (fun n hn => ?_)
            simp only [List.mem_cons, List.not_mem_nil, or_false] at hn
            rcases hn with rfl | rfl <;> omega
          · refine ⟨_, rfl, .inl ⟨rfl, _, SqL.of k5⟩, _, rfl, d, _, _, _, rfl, rfl, DR (Same.refl _), rfl, _, rfl, by omega, by omega, comp_range (fun j ys H6 => H6 = H5 ∧ ys = (rangeL 0 j).map V.int) ⟨rfl, rfl⟩ (fun j ys H6 _ z => by rw [z.2, List.length_map, rangeL_length]; exact Nat.le_refl _) (by exact small1000 (by omega)) (fun j ys H6 hj z => ?_) (fun ys H6 z p hp => ?_)⟩
            · obtain ⟨rfl, rfl⟩ := z
              refine ⟨_, rfl, ⟨rfl, ?_⟩, _, rfl⟩
              rw [rangeL_succ, List.map_append]; rfl
            · obtain ⟨rfl, rfl⟩ := z
              have g6 := same_new hp (.lst ((rangeL 0 v3.toNat).map V.int))
              refine ⟨r, p, _, _, rfl, rfl, g6 _ _ k5, upd_same, (by rw [List.length_map, List.length_map, rangeL_length]; exact small (by omega)), ?_⟩
              refine fin _ (rangeL 0 v3.toNat) g6 (by rw [rangeL_length]; omega) (fun n hn => ?_)
              simp only [rangeL, List.mem_map, List.mem_range] at hn
              obtain ⟨j, _, rfl⟩ := hn
              omega
  · obtain ⟨ms, o2, o3, rfl, g, k, hlen, hpos⟩ := z
    refine ⟨_, rfl, _, rfl, r, _, rfl, SqL.of k, fun p hp => ?_⟩
    have cut2 : cutV (ms.map V.int) none (some 80) = (ms.take 80).map V.int := by
      rw [List.map_take]; exact cut_first _ 80
    rw [cut2]
    have gH : Same H H' := fun b o e => g b o (ne_of_none e hr0) (gA _ _ e)
    exact q p _ _ (gH.trans (same_new hp _)) (gH.free hp) ⟨by rw [List.length_take]; exact Nat.min_le_left _ _, fun n hn => hpos n (List.mem_of_mem_take hn)⟩ upd_same
end
end K51

namespace K51
open PySem L2 PyProof.Rows M49 M51
abbrev s_is_alike : Stmt := top 9
theorem sc_is_alike : FnScope ["thing", "wanted"] ["thing", "wanted"] (defScope s_is_alike) := ⟨rfl, rfl, rfl, by decide +kernel, rfl, by decide +kernel, by decide +kernel⟩
section
variable {P : Program} {w : World} {K : PySem.W.Frag} {mg : Str → Option Value} {base : Heap}
theorem ok_is_alike {k n : Nat} {f : Addr} {fd : FuncData} (F : Fun K "is_alike" "is_alike" s_is_alike f fd) (M : Blt mg) {t1 : Tok} (C : Cst K mg t1) {C_Kept f_Kept_init : Addr} (T_Kept : TCls K mg "Kept" C_Kept f_Kept_init ["bound", "held"]) {f_are_alike : Addr} {fd_are_alike : FuncData} (D_are_alike : Df K mg "are_alike" f_are_alike fd_are_alike ["things", "wanted"]) (G_are_alike : FnOk P w K mg base CX0 k f_are_alike fd_are_alike ["things", "wanted"] (spAreP K n)) : FnOk P w K mg base CX0 (k + 2) f fd ["thing", "wanted"] (spIs K n) := by
  refine F.ok sc_is_alike (fun vs H Q E h => ?_) (fun cdv A outer s0 H vs Q E hr0 h => ?_)
  · obtain ⟨x, y, d, w, rfl, _⟩ := h; rfl
  obtain ⟨x, y, d, w, rfl, hx, hy, hf, q⟩ := h
  have hr := hr0.mono (Nat.le_succ _)
  refine ⟨_, (pss_cons (ps_if (pt_val (pe_callB call_isiM rfl M.isinstance boot_isinstance (pa_cons (pv 1) (pa_cons (pe_bltn (v := .ty "list") rfl M.list boot_list rfl) pa_nil)))) (pss_one (ps_ret (pe_and (pe_callB call_isiM rfl M.isinstance boot_isinstance (pa_cons (pv 0) (pa_cons (pe_bltn (v := .ty "list") rfl M.list boot_list rfl) pa_nil))) (pe_one (pe_call G_are_alike hr rfl D_are_alike.m D_are_alike.k D_are_alike.b .nil pass0 (pa_cons (pv 0) (pa_cons (pv 1) pa_nil))))))) pss_nil)
      (pss_cons (ps_if (pt_val (pe_callB call_isiM rfl M.isinstance boot_isinstance (pa_cons (pv 1) (pa_cons (pe_bltn (v := .ty "tuple") rfl M.tuple boot_tuple rfl) pa_nil)))) (pss_one (ps_ret (pe_and (pe_callB call_isiM rfl M.isinstance boot_isinstance (pa_cons (pv 0) (pa_cons (pe_bltn (v := .ty "tuple") rfl M.tuple boot_tuple rfl) pa_nil))) (pe_one (pe_call G_are_alike hr rfl D_are_alike.m D_are_alike.k D_are_alike.b .nil pass0 (pa_cons (pv 0) (pa_cons (pv 1) pa_nil))))))) pss_nil)
      (pss_cons (ps_if (pt_cmpR op_ne (pe_callB call_isiM rfl M.isinstance boot_isinstance (pa_cons (pv 0) (pa_cons (pe_bltn (v := .ty "bool") rfl M.bool boot_bool rfl) pa_nil))) (pe_callB call_isiM rfl M.isinstance boot_isinstance (pa_cons (pv 1) (pa_cons (pe_bltn (v := .ty "bool") rfl M.bool boot_bool rfl) pa_nil))) (nomark _)) (pss_one (ps_ret pe_bl)) pss_nil)
      (pss_one (ps_ret (pe_cmpR (op_eqD hr.units) (pv 0) (pv 1) (nomark _))))))), ?_⟩
  refine ⟨_, rfl, _, _, _, rfl, by decide, .inl hy.ty, _, rfl, ?_⟩
  rw [isaL]
  have atom : isAt w = true → isL w = false ∧ isT w = false := fun z => by cases w <;> first | exact ⟨rfl, rfl⟩ | cases z
  by_cases hw : isAt w = true
  · have hd : isAt d = true := by
      cases n with
      | zero => exact hf.1
      | succ m =>
        rcases hf with z | ⟨ws', e, _⟩ | ⟨ws', e, _⟩
        · exact z.1
        · subst e; cases hw
        · subst e; cases hw
    rw [(atom hw).1]
    refine iteF ⟨_, rfl, _, _, _, rfl, by decide, .inl hy.ty, _, rfl, ?_⟩
    rw [isaT, (atom hw).2]
    refine iteF ⟨_, rfl, _, _, _, rfl, by decide, hx.ty, _, rfl, _, _, _, rfl, by decide, .inl hy.ty, rfl, _, rfl, ?_⟩
    rw [isaB, isaB]
    have e0 : al n d w = (if (isB d != isB w) = true then false else PyData.eqv d w) := al_at hw
    refine ite2 (fun c => ?_) (fun c => ?_)
    · rw [e0, if_pos (by simpa using c)] at q
      exact q H (Same.refl _)
    · rw [e0, if_neg (by simpa using c)] at q
      rcases hx with hx | ⟨_, z⟩
      · refine ⟨_, rfl, _, rfl, d, w, hx, hy, at_shaped hd, at_shaped hw, ?_⟩
        have := q H (Same.refl _)
        simpa using this
      · subst z; cases hd
  cases w with
  | list ws =>
    cases n with
    | zero => cases hf.2
    | succ m =>
      rcases hf with ⟨_, z⟩ | ⟨ws', e, hl, hp⟩ | ⟨ws', e, hl, hp⟩
      · cases z
      ·
        cases e
        refine iteP rfl ⟨_, rfl, _, _, _, rfl, by decide, hx.ty, _, rfl, ?_⟩
        rw [isaL]
        cases d with
        | list ds =>
          rcases hx with hx | ⟨_, z⟩
          · cases hx with
            | lst h1 h2 =>
              cases hy with
              | lst h3 h4 => exact iteP rfl ⟨_, rfl, _, rfl, false, _, _, _, _, ds, ws, rfl, h1, h3, h2, h4, hl, hp ds rfl, fun H' g => q H' g⟩
          · cases z
        | _ => exact iteN Bool.false_ne_true (q H (Same.refl _))
      · cases e
  | tuple ws =>
    cases n with
    | zero => cases hf.2
    | succ m =>
      rcases hf with ⟨_, z⟩ | ⟨ws', e, hl, hp⟩ | ⟨ws', e, hl, hp⟩
      · cases z
      · cases e
      ·
        refine iteN Bool.false_ne_true ⟨_, rfl, _, _, _, rfl, by decide, .inl hy.ty, _, rfl, ?_⟩
        rw [isaT]
        cases e
        refine iteP rfl ⟨_, rfl, _, _, _, rfl, by decide, hx.ty, _, rfl, ?_⟩
        rw [isaT]
        cases d with
        | tuple ds =>
          rcases hx with hx | ⟨_, z⟩
          · cases hx with
            | tup h1 h2 =>
              cases hy with
              | tup h3 h4 => exact iteP rfl ⟨_, rfl, _, rfl, true, _, _, _, _, ds, ws, rfl, h1, h3, h2, h4, hl, hp ds rfl, fun H' g => q H' g⟩
          · cases z
        | _ => exact iteN Bool.false_ne_true (q H (Same.refl _))
  | dict kvs => cases hy
  | str x =>
    cases n with
    | zero => exact absurd hf.2 hw
    | succ m => rcases hf with z | ⟨ws', e, _⟩ | ⟨ws', e, _⟩ <;> first | exact absurd z.2 hw | cases e
  | _ => exact absurd rfl hw
end
end K51

namespace K51
open PySem L2 PyProof.Rows M49 M51
abbrev s_are_alike : Stmt := top 10
theorem sc_are_alike : FnScope ["things", "wanted"] ["things", "wanted"] (defScope s_are_alike) := ⟨rfl, rfl, rfl, by decide +kernel, rfl, by decide +kernel, by decide +kernel⟩
section
variable {P : Program} {w : World} {K : PySem.W.Frag} {mg : Str → Option Value} {base : Heap}
theorem ok_are_alike {k n : Nat} {f : Addr} {fd : FuncData} (F : Fun K "are_alike" "are_alike" s_are_alike f fd) (M : Blt mg) {t1 : Tok} (C : Cst K mg t1) {C_Kept f_Kept_init : Addr} (T_Kept : TCls K mg "Kept" C_Kept f_Kept_init ["bound", "held"]) {f_is_alike : Addr} {fd_is_alike : FuncData} (D_is_alike : Df K mg "is_alike" f_is_alike fd_is_alike ["thing", "wanted"]) (G_is_alike : FnOk P w K mg base CX0 k f_is_alike fd_is_alike ["thing", "wanted"] (spIs K n)) : FnOk P w K mg base CX0 (k + 2) f fd ["things", "wanted"] (spAre K n) := by
  refine F.ok sc_are_alike (fun vs H Q E h => ?_) (fun cdv A outer s0 H vs Q E hr0 h => ?_)
  · obtain ⟨b, a1, a2, xs, ys, ds, ws, rfl, _⟩ := h; rfl
  obtain ⟨b, a1, a2, xs, ys, ds, ws, rfl, h1, h2, e1, e2, hl, hf, q⟩ := h
  have hr := hr0.mono (Nat.le_succ _)
  refine ⟨_, (pss_cons (ps_if (pt_cmpR op_ne (pe_callB call_len_seq rfl M.len PySem.boot_len (pa_cons (pv 0) pa_nil)) (pe_callB call_len_seq rfl M.len PySem.boot_len (pa_cons (pv 1) pa_nil)) (nomark _)) (pss_one (ps_ret pe_bl)) pss_nil)
      (pss_one (ps_ret (pe_callB (call_all rfl) rfl M.all boot_all (pa_cons (pe_comp ["thing", "other"] [] [] rfl (pi_zip rfl M.zip (pa_cons (pv 0) (pa_cons (pv 1) pa_nil))) rfl trivial trivial (fun _ _ _ _ => ((pg_tupK (K := K) (n := 2) rfl) rfl (pgs_cons (pg_name (i := 0) (show List.Nodup (["thing", "other"] : List Str) from by decide +kernel) rfl (Or.inl rfl)) (pgs_cons (pg_name (i := 1) (show List.Nodup (["thing", "other"] : List Str) from by decide +kernel) rfl (Or.inl rfl)) pgs_nil)))) (fun _ _ _ _ => pif_nil) (fun _ _ _ _ => (pe_call G_is_alike hr rfl D_is_alike.m D_is_alike.k D_is_alike.b .nil pass0 (pa_cons (pv 0) (pa_cons (pv 1) pa_nil))))) pa_nil))))), ?_⟩
  have l1 := e1.length
  have l2 := e2.length
  refine ⟨_, rfl, _, _, rfl, Sq2.len (b := b) h1, _, rfl, _, _, rfl, Sq2.len (b := b) h2, rfl, _, rfl, ite2 (fun c => ?_) (fun c => ?_)⟩
  · have ne : ds.length ≠ ws.length := fun z => by
      rw [show xs.length = ys.length by omega] at c
      simp at c
    rw [alAll_len ne] at q
    exact q H (Same.refl _)
  · have eq : ys.length = xs.length := by
      have : decide (V.int (xs.length : Nat) = V.int (ys.length : Nat)) = true := by simpa using c
      have := V.int.inj (of_decide_eq_true this)
      omega
    refine ⟨b, _, rfl, _, rfl, a1, a2, xs, ys, rfl, h1, h2, comp_zip (xs := xs) (ys := ys) (fun i zs H' => Same H H' ∧ zs = (bits (al n) ds ws i).map V.bl) eq ⟨Same.refl _, rfl⟩ (fun i zs H' _ z => ⟨Sq2.sm (b := b) h1 z.1, Sq2.sm (b := b) h2 z.1, by rw [z.2, List.length_map, bits_length]; exact Nat.le_refl _⟩) (small1000 (by omega)) (fun i x y zs H' p os ho hx hy z hp => ?_) (fun zs H' z p hp => ?_)⟩
    · obtain ⟨g, rfl⟩ := z
      obtain ⟨o1, o2, rfl⟩ := len2 ho
      obtain ⟨d, hd, dx⟩ := e1.get hx
      obtain ⟨w', hw, dy⟩ := e2.get hy
      have g2 := same_new hp (.tup [x, y])
      refine ⟨p, _, rfl, SqT.of upd_same, rfl, _, _, rfl, _, _, rfl, rfl, _, rfl, _, rfl, x, y, d, w', rfl, .inl ((dx.same g).same g2), (dy.same g).same g2, hf i d w' hd hw, fun H3 g3 => ⟨⟨(g.trans g2).trans g3, ?_⟩, [_, _], rfl, rfl⟩⟩
      rw [bits_succ, List.map_append, getD_of hd, getD_of hw]; rfl
    · obtain ⟨g, rfl⟩ := z
      have g2 := same_new hp (.lst ((bits (al n) ds ws xs.length).map V.bl))
      refine ⟨p, _, rfl, SqL.of upd_same, ?_⟩
      have e : (bits (al n) ds ws xs.length).all id = alAll (al n) ds ws := by
        rw [alAll_all (by omega), ← l1]; rfl
      rw [e]
      exact q _ (g.trans g2)
end
end K51

namespace K51
open PySem L2 PyProof.Rows M49 M51
abbrev s_is_fetches : Stmt := top 18
theorem sc_is_fetches : FnScope ["lines", "most", "thing"] ["lines", "most", "thing"] (defScope s_is_fetches) := ⟨rfl, rfl, rfl, by decide +kernel, rfl, by decide +kernel, by decide +kernel⟩
section
variable {P : Program} {w : World} {K : PySem.W.Frag} {mg : Str → Option Value} {base : Heap}
theorem ok_is_fetches {k : Nat} {f : Addr} {fd : FuncData} (F : Fun K "is_fetches" "is_fetches" s_is_fetches f fd) (M : Blt mg) {t1 : Tok} (C : Cst K mg t1) {C_Kept f_Kept_init : Addr} (T_Kept : TCls K mg "Kept" C_Kept f_Kept_init ["bound", "held"]) {f_is_alike : Addr} {fd_is_alike : FuncData} (D_is_alike : Df K mg "is_alike" f_is_alike fd_is_alike ["thing", "wanted"]) (G_is_alike : FnOk P w K mg base CX0 k f_is_alike fd_is_alike ["thing", "wanted"] (spIs K 2)) {f_fetches : Addr} {fd_fetches : FuncData} (D_fetches : Df K mg "fetches" f_fetches fd_fetches ["lines", "most"]) (G_fetches : FnOk P w K mg base CX0 k f_fetches fd_fetches ["lines", "most"] (spFetches K)) : FnOk P w K mg base CX0 (k + 2) f fd ["lines", "most", "thing"] (spIsF K) := by
  refine F.ok sc_is_fetches (fun vs H Q E h => ?_) (fun cdv A outer s0 H vs Q E hr0 h => ?_)
  · obtain ⟨a, ns, B, x, d, rfl, _⟩ := h; rfl
  obtain ⟨a, ns, B, x, d, rfl, hS, hN, hB1, hB2, hx, hf, q⟩ := h
  have hr := hr0.mono (Nat.le_succ _)
  refine ⟨_, (pss_one (ps_ret (pe_call G_is_alike hr rfl D_is_alike.m D_is_alike.k D_is_alike.b .nil pass0 (pa_cons (pv 2) (pa_cons (pe_call G_fetches hr rfl D_fetches.m D_fetches.k D_fetches.b .nil pass0 (pa_cons (pv 0) (pa_cons (pv 1) pa_nil))) pa_nil))))), ?_⟩
  refine ⟨_, rfl, _, rfl, _, rfl, a, ns, B, rfl, hS, hN, hB1, hB2, fun r H1 g1 hr0 hR => ?_⟩
  exact ⟨x, .ref r, d, _, rfl, hx.same g1, hR.dat, hf, fun H2 g2 => q H2 (g1.trans g2)⟩
end
end K51

namespace K51
open PySem L2 PyProof.Rows M49 M51
abbrev s_law_due : Stmt := top 22
theorem sc_law_due : FnScope ["_law_lines_here", "_law_most", "_law_had", "_law_found", "_law_line", "_law_fetched", "_law_out"] ["_law_lines_here", "_law_most"] (defScope s_law_due) := ⟨rfl, rfl, rfl, by decide +kernel, rfl, by decide +kernel, by decide +kernel⟩
section
variable {P : Program} {w : World} {K : PySem.W.Frag} {mg : Str → Option Value} {base : Heap}
theorem ok_law_due {k : Nat} {f : Addr} {fd : FuncData} (F : Fun K "_law_due" "_law_due" s_law_due f fd) (M : Blt mg) {t1 : Tok} (C : Cst K mg t1) {C_Kept f_Kept_init : Addr} (T_Kept : TCls K mg "Kept" C_Kept f_Kept_init ["bound", "held"]) : FnOk P w K mg base CX0 (k + 2) f fd ["_law_lines_here", "_law_most"] (spDueK K) := by
  refine F.ok sc_law_due (fun vs H Q E h => ?_) (fun cdv A outer s0 H vs Q E hr0 h => ?_)
  · obtain ⟨a, ns, B, rfl, _⟩ := h; rfl
  obtain ⟨a, ns, B, rfl, hS, hlen, hB1, hB2, q⟩ := h
  have hr := hr0.mono (Nat.le_succ _)
  refine ⟨_, (pss_cons (ps_set (i := 2) sc_law_due.nd rfl (by first | exact Or.inl rfl | exact Or.inr rfl) (pe_lst pa_nil))
      (pss_cons (ps_set (i := 3) sc_law_due.nd rfl (by first | exact Or.inl rfl | exact Or.inr rfl) (pe_lst pa_nil))
      (pss_cons (ps_for PassesOwn.never rfl (pi_list (pv 0)) (pg_name (i := 4) sc_law_due.nd rfl (Or.inr rfl)) (pss_cons (ps_set (i := 5) sc_law_due.nd rfl (by first | exact Or.inl rfl | exact Or.inr rfl) (pe_cmpR op_notInI (pv 4) (pv 2) (by with_unfolding_all rfl)))
      (pss_cons (ps_set (i := 6) sc_law_due.nd rfl (by first | exact Or.inl rfl | exact Or.inr rfl) (pe_ifExp (PW.pt (pw_and (pt_val (pv 5)) (pw_and1 (pt_cmpR op_eq (pe_callB call_len_seq rfl M.len PySem.boot_len (pa_cons (pv 2) pa_nil)) (pv 1) (nomark _))))) (pe_ix ix_list (pv 2) (pe_un un_neg pe_int) (fun _ _ => rfl)) pe_non))
      (pss_cons (ps_set (i := 2) sc_law_due.nd rfl (by first | exact Or.inl rfl | exact Or.inr rfl) (pe_op op_cat (pe_lst (pa_cons (pv 4) pa_nil)) (pe_slice sl_list (pe_comp ["_law_other"] ["_law_line"] [4] rfl (pi_list (pv 2)) rfl ⟨rfl, trivial⟩ ⟨⟨rfl, rfl, rfl, _, rfl⟩, trivial⟩ (fun _ _ _ _ => (pg_name (i := 0) (show List.Nodup (["_law_other", "_law_line"] : List Str) from by decide +kernel) rfl (Or.inl rfl))) (fun _ _ _ _ => (pif_one (pt_cmpR op_ne (pv 0) (pv 1) (nomark _)))) (fun _ _ _ _ => (pv 0))) po_none (po_some (pe_op op_sub (pv 1) pe_int)))))
      (pss_one (ps_expr (pe_bm PySem.F.plainAttrs_list PySem.F.slot_list_append PySem.F.type_list_append mt_append (pv 3) (pa_cons (pe_tup (pa_cons (pv 4) (pa_cons (pv 5) (pa_cons (pv 6) pa_nil)))) pa_nil))))))))
      (pss_one (ps_ret (pv 3)))))), ?_⟩
  refine ⟨(by show 0 ≤ sizeLine; decide), fun h0 hh0 => ?_⟩
  have g0 := same_new hh0 (.lst [])
  have kh : upd H h0 (.lst []) h0 = some (.lst (([] : List Int).map V.int)) := upd_same
  generalize upd H h0 (.lst []) = H0 at g0 kh ⊢
  refine ⟨(by show 0 ≤ sizeLine; decide), fun r hr => ?_⟩
  have g1 := same_new hr (.lst [])
  have hr0 : H r = none := g0.free hr
  have kr : upd H0 r (.lst []) r = some (.lst (refs [])) := upd_same
  have kh1 := g1 _ _ kh
  have nhr : h0 ≠ r := ne_of_none kh hr
  have gA : Same H (upd H0 r (.lst [])) := g0.trans g1
  generalize upd H0 r (.lst []) = H1 at gA kr kh1 ⊢
  have zl : (ns.map V.int).length = ns.length := List.length_map _
  refine ⟨_, rfl, a, rfl, ⟨_, gA.seq hS⟩, for_list (xs := ns.map V.int) (fun i σ H' => ∃ (hd : Addr) (o4 o5 o6 : Option V) (ts : List Rw), σ = [some (.ref a), some (.int B), some (.ref hd), some (.ref r), o4, o5, o6] ∧ But r H1 H' ∧ H' hd = some (.lst ((held (ns.take i) B).map V.int)) ∧ hd ≠ r ∧ H' r = some (.lst (refs ts)) ∧ RwAll K H' ts ∧ ts.map (·.2) = dueL ns B i) ⟨h0, _, _, _, [], rfl, But.refl, (by rw [List.take_zero, held_nil]; exact kh1), nhr, kr, RwAll.nil, rfl⟩ (fun i σ H' _ z => ?_) (fun i x σ H' hx z => ?_) (fun σ H' z => ?_)⟩
  · obtain ⟨hd, o4, o5, o6, ts, rfl, g, _⟩ := z
    have gS : Same H H' := fun b o e => g b o (ne_of_none e hr0) (gA _ _ e)
    exact gS.seq hS
  · obtain ⟨hd, o4, o5, o6, ts, rfl, g, khd, nh, k, hR, he⟩ := z
    obtain ⟨n, hn, rfl⟩ := get_ints hx
    have hi : i < ns.length := (List.getElem?_eq_some_iff.mp hn).1
    have lts : (refs ts).length = i := by rw [rows_len he, dueL_length]
    have hlB := held_len (ns.take i) B
    refine ⟨_, rfl, _, rfl, hd, n, _, rfl, rfl, SqL.of khd, ?_⟩
    generalize hhs : held (ns.take i) B = hs at khd hlB
    dsimp only [gName]
    refine joinA (v := outV (outO B hs n)) (H' := H') ?_ (fun Q' hQ => ?_)
    · refine ⟨_, rfl, (by show 1 ≤ sizeLine; decide), fun p1 hp1 => ?_⟩
      have g2 := same_new hp1 (.lst [.int n])
      have k2 : upd H' p1 (.lst [.int n]) p1 = some (.lst [.int n]) := upd_same
      have khd2 := g2 _ _ khd
      generalize upd H' p1 (.lst [.int n]) = H2 at g2 k2 khd2 ⊢
      refine ⟨_, rfl, hd, rfl, ⟨_, SqL.of khd2⟩, comp_list (xs := hs.map V.int) (fun j ys H3 => H3 = H2 ∧ ys = ((hs.take j).filter fun z => decide (z ≠ n)).map V.int) ⟨rfl, rfl⟩ (fun j ys H3 _ z => ?_) (small1000 (by rw [List.length_map]; omega)) (fun j x ys H3 hx z => ?_) (fun ys H3 z p2 hp2 => ?_)⟩
      · obtain ⟨rfl, rfl⟩ := z
        refine ⟨SqL.of khd2, ?_⟩
        rw [List.length_map]
        exact Nat.le_trans (List.length_filter_le _ _) (by rw [List.length_take]; exact Nat.min_le_left _ _)
      · obtain ⟨rfl, rfl⟩ := z
        obtain ⟨y, hy, rfl⟩ := get_ints hx
        have e := fil_take (fun z => decide (z ≠ n)) hy
        refine ⟨_, rfl, _, rfl, rfl, _, rfl, ?_⟩
        by_cases hyn : y = n
        · rw [if_neg (by simp [hyn]), List.append_nil] at e
          exact iteN (by simp [hyn]) ⟨⟨rfl, by rw [e]⟩, _, rfl⟩
        · rw [if_pos (by simp [hyn])] at e
          exact iteP (by simp [hyn]) ⟨_, rfl, ⟨rfl, by rw [e, List.map_append]; rfl⟩, _, rfl⟩
      · obtain ⟨rfl, rfl⟩ := z
        rw [show (hs.map V.int).length = hs.length from List.length_map _, List.take_length]
        have g3 := same_new hp2 (.lst ((hs.filter fun z => decide (z ≠ n)).map V.int))
        have k3 : upd H3 p2 (.lst ((hs.filter fun z => decide (z ≠ n)).map V.int)) p2 = some (.lst ((hs.filter fun z => decide (z ≠ n)).map V.int)) := upd_same
        have k23 := g3 _ _ k2
        generalize upd H3 p2 (.lst ((hs.filter fun z => decide (z ≠ n)).map V.int)) = H4 at g3 k3 k23 ⊢
        refine ⟨_, rfl, _, _, rfl, rfl, _, rfl, p2, _, rfl, SqL.of k3, fun p3 hp3 => ?_⟩
        have cut : cutV ((hs.filter fun z => decide (z ≠ n)).map V.int) none (some ((B : Int) - 1)) = ((hs.filter fun z => decide (z ≠ n)).take (B - 1)).map V.int := by
          rw [show (B : Int) - 1 = ((B - 1 : Nat) : Int) by omega, cut_first, List.map_take]
        rw [cut]
        have g4 := same_new hp3 (.lst (((hs.filter fun z => decide (z ≠ n)).take (B - 1)).map V.int))
        have k4 : upd H4 p3 (.lst (((hs.filter fun z => decide (z ≠ n)).take (B - 1)).map V.int)) p3 = some (.lst (((hs.filter fun z => decide (z ≠ n)).take (B - 1)).map V.int)) := upd_same
        have k24 := g4 _ _ k23
        generalize upd H4 p3 (.lst (((hs.filter fun z => decide (z ≠ n)).take (B - 1)).map V.int)) = H5 at g4 k4 k24 ⊢
        refine ⟨p1, p3, _, _, rfl, rfl, k24, k4, ?_, fun p4 hp4 => ?_⟩
        · rw [List.length_map, List.length_take]; exact small (by simp only [List.length_singleton]; omega)
        have e5 : [V.int n] ++ ((hs.filter fun z => decide (z ≠ n)).take (B - 1)).map V.int = (held (ns.take (i + 1)) B).map V.int := by
          rw [take_snoc hn, held_next hB1, hhs]; rfl
        rw [e5]
        have g5 := same_new hp4 (.lst ((held (ns.take (i + 1)) B).map V.int))
        have k5 : upd H5 p4 (.lst ((held (ns.take (i + 1)) B).map V.int)) p4 = some (.lst ((held (ns.take (i + 1)) B).map V.int)) := upd_same
        have nhr2 : p4 ≠ r := Ne.symm (ne_of_none (((g2.trans g3).trans g4) _ _ k) hp4)
        have gX : Same H' (upd H5 p4 (.lst ((held (ns.take (i + 1)) B).map V.int))) := ((g2.trans g3).trans g4).trans g5
        generalize upd H5 p4 (.lst ((held (ns.take (i + 1)) B).map V.int)) = H6 at gX k5 ⊢
        refine ⟨_, rfl, .inl ⟨rfl, _, SqL.of (gX _ _ k)⟩, _, rfl, _, rfl, _, rfl, (by show 3 ≤ sizeLine; decide), fun t ht => ?_⟩
        have g6 := same_new ht (.tup [.int n, .bl (decide (n ∉ hs)), outV (outO B hs n)])
        have k6 := g6 _ _ (gX _ _ k)
        refine ⟨r, _, _, rfl, rfl, k6, (by rw [lts]; exact small1000 (by omega)), ?_⟩
        have kt : SqT K (upd (upd H6 t (.tup [.int n, .bl (decide (n ∉ hs)), outV (outO B hs n)])) r (.lst (refs ts ++ [.ref t]))) t [.int n, .bl (decide (n ∉ hs)), outV (outO B hs n)] := But.upd.tup k6 (SqT.of upd_same)
        refine ⟨p4, _, _, _, ts ++ [(t, row B hs n)], rfl, ((g.trans (But.of gX)).trans (But.of g6)).trans But.upd, ?_, nhr2, ?_, ?_, ?_⟩
        · rw [upd_ne nhr2]; exact g6 _ _ k5
        · rw [upd_same, refs_snoc]
        · exact RwAll.snoc ((hR.same (gX.trans g6)).but But.upd k6) kt
        · rw [List.map_append, he, dueL_succ, num_get hn, hhs]; rfl
    · refine ⟨_, rfl, _, rfl, ?_⟩
      by_cases hm : n ∈ hs
      · rw [show outO B hs n = none from if_pos hm] at hQ
        exact iteN (by simp [hm]) (iteF hQ)
      · refine iteP (by simp [hm]) ⟨_, rfl, hd, _, rfl, .inl (SqL.of khd), _, rfl, rfl, _, rfl, ?_⟩
        by_cases hl : hs.length = B
        · obtain ⟨y, hy⟩ := last_some hl hB1
          rw [show outO B hs n = hs.getLast? from by unfold outO; rw [if_neg hm, if_pos hl], hy] at hQ
          exact iteP (by rw [List.length_map, hl]; simp) ⟨_, rfl, _, rfl, hd, _, _, _, rfl, rfl, SqL.of khd, last_at hy, hQ⟩
        · rw [show outO B hs n = none from by unfold outO; rw [if_neg hm, if_neg hl]] at hQ
          refine iteN (by rw [List.length_map]; simp; omega) hQ
  · obtain ⟨hd, o4, o5, o6, ts, rfl, g, khd, nh, k, hR, he⟩ := z
    have gS : Same H H' := fun b o e => g b o (ne_of_none e hr0) (gA _ _ e)
    rw [zl] at he
    exact ⟨_, rfl, q r H' gS hr0 ⟨ts, k, hR, he⟩⟩
end
end K51

namespace K51
open PySem L2 PyProof.Rows M49 M51
abbrev s_law_row : Stmt := top 23
theorem sc_law_row : FnScope ["_law_way", "_law_row_here", "_law_line", "_law_fetched", "_law_out"] ["_law_way", "_law_row_here"] (defScope s_law_row) := ⟨rfl, rfl, rfl, by decide +kernel, rfl, by decide +kernel, by decide +kernel⟩
section
variable {P : Program} {w : World} {K : PySem.W.Frag} {mg : Str → Option Value} {base : Heap}
theorem ok_law_row {k : Nat} {f : Addr} {fd : FuncData} (F : Fun K "_law_row" "_law_row" s_law_row f fd) (M : Blt mg) {t1 : Tok} (C : Cst K mg t1) {C_Kept f_Kept_init : Addr} (T_Kept : TCls K mg "Kept" C_Kept f_Kept_init ["bound", "held"]) : FnOk P w K mg base CX0 (k + 2) f fd ["_law_way", "_law_row_here"] (spRow K) := by
  refine F.ok sc_law_row (fun vs H Q E h => ?_) (fun cdv A outer s0 H vs Q E hr0 h => ?_)
  · obtain ⟨m, t, r, rfl, _⟩ := h; rfl
  obtain ⟨m, t, ⟨n, b, o⟩, rfl, hm, hT, q⟩ := h
  have hr := hr0.mono (Nat.le_succ _)
  refine ⟨_, (pss_cons (ps_asg (pv 1) (pg_tup rfl (pgs_cons (pg_name (i := 2) sc_law_row.nd rfl (Or.inl rfl)) (pgs_cons (pg_name (i := 3) sc_law_row.nd rfl (Or.inl rfl)) (pgs_cons (pg_name (i := 4) sc_law_row.nd rfl (Or.inl rfl)) pgs_nil)))))
      (pss_cons (ps_if (pt_cmpR op_lt (pv 0) pe_int (nomark _)) (pss_one (ps_ret (pe_ix ix_list (pe_lst (pa_cons (pe_tup (pa_cons (pe_op op_add (pv 2) pe_int) (pa_cons (pv 3) (pa_cons (pv 4) pa_nil)))) (pa_cons (pe_tup (pa_cons (pv 2) (pa_cons (pe_not (pv 3)) (pa_cons (pv 4) pa_nil)))) (pa_cons (pe_tup (pa_cons (pv 2) (pa_cons (pe_callTy call_int_bl rfl M.int boot_int (pa_cons (pv 3) pa_nil)) (pa_cons (pv 4) pa_nil)))) (pa_cons (pe_tup (pa_cons (pv 2) (pa_cons (pv 3) pa_nil))) pa_nil))))) (pv 0) (fun _ _ => rfl)))) pss_nil)
      (pss_cons (ps_if (pt_cmpR op_lt (pv 0) pe_int (nomark _)) (pss_one (ps_ret (pe_ix ix_list (pe_lst (pa_cons (pe_lst (pa_cons (pv 2) (pa_cons (pv 3) (pa_cons (pv 4) pa_nil)))) (pa_cons (pe_tup (pa_cons (pv 2) (pa_cons (pv 3) (pa_cons (pv 4) (pa_cons pe_non pa_nil))))) (pa_cons pe_non (pa_cons (pe_tup (pa_cons (pv 2) (pa_cons pe_non (pa_cons (pv 4) pa_nil)))) pa_nil))))) (pe_op op_sub (pv 0) pe_int) (fun _ _ => rfl)))) pss_nil)
      (pss_cons (ps_if (pt_cmpR op_eq (pv 0) pe_int (nomark _)) (pss_one (ps_ret (pe_tup (pa_cons (pe_cmpR op_eq (pv 2) pe_int (nomark _)) (pa_cons (pv 3) (pa_cons (pv 4) pa_nil)))))) pss_nil)
      (pss_cons (ps_if (pt_cmpR op_isN (pv 4) pe_non (nomark _)) (pss_one (ps_ret (pe_tup (pa_cons (pv 2) (pa_cons (pv 3) (pa_cons (pe_ix ix_list (pe_lst (pa_cons (pv 2) (pa_cons pe_int (pa_cons pe_bl (pa_cons pe_bl pa_nil))))) (pe_op op_sub (pv 0) pe_int) (fun _ _ => rfl)) pa_nil)))))) pss_nil)
      (pss_one (ps_ret (pe_tup (pa_cons (pv 2) (pa_cons (pv 3) (pa_cons (pe_ix ix_list (pe_lst (pa_cons pe_non (pa_cons (pe_op op_add (pv 4) pe_int) (pa_cons (pe_callTy call_str_int rfl M.str boot_str (pa_cons (pe_op op_mod (pv 4) pe_int) pa_nil)) (pa_cons (pe_cmpR op_eq (pv 4) pe_int (nomark _)) pa_nil))))) (pe_op op_sub (pv 0) pe_int) (fun _ _ => rfl)) pa_nil))))))))))), ?_⟩
  have ao := at_out o
  refine ⟨_, rfl, t, _, rfl, hT, rfl, _, _, rfl, _, _, rfl, _, _, rfl, rfl, ?_⟩
  refine ⟨_, rfl, _, _, rfl, rfl, _, rfl, ite2 (fun c => ?_) (fun c => ?_)⟩
  · have c' : (m : Int) < 4 := of_decide_eq_true c
    walk_at "rd"; refine ⟨(by show 3 ≤ sizeLine; decide), ?_⟩; o_unpack p1
    walk_at "rd"; refine ⟨(by show 3 ≤ sizeLine; decide), ?_⟩; o_unpack p2
    walk_at "rd"; refine ⟨(by show 3 ≤ sizeLine; decide), ?_⟩; o_unpack p3
    walk_at "rd"; refine ⟨(by show 2 ≤ sizeLine; decide), ?_⟩; o_unpack p4
    refine ⟨(by show 4 ≤ sizeLine; decide), ?_⟩; o_unpack pl
    obtain rfl | rfl | rfl | rfl : m = 0 ∨ m = 1 ∨ m = 2 ∨ m = 3 := by omega
    · exact ⟨_, rfl, pl, [V.ref p1, V.ref p2, V.ref p3, V.ref p4], _, _, rfl, rfl, (by walk_at "hp"), atI_nat (j := 0) rfl, q _ _ _ (by walk_at "hp") (.tup (xs := [V.int (n + 1), V.bl b, outV o]) (by walk_at "hp") (.cons (.int _) (.cons (.bl _) (.cons (dat_out o) .nil)))) (rowish_all (by show (true && (true && (isAt (outD o) && true))) = true; rw [ao]; rfl)) (al_f1 (al_more n))⟩
    · exact ⟨_, rfl, pl, [V.ref p1, V.ref p2, V.ref p3, V.ref p4], _, _, rfl, rfl, (by walk_at "hp"), atI_nat (j := 1) rfl, q _ _ _ (by walk_at "hp") (.tup (xs := [V.int n, V.bl (!b), outV o]) (by walk_at "hp") (.cons (.int _) (.cons (.bl _) (.cons (dat_out o) .nil)))) (rowish_all (by show (true && (true && (isAt (outD o) && true))) = true; rw [ao]; rfl)) (al_f2 (al_not b))⟩
    · exact ⟨_, rfl, pl, [V.ref p1, V.ref p2, V.ref p3, V.ref p4], _, _, rfl, rfl, (by walk_at "hp"), atI_nat (j := 2) rfl, q _ _ _ (by walk_at "hp") (.tup (xs := [V.int n, V.int (if b = true then 1 else 0), outV o]) (by walk_at "hp") (.cons (.int _) (.cons (.int _) (.cons (dat_out o) .nil)))) (rowish_all (by show (true && (true && (isAt (outD o) && true))) = true; rw [ao]; rfl)) (al_f2 rfl)⟩
    · exact ⟨_, rfl, pl, [V.ref p1, V.ref p2, V.ref p3, V.ref p4], _, _, rfl, rfl, (by walk_at "hp"), atI_nat (j := 3) rfl, q _ _ _ (by walk_at "hp") (.tup (xs := [V.int n, V.bl b]) (by walk_at "hp") (.cons (.int _) (.cons (.bl _) .nil))) (rowish_all rfl) (alAll_len (fun z => by cases z))⟩
  · have c1 : ¬ (m : Int) < 4 := fun z => c (decide_eq_true z)
    refine ⟨_, rfl, _, _, rfl, rfl, _, rfl, ite2 (fun c => ?_) (fun c => ?_)⟩
    · have c' : (m : Int) < 8 := of_decide_eq_true c
      walk_at "rd"; refine ⟨(by show 3 ≤ sizeLine; decide), ?_⟩; o_unpack p1
      walk_at "rd"; refine ⟨(by show 4 ≤ sizeLine; decide), ?_⟩; o_unpack p2
      walk_at "rd"; refine ⟨(by show 3 ≤ sizeLine; decide), ?_⟩; o_unpack p3
      refine ⟨(by show 4 ≤ sizeLine; decide), ?_⟩; o_unpack pl
      obtain rfl | rfl | rfl | rfl : m = 4 ∨ m = 5 ∨ m = 6 ∨ m = 7 := by omega
      · exact ⟨_, rfl, _, _, rfl, rfl, pl, [V.ref p1, V.ref p2, V.non, V.ref p3], _, _, rfl, rfl, (by walk_at "hp"), atI_nat (j := 0) rfl, q _ _ _ (by walk_at "hp") (.lst (xs := [V.int n, V.bl b, outV o]) (by walk_at "hp") (.cons (.int _) (.cons (.bl _) (.cons (dat_out o) .nil)))) (fun ds e => by cases e) rfl⟩
      · exact ⟨_, rfl, _, _, rfl, rfl, pl, [V.ref p1, V.ref p2, V.non, V.ref p3], _, _, rfl, rfl, (by walk_at "hp"), atI_nat (j := 1) rfl, q _ _ _ (by walk_at "hp") (.tup (xs := [V.int n, V.bl b, outV o, V.non]) (by walk_at "hp") (.cons (.int _) (.cons (.bl _) (.cons (dat_out o) (.cons .non .nil))))) (rowish_all (by show (true && (true && (isAt (outD o) && (true && true)))) = true; rw [ao]; rfl)) (alAll_len (fun z => by cases z))⟩
      · exact ⟨_, rfl, _, _, rfl, rfl, pl, [V.ref p1, V.ref p2, V.non, V.ref p3], _, _, rfl, rfl, (by walk_at "hp"), atI_nat (j := 2) rfl, q _ _ _ (by walk_at "hp") .non (fun ds e => by cases e) rfl⟩
      · exact ⟨_, rfl, _, _, rfl, rfl, pl, [V.ref p1, V.ref p2, V.non, V.ref p3], _, _, rfl, rfl, (by walk_at "hp"), atI_nat (j := 3) rfl, q _ _ _ (by walk_at "hp") (.tup (xs := [V.int n, V.non, outV o]) (by walk_at "hp") (.cons (.int _) (.cons .non (.cons (dat_out o) .nil)))) (rowish_all (by show (true && (true && (isAt (outD o) && true))) = true; rw [ao]; rfl)) (al_f2 rfl)⟩
    · have c2 : ¬ (m : Int) < 8 := fun z => c (decide_eq_true z)
      refine ⟨_, rfl, rfl, _, rfl, ite2 (fun c => ?_) (fun c => ?_)⟩
      · walk_at "rd"; refine ⟨rfl, ?_⟩; walk_at "rd"; refine ⟨(by show 3 ≤ sizeLine; decide), ?_⟩; o_unpack p1
        exact q _ _ _ (by walk_at "hp") (.tup (xs := [V.bl (decide (V.int n = V.int 1)), V.bl b, outV o]) (by walk_at "hp") (.cons (.bl _) (.cons (.bl _) (.cons (dat_out o) .nil)))) (rowish_all (by show (true && (true && (isAt (outD o) && true))) = true; rw [ao]; rfl)) (al_f1 rfl)
      · have c3 : ¬ m = 8 := fun z => c (by subst z; rfl)
        cases o with
        | none =>
          refine ⟨_, rfl, rfl, _, rfl, iteP rfl ?_⟩
          walk_at "rd"; refine ⟨(by show 4 ≤ sizeLine; decide), ?_⟩; o_unpack pl
          obtain rfl | rfl | rfl | rfl : m = 9 ∨ m = 10 ∨ m = 11 ∨ m = 12 := by omega
          · refine ⟨_, rfl, _, _, rfl, rfl, pl, [V.int n, V.int 0, V.bl false, V.bl true], _, _, rfl, rfl, (by walk_at "hp"), atI_nat (j := 0) rfl, ?_⟩
            refine ⟨(by show 3 ≤ sizeLine; decide), ?_⟩; o_unpack p1
            exact q _ _ _ (by walk_at "hp") (.tup (xs := [V.int n, V.bl b, V.int n]) (by walk_at "hp") (.cons (.int _) (.cons (.bl _) (.cons (.int _) .nil)))) (rowish_all rfl) (al_f3 rfl)
          · refine ⟨_, rfl, _, _, rfl, rfl, pl, [V.int n, V.int 0, V.bl false, V.bl true], _, _, rfl, rfl, (by walk_at "hp"), atI_nat (j := 1) rfl, ?_⟩
            refine ⟨(by show 3 ≤ sizeLine; decide), ?_⟩; o_unpack p1
            exact q _ _ _ (by walk_at "hp") (.tup (xs := [V.int n, V.bl b, V.int 0]) (by walk_at "hp") (.cons (.int _) (.cons (.bl _) (.cons (.int _) .nil)))) (rowish_all rfl) (al_f3 rfl)
          · refine ⟨_, rfl, _, _, rfl, rfl, pl, [V.int n, V.int 0, V.bl false, V.bl true], _, _, rfl, rfl, (by walk_at "hp"), atI_nat (j := 2) rfl, ?_⟩
            refine ⟨(by show 3 ≤ sizeLine; decide), ?_⟩; o_unpack p1
            exact q _ _ _ (by walk_at "hp") (.tup (xs := [V.int n, V.bl b, V.bl false]) (by walk_at "hp") (.cons (.int _) (.cons (.bl _) (.cons (.bl _) .nil)))) (rowish_all rfl) (al_f3 rfl)
          · refine ⟨_, rfl, _, _, rfl, rfl, pl, [V.int n, V.int 0, V.bl false, V.bl true], _, _, rfl, rfl, (by walk_at "hp"), atI_nat (j := 3) rfl, ?_⟩
            refine ⟨(by show 3 ≤ sizeLine; decide), ?_⟩; o_unpack p1
            exact q _ _ _ (by walk_at "hp") (.tup (xs := [V.int n, V.bl b, V.bl true]) (by walk_at "hp") (.cons (.int _) (.cons (.bl _) (.cons (.bl _) .nil)))) (rowish_all rfl) (al_f3 rfl)
        | some i =>
          refine ⟨_, rfl, rfl, _, rfl, iteN (by simp [outV]) ?_⟩
          walk_at "rd"; refine ⟨(by show (0 : Int) < 100; decide), ?_⟩
          refine ⟨_, rfl, (Nat.lt_of_lt_of_le (log2_lt100 (n := (i % 100).natAbs) (by omega)) (by decide)), ?_⟩
          walk_at "rd"; refine ⟨rfl, ?_⟩
          refine ⟨(by show 4 ≤ sizeLine; decide), ?_⟩; o_unpack pl
          obtain rfl | rfl | rfl | rfl : m = 9 ∨ m = 10 ∨ m = 11 ∨ m = 12 := by omega
          · refine ⟨_, rfl, _, _, rfl, rfl, pl, [V.non, V.int (i + 1), V.str (Str.ofString (toString (i % 100))), V.bl (decide (V.int i = V.int 1))], _, _, rfl, rfl, (by walk_at "hp"), atI_nat (j := 0) rfl, ?_⟩
            refine ⟨(by show 3 ≤ sizeLine; decide), ?_⟩; o_unpack p1
            exact q _ _ _ (by walk_at "hp") (.tup (xs := [V.int n, V.bl b, V.non]) (by walk_at "hp") (.cons (.int _) (.cons (.bl _) (.cons .non .nil)))) (rowish_all rfl) (al_f3 rfl)
          · refine ⟨_, rfl, _, _, rfl, rfl, pl, [V.non, V.int (i + 1), V.str (Str.ofString (toString (i % 100))), V.bl (decide (V.int i = V.int 1))], _, _, rfl, rfl, (by walk_at "hp"), atI_nat (j := 1) rfl, ?_⟩
            refine ⟨(by show 3 ≤ sizeLine; decide), ?_⟩; o_unpack p1
            exact q _ _ _ (by walk_at "hp") (.tup (xs := [V.int n, V.bl b, V.int (i + 1)]) (by walk_at "hp") (.cons (.int _) (.cons (.bl _) (.cons (.int _) .nil)))) (rowish_all rfl) (al_f3 (al_more i))
          · refine ⟨_, rfl, _, _, rfl, rfl, pl, [V.non, V.int (i + 1), V.str (Str.ofString (toString (i % 100))), V.bl (decide (V.int i = V.int 1))], _, _, rfl, rfl, (by walk_at "hp"), atI_nat (j := 2) rfl, ?_⟩
            refine ⟨(by show 3 ≤ sizeLine; decide), ?_⟩; o_unpack p1
            exact q _ _ _ (by walk_at "hp") (.tup (xs := [V.int n, V.bl b, V.str (Str.ofString (toString (i % 100)))]) (by walk_at "hp") (.cons (.int _) (.cons (.bl _) (.cons (.str _) .nil)))) (rowish_all (by show (true && (true && (isAt (.str (Str.ofString (toString (i % 100)))) && true))) = true; rw [ok_mod]; rfl)) (al_f3 rfl)
          · refine ⟨_, rfl, _, _, rfl, rfl, pl, [V.non, V.int (i + 1), V.str (Str.ofString (toString (i % 100))), V.bl (decide (V.int i = V.int 1))], _, _, rfl, rfl, (by walk_at "hp"), atI_nat (j := 3) rfl, ?_⟩
            refine ⟨(by show 3 ≤ sizeLine; decide), ?_⟩; o_unpack p1
            exact q _ _ _ (by walk_at "hp") (.tup (xs := [V.int n, V.bl b, V.bl (decide (V.int i = V.int 1))]) (by walk_at "hp") (.cons (.int _) (.cons (.bl _) (.cons (.bl _) .nil)))) (rowish_all rfl) (al_f3 rfl)
end
end K51

namespace K51
open PySem L2 PyProof.Rows M49 M51
abbrev s_law_forged : Stmt := top 24
theorem sc_law_forged : FnScope ["_law_way", "_law_at", "_law_due_here", "_law_lines_here", "_law_most", "_law_other"] ["_law_way", "_law_at", "_law_due_here", "_law_lines_here", "_law_most"] (defScope s_law_forged) := ⟨rfl, rfl, rfl, by decide +kernel, rfl, by decide +kernel, by decide +kernel⟩
section
variable {P : Program} {w : World} {K : PySem.W.Frag} {mg : Str → Option Value} {base : Heap}
theorem ok_law_forged {k : Nat} {f : Addr} {fd : FuncData} (F : Fun K "_law_forged" "_law_forged" s_law_forged f fd) (M : Blt mg) {t1 : Tok} (C : Cst K mg t1) {C_Kept f_Kept_init : Addr} (T_Kept : TCls K mg "Kept" C_Kept f_Kept_init ["bound", "held"]) {f_law_row : Addr} {fd_law_row : FuncData} (D_law_row : Df K mg "_law_row" f_law_row fd_law_row ["_law_way", "_law_row_here"]) (G_law_row : FnOk P w K mg base CX0 k f_law_row fd_law_row ["_law_way", "_law_row_here"] (spRow K)) {f_law_due : Addr} {fd_law_due : FuncData} (D_law_due : Df K mg "_law_due" f_law_due fd_law_due ["_law_lines_here", "_law_most"]) (G_law_due : FnOk P w K mg base CX0 k f_law_due fd_law_due ["_law_lines_here", "_law_most"] (spDueK K)) : FnOk P w K mg base CX0 (k + 2) f fd ["_law_way", "_law_at", "_law_due_here", "_law_lines_here", "_law_most"] (spForged K) := by
  refine F.ok sc_law_forged (fun vs H Q E h => ?_) (fun cdv A outer s0 H vs Q E hr0 h => ?_)
  · obtain ⟨m, i, a, l, rs, ns, B, rfl, _⟩ := h; rfl
  obtain ⟨m, i, a, l, rs, ns, B, rfl, hm, ⟨ts, ka, hR, he⟩, hrl, hS, hnl, hB1, hB2, q⟩ := h
  have hr := hr0.mono (Nat.le_succ _)
  refine ⟨_, (pss_cons (ps_if (PW.pt (pw_and (pt_cmpR op_lt (pv 0) pe_int (nomark _)) (pw_and1 (pt_cmpR (op_neD hr.units) (pv 2) (pe_lst pa_nil) (nomark _))))) (pss_cons (ps_set (i := 1) sc_law_forged.nd rfl (by first | exact Or.inl rfl | exact Or.inr rfl) (pe_op op_mod (pv 1) (pe_callB call_len_seq rfl M.len PySem.boot_len (pa_cons (pv 2) pa_nil))))
      (pss_one (ps_ret (pe_op op_catS (pe_op op_catS (pe_slice sl_list (pv 2) po_none (po_some (pv 1))) (pe_lst (pa_cons (pe_call G_law_row hr rfl D_law_row.m D_law_row.k D_law_row.b .nil pass0 (pa_cons (pv 0) (pa_cons (pe_ix ix_list (pv 2) (pv 1) (fun _ _ => rfl)) pa_nil))) pa_nil))) (pe_slice sl_list (pv 2) (po_some (pe_op op_add (pv 1) pe_int)) po_none))))) pss_nil)
      (pss_cons (ps_if (PW.pt (pw_and (pt_cmpR op_lt (pv 0) pe_int (nomark _)) (pw_and1 (pt_cmpR (op_neD hr.units) (pv 2) (pe_lst pa_nil) (nomark _))))) (pss_cons (ps_set (i := 1) sc_law_forged.nd rfl (by first | exact Or.inl rfl | exact Or.inr rfl) (pe_op op_mod (pv 1) (pe_callB call_len_seq rfl M.len PySem.boot_len (pa_cons (pv 2) pa_nil))))
      (pss_one (ps_ret (pe_ix ix_list (pe_lst (pa_cons (pe_op op_catS (pe_slice sl_list (pv 2) po_none (po_some (pv 1))) (pe_slice sl_list (pv 2) (po_some (pe_op op_add (pv 1) pe_int)) po_none)) (pa_cons (pe_op op_catS (pe_op op_catS (pe_slice sl_list (pv 2) po_none (po_some (pv 1))) (pe_slice sl_list (pv 2) (po_some (pv 1)) (po_some (pe_op op_add (pv 1) pe_int)))) (pe_slice sl_list (pv 2) (po_some (pv 1)) po_none)) (pa_cons (pe_op op_catS (pv 2) (pe_slice sl_list (pv 2) (po_some (pe_un un_neg pe_int)) po_none)) pa_nil)))) (pe_op op_sub (pv 0) pe_int) (fun _ _ => rfl))))) pss_nil)
      (pss_cons (ps_if (pt_cmpR op_eq (pv 0) pe_int (nomark _)) (pss_one (ps_ret (pe_callTy call_tuple_of rfl M.tuple boot_tuple (pa_cons (pv 2) pa_nil)))) pss_nil)
      (pss_cons (ps_if (pt_cmpR op_eq (pv 0) pe_int (nomark _)) (pss_one (ps_ret (pe_ix ix_list (pe_lst (pa_cons pe_non (pa_cons pe_str (pa_cons pe_int (pa_cons pe_dnewK pa_nil))))) (pe_op op_mod (pv 1) pe_int) (fun _ _ => rfl)))) pss_nil)
      (pss_cons (ps_set (i := 5) sc_law_forged.nd rfl (by first | exact Or.inl rfl | exact Or.inr rfl) (pe_call G_law_due hr rfl D_law_due.m D_law_due.k D_law_due.b .nil pass0 (pa_cons (pv 3) (pa_cons (pe_ix ix_list (pe_lst (pa_cons (pe_op op_add (pv 4) pe_int) (pa_cons (pe_callB (call_max2 rfl) rfl M.max boot_max (pa_cons pe_int (pa_cons (pe_op op_sub (pv 4) pe_int) pa_nil))) pa_nil))) (pe_op op_mod (pv 0) pe_int) (fun _ _ => rfl)) pa_nil))))
      (pss_one (ps_ret (pe_ifExp (pt_cmpR (op_neD hr.units) (pv 5) (pv 2) (nomark _)) (pv 5) (pe_op op_catS (pv 2) (pe_lst (pa_cons (pe_tup (pa_cons pe_int (pa_cons pe_bl (pa_cons pe_non pa_nil)))) pa_nil))))))))))), ?_⟩
  have dA : DatAll K H (refs ts) (rs.map rowD) := he ▸ dat_rows hR
  have lts : (refs ts).length = rs.length := rows_len he
  have htl : ts.length = rs.length := by rw [← he, List.length_map]
  refine joinQ (fun σ' H' => σ' = [some (.int m), some (.int i), some (.ref a), some (.ref l), some (.int B), none] ∧ Same H H' ∧ (rs ≠ [] → 13 ≤ m)) (fun σ' H1 z => ?_) (fun nx hnx => ?_)
  · obtain ⟨rfl, g1, h13⟩ := z
    refine joinQ (fun σ' H' => σ' = [some (.int m), some (.int i), some (.ref a), some (.ref l), some (.int B), none] ∧ Same H H' ∧ (rs ≠ [] → 13 ≤ m)) (fun σ' H1 z => ?_) (fun nx hnx => ?_)
    · obtain ⟨rfl, g1, _⟩ := z
      refine ⟨_, rfl, rfl, _, rfl, ite2 (fun c => ?_) (fun c => ?_)⟩
      · refine ⟨_, rfl, a, refs ts, rfl, .inl ⟨(by walk_at "hp"), ?_⟩⟩; o_unpack p1
        exact q _ (.ref p1) (.tuple (rs.map rowD)) (by walk_at "hp") (.inl (.tup (xs := refs ts) (by walk_at "hp") (by walk_at "hp"))) (fits_no rs (by omega) (fun ds e => by cases e)) rfl
      refine ⟨_, rfl, rfl, _, rfl, ite2 (fun c => ?_) (fun c => ?_)⟩
      · o_unpack pd
        refine ⟨(by show 4 ≤ sizeLine; decide), ?_⟩; o_unpack pl
        refine ⟨_, rfl, _, _, rfl, rfl, (by show (0 : Int) < 4; decide), ?_⟩
        dsimp only
        obtain ⟨j, hj, hj4⟩ : ∃ j : Nat, i % 4 = j ∧ j < 4 := ⟨(i % 4).toNat, by omega, by omega⟩
        rw [hj]
        obtain rfl | rfl | rfl | rfl : j = 0 ∨ j = 1 ∨ j = 2 ∨ j = 3 := by omega
        · exact ⟨pl, [.non, .str (Str.ofString ""), .int 0, .ref pd], _, _, rfl, rfl, (by walk_at "hp"), atI_nat (j := 0) rfl, q _ _ .none (by walk_at "hp") (.inl .non) (fits_no rs (by omega) (fun ds e => by cases e)) rfl⟩
        · exact ⟨pl, [.non, .str (Str.ofString ""), .int 0, .ref pd], _, _, rfl, rfl, (by walk_at "hp"), atI_nat (j := 1) rfl, q _ _ (.str _) (by walk_at "hp") (.inl (.str _)) (fits_no rs (by omega) (fun ds e => by cases e)) rfl⟩
        · exact ⟨pl, [.non, .str (Str.ofString ""), .int 0, .ref pd], _, _, rfl, rfl, (by walk_at "hp"), atI_nat (j := 2) rfl, q _ _ (.int _) (by walk_at "hp") (.inl (.int _)) (fits_no rs (by omega) (fun ds e => by cases e)) rfl⟩
        · exact ⟨pl, [.non, .str (Str.ofString ""), .int 0, .ref pd], _, _, rfl, rfl, (by walk_at "hp"), atI_nat (j := 3) rfl, q _ _ (.dict []) (by walk_at "hp") (.inr ⟨⟨pd, [], rfl, (by walk_at "hp")⟩, rfl⟩) (fits_no rs (by omega) (fun ds e => by cases e)) rfl⟩
      refine ⟨_, rfl, _, rfl, _, _, rfl, rfl, _, rfl, _, _, rfl, rfl, _, _, rfl, ?_⟩
      refine ⟨(by show 2 ≤ sizeLine; decide), ?_⟩; o_unpack pb
      refine ⟨_, rfl, _, _, rfl, rfl, (by show (0 : Int) < 2; decide), ?_⟩
      dsimp only
      obtain ⟨B2, v, hv, eB, hb1, hb2⟩ : ∃ (B2 : Nat) (v : V), atI [V.int ((B : Int) + 1), V.int (if (B : Int) - 1 > 1 then (B : Int) - 1 else 1)] ((m : Int) % 2) = some v ∧ v = .int B2 ∧ 1 ≤ B2 ∧ B2 ≤ 33 := by
        obtain ⟨j, hj, hj4⟩ : ∃ j : Nat, (m : Int) % 2 = j ∧ j < 2 := ⟨((m : Int) % 2).toNat, by omega, by omega⟩
        rw [hj]
        obtain rfl | rfl : j = 0 ∨ j = 1 := by omega
        · exact ⟨B + 1, _, atI_nat (j := 0) rfl, rfl, by omega, by omega⟩
        · by_cases hc : (B : Int) - 1 > 1
          · exact ⟨B - 1, _, atI_nat (j := 1) rfl, by rw [if_pos hc, show (B : Int) - 1 = ((B - 1 : Nat) : Int) by omega], by omega, by omega⟩
          · exact ⟨1, _, atI_nat (j := 1) rfl, by rw [if_neg hc]; rfl, by omega, by omega⟩
      refine ⟨pb, _, _, v, rfl, rfl, (by walk_at "hp"), hv, l, ns, B2, (by rw [eB]; rfl), (by walk_at "hp"), hnl, hb1, hb2, fun r H2 g2 hr0 hR2 => ?_⟩
      refine ⟨_, rfl, _, rfl, .list ((dueL ns B2 ns.length).map rowD), .list (rs.map rowD), hR2.dat, .lst (xs := refs ts) (by walk_at "hp") (by walk_at "hp"), shaped_rows _, shaped_rows _, _, rfl, ?_⟩
      cases e : PyData.eqv (.list ((dueL ns B2 ns.length).map rowD)) (.list (rs.map rowD)) with
      | false =>
        refine iteP rfl ⟨_, rfl, ?_⟩
        exact q _ (.ref r) _ (by walk_at "hp") (.inl hR2.dat) (fits_rows rs (by omega) (rowish_sub fun d hd => hd)) (al_other e)
      | true =>
        refine iteN Bool.false_ne_true ⟨_, rfl, (by show 3 ≤ sizeLine; decide), ?_⟩; o_unpack pt
        refine ⟨(by show 1 ≤ sizeLine; decide), ?_⟩; o_unpack pq
        refine ⟨a, pq, refs ts, [.ref pt], rfl, rfl, (by walk_at "hp"), (by walk_at "hp"), (by exact small (by simp only [List.length_singleton]; omega)), ?_⟩; o_unpack p6
        refine q _ (.ref p6) (.list (rs.map rowD ++ [.tuple [.int 0, .bool true, .none]])) (by walk_at "hp") (.inl (.lst (xs := refs ts ++ [.ref pt]) (by walk_at "hp") (DatAll.app (xs := refs ts) (by walk_at "hp") (.cons (.tup (xs := [.int 0, .bl true, .non]) (by walk_at "hp") (.cons (.int _) (.cons (.bl _) (.cons .non .nil)))) .nil)))) (fits_rows rs (by omega) fun d hd => ?_) (alAll_len ?_)
        · rcases List.mem_append.mp hd with hd | hd
          · obtain ⟨r, _, rfl⟩ := List.mem_map.mp hd; exact rowish_row r
          · rw [List.mem_singleton.mp hd]; exact rowish_all rfl
        · rw [List.length_append, List.length_singleton]; omega
    · refine ⟨_, rfl, _, _, rfl, rfl, _, rfl, ite2 (fun c => ?_) (fun c => iteF (hnx _ _ ⟨rfl, (by walk_at "hp"), fun _ => ?_⟩))⟩
      · refine ⟨_, rfl, (by show 0 ≤ sizeLine; decide), ?_⟩; o_unpack p0
        refine ⟨.list (rs.map rowD), .list [], .lst (xs := refs ts) (by walk_at "hp") (by walk_at "hp"), .lst (xs := []) (by walk_at "hp") .nil, shaped_rows rs, rfl, _, rfl, ?_⟩
        rw [eqv_nil]
        by_cases hrs : rs = []
        · exact iteN (by rw [hrs]; decide) (hnx _ _ ⟨rfl, (by walk_at "hp"), fun z => absurd hrs z⟩)
        · have hpos : 0 < rs.length := List.length_pos_iff.mpr hrs
          have c' : (m : Int) < 16 := of_decide_eq_true c
          refine iteP (by cases rs with | nil => exact absurd rfl hrs | cons _ _ => rfl) ?_
          refine ⟨_, rfl, _, rfl, a, refs ts, rfl, .inl (by walk_at "hp"), _, _, rfl, rfl, (by rw [lts]; omega), ?_⟩
          have hj0 : 0 ≤ i % (((refs ts).length : Nat) : Int) := Int.emod_nonneg _ (by rw [lts]; omega)
          have hj1 : i % (((refs ts).length : Nat) : Int) < (((refs ts).length : Nat) : Int) := Int.emod_lt_of_pos _ (by rw [lts]; omega)
          dsimp only
          generalize i % (((refs ts).length : Nat) : Int) = jj at hj0 hj1 ⊢
          obtain ⟨j, rfl⟩ := Int.eq_ofNat_of_zero_le hj0
          have hj : j < rs.length := by rw [lts] at hj1; omega
          have cutA := cut_first (refs ts) j
          have cutB : cutV (refs ts) (some ((j : Int) + 1)) none = (refs ts).drop (j + 1) := by rw [show (j : Int) + 1 = ((j + 1 : Nat) : Int) by omega]; exact cut_rest _ _
          have h13' := h13 hrs
          have cutC : cutV (refs ts) (some (j : Int)) (some ((j : Int) + 1)) = ((refs ts).drop j).take 1 := by
            rw [show (j : Int) + 1 = ((j + 1 : Nat) : Int) by omega, cut_two _ _ _ (by omega) (by omega), Nat.add_sub_cancel_left]
          have cutD := cut_rest (refs ts) j
          have cutE := cut_last (refs ts) (by omega)
          refine ⟨_, rfl, _, rfl, _, rfl, a, refs ts, rfl, (by walk_at "hp"), ?_⟩; rw [cutA]; o_unpack p1
          refine ⟨_, rfl, _, rfl, _, _, rfl, rfl, _, rfl, a, refs ts, rfl, (by walk_at "hp"), ?_⟩; dsimp only; rw [cutB]; o_unpack p2
          refine ⟨p1, p2, (refs ts).take j, (refs ts).drop (j + 1), rfl, rfl, (by walk_at "hp"), (by walk_at "hp"), (by simp only [List.length_append, List.length_take, List.length_drop]; exact small (by omega)), ?_⟩; o_unpack p3
          refine ⟨_, rfl, _, rfl, _, rfl, a, refs ts, rfl, (by walk_at "hp"), ?_⟩; rw [cutA]; o_unpack p4
          refine ⟨_, rfl, _, rfl, _, rfl, _, rfl, _, _, rfl, rfl, _, rfl, a, refs ts, rfl, (by walk_at "hp"), ?_⟩; dsimp only; rw [cutC]; o_unpack p5
          refine ⟨p4, p5, (refs ts).take j, ((refs ts).drop j).take 1, rfl, rfl, (by walk_at "hp"), (by walk_at "hp"), (by simp only [List.length_append, List.length_take, List.length_drop]; exact small (by omega)), ?_⟩; o_unpack p6
          refine ⟨_, rfl, _, rfl, _, rfl, a, refs ts, rfl, (by walk_at "hp"), ?_⟩; rw [cutD]; o_unpack p7
          refine ⟨p6, p7, (refs ts).take j ++ ((refs ts).drop j).take 1, (refs ts).drop j, rfl, rfl, (by walk_at "hp"), (by walk_at "hp"), (by simp only [List.length_append, List.length_take, List.length_drop]; exact small (by omega)), ?_⟩; o_unpack p8
          refine ⟨_, rfl, _, rfl, _, rfl, _, rfl, a, refs ts, rfl, (by walk_at "hp"), ?_⟩; rw [cutE]; o_unpack p9
          refine ⟨a, p9, refs ts, (refs ts).drop ((refs ts).length - 1), rfl, rfl, (by walk_at "hp"), (by walk_at "hp"), (by simp only [List.length_append, List.length_take, List.length_drop]; exact small (by omega)), ?_⟩; o_unpack p10
          refine ⟨(by show 3 ≤ sizeLine; decide), ?_⟩; o_unpack pl
          obtain rfl | rfl | rfl : m = 13 ∨ m = 14 ∨ m = 15 := by omega
          · refine ⟨_, rfl, _, _, rfl, rfl, pl, [.ref p3, .ref p8, .ref p10], _, _, rfl, rfl, (by walk_at "hp"), atI_nat (j := 0) rfl, ?_⟩
            refine q _ (.ref p3) (.list ((rs.map rowD).take j ++ (rs.map rowD).drop (j + 1))) (by walk_at "hp") (.inl (.lst (xs := (refs ts).take j ++ (refs ts).drop (j + 1)) (by walk_at "hp") ((DatAll.take (xs := refs ts) j (by walk_at "hp")).app (DatAll.drop (xs := refs ts) (j + 1) (by walk_at "hp"))))) (fits_rows rs (by omega) (rowish_sub (rs := rs) fun d hd => ?_)) (alAll_len ?_)
            · simp only [List.mem_append] at hd
              rcases hd with hd | hd <;> first | exact hd | exact mem_take hd | exact mem_drop hd | (rcases hd with hd | hd <;> first | exact mem_take hd | exact mem_drop (mem_take hd))
            · simp only [List.length_append, List.length_take, List.length_drop, List.length_map] at lts ⊢; omega
          · refine ⟨_, rfl, _, _, rfl, rfl, pl, [.ref p3, .ref p8, .ref p10], _, _, rfl, rfl, (by walk_at "hp"), atI_nat (j := 1) rfl, ?_⟩
            refine q _ (.ref p8) (.list ((rs.map rowD).take j ++ ((rs.map rowD).drop j).take 1 ++ (rs.map rowD).drop j)) (by walk_at "hp") (.inl (.lst (xs := (refs ts).take j ++ ((refs ts).drop j).take 1 ++ (refs ts).drop j) (by walk_at "hp") (((DatAll.take (xs := refs ts) j (by walk_at "hp")).app ((DatAll.drop (xs := refs ts) j (by walk_at "hp")).take 1)).app (DatAll.drop (xs := refs ts) j (by walk_at "hp"))))) (fits_rows rs (by omega) (rowish_sub (rs := rs) fun d hd => ?_)) (alAll_len ?_)
            · simp only [List.mem_append] at hd
              rcases hd with hd | hd <;> first | exact hd | exact mem_take hd | exact mem_drop hd | (rcases hd with hd | hd <;> first | exact mem_take hd | exact mem_drop (mem_take hd))
            · simp only [List.length_append, List.length_take, List.length_drop, List.length_map] at lts ⊢; omega
          · refine ⟨_, rfl, _, _, rfl, rfl, pl, [.ref p3, .ref p8, .ref p10], _, _, rfl, rfl, (by walk_at "hp"), atI_nat (j := 2) rfl, ?_⟩
            refine q _ (.ref p10) (.list (rs.map rowD ++ (rs.map rowD).drop ((refs ts).length - 1))) (by walk_at "hp") (.inl (.lst (xs := refs ts ++ (refs ts).drop ((refs ts).length - 1)) (by walk_at "hp") (DatAll.app (xs := refs ts) (ds := rs.map rowD) (by walk_at "hp") (DatAll.drop (xs := refs ts) ((refs ts).length - 1) (by walk_at "hp"))))) (fits_rows rs (by omega) (rowish_sub (rs := rs) fun d hd => ?_)) (alAll_len ?_)
            · simp only [List.mem_append] at hd
              rcases hd with hd | hd <;> first | exact hd | exact mem_take hd | exact mem_drop hd | (rcases hd with hd | hd <;> first | exact mem_take hd | exact mem_drop (mem_take hd))
            · simp only [List.length_append, List.length_take, List.length_drop, List.length_map] at lts ⊢; omega
      · exact h13 (by assumption)
  · refine ⟨_, rfl, _, _, rfl, rfl, _, rfl, ite2 (fun c => ?_) (fun c => iteF (hnx _ _ ⟨rfl, (by walk_at "hp"), fun _ => ?_⟩))⟩
    · refine ⟨_, rfl, (by show 0 ≤ sizeLine; decide), ?_⟩; o_unpack p0
      refine ⟨.list (rs.map rowD), .list [], .lst (xs := refs ts) (by walk_at "hp") (by walk_at "hp"), .lst (xs := []) (by walk_at "hp") .nil, shaped_rows rs, rfl, _, rfl, ?_⟩
      rw [eqv_nil]
      by_cases hrs : rs = []
      · exact iteN (by rw [hrs]; decide) (hnx _ _ ⟨rfl, (by walk_at "hp"), fun z => absurd hrs z⟩)
      · have hpos : 0 < rs.length := List.length_pos_iff.mpr hrs
        have c' : (m : Int) < 13 := of_decide_eq_true c
        refine iteP (by cases rs with | nil => exact absurd rfl hrs | cons _ _ => rfl) ?_
        refine ⟨_, rfl, _, rfl, a, refs ts, rfl, .inl (by walk_at "hp"), _, _, rfl, rfl, (by rw [lts]; omega), ?_⟩
        have hj0 : 0 ≤ i % (((refs ts).length : Nat) : Int) := Int.emod_nonneg _ (by rw [lts]; omega)
        have hj1 : i % (((refs ts).length : Nat) : Int) < (((refs ts).length : Nat) : Int) := Int.emod_lt_of_pos _ (by rw [lts]; omega)
        dsimp only
        generalize i % (((refs ts).length : Nat) : Int) = jj at hj0 hj1 ⊢
        obtain ⟨j, rfl⟩ := Int.eq_ofNat_of_zero_le hj0
        have hj : j < rs.length := by rw [lts] at hj1; omega
        have cutA := cut_first (refs ts) j
        have cutB : cutV (refs ts) (some ((j : Int) + 1)) none = (refs ts).drop (j + 1) := by rw [show (j : Int) + 1 = ((j + 1 : Nat) : Int) by omega]; exact cut_rest _ _
        obtain ⟨t, ht⟩ : ∃ t, ts[j]? = some t := ⟨ts[j]'(by have := congrArg List.length he; rw [List.length_map] at this; omega), List.getElem?_eq_getElem _⟩
        have hrj : rs[j]? = some t.2 := by rw [← he, List.getElem?_map, ht]; rfl
        refine ⟨_, rfl, _, rfl, _, rfl, a, refs ts, rfl, (by walk_at "hp"), ?_⟩; rw [cutA]; o_unpack p1
        refine ⟨_, rfl, _, rfl, _, rfl, a, refs ts, _, .ref t.1, rfl, rfl, (by walk_at "hp"), atI_nat (by rw [List.getElem?_map, ht]; rfl), m, t.1, t.2, rfl, by omega, (by refine Same.tp (by walk_at "hp") (hR t (List.mem_of_getElem? ht))), fun H2 v d gv dv hrw hal => ?_⟩
        refine ⟨(by show 1 ≤ sizeLine; decide), ?_⟩; o_unpack p2
        refine ⟨p1, p2, (refs ts).take j, [v], rfl, rfl, (by walk_at "hp"), (by walk_at "hp"), (by rw [List.length_take]; exact small (by simp only [List.length_singleton]; omega)), ?_⟩; o_unpack p3
        refine ⟨_, rfl, _, rfl, _, _, rfl, rfl, _, rfl, a, refs ts, rfl, (by walk_at "hp"), ?_⟩; dsimp only; rw [cutB]; o_unpack p4
        refine ⟨p3, p4, (refs ts).take j ++ [v], (refs ts).drop (j + 1), rfl, rfl, (by walk_at "hp"), (by walk_at "hp"), (by rw [List.length_append, List.length_take, List.length_drop]; exact small (by simp only [List.length_singleton]; omega)), ?_⟩; o_unpack p5
        refine q _ (.ref p5) (.list ((rs.map rowD).take j ++ [d] ++ (rs.map rowD).drop (j + 1))) (by walk_at "hp") (.inl (.lst (xs := (refs ts).take j ++ [v] ++ (refs ts).drop (j + 1)) (by walk_at "hp") (((DatAll.take (xs := refs ts) j (by walk_at "hp")).app (.cons (by walk_at "hp") .nil)).app (DatAll.drop (xs := refs ts) (j + 1) (by walk_at "hp"))))) (fits_rows rs (by omega) fun x hx => ?_) (alAll_at j (d := d) (w := rowD t.2) ?_ (by rw [List.getElem?_map, hrj]; rfl) hal)
        · rcases List.mem_append.mp hx with hx | hx
          · rcases List.mem_append.mp hx with hx | hx
            · obtain ⟨r, _, rfl⟩ := List.mem_map.mp (mem_take hx); exact rowish_row r
            · rw [List.mem_singleton.mp hx]; exact hrw
          · obtain ⟨r, _, rfl⟩ := List.mem_map.mp (mem_drop hx); exact rowish_row r
        · have : ((rs.map rowD).take j).length = j := by rw [List.length_take, List.length_map]; omega
          rw [List.append_assoc, List.getElem?_append_right (by omega), this, Nat.sub_self]; rfl
    · have c1 : ¬ (m : Int) < 13 := fun z => c (decide_eq_true z)
      omega
end
end K51

namespace K51
open PySem L2 PyProof.Rows M49 M51
abbrev s_law : Stmt := top 25
theorem sc_law : FnScope ["_law_script", "_law_lines_here", "_law_draws", "_law_most", "_law_due_here", "_law_handed", "_law_good", "_law_k", "_law_thing"] ["_law_script"] (defScope s_law) := ⟨rfl, rfl, rfl, by decide +kernel, rfl, by decide +kernel, by decide +kernel⟩
section
variable {P : Program} {w : World} {K : PySem.W.Frag} {mg : Str → Option Value} {base : Heap}
theorem ok_law {k : Nat} {f : Addr} {fd : FuncData} (F : Fun K "law" "law" s_law f fd) (M : Blt mg) {t1 : Tok} (C : Cst K mg t1) {C_Kept f_Kept_init : Addr} (T_Kept : TCls K mg "Kept" C_Kept f_Kept_init ["bound", "held"]) {f_law_lines : Addr} {fd_law_lines : FuncData} (D_law_lines : Df K mg "_law_lines" f_law_lines fd_law_lines ["_law_script"]) (G_law_lines : FnOk P w K mg base CX0 k f_law_lines fd_law_lines ["_law_script"] (spLinesL K)) {f_law_drawn : Addr} {fd_law_drawn : FuncData} (D_law_drawn : Df K mg "_law_drawn" f_law_drawn fd_law_drawn ["_law_cell", "_law_sizes"]) (G_law_drawn : FnOk P w K mg base CX0 k f_law_drawn fd_law_drawn ["_law_cell", "_law_sizes"] (spDrawn K)) {f_law_due : Addr} {fd_law_due : FuncData} (D_law_due : Df K mg "_law_due" f_law_due fd_law_due ["_law_lines_here", "_law_most"]) (G_law_due : FnOk P w K mg base CX0 k f_law_due fd_law_due ["_law_lines_here", "_law_most"] (spDueK K)) {f_is_fetches : Addr} {fd_is_fetches : FuncData} (D_is_fetches : Df K mg "is_fetches" f_is_fetches fd_is_fetches ["lines", "most", "thing"]) (G_is_fetches : FnOk P w K mg base CX0 k f_is_fetches fd_is_fetches ["lines", "most", "thing"] (spIsF K)) {f_law_forged : Addr} {fd_law_forged : FuncData} (D_law_forged : Df K mg "_law_forged" f_law_forged fd_law_forged ["_law_way", "_law_at", "_law_due_here", "_law_lines_here", "_law_most"]) (G_law_forged : FnOk P w K mg base CX0 k f_law_forged fd_law_forged ["_law_way", "_law_at", "_law_due_here", "_law_lines_here", "_law_most"] (spForged K)) : FnOk P w K mg base CX0 (k + 2) f fd ["_law_script"] (spLaw K) := by
  refine F.ok sc_law (fun vs H Q E h => ?_) (fun cdv A outer s0 H vs Q E hr0 h => ?_)
  · obtain ⟨a, ns, rfl, _⟩ := h; rfl
  obtain ⟨a, ns, rfl, hS, h63, q⟩ := h
  have hr := hr0.mono (Nat.le_succ _)
  refine ⟨_, (pss_cons (ps_set (i := 1) sc_law.nd rfl (by first | exact Or.inl rfl | exact Or.inr rfl) (pe_call G_law_lines hr rfl D_law_lines.m D_law_lines.k D_law_lines.b .nil pass0 (pa_cons (pv 0) pa_nil)))
      (pss_cons (ps_set (i := 2) sc_law.nd rfl (by first | exact Or.inl rfl | exact Or.inr rfl) (pe_call G_law_drawn hr rfl D_law_drawn.m D_law_drawn.k D_law_drawn.b .nil pass0 (pa_cons (pe_op op_add (pe_ix ix_list (pe_op op_catS (pv 0) (pe_lst (pa_cons pe_int pa_nil))) pe_int (fun _ _ => rfl)) pe_int) (pa_cons (pe_lst (pa_cons pe_int (pa_cons pe_int (pa_cons pe_int (pa_cons pe_int (pa_cons pe_int pa_nil se_const) se_const) se_const) se_const) se_const)) pa_nil))))
      (pss_cons (ps_set (i := 3) sc_law.nd rfl (by first | exact Or.inl rfl | exact Or.inr rfl) (pe_op op_add pe_int (pe_ix ix_list (pv 2) (pe_op op_add pe_int (pe_ix ix_list (pv 2) pe_int (fun _ _ => rfl))) (fun _ _ => rfl))))
      (pss_cons (ps_set (i := 4) sc_law.nd rfl (by first | exact Or.inl rfl | exact Or.inr rfl) (pe_call G_law_due hr rfl D_law_due.m D_law_due.k D_law_due.b .nil pass0 (pa_cons (pv 1) (pa_cons (pv 3) pa_nil))))
      (pss_cons (ps_set (i := 5) sc_law.nd rfl (by first | exact Or.inl rfl | exact Or.inr rfl) (pe_callTy call_list_of rfl M.list boot_list (pa_cons (pv 1) pa_nil)))
      (pss_cons (ps_set (i := 6) sc_law.nd rfl (by first | exact Or.inl rfl | exact Or.inr rfl) (pe_callTy call_list_of rfl M.list boot_list (pa_cons (pv 4) pa_nil)))
      (pss_cons (ps_if (pt_cmpR op_notB (pe_call G_is_fetches hr rfl D_is_fetches.m D_is_fetches.k D_is_fetches.b .nil pass0 (pa_cons (pv 5) (pa_cons (pv 3) (pa_cons (pv 6) pa_nil)))) pe_bl (nomark _)) (pss_one (ps_ret pe_bl)) pss_nil)
      (pss_cons (ps_for PassesOwn.never rfl (pi_range1 rfl M.range (pa_cons pe_int pa_nil)) (pg_name (i := 7) sc_law.nd rfl (Or.inl rfl)) (pss_cons (ps_set (i := 8) sc_law.nd rfl (by first | exact Or.inl rfl | exact Or.inr rfl) (pe_call G_law_forged hr rfl D_law_forged.m D_law_forged.k D_law_forged.b .nil pass0 (pa_cons (pe_op op_mod (pe_op op_add (pe_ix ix_list (pv 2) pe_int (fun _ _ => rfl)) (pe_op op_mul pe_int (pv 7))) pe_int) (pa_cons (pe_op op_add (pe_ix ix_list (pv 2) pe_int (fun _ _ => rfl)) (pe_op op_mul pe_int (pv 7))) (pa_cons (pe_callTy call_list_of rfl M.list boot_list (pa_cons (pv 4) pa_nil)) (pa_cons (pv 1) (pa_cons (pv 3) pa_nil)))))))
      (pss_cons (ps_if (pt_cmpR op_notB (pe_call G_is_fetches hr rfl D_is_fetches.m D_is_fetches.k D_is_fetches.b .nil pass0 (pa_cons (pv 5) (pa_cons (pv 3) (pa_cons (pv 8) pa_nil)))) pe_bl (nomark _)) (pss_one (ps_ret pe_bl)) pss_nil)
      (pss_cons (ps_set (i := 8) sc_law.nd rfl (by first | exact Or.inl rfl | exact Or.inr rfl) (pe_call G_law_forged hr rfl D_law_forged.m D_law_forged.k D_law_forged.b .nil pass0 (pa_cons (pe_op op_mod (pe_op op_add (pe_op op_add (pe_ix ix_list (pv 2) pe_int (fun _ _ => rfl)) (pe_op op_mul pe_int (pv 7))) pe_int) pe_int) (pa_cons (pe_op op_sub pe_int pe_int) (pa_cons (pe_callTy call_list_of rfl M.list boot_list (pa_cons (pv 4) pa_nil)) (pa_cons (pv 1) (pa_cons (pv 3) pa_nil)))))))
      (pss_one (ps_if (pt_cmpR op_notB (pe_call G_is_fetches hr rfl D_is_fetches.m D_is_fetches.k D_is_fetches.b .nil pass0 (pa_cons (pv 5) (pa_cons (pv 3) (pa_cons (pv 8) pa_nil)))) pe_bl (nomark _)) (pss_one (ps_ret pe_bl)) pss_nil))))))
      (pss_cons (ps_if (PW.pt (pw_or (pt_cmpR (op_neI hr.units) (pv 5) (pv 1) (nomark _)) (pw_or1 (pt_cmpR (op_neD hr.units) (pv 6) (pv 4) (nomark _))))) (pss_one (ps_ret pe_bl)) pss_nil)
      (pss_one (ps_ret (pe_and (pe_cmpR op_isB (pe_call G_is_fetches hr rfl D_is_fetches.m D_is_fetches.k D_is_fetches.b .nil pass0 (pa_cons (pv 5) (pa_cons (pv 3) (pa_cons (pv 6) pa_nil)))) pe_bl (nomark _)) (pe_one (pe_cmpR op_isB (pe_call G_is_fetches hr rfl D_is_fetches.m D_is_fetches.k D_is_fetches.b .nil pass0 (pa_cons (pe_lst pa_nil) (pa_cons (pv 3) (pa_cons (pe_lst pa_nil) pa_nil)))) pe_bl (nomark _))))))))))))))), ?_⟩
  refine ⟨_, rfl, a, ns, rfl, hS, fun la H1 ms g1 hla hN k1 => ?_⟩
  have h80 := hN.1
  refine ⟨_, rfl, (by show 1 ≤ sizeLine; decide), ?_⟩; o_unpack p1
  refine ⟨a, p1, ns.map V.int, [.int 5], rfl, rfl, (by walk_at "hp"), (by walk_at "hp"), (by rw [List.length_map]; exact small (by simp only [List.length_singleton]; omega)), ?_⟩; o_unpack p2
  obtain ⟨c, hc⟩ : ∃ c, atI (ns.map V.int ++ [V.int 5]) 0 = some (.int c) := by
    cases ns with
    | nil => exact ⟨5, rfl⟩
    | cons n ns => exact ⟨n, atI_nat (j := 0) rfl⟩
  refine ⟨p2, ns.map V.int ++ [.int 5], _, _, rfl, rfl, (by walk_at "hp"), hc, _, _, rfl, rfl, (by show 5 ≤ sizeLine; decide), ?_⟩; o_unpack p3
  refine ⟨_, p3, [2, 4, 32, 20, 80], rfl, (by walk_at "hp"), ?_, (by decide), fun dr ws hd0 hB => ?_⟩
  · intro m hm
    simp only [List.mem_cons, List.not_mem_nil, or_false] at hm
    rcases hm with rfl | rfl | rfl | rfl | rfl <;> exact ⟨by decide, by decide⟩
  obtain ⟨v0, v1, v2, v3, v4, rfl, b0, b1, b2, b3, b4⟩ := below5 hB
  generalize eX : upd _ dr _ = H5
  obtain ⟨g5, k5⟩ := new_facts eX hd0
  clear eX
  have k5' : H5 dr = some (.lst [.int v0, .int v1, .int v2, .int v3, .int v4]) := k5
  obtain ⟨vm, hvm, hv0, hv32⟩ : ∃ vm, atI [V.int v0, V.int v1, V.int v2, V.int v3, V.int v4] (1 + v0) = some (.int vm) ∧ 0 ≤ vm ∧ vm < 32 := by
    obtain rfl | rfl : v0 = 0 ∨ v0 = 1 := by omega
    · exact ⟨v1, atI_nat (j := 1) rfl, by omega, by omega⟩
    · exact ⟨v2, atI_nat (j := 2) rfl, by omega, by omega⟩
  obtain ⟨B, hv, hB1, hB2⟩ : ∃ B : Nat, 1 + vm = B ∧ 1 ≤ B ∧ B ≤ 32 := ⟨(1 + vm).toNat, by omega, by omega, by omega⟩
  refine ⟨_, rfl, _, rfl, dr, _, _, _, rfl, rfl, SqL.of k5', rfl, _, _, rfl, rfl, dr, _, _, _, rfl, rfl, SqL.of k5', hvm, _, _, rfl, rfl, ?_⟩
  dsimp only
  rw [hv]
  refine ⟨_, rfl, _, rfl, la, ms, B, rfl, (by walk_at "hp"), h80, hB1, by omega, fun du H6 g6 hdu hRL => ?_⟩
  obtain ⟨ts, kdu, hR, he⟩ := hRL
  have dA : DatAll K H6 (refs ts) ((dueL ms B ms.length).map rowD) := he ▸ dat_rows hR
  refine ⟨_, rfl, la, ms.map V.int, rfl, .inl (by walk_at "hp"), ?_⟩; o_unpack hd
  refine ⟨_, rfl, du, refs ts, rfl, .inl (by walk_at "hp"), ?_⟩; o_unpack gd
  have fitG : fits 2 (rowsD (dueL ms B ms.length)) (rowsD (dueL ms B ms.length)) := fits_rows _ (by rw [dueL_length]; omega) (rowish_sub fun d hd => hd)
  refine ⟨_, rfl, _, rfl, _, rfl, hd, ms, B, .ref gd, rowsD (dueL ms B ms.length), rfl, (by walk_at "hp"), hN, hB1, hB2, .inl (.lst (xs := refs ts) (by walk_at "hp") (by walk_at "hp")), fitG, fun H9 g9 => ?_⟩
  rw [show al 2 (rowsD (dueL ms B ms.length)) (rowsD (dueL ms B ms.length)) = true from al_same _]
  refine ⟨_, _, rfl, rfl, _, rfl, iteN (by decide) ?_⟩
  refine ⟨6, rfl, by decide, by decide, for_range (n := 6) (fun i σ H' => ∃ o7 o8 : Option V, σ = [some (.ref a), some (.ref la), some (.ref dr), some (.int B), some (.ref du), some (.ref hd), some (.ref gd), o7, o8] ∧ Same H9 H') ⟨_, _, rfl, Same.refl _⟩ (fun i σ H' hi z => ?_) (fun σ H' z => ?_)⟩
  · obtain ⟨o7, o8, rfl, g10⟩ := z
    refine ⟨_, rfl, dr, [.int v0, .int v1, .int v2, .int v3, .int v4], _, _, rfl, rfl, (by walk_at "hp"), rfl, _, rfl, _, _, rfl, rfl, .inl ⟨by decide, by decide⟩, _, _, rfl, rfl, _, _, rfl, rfl, (by show (0 : Int) < 20; decide), _, rfl, dr, [.int v0, .int v1, .int v2, .int v3, .int v4], _, _, rfl, rfl, (by walk_at "hp"), rfl, _, rfl, _, _, rfl, rfl, .inl ⟨by decide, by decide⟩, _, _, rfl, rfl, _, rfl, du, refs ts, rfl, .inl (by walk_at "hp"), ?_⟩; o_unpack pcx
    obtain ⟨mx, hmx, hm2x⟩ : ∃ m : Nat, (v3 + 3 * (0 + (i : Int))) % 20 = m ∧ m < 20 := ⟨((v3 + 3 * (0 + (i : Int))) % 20).toNat, by omega, by omega⟩
    refine ⟨_, rfl, _, rfl, mx, _, pcx, la, dueL ms B ms.length, ms, B, (by dsimp only; rw [hmx]; rfl), hm2x, ⟨ts, (by walk_at "hp"), hR.same (by walk_at "hp"), he⟩, (by rw [dueL_length]; exact h80), (by walk_at "hp"), h80, hB1, hB2, fun H7 v d g7 dv hf hal => ?_⟩
    refine ⟨_, rfl, _, rfl, _, rfl, hd, ms, B, v, d, rfl, (by walk_at "hp"), hN, hB1, hB2, (by walk_at "hp"), hf, fun H8 g8 => ?_⟩
    rw [show al 2 d (rowsD (dueL ms B ms.length)) = false from hal]
    refine ⟨_, _, rfl, rfl, _, rfl, iteN (by decide) ?_⟩
    refine ⟨_, rfl, dr, [.int v0, .int v1, .int v2, .int v3, .int v4], _, _, rfl, rfl, (by walk_at "hp"), rfl, _, rfl, _, _, rfl, rfl, .inl ⟨by decide, by decide⟩, _, _, rfl, rfl, _, _, rfl, rfl, _, _, rfl, rfl, (by show (0 : Int) < 20; decide), _, _, rfl, rfl, _, rfl, du, refs ts, rfl, .inl (by walk_at "hp"), ?_⟩; o_unpack pcy
    obtain ⟨my, hmy, hm2y⟩ : ∃ m : Nat, (v3 + 3 * (0 + (i : Int)) + 1) % 20 = m ∧ m < 20 := ⟨((v3 + 3 * (0 + (i : Int)) + 1) % 20).toNat, by omega, by omega⟩
    refine ⟨_, rfl, _, rfl, my, _, pcy, la, dueL ms B ms.length, ms, B, (by dsimp only; rw [hmy]; rfl), hm2y, ⟨ts, (by walk_at "hp"), hR.same (by walk_at "hp"), he⟩, (by rw [dueL_length]; exact h80), (by walk_at "hp"), h80, hB1, hB2, fun H7 v d g7 dv hf hal => ?_⟩
    refine ⟨_, rfl, _, rfl, _, rfl, hd, ms, B, v, d, rfl, (by walk_at "hp"), hN, hB1, hB2, (by walk_at "hp"), hf, fun H8 g8 => ?_⟩
    rw [show al 2 d (rowsD (dueL ms B ms.length)) = false from hal]
    refine ⟨_, _, rfl, rfl, _, rfl, iteN (by decide) ?_⟩
    exact ⟨_, _, rfl, (by walk_at "hp")⟩
  · obtain ⟨o7, o8, rfl, g10⟩ := z
    refine ⟨_, rfl, _, rfl, hd, la, ms, ms, rfl, rfl, (by walk_at "hp"), (by walk_at "hp"), _, rfl, iteN (by simp) ?_⟩
    refine ⟨_, rfl, _, rfl, rowsD (dueL ms B ms.length), rowsD (dueL ms B ms.length), .lst (xs := refs ts) (by walk_at "hp") (by walk_at "hp"), .lst (xs := refs ts) (by walk_at "hp") (by walk_at "hp"), shaped_rows _, shaped_rows _, _, rfl, ?_⟩
    rw [show PyData.eqv (rowsD (dueL ms B ms.length)) (rowsD (dueL ms B ms.length)) = true from same_rows _]
    refine iteN (by decide) ?_
    refine ⟨_, rfl, _, rfl, _, rfl, hd, ms, B, .ref gd, rowsD (dueL ms B ms.length), rfl, (by walk_at "hp"), hN, hB1, hB2, .inl (.lst (xs := refs ts) (by walk_at "hp") (by walk_at "hp")), fitG, fun HA gA => ?_⟩
    rw [show al 2 (rowsD (dueL ms B ms.length)) (rowsD (dueL ms B ms.length)) = true from al_same _]
    refine ⟨_, _, rfl, rfl, _, rfl, iteP (by decide) ?_⟩
    refine ⟨(by show 0 ≤ sizeLine; decide), ?_⟩; o_unpack q1
    refine ⟨_, rfl, (by show 0 ≤ sizeLine; decide), ?_⟩; o_unpack q2
    refine ⟨q1, [], B, .ref q2, .list [], rfl, (show SqL K _ q1 [] from by walk_at "hp"), ⟨by decide, fun n hn => by simp at hn⟩, hB1, hB2, .inl (.lst (xs := []) (by walk_at "hp") .nil), fits_rows (rs := []) (by decide) (fun d hd => by simp at hd), fun HB gB => ?_⟩
    rw [show al 2 (.list []) (rowsD (dueL [] B ([] : List Int).length)) = true from rfl]
    exact ⟨_, _, rfl, rfl, q _⟩
end
end K51

namespace K51
open PySem L2 PyProof.Rows M49 M51
theorem all_mk {l : PySem.W.OpenLaw} {w : World} {K : PySem.W.Frag} {h : Heap} {mg : Str → Option Value} {fa f0 f1 f2 f3 f4 f5 f6 f7 f8 f9 f10 f11 f12 f13 f14 f15 f16 f17 C_Kept : Addr} (X : K.In h) (G : h.Ns mainGlobals mg) (hfa : mg "law" = some (.ref fa))
    {od0 an0 od1 an1 od2 an2 od3 an3 od4 an4 od5 an5 od6 an6 od7 an7 od8 an8 od9 an9 od10 an10 od11 an11 od12 an12 od13 an13 od14 an14 od15 an15 od16 an16 od17 an17 : Option Addr} {sl0 sl1 sl2 sl3 sl4 sl5 sl6 sl7 sl8 sl9 sl10 sl11 sl12 sl13 sl14 sl15 sl16 sl17 : Array (Option Value)} {oc0 kV0 dc0 pm0 cd0 ct0 oc1 kV1 dc1 pm1 cd1 ct1 oc2 kV2 dc2 pm2 cd2 ct2 oc3 kV3 dc3 pm3 cd3 ct3 oc4 kV4 dc4 pm4 cd4 ct4 oc5 kV5 dc5 pm5 cd5 ct5 oc6 kV6 dc6 pm6 cd6 ct6 oc7 kV7 dc7 pm7 cd7 ct7 oc8 kV8 dc8 pm8 cd8 ct8 oc9 kV9 dc9 pm9 cd9 ct9 oc10 kV10 dc10 pm10 cd10 ct10 oc11 kV11 dc11 pm11 cd11 ct11 oc12 kV12 dc12 pm12 cd12 ct12 oc13 kV13 dc13 pm13 cd13 ct13 oc14 kV14 dc14 pm14 cd14 ct14 oc15 kV15 dc15 pm15 cd15 ct15 oc16 kV16 dc16 pm16 cd16 ct16 oc17 kV17 dc17 pm17 cd17 ct17 : Value} {t1 : Tok}
    (g_Kept : PySem.W.nsIn K mainGlobals "Kept" = some (some (.ref C_Kept)))
    (a0 : PySem.W.nsIn K mainGlobals "is_whole" = some (some (.ref f0)))
    (l0 : K.lookup f0 = some ⟨oc0, od0, .func (PySem.W.fnOf "is_whole" "is_whole" (defArgs s_is_whole) (defBody s_is_whole) (defScope s_is_whole) .none kV0 dc0 pm0 an0 cd0 ct0), sl0⟩)
    (c0 : PySem.W.codeIn K cd0 "is_whole" = true)
    (k0 : PySem.W.keepIn K (.ref f0) = true)
    (a1 : PySem.W.nsIn K mainGlobals "is_count" = some (some (.ref f1)))
    (l1 : K.lookup f1 = some ⟨oc1, od1, .func (PySem.W.fnOf "is_count" "is_count" (defArgs s_is_count) (defBody s_is_count) (defScope s_is_count) .none kV1 dc1 pm1 an1 cd1 ct1), sl1⟩)
    (c1 : PySem.W.codeIn K cd1 "is_count" = true)
    (k1 : PySem.W.keepIn K (.ref f1) = true)
    (a2 : PySem.W.nsIn K mainGlobals "is_between" = some (some (.ref f2)))
    (l2 : K.lookup f2 = some ⟨oc2, od2, .func (PySem.W.fnOf "is_between" "is_between" (defArgs s_is_between) (defBody s_is_between) (defScope s_is_between) .none kV2 dc2 pm2 an2 cd2 ct2), sl2⟩)
    (c2 : PySem.W.codeIn K cd2 "is_between" = true)
    (k2 : PySem.W.keepIn K (.ref f2) = true)
    (a3 : PySem.W.nsIn K mainGlobals "is_alike" = some (some (.ref f3)))
    (l3 : K.lookup f3 = some ⟨oc3, od3, .func (PySem.W.fnOf "is_alike" "is_alike" (defArgs s_is_alike) (defBody s_is_alike) (defScope s_is_alike) .none kV3 dc3 pm3 an3 cd3 ct3), sl3⟩)
    (c3 : PySem.W.codeIn K cd3 "is_alike" = true)
    (k3 : PySem.W.keepIn K (.ref f3) = true)
    (a4 : PySem.W.nsIn K mainGlobals "are_alike" = some (some (.ref f4)))
    (l4 : K.lookup f4 = some ⟨oc4, od4, .func (PySem.W.fnOf "are_alike" "are_alike" (defArgs s_are_alike) (defBody s_are_alike) (defScope s_are_alike) .none kV4 dc4 pm4 an4 cd4 ct4), sl4⟩)
    (c4 : PySem.W.codeIn K cd4 "are_alike" = true)
    (k4 : PySem.W.keepIn K (.ref f4) = true)
    (a5 : PySem.W.findIn K (.ref C_Kept) "__init__" = some (some (.ref f5)))
    (i5 : PySem.W.isFn K (.ref f5) = true)
    (l5 : K.lookup f5 = some ⟨oc5, od5, .func (PySem.W.fnOf "__init__" "Kept.__init__" (defArgs s_Kept_init) (defBody s_Kept_init) (defScope s_Kept_init) .none kV5 dc5 pm5 an5 cd5 ct5), sl5⟩)
    (c5 : PySem.W.codeIn K cd5 "Kept.__init__" = true)
    (k5 : PySem.W.keepIn K (.ref f5) = true)
    (a6 : PySem.W.findIn K (.ref C_Kept) "touch" = some (some (.ref f6)))
    (i6 : PySem.W.isFn K (.ref f6) = true)
    (l6 : K.lookup f6 = some ⟨oc6, od6, .func (PySem.W.fnOf "touch" "Kept.touch" (defArgs s_Kept_touch) (defBody s_Kept_touch) (defScope s_Kept_touch) .none kV6 dc6 pm6 an6 cd6 ct6), sl6⟩)
    (c6 : PySem.W.codeIn K cd6 "Kept.touch" = true)
    (k6 : PySem.W.keepIn K (.ref f6) = true)
    (a7 : PySem.W.nsIn K mainGlobals "need_keep" = some (some (.ref f7)))
    (l7 : K.lookup f7 = some ⟨oc7, od7, .func (PySem.W.fnOf "need_keep" "need_keep" (defArgs s_need_keep) (defBody s_need_keep) (defScope s_need_keep) .none kV7 dc7 pm7 an7 cd7 ct7), sl7⟩)
    (c7 : PySem.W.codeIn K cd7 "need_keep" = true)
    (k7 : PySem.W.keepIn K (.ref f7) = true)
    (a8 : PySem.W.nsIn K mainGlobals "need_line" = some (some (.ref f8)))
    (l8 : K.lookup f8 = some ⟨oc8, od8, .func (PySem.W.fnOf "need_line" "need_line" (defArgs s_need_line) (defBody s_need_line) (defScope s_need_line) .none kV8 dc8 pm8 an8 cd8 ct8), sl8⟩)
    (c8 : PySem.W.codeIn K cd8 "need_line" = true)
    (k8 : PySem.W.keepIn K (.ref f8) = true)
    (a9 : PySem.W.nsIn K mainGlobals "need_lines" = some (some (.ref f9)))
    (l9 : K.lookup f9 = some ⟨oc9, od9, .func (PySem.W.fnOf "need_lines" "need_lines" (defArgs s_need_lines) (defBody s_need_lines) (defScope s_need_lines) .none kV9 dc9 pm9 an9 cd9 ct9), sl9⟩)
    (c9 : PySem.W.codeIn K cd9 "need_lines" = true)
    (k9 : PySem.W.keepIn K (.ref f9) = true)
    (a10 : PySem.W.nsIn K mainGlobals "fetches" = some (some (.ref f10)))
    (l10 : K.lookup f10 = some ⟨oc10, od10, .func (PySem.W.fnOf "fetches" "fetches" (defArgs s_fetches) (defBody s_fetches) (defScope s_fetches) .none kV10 dc10 pm10 an10 cd10 ct10), sl10⟩)
    (c10 : PySem.W.codeIn K cd10 "fetches" = true)
    (k10 : PySem.W.keepIn K (.ref f10) = true)
    (a11 : PySem.W.nsIn K mainGlobals "is_fetches" = some (some (.ref f11)))
    (l11 : K.lookup f11 = some ⟨oc11, od11, .func (PySem.W.fnOf "is_fetches" "is_fetches" (defArgs s_is_fetches) (defBody s_is_fetches) (defScope s_is_fetches) .none kV11 dc11 pm11 an11 cd11 ct11), sl11⟩)
    (c11 : PySem.W.codeIn K cd11 "is_fetches" = true)
    (k11 : PySem.W.keepIn K (.ref f11) = true)
    (a12 : PySem.W.nsIn K mainGlobals "_law_drawn" = some (some (.ref f12)))
    (l12 : K.lookup f12 = some ⟨oc12, od12, .func (PySem.W.fnOf "_law_drawn" "_law_drawn" (defArgs s_law_drawn) (defBody s_law_drawn) (defScope s_law_drawn) .none kV12 dc12 pm12 an12 cd12 ct12), sl12⟩)
    (c12 : PySem.W.codeIn K cd12 "_law_drawn" = true)
    (k12 : PySem.W.keepIn K (.ref f12) = true)
    (a13 : PySem.W.nsIn K mainGlobals "_law_lines" = some (some (.ref f13)))
    (l13 : K.lookup f13 = some ⟨oc13, od13, .func (PySem.W.fnOf "_law_lines" "_law_lines" (defArgs s_law_lines) (defBody s_law_lines) (defScope s_law_lines) .none kV13 dc13 pm13 an13 cd13 ct13), sl13⟩)
    (c13 : PySem.W.codeIn K cd13 "_law_lines" = true)
    (k13 : PySem.W.keepIn K (.ref f13) = true)
    (a14 : PySem.W.nsIn K mainGlobals "_law_due" = some (some (.ref f14)))
    (l14 : K.lookup f14 = some ⟨oc14, od14, .func (PySem.W.fnOf "_law_due" "_law_due" (defArgs s_law_due) (defBody s_law_due) (defScope s_law_due) .none kV14 dc14 pm14 an14 cd14 ct14), sl14⟩)
    (c14 : PySem.W.codeIn K cd14 "_law_due" = true)
    (k14 : PySem.W.keepIn K (.ref f14) = true)
    (a15 : PySem.W.nsIn K mainGlobals "_law_row" = some (some (.ref f15)))
    (l15 : K.lookup f15 = some ⟨oc15, od15, .func (PySem.W.fnOf "_law_row" "_law_row" (defArgs s_law_row) (defBody s_law_row) (defScope s_law_row) .none kV15 dc15 pm15 an15 cd15 ct15), sl15⟩)
    (c15 : PySem.W.codeIn K cd15 "_law_row" = true)
    (k15 : PySem.W.keepIn K (.ref f15) = true)
    (a16 : PySem.W.nsIn K mainGlobals "_law_forged" = some (some (.ref f16)))
    (l16 : K.lookup f16 = some ⟨oc16, od16, .func (PySem.W.fnOf "_law_forged" "_law_forged" (defArgs s_law_forged) (defBody s_law_forged) (defScope s_law_forged) .none kV16 dc16 pm16 an16 cd16 ct16), sl16⟩)
    (c16 : PySem.W.codeIn K cd16 "_law_forged" = true)
    (k16 : PySem.W.keepIn K (.ref f16) = true)
    (a17 : PySem.W.nsIn K mainGlobals "law" = some (some (.ref f17)))
    (l17 : K.lookup f17 = some ⟨oc17, od17, .func (PySem.W.fnOf "law" "law" (defArgs s_law) (defBody s_law) (defScope s_law) .none kV17 dc17 pm17 an17 cd17 ct17), sl17⟩)
    (c17 : PySem.W.codeIn K cd17 "law" = true)
    (k17 : PySem.W.keepIn K (.ref f17) = true)
    (pg_Kept : PySem.W.plainGet K C_Kept Str.empty = true)
    (hd_Kept : PySem.W.hasDictIn K C_Kept = true)
    (po_Kept : PySem.W.plainOver K C_Kept = true)
    (sa_Kept : PySem.W.findIn K (.ref C_Kept) "__setattr__" = some (some (.builtin "object.__setattr__")))
    (mk_Kept : PySem.W.makesIn K C_Kept = true)
    (kc_Kept : PySem.W.keepIn K (.ref C_Kept) = true)
    (n_Kept_bound : PySem.W.findIn K (.ref C_Kept) "bound" = some none)
    (n_Kept_held : PySem.W.findIn K (.ref C_Kept) "held" = some none)
    (z0 : PySem.W.nsIn K mainGlobals "range" = some none)
    (z1 : PySem.W.nsIn K mainGlobals "len" = some none)
    (z2 : PySem.W.nsIn K mainGlobals "isinstance" = some none)
    (z3 : PySem.W.nsIn K mainGlobals "int" = some none)
    (z4 : PySem.W.nsIn K mainGlobals "bool" = some none)
    (z5 : PySem.W.nsIn K mainGlobals "list" = some none)
    (z6 : PySem.W.nsIn K mainGlobals "all" = some none)
    (z7 : PySem.W.nsIn K mainGlobals "max" = some none)
    (z8 : PySem.W.nsIn K mainGlobals "min" = some none)
    (z9 : PySem.W.nsIn K mainGlobals "reversed" = some none)
    (z10 : PySem.W.nsIn K mainGlobals "tuple" = some none)
    (z11 : PySem.W.nsIn K mainGlobals "divmod" = some none)
    (z12 : PySem.W.nsIn K mainGlobals "zip" = some none)
    (z13 : PySem.W.nsIn K mainGlobals "str" = some none)
    (v1 : PySem.W.nsIn K mainGlobals "MOST_KEPT" = some (some (.int 32 t1))) :
    ∃ fd : FuncData, (∀ (s : Shared) (v : Value), BindsTo s fd ⟨[v], []⟩ [("_law_script", v)]) ∧ ∀ base : Heap, K.In base → base.Ns mainGlobals mg → FnOk l.prog w K mg base CX0 16 fa fd ["_law_script"] (spLaw K) := by
  have e := hfa.symm.trans (PySem.W.mg_of X G a17)
  cases e
  have F0 := fun_mk (st := s_is_whole) l0 c0 k0
  have D0 : Df K mg "is_whole" f0 _ ["thing"] := ⟨PySem.W.mg_of X G a0, k0, F0.binds (ps := ["thing"]) fun _ _ _ _ _ _ us hl => match us, hl with | [_], _ => rfl⟩
  have F1 := fun_mk (st := s_is_count) l1 c1 k1
  have D1 : Df K mg "is_count" f1 _ ["thing"] := ⟨PySem.W.mg_of X G a1, k1, F1.binds (ps := ["thing"]) fun _ _ _ _ _ _ us hl => match us, hl with | [_], _ => rfl⟩
  have F2 := fun_mk (st := s_is_between) l2 c2 k2
  have D2 : Df K mg "is_between" f2 _ ["thing", "low", "high"] := ⟨PySem.W.mg_of X G a2, k2, F2.binds (ps := ["thing", "low", "high"]) fun _ _ _ _ _ _ us hl => match us, hl with | [_, _, _], _ => rfl⟩
  have F3 := fun_mk (st := s_is_alike) l3 c3 k3
  have D3 : Df K mg "is_alike" f3 _ ["thing", "wanted"] := ⟨PySem.W.mg_of X G a3, k3, F3.binds (ps := ["thing", "wanted"]) fun _ _ _ _ _ _ us hl => match us, hl with | [_, _], _ => rfl⟩
  have F4 := fun_mk (st := s_are_alike) l4 c4 k4
  have D4 : Df K mg "are_alike" f4 _ ["things", "wanted"] := ⟨PySem.W.mg_of X G a4, k4, F4.binds (ps := ["things", "wanted"]) fun _ _ _ _ _ _ us hl => match us, hl with | [_, _], _ => rfl⟩
  have F5 := fun_mk (st := s_Kept_init) l5 c5 k5
  have D5 : DfI K _ ["self", "most"] := ⟨F5.binds (ps := ["self", "most"]) fun _ _ _ _ _ _ us hl => match us, hl with | [_, _], _ => rfl⟩
  have F6 := fun_mk (st := s_Kept_touch) l6 c6 k6
  have D6 : DfM K C_Kept "touch" f6 _ ["self", "line"] := ⟨⟨a6, i6, k6⟩, F6.binds (ps := ["self", "line"]) fun _ _ _ _ _ _ us hl => match us, hl with | [_, _], _ => rfl⟩
  have F7 := fun_mk (st := s_need_keep) l7 c7 k7
  have D7 : Df K mg "need_keep" f7 _ ["most"] := ⟨PySem.W.mg_of X G a7, k7, F7.binds (ps := ["most"]) fun _ _ _ _ _ _ us hl => match us, hl with | [_], _ => rfl⟩
  have F8 := fun_mk (st := s_need_line) l8 c8 k8
  have D8 : Df K mg "need_line" f8 _ ["line"] := ⟨PySem.W.mg_of X G a8, k8, F8.binds (ps := ["line"]) fun _ _ _ _ _ _ us hl => match us, hl with | [_], _ => rfl⟩
  have F9 := fun_mk (st := s_need_lines) l9 c9 k9
  have D9 : Df K mg "need_lines" f9 _ ["lines"] := ⟨PySem.W.mg_of X G a9, k9, F9.binds (ps := ["lines"]) fun _ _ _ _ _ _ us hl => match us, hl with | [_], _ => rfl⟩
  have F10 := fun_mk (st := s_fetches) l10 c10 k10
  have D10 : Df K mg "fetches" f10 _ ["lines", "most"] := ⟨PySem.W.mg_of X G a10, k10, F10.binds (ps := ["lines", "most"]) fun _ _ _ _ _ _ us hl => match us, hl with | [_, _], _ => rfl⟩
  have F11 := fun_mk (st := s_is_fetches) l11 c11 k11
  have D11 : Df K mg "is_fetches" f11 _ ["lines", "most", "thing"] := ⟨PySem.W.mg_of X G a11, k11, F11.binds (ps := ["lines", "most", "thing"]) fun _ _ _ _ _ _ us hl => match us, hl with | [_, _, _], _ => rfl⟩
  have F12 := fun_mk (st := s_law_drawn) l12 c12 k12
  have D12 : Df K mg "_law_drawn" f12 _ ["_law_cell", "_law_sizes"] := ⟨PySem.W.mg_of X G a12, k12, F12.binds (ps := ["_law_cell", "_law_sizes"]) fun _ _ _ _ _ _ us hl => match us, hl with | [_, _], _ => rfl⟩
  have F13 := fun_mk (st := s_law_lines) l13 c13 k13
  have D13 : Df K mg "_law_lines" f13 _ ["_law_script"] := ⟨PySem.W.mg_of X G a13, k13, F13.binds (ps := ["_law_script"]) fun _ _ _ _ _ _ us hl => match us, hl with | [_], _ => rfl⟩
  have F14 := fun_mk (st := s_law_due) l14 c14 k14
  have D14 : Df K mg "_law_due" f14 _ ["_law_lines_here", "_law_most"] := ⟨PySem.W.mg_of X G a14, k14, F14.binds (ps := ["_law_lines_here", "_law_most"]) fun _ _ _ _ _ _ us hl => match us, hl with | [_, _], _ => rfl⟩
  have F15 := fun_mk (st := s_law_row) l15 c15 k15
  have D15 : Df K mg "_law_row" f15 _ ["_law_way", "_law_row_here"] := ⟨PySem.W.mg_of X G a15, k15, F15.binds (ps := ["_law_way", "_law_row_here"]) fun _ _ _ _ _ _ us hl => match us, hl with | [_, _], _ => rfl⟩
  have F16 := fun_mk (st := s_law_forged) l16 c16 k16
  have D16 : Df K mg "_law_forged" f16 _ ["_law_way", "_law_at", "_law_due_here", "_law_lines_here", "_law_most"] := ⟨PySem.W.mg_of X G a16, k16, F16.binds (ps := ["_law_way", "_law_at", "_law_due_here", "_law_lines_here", "_law_most"]) fun _ _ _ _ _ _ us hl => match us, hl with | [_, _, _, _, _], _ => rfl⟩
  have F17 := fun_mk (st := s_law) l17 c17 k17
  have T_Kept : TCls K mg "Kept" C_Kept f5 ["bound", "held"] := ⟨PySem.W.mg_of X G g_Kept, ⟨pg_Kept, hd_Kept, po_Kept, sa_Kept⟩, ⟨mk_Kept, a5, i5, kc_Kept⟩, fun a ha => by
      simp only [List.mem_cons, List.not_mem_nil, or_false] at ha
      rcases ha with rfl | rfl
      · exact n_Kept_bound
      · exact n_Kept_held⟩
  have M : Blt mg := ⟨PySem.W.mg_none_of X G z0, PySem.W.mg_none_of X G z1, PySem.W.mg_none_of X G z2, PySem.W.mg_none_of X G z3, PySem.W.mg_none_of X G z4, PySem.W.mg_none_of X G z5, PySem.W.mg_none_of X G z6, PySem.W.mg_none_of X G z7, PySem.W.mg_none_of X G z8, PySem.W.mg_none_of X G z9, PySem.W.mg_none_of X G z10, PySem.W.mg_none_of X G z11, PySem.W.mg_none_of X G z12, PySem.W.mg_none_of X G z13⟩
  have C : Cst K mg t1 := ⟨PySem.W.mg_of X G v1⟩
  refine ⟨PySem.W.fnOf "law" "law" (defArgs s_law) (defBody s_law) (defScope s_law) .none kV17 dc17 pm17 an17 cd17 ct17, fun s v => .of_eq rfl, fun base _ _ => ?_⟩
  have G0 := ok_is_whole (P := l.prog) (w := w) (base := base) (k := 0) F0 M C T_Kept 
  have G12 := ok_law_drawn (P := l.prog) (w := w) (base := base) (k := 0) F12 M C T_Kept 
  have G14 := ok_law_due (P := l.prog) (w := w) (base := base) (k := 0) F14 M C T_Kept 
  have G15 := ok_law_row (P := l.prog) (w := w) (base := base) (k := 0) F15 M C T_Kept 
  have G1 := ok_is_count (P := l.prog) (w := w) (base := base) (k := 2) F1 M C T_Kept D0 (G0.mono (by decide))
  have G2 := ok_is_between (P := l.prog) (w := w) (base := base) (k := 2) F2 M C T_Kept D0 (G0.mono (by decide))
  have G13 := ok_law_lines (P := l.prog) (w := w) (base := base) (k := 2) F13 M C T_Kept D12 (G12.mono (by decide))
  have G16 := ok_law_forged (P := l.prog) (w := w) (base := base) (k := 2) F16 M C T_Kept D15 (G15.mono (by decide)) D14 (G14.mono (by decide))
  have G7 := ok_need_keep (P := l.prog) (w := w) (base := base) (k := 4) F7 M C T_Kept D2 (G2.mono (by decide))
  have G8 := ok_need_line (P := l.prog) (w := w) (base := base) (k := 4) F8 M C T_Kept D1 (G1.mono (by decide))
  have G5 := ok_Kept_init (P := l.prog) (w := w) (base := base) (k := 6) F5 M C T_Kept D7 (G7.mono (by decide))
  have G6 := ok_Kept_touch (P := l.prog) (w := w) (base := base) (k := 6) F6 M C T_Kept D8 (G8.mono (by decide))
  have G9 := ok_need_lines (P := l.prog) (w := w) (base := base) (k := 6) F9 M C T_Kept D8 (G8.mono (by decide))
  have GI0 := ok_is_alike (P := l.prog) (w := w) (base := base) (n := 0) (k := 0) F3 M C T_Kept D4 noAre
  have GA1 : FnOk l.prog w K mg base CX0 4 f4 _ ["things", "wanted"] (spAreP K 1) := ok_are_alike (P := l.prog) (w := w) (base := base) (n := 0) (k := 2) F4 M C T_Kept D3 GI0
  have GI1 := ok_is_alike (P := l.prog) (w := w) (base := base) (n := 1) (k := 4) F3 M C T_Kept D4 GA1
  have G4 : FnOk l.prog w K mg base CX0 10 f4 _ ["things", "wanted"] (spAreP K 2) := (ok_are_alike (P := l.prog) (w := w) (base := base) (n := 1) (k := 6) F4 M C T_Kept D3 GI1).mono (by decide)
  have G10 := ok_fetches (P := l.prog) (w := w) (base := base) (k := 8) F10 M C T_Kept D9 (G9.mono (by decide)) D5 (G5.mono (by decide)) D6 (G6.mono (by decide))
  have G3 := ok_is_alike (P := l.prog) (w := w) (base := base) (n := 2) (k := 10) F3 M C T_Kept D4 G4
  have G11 := ok_is_fetches (P := l.prog) (w := w) (base := base) (k := 12) F11 M C T_Kept D3 (G3.mono (by decide)) D10 (G10.mono (by decide))
  have G17 := ok_law (P := l.prog) (w := w) (base := base) (k := 14) F17 M C T_Kept D13 (G13.mono (by decide)) D12 (G12.mono (by decide)) D14 (G14.mono (by decide)) D11 (G11.mono (by decide)) D16 (G16.mono (by decide))
  exact G17
theorem walk {l : PySem.W.OpenLaw} {q : Program} {loose : List Str} {XP : (Str → Option Value) → Heap → Prop} {YP : World → Heap → Prop} {d : DefRec} {K : Params → PySem.W.Frag} (hn : l.most = some 63) (hdf : d.params.defaults = [])
    (hY : ∀ (w : World) (h : Heap), YP w h → (K w.params).In h)
    (F : ∀ (w : World) (mg : Str → Option Value) (fa : Addr) (h : Heap), (K w.params).In h → h.Ns mainGlobals mg → mg d.name = some (.ref fa) →
      ∃ fd : FuncData, (∀ (s : Shared) (u : Value), BindsTo s fd ⟨[u], []⟩ [("_law_script", u)]) ∧ ∀ base : Heap, (K w.params).In base → base.Ns mainGlobals mg → FnOk l.prog w (K w.params) mg base CX0 16 fa fd ["_law_script"] (spLaw (K w.params))) :
    PySem.W.WalkO q loose XP YP l.row.toRowW d [] (fun f vs => PySem.call f vs) :=
  L2.walk_of (n := 63) (k := 16) (x := "_law_script") (CX := fun _ => CX0) (sp := fun w => spLaw (K w.params)) hn (by decide) hdf ⟨rfl, by decide, by decide, rfl⟩ hY F (fun _ _ a ns hl _ hS => ⟨a, ns, rfl, hS, hl, fun _ => rfl⟩) fun _ _ _ _ _ z => z
end K51
open PySem PySem.W PyProof.Rows
set_option maxRecDepth 100000 in
set_option maxHeartbeats 0 in
theorem PySem.Challenge.cw_roomslaid_k51_fetches_forged_holds : PySem.Challenge.rw_roomslaid_k51_fetches_forged.Holds := by
  w_on; o_law; k_head; (case hw => w_witness2)
  k_fill
  refine K51.walk (l := PySem.Challenge.rw_roomslaid_k51_fetches_forged) rfl rfl (fun w h Y => PySem.W.kIn_of Y) ?F
  case F =>
    intro w mg fa h KX G hmg
    refine' K51.all_mk KX G hmg ?g_Kept ?a0 ?l0 ?c0 ?k0 ?a1 ?l1 ?c1 ?k1 ?a2 ?l2 ?c2 ?k2 ?a3 ?l3 ?c3 ?k3 ?a4 ?l4 ?c4 ?k4 ?a5 ?i5 ?l5 ?c5 ?k5 ?a6 ?i6 ?l6 ?c6 ?k6 ?a7 ?l7 ?c7 ?k7 ?a8 ?l8 ?c8 ?k8 ?a9 ?l9 ?c9 ?k9 ?a10 ?l10 ?c10 ?k10 ?a11 ?l11 ?c11 ?k11 ?a12 ?l12 ?c12 ?k12 ?a13 ?l13 ?c13 ?k13 ?a14 ?l14 ?c14 ?k14 ?a15 ?l15 ?c15 ?k15 ?a16 ?l16 ?c16 ?k16 ?a17 ?l17 ?c17 ?k17 ?pg_Kept ?hd_Kept ?po_Kept ?sa_Kept ?mk_Kept ?kc_Kept ?n_Kept_bound ?n_Kept_held ?z0 ?z1 ?z2 ?z3 ?z4 ?z5 ?z6 ?z7 ?z8 ?z9 ?z10 ?z11 ?z12 ?z13 ?v1
    (case g_Kept => k_is)
    (case a0 => k_is)
    (case l0 => k_is)
    (case c0 => k_is)
    (case k0 => k_is)
    (case a1 => k_is)
    (case l1 => k_is)
    (case c1 => k_is)
    (case k1 => k_is)
    (case a2 => k_is)
    (case l2 => k_is)
    (case c2 => k_is)
    (case k2 => k_is)
    (case a3 => k_is)
    (case l3 => k_is)
    (case c3 => k_is)
    (case k3 => k_is)
    (case a4 => k_is)
    (case l4 => k_is)
    (case c4 => k_is)
    (case k4 => k_is)
    (case a5 => k_is)
    (case i5 => k_is)
    (case l5 => k_is)
    (case c5 => k_is)
    (case k5 => k_is)
    (case a6 => k_is)
    (case i6 => k_is)
    (case l6 => k_is)
    (case c6 => k_is)
    (case k6 => k_is)
    (case a7 => k_is)
    (case l7 => k_is)
    (case c7 => k_is)
    (case k7 => k_is)
    (case a8 => k_is)
    (case l8 => k_is)
    (case c8 => k_is)
    (case k8 => k_is)
    (case a9 => k_is)
    (case l9 => k_is)
    (case c9 => k_is)
    (case k9 => k_is)
    (case a10 => k_is)
    (case l10 => k_is)
    (case c10 => k_is)
    (case k10 => k_is)
    (case a11 => k_is)
    (case l11 => k_is)
    (case c11 => k_is)
    (case k11 => k_is)
    (case a12 => k_is)
    (case l12 => k_is)
    (case c12 => k_is)
    (case k12 => k_is)
    (case a13 => k_is)
    (case l13 => k_is)
    (case c13 => k_is)
    (case k13 => k_is)
    (case a14 => k_is)
    (case l14 => k_is)
    (case c14 => k_is)
    (case k14 => k_is)
    (case a15 => k_is)
    (case l15 => k_is)
    (case c15 => k_is)
    (case k15 => k_is)
    (case a16 => k_is)
    (case l16 => k_is)
    (case c16 => k_is)
    (case k16 => k_is)
    (case a17 => k_is)
    (case l17 => k_is)
    (case c17 => k_is)
    (case k17 => k_is)
    (case pg_Kept => k_is)
    (case hd_Kept => k_is)
    (case po_Kept => k_is)
    (case sa_Kept => k_is)
    (case mk_Kept => k_is)
    (case kc_Kept => k_is)
    (case n_Kept_bound => k_is)
    (case n_Kept_held => k_is)
    (case z0 => k_is)
    (case z1 => k_is)
    (case z2 => k_is)
    (case z3 => k_is)
    (case z4 => k_is)
    (case z5 => k_is)
    (case z6 => k_is)
    (case z7 => k_is)
    (case z8 => k_is)
    (case z9 => k_is)
    (case z10 => k_is)
    (case z11 => k_is)
    (case z12 => k_is)
    (case z13 => k_is)
    (case v1 => k_is)

