import PyProof.Rows.All
import Wide.All
import OpenK.AllK
import Wide.FinOn
import Lean
import PyProof.EqAt
import PyProof.EqKinds
import PyProof.TupleCall
import PyProof.P3Statements
import PyProof.NoPylong
import PySem.Builtin.Int.W1All
import PySem.Challenge.RW_beamtable_k03_quotients_and_order
section
set_option Elab.async false
set_option linter.all false
set_option maxRecDepth 100000
/-! THE HAND LAYER, for ints, bools, texts, own classes, LISTS and tuples (index, slices, in, append, pop ..), calls, loops. Paste it whole ahead of your own text; what your proof does not reach may be deleted. -/
namespace L2
open PySem PySem.Spec PyProof.Rows

/-- a key: an int or a str -/
abbrev Key := Sum Int Str
def keyIs : Key → Value → Bool
  | .inl k, v => Value.isInt k v
  | .inr x, v => Value.isStrOf x v
def keyH (w : World) : Key → Int
  | .inl k => hashInt k
  | .inr x => hashStr w x
theorem keyIs_shape : ∀ {k : Key} {v : Value}, keyIs k v = true → (∃ i t, k = Sum.inl i ∧ v = Value.int i t) ∨ (∃ x t, k = Sum.inr x ∧ v = Value.str x t)
  | .inl i, v, h => by
    obtain ⟨t, e⟩ := Value.isInt_shape (k := i) (v := v) h
    exact .inl ⟨i, t, rfl, e⟩
  | .inr x, v, h => by
    obtain ⟨t, e⟩ := Value.isStrOf_shape (x := x) (v := v) h
    exact .inr ⟨x, t, rfl, e⟩
theorem keyIs_int (i : Int) (t : Tok) : keyIs (.inl i) (.int i t) = true := by simp [keyIs, Value.isInt]
theorem keyIs_str (x : Str) (t : Tok) : keyIs (.inr x) (.str x t) = true := by simp [keyIs, Value.isStrOf]
theorem key_ll (a b : Int) : decide ((Sum.inl a : Key) = Sum.inl b) = (a == b) := by
  by_cases e : a = b
  · subst e; simp
  · have h : ¬ (Sum.inl a : Key) = Sum.inl b := fun q => e (Sum.inl.inj q)
    rw [decide_eq_false h]
    exact (beq_eq_false_iff_ne.mpr e).symm
theorem key_rr (a b : Str) : decide ((Sum.inr a : Key) = Sum.inr b) = decide (a = b) := by
  by_cases e : a = b
  · subst e; simp
  · have h : ¬ (Sum.inr a : Key) = Sum.inr b := fun q => e (Sum.inr.inj q)
    rw [decide_eq_false h, decide_eq_false e]
theorem key_lr (a : Int) (b : Str) : decide ((Sum.inl a : Key) = Sum.inr b) = false := decide_eq_false (fun q => nomatch q)
theorem key_rl (a : Str) (b : Int) : decide ((Sum.inr a : Key) = Sum.inl b) = false := decide_eq_false (fun q => nomatch q)

def mixKind (prog : Program) (w : World) : PySem.KeyKind prog w Key where
  is := keyIs
  hash := keyH w
  inj := fun v a b ha hb => by
    rcases keyIs_shape ha with ⟨i, t, rfl, rfl⟩ | ⟨x, t, rfl, rfl⟩
    · rcases keyIs_shape hb with ⟨j, u, rfl, e⟩ | ⟨y, u, rfl, e⟩
      · injection e with e1 _; rw [e1]
      · exact nomatch e
    · rcases keyIs_shape hb with ⟨j, u, rfl, e⟩ | ⟨y, u, rfl, e⟩
      · exact nomatch e
      · injection e with e1 _; rw [e1]
  byValue := fun k v h => by
    rcases keyIs_shape h with ⟨i, t, rfl, rfl⟩ | ⟨x, t, rfl, rfl⟩ <;> rfl
  pyHash := fun hv h => by
    rcases keyIs_shape hv with ⟨i, t, rfl, rfl⟩ | ⟨x, t, rfl, rfl⟩
    · exact wpAny_pyHash_int h
    · exact wpAny_pyHash_str h
  eqBool := fun hu hv h => by
    rcases keyIs_shape hu with ⟨i, t, rfl, rfl⟩ | ⟨x, t, rfl, rfl⟩
    · rcases keyIs_shape hv with ⟨j, u, rfl, rfl⟩ | ⟨y, u, rfl, rfl⟩
      · rw [key_ll] at h; exact wpAny_eqBool_int h
      · rw [key_lr] at h; exact SeqAt.EqAt.int_str i t y u _ _ _ _ h
    · rcases keyIs_shape hv with ⟨j, u, rfl, rfl⟩ | ⟨y, u, rfl, rfl⟩
      · rw [key_rl] at h; exact SeqAt.EqAt.str_int x t j u _ _ _ _ h
      · rw [key_rr] at h; exact wpAny_eqBool_str h
  «strs» := fun k x t v h => by
    rcases keyIs_shape h with ⟨i, u, rfl, e⟩ | ⟨y, u, rfl, e⟩
    · exact nomatch e
    · injection e with e1 _
      subst e1
      cases v <;> rfl

theorem mixKind_is (prog : Program) (w : World) (k : Key) (v : Value) : (mixKind prog w).is k v = keyIs k v := rfl
theorem mixKind_int (prog : Program) (w : World) (i : Int) (t : Tok) : (mixKind prog w).is (.inl i) (.int i t) = true := keyIs_int i t
theorem mixKind_str (prog : Program) (w : World) (x : Str) (t : Tok) : (mixKind prog w).is (.inr x) (.str x t) = true := keyIs_str x t
end L2

namespace L2
open PySem PySem.Spec PyProof.Rows

/-- a value, without the heap -/
inductive V where
  | non | bl (b : Bool) | int (i : Int) | str (x : Str) | byt (b : Array UInt8) | flt (b : UInt64) | ref (a : Addr) | ty (n : String)
  deriving DecidableEq

def RelV : V → Value → Prop
  | .non, u => u = Value.none
  | .bl b, u => u = Value.bool b
  | .int i, u => ∃ t, u = Value.int i t
  | .str x, u => ∃ t, u = Value.str x t
  | .byt b, u => ∃ t, u = Value.bytes b t
  | .flt b, u => ∃ t, u = Value.float b t
  | .ref a, u => u = Value.ref a
  | .ty n, u => u = Value.type n

abbrev Vals : List V → List Value → Prop := Paired RelV
theorem Vals.length {xs : List V} {us : List Value} (r : Vals xs us) : xs.length = us.length := Paired.length r
theorem Vals.get : ∀ {xs : List V} {us : List Value} {i : Nat} {x : V}, Vals xs us → xs[i]? = some x → ∃ u, us[i]? = some u ∧ RelV x u
  | _, _, _, _, .nil, e => by simp at e
  | _, _, 0, _, .cons r _, e => by simp at e; subst e; exact ⟨_, rfl, r⟩
  | _, _, i + 1, x, .cons _ t, e => by
    obtain ⟨u, h1, h2⟩ := Vals.get (i := i) (x := x) t (by simpa using e)
    exact ⟨u, by simpa using h1, h2⟩
theorem Vals.set {x : V} {u : Value} (r : RelV x u) : ∀ {xs : List V} {us : List Value} (i : Nat), Vals xs us → Vals (xs.set i x) (us.set i u)
  | _, _, _, .nil => .nil
  | _, _, 0, .cons _ t => .cons r t
  | _, _, i + 1, .cons q t => .cons q (Vals.set r i t)
theorem Vals.append : ∀ {xs ys : List V} {us ws : List Value}, Vals xs us → Vals ys ws → Vals (xs ++ ys) (us ++ ws)
  | _, _, _, _, .nil, s => s
  | _, _, _, _, .cons r t, s => .cons r (Vals.append t s)
theorem Vals.take : ∀ {xs : List V} {us : List Value} (n : Nat), Vals xs us → Vals (xs.take n) (us.take n)
  | _, _, 0, _ => .nil
  | _, _, _ + 1, .nil => .nil
  | _, _, n + 1, .cons r t => .cons r (Vals.take n t)
theorem Vals.drop : ∀ {xs : List V} {us : List Value} (n : Nat), Vals xs us → Vals (xs.drop n) (us.drop n)
  | _, _, 0, r => r
  | _, _, _ + 1, .nil => .nil
  | _, _, n + 1, .cons _ t => Vals.drop n t
theorem Vals.none_of : ∀ {xs : List V} {us : List Value} {i : Nat}, Vals xs us → xs[i]? = none → us[i]? = none := fun {xs us i} r e => by
  have h1 := r.length
  have h2 : xs.length ≤ i := List.getElem?_eq_none_iff.mp e
  exact List.getElem?_eq_none_iff.mpr (by omega)

def RelO : Option V → Option Value → Prop
  | some v, some u => RelV v u
  | none, none => True
  | _, _ => False
def KV {κ : Type} : List (κ × V) → List (κ × Value) → Prop := Paired fun (p : κ × V) (q : κ × Value) => p.1 = q.1 ∧ RelV p.2 q.2

/-- a key of a dict (00_mix): an int or a text -/
def kV : Key → V
  | .inl i => .int i
  | .inr x => .str x

/-- what stands at a tracked address -/
inductive HO where
  /-- a list -/
  | lst (xs : List V)
  /-- a tuple (never changes) -/
  | tup (xs : List V)
  /-- a dict whose keys are ints and texts; one whose keys are tuples of ints and texts (the empty one is both) -/
  | dK (kvs : List (Key × V)) | dT (kvs : List (List Key × V))
  /-- a set of ints: its members, its size -/
  | set (S : Int → Bool) (n : Nat)
  /-- an instance of the class at C, its dict at dx, its attributes -/
  | ins (C dx : Addr) (fs : List (Str × V))
  /-- the dict of the instance at x -/
  | own (x : Addr)
  /-- the dict of an exception -/
  | xd (fs : List (Str × V))
  /-- a bound method, f of x -/
  | met (f x : Addr)
  /-- a range object lo, lo + 1, .. below hi -/
  | rng (lo hi : Int)
  /-- a thing that is known to the object (the script; a dict while a loop walks it): read, never written while it is so -/
  | frz (o : Obj) (u : HO)
  /-- a code object's table -/
  | tbl (ps : Array Value)
  /-- any other thing, by what is true of its one object (a def of one's own: SetO a S n := HO.ext fun h => ..) -/
  | ext (φ : Heap → Prop)

abbrev Hp := Addr → Option HO
def upd (H : Hp) (a : Addr) (o : HO) : Hp := fun b => if b = a then some o else H b
theorem upd_same {H : Hp} {a : Addr} {o : HO} : upd H a o a = some o := by unfold upd; rw [if_pos rfl]
theorem upd_ne {H : Hp} {a b : Addr} {o : HO} (h : b ≠ a) : upd H a o b = H b := by unfold upd; rw [if_neg h]
theorem upd_upd {H : Hp} {a : Addr} {o u : HO} : upd (upd H a o) a u = upd H a u := by
  funext b; unfold upd; split <;> rfl
/-- two objects of different content stand apart -/
theorem ne_of {H : Hp} {a b : Addr} {o u : HO} (h : H a = some o) (h' : H b = some u) (d : o ≠ u) : a ≠ b := by
  intro e; subst e; rw [h] at h'; exact d (Option.some.inj h')
theorem ne_of_none {H : Hp} {a b : Addr} {o : HO} (h : H a = some o) (h' : H b = none) : a ≠ b := by
  intro e; subst e; rw [h] at h'; cases h'

section
variable (P : Program) (w : World)
def ObjOk (H : Hp) (h : Heap) (a : Addr) : HO → Prop
  | .lst xs => xs.length ≤ sizeLine ∧ ∃ (its : List Value) (n : Nat), Vals xs its ∧ h.get? a = some { cls := .type "list", data := .seq its.toArray n }
  | .tup xs => xs.length ≤ sizeLine ∧ ∃ its : List Value, Vals xs its ∧ IsTup h a its.toArray
  | .dK kvs => kvs.length ≤ sizeLine ∧ (a == sysModules) = false ∧ ∃ vs, KV kvs vs ∧ h.DictOf (mixKind P w) a vs
  | .dT kvs => kvs.length ≤ sizeLine ∧ (a == sysModules) = false ∧ ∃ xs : List (List Key × Addr × Value),
      Paired (fun (p : List Key × V) (q : List Key × Addr × Value) => p.1 = q.1 ∧ H q.2.1 = some (.tup (p.1.map kV)) ∧ RelV p.2 q.2.2) kvs xs ∧
      ∃ o es ep, h.get? a = some o ∧ o.ExactDict ∧ o.data = .dict es ep ∧ es.toList = xs.map (entryOfKey (tupleKind (mixKind P w))) ∧ (xs.map (·.1)).Nodup
  | .set S n => h.SetOf (intKind P w) a S n
  | .ins C dx fs => H dx = some (.own a) ∧ fs.length ≤ 1000 ∧ dx ≠ a ∧ h.get? a = some (PySem.W.instObj C dx) ∧
      ∃ mA, h.Ns1 dx mA ∧ (∀ f, RelO (fs.lookup f) (mA f)) ∧ PySem.Within mA (fs.map (·.1))
  | .own _ => ∃ o, h.get? a = some o
  | .xd fs => ∃ mA, h.Ns1 a mA ∧ ∀ f, RelO (fs.lookup f) (mA f)
  | .rng lo hi => ∃ t u v, h.get? a = some { cls := .type "range", data := .fields #[.int lo t, .int hi u, .int 1 v] }
  | .frz o u => h.get? a = some o ∧ ObjOk H h a u
  | .tbl ps => h.get? a = some { cls := .none, data := .fields ps }
  | .met f x => h.get? a = some (PySem.W.methodObj (.ref f) (.ref x))
  | .ext φ => φ h ∧ (∃ o, h.get? a = some o) ∧ ∀ h1 h2 : Heap, φ h1 → (∀ o, h1.get? a = some o → h2.get? a = some o) → φ h2
/-- the abstract heap is held -/
def HOk (H : Hp) (h : Heap) : Prop := ∀ a o, H a = some o → ObjOk P w H h a o
end

section
variable {P : Program} {w : World} {H H' : Hp} {h h' : Heap} {a : Addr} {o : HO}
theorem ObjOk.lt (x : ObjOk P w H h a o) : a < h.objs.size := by
  cases o with
  | lst xs => obtain ⟨_, _, _, _, e⟩ := x; exact Heap.lt_size e
  | tup xs => obtain ⟨_, _, _, p⟩ := x; exact p.lt
  | dK kvs => obtain ⟨_, _, _, _, o, _, _, e, _⟩ := x; exact Heap.lt_size e
  | dT kvs => obtain ⟨_, _, _, _, o, _, _, e, _⟩ := x; exact Heap.lt_size e
  | set S n => obtain ⟨o, _, _, _, e, _⟩ := x; exact Heap.lt_size e
  | ins C dx fs => obtain ⟨_, _, _, e, _⟩ := x; exact Heap.lt_size e
  | own y => obtain ⟨_, e⟩ := x; exact Heap.lt_size e
  | xd fs => obtain ⟨_, ⟨_, _, _, e, _⟩, _⟩ := x; exact Heap.lt_size e
  | rng lo hi => obtain ⟨_, _, _, e⟩ := x; exact Heap.lt_size e
  | frz ob u => obtain ⟨e, _⟩ := x; exact Heap.lt_size e
  | tbl ps => exact Heap.lt_size (show h.get? a = some _ from x)
  | met f y => exact Heap.lt_size (show h.get? a = some _ from x)
  | ext φ => obtain ⟨_, ⟨_, e⟩, _⟩ := x; exact Heap.lt_size e
theorem Paired.mapP {α β : Type} {F G : α → β → Prop} : ∀ {l₁ : List α} {l₂ : List β}, Paired F l₁ l₂ → (∀ a b, F a b → G a b) → Paired G l₁ l₂
  | _, _, .nil, _ => .nil
  | _, _, .cons r t, f => .cons (f _ _ r) (Paired.mapP t f)
theorem Paired.imp' {α β : Type} {F G : α → β → Prop} (f : ∀ a b, F a b → G a b) {l₁ : List α} {l₂ : List β} (r : Paired F l₁ l₂) : Paired G l₁ l₂ := Paired.mapP r f
/-- what an object's description leans on: its own object, its own dict, the tuples -/
theorem ObjOk.stay (x : ObjOk P w H h a o) (k : ∀ b u, (b = a ∨ H b = some (.own a)) → h.get? b = some u → h'.get? b = some u)
    (ho : ∀ b, H b = some (.own a) → H' b = some (.own a)) (ht : ∀ b xs, H b = some (.tup xs) → H' b = some (.tup xs)) : ObjOk P w H' h' a o := by
  induction o with
  | lst xs => obtain ⟨z, its, n, r, e⟩ := x; exact ⟨z, its, n, r, k _ _ (.inl rfl) e⟩
  | tup xs => obtain ⟨z, its, r, ob, e, c⟩ := x; exact ⟨z, its, r, ob, k _ _ (.inl rfl) e, c⟩
  | dK kvs => obtain ⟨z, y, vs, r, ob, es, ep, e, c⟩ := x; exact ⟨z, y, vs, r, ob, es, ep, k _ _ (.inl rfl) e, c⟩
  | dT kvs =>
    obtain ⟨z, y, xs, r, ob, es, ep, e, c⟩ := x
    exact ⟨z, y, xs, Paired.mapP r fun p q z => ⟨z.1, ht _ _ z.2.1, z.2.2⟩, ob, es, ep, k _ _ (.inl rfl) e, c⟩
  | set S n => obtain ⟨ob, es, ep, t, e, c⟩ := x; exact ⟨ob, es, ep, t, k _ _ (.inl rfl) e, c⟩
  | ins C dx fs =>
    obtain ⟨d, z, ne, e, mA, ⟨od, es, ep, e2, c⟩, r⟩ := x
    exact ⟨ho _ d, z, ne, k _ _ (.inl rfl) e, mA, ⟨od, es, ep, k _ _ (.inr d) e2, c⟩, r⟩
  | own y => obtain ⟨ob, e⟩ := x; exact ⟨ob, k _ _ (.inl rfl) e⟩
  | xd fs => obtain ⟨mA, ⟨od, es, ep, e, c⟩, r⟩ := x; exact ⟨mA, ⟨od, es, ep, k _ _ (.inl rfl) e, c⟩, r⟩
  | rng lo hi => obtain ⟨t, u, v, e⟩ := x; exact ⟨t, u, v, k _ _ (.inl rfl) e⟩
  | frz ob u ih => obtain ⟨e, q⟩ := x; exact ⟨k _ _ (.inl rfl) e, ih q⟩
  | tbl ps =>
    have e : h.get? a = some { cls := .none, data := .fields ps } := x
    show h'.get? a = some { cls := .none, data := .fields ps }
    exact k a _ (.inl rfl) e
  | met f y =>
    have e : h.get? a = some (PySem.W.methodObj (.ref f) (.ref y)) := x
    show h'.get? a = some (PySem.W.methodObj (.ref f) (.ref y))
    exact k a _ (.inl rfl) e
  | ext φ => obtain ⟨p, ⟨o, e⟩, st⟩ := x; exact ⟨st _ _ p fun o q => k _ _ (.inl rfl) q, ⟨o, k _ _ (.inl rfl) e⟩, st⟩
theorem HOk.lt (x : HOk P w H h) (e : H a = some o) : a < h.objs.size := (x a o e).lt
theorem HOk.fresh (x : HOk P w H h) (e : h.objs.size ≤ a) : H a = none := by
  cases q : H a with
  | none => rfl
  | some u => exact absurd (Nat.lt_of_lt_of_le (x.lt q) e) (Nat.lt_irrefl _)
/-- every object of the heap is kept -/
theorem HOk.kept (x : HOk P w H h) (k : ∀ b u, h.get? b = some u → h'.get? b = some u) : HOk P w H h' := fun a o e =>
  (x a o e).stay (fun b u _ q => k b u q) (fun _ q => q) fun _ _ q => q
/-- a new object is laid and tracked -/
theorem HOk.laid (x : HOk P w H h) (k : ∀ b u, h.get? b = some u → h'.get? b = some u) (hp : h.objs.size ≤ a) (new : ObjOk P w (upd H a o) h' a o) : HOk P w (upd H a o) h' := fun b u e => by
  have hn := x.fresh hp
  by_cases hb : b = a
  · subst hb; rw [upd_same] at e; cases e; exact new
  · rw [upd_ne hb] at e
    exact (x b u e).stay (fun c v _ q => k c v q) (fun c q => by rw [upd_ne (ne_of_none q hn)]; exact q) fun c xs q => by rw [upd_ne (ne_of_none q hn)]; exact q
end

/-- what may be read as u: it is u, or a known u -/
def Rd (H : Hp) (a : Addr) (u : HO) : Prop := H a = some u ∨ ∃ o, H a = some (.frz o u)
theorem Rd.of {H : Hp} {a : Addr} {u : HO} (h : H a = some u) : Rd H a u := .inl h
theorem Rd.ok {P : Program} {w : World} {H : Hp} {h : Heap} {a : Addr} {u : HO} (r : Rd H a u) (x : HOk P w H h) : ObjOk P w H h a u := by
  rcases r with r | ⟨o, r⟩
  · exact x a u r
  · obtain ⟨_, q⟩ := x a _ r
    exact q
/-- what may be written -/
def Mut : Option HO → Prop
  | some (.lst _) => True
  | some (.dK _) => True
  | some (.dT _) => True
  | some (.set _ _) => True
  | some (.ins _ _ _) => True
  | some (.ext _) => True
  | _ => False
section
variable {P : Program} {w : World} {H : Hp} {h h' : Heap} {x e : Addr} {o' : HO}
/-- the object at e is changed: x itself, or the dict of the instance x -/
theorem HOk.write (ok : HOk P w H h) (mu : Mut (H x)) (he : e = x ∨ H e = some (.own x)) (k : ∀ b u, b ≠ e → h.get? b = some u → h'.get? b = some u) (heo : ∃ u, h'.get? e = some u)
    (new : ObjOk P w (upd H x o') h' x o') : HOk P w (upd H x o') h' := fun b u q => by
  have nown : ∀ c y, H c = some (.own y) → c ≠ x := fun c y r z => by subst z; rw [r] at mu; exact mu
  have ntup : ∀ c xs, H c = some (.tup xs) → c ≠ x := fun c xs r z => by subst z; rw [r] at mu; exact mu
  by_cases hb : b = x
  · subst hb; rw [upd_same] at q; cases q; exact new
  · rw [upd_ne hb] at q
    by_cases hbe : b = e
    · have q' : H b = some (.own x) := by
        rcases he with z | z
        · exact absurd (hbe.trans z) hb
        · rw [hbe]; exact z
      rw [q] at q'; cases q'
      obtain ⟨v, hv⟩ := heo
      exact ⟨v, by rw [hbe]; exact hv⟩
    · refine (ok b u q).stay (fun c v hc r => k c v ?_ r) (fun c r => by rw [upd_ne (nown c b r)]; exact r) fun c xs r => by rw [upd_ne (ntup c xs r)]; exact r
      rcases hc with rfl | hc
      · exact hbe
      · rintro rfl
        rcases he with z | z
        · exact nown c b hc z
        · rw [hc] at z; cases z; exact hb rfl
end

/-! ### kept unless tracked; of the frames at fs (the callers') the slots may change (an exception that passes writes there); of the records at ex (iterators) nothing is said -/
structure Un (fs ex : List Addr) (H H' : Hp) (h h' : Heap) : Prop where
  keep : ∀ b o, h.get? b = some o → H b = none → b ∉ fs → b ∉ ex → h'.get? b = some o
  slot : ∀ b o, h.get? b = some o → H b = none → b ∈ fs → b ∉ ex → ∃ sl, h'.get? b = some { o with slots := sl }
  free : ∀ b o, h.get? b = some o → H b = none → b ∉ ex → H' b = none
  there : ∀ b o, h.get? b = some o → b ∉ ex → ∃ o', h'.get? b = some o'
  tups : ∀ b xs, H b = some (.tup xs) → H' b = some (.tup xs)
  frzs : ∀ b o u, H b = some (.frz o u) → H' b = some (.frz o u)
  tbls : ∀ b ps, H b = some (.tbl ps) → ∃ more, H' b = some (.tbl (ps ++ more))
section
variable {fs fs' ex ex' : List Addr} {H H1 H2 : Hp} {h h1 h2 h' : Heap} {a x e : Addr} {o : HO}
theorem Un.any (u : Un fs ex H H1 h h1) {b : Addr} {ob : Obj} (q : h.get? b = some ob) (n : H b = none) (hx : b ∉ ex) : ∃ sl, h1.get? b = some { ob with slots := sl } := by
  by_cases hb : b ∈ fs
  · exact u.slot b ob q n hb hx
  · exact ⟨ob.slots, u.keep b ob q n hb hx⟩
theorem Un.trans (a : Un fs ex H H1 h h1) (b : Un fs ex H1 H2 h1 h2) : Un fs ex H H2 h h2 where
  keep := fun c ob q n hc hx => b.keep c ob (a.keep c ob q n hc hx) (a.free c ob q n hx) hc hx
  slot := fun c ob q n hc hx => by
    obtain ⟨sl, e1⟩ := a.slot c ob q n hc hx
    obtain ⟨sl', e2⟩ := b.slot c _ e1 (a.free c ob q n hx) hc hx
    exact ⟨sl', e2⟩
  free := fun c ob q n hx => by
    obtain ⟨o', e1⟩ := a.there c ob q hx
    exact b.free c o' e1 (a.free c ob q n hx) hx
  there := fun c ob q hx => by
    obtain ⟨o', e1⟩ := a.there c ob q hx
    exact b.there c o' e1 hx
  tups := fun c xs q => b.tups c xs (a.tups c xs q)
  frzs := fun c ob xs q => b.frzs c ob xs (a.frzs c ob xs q)
  tbls := fun c ps q => by
    obtain ⟨m1, e1⟩ := a.tbls c ps q
    obtain ⟨m2, e2⟩ := b.tbls c _ e1
    exact ⟨m1 ++ m2, by rw [e2, Array.append_assoc]⟩
theorem Un.kept (k : ∀ b u, h.get? b = some u → h'.get? b = some u) : Un fs ex H H h h' :=
  ⟨fun b ob q _ _ _ => k b ob q, fun b ob q _ _ _ => ⟨ob.slots, k b ob q⟩, fun _ _ _ n _ => n, fun b ob q _ => ⟨ob, k b ob q⟩, fun _ _ q => q, fun _ _ _ q => q, fun _ ps q => ⟨#[], by rw [q]; simp⟩⟩
theorem Un.refl : Un fs ex H H h h := Un.kept fun _ _ q => q
theorem Un.laid (k : ∀ b u, h.get? b = some u → h'.get? b = some u) (hp : h.objs.size ≤ a) (hn : H a = none) : Un fs ex H (upd H a o) h h' where
  keep := fun b u q _ _ _ => k b u q
  slot := fun b u q _ _ _ => ⟨u.slots, k b u q⟩
  free := fun b u q n _ => by rw [upd_ne (Nat.ne_of_lt (Nat.lt_of_lt_of_le (Heap.lt_size q) hp))]; exact n
  there := fun b u q _ => ⟨u, k b u q⟩
  tups := fun b xs q => by rw [upd_ne (ne_of_none q hn)]; exact q
  frzs := fun b u xs q => by rw [upd_ne (ne_of_none q hn)]; exact q
  tbls := fun b ps q => ⟨#[], by rw [upd_ne (ne_of_none q hn), q]; simp⟩
theorem Un.write (mu : Mut (H x)) (he : e = x ∨ H e = some (.own x)) (k : ∀ b u, b ≠ e → h.get? b = some u → h'.get? b = some u) (heo : ∃ u, h'.get? e = some u) : Un fs ex H (upd H x o) h h' := by
  have hx : ∀ b, H b = none → b ≠ x := fun b n z => by subst z; rw [n] at mu; exact mu
  have hb : ∀ b, H b = none → b ≠ e := fun b n z => by
    subst z
    rcases he with r | r
    · exact hx b n r
    · rw [n] at r; cases r
  have hm : ∀ b u, H b = some u → ¬ Mut (some u) → b ≠ x := fun b u q nm z => by subst z; rw [q] at mu; exact nm mu
  refine ⟨fun b u q n _ _ => k b u (hb b n) q, fun b u q n _ _ => ⟨u.slots, k b u (hb b n) q⟩, fun b u q n _ => by rw [upd_ne (hx b n)]; exact n, fun b u q _ => ?_,
    fun b xs q => by rw [upd_ne (hm b _ q fun z => z)]; exact q, fun b u xs q => by rw [upd_ne (hm b _ q fun z => z)]; exact q, fun b ps q => ⟨#[], by rw [upd_ne (hm b _ q fun z => z), q]; simp⟩⟩
  by_cases hbe : b = e
  · subst hbe; exact heo
  · exact ⟨u, k b u hbe q⟩
theorem Un.mono (u : Un fs ex H H1 h h1) (hs : ∀ b ∈ fs, b ∈ fs') (hx : ∀ b ∈ ex, b ∈ ex') : Un fs' ex' H H1 h h1 :=
  ⟨fun b ob q n hb he => u.keep b ob q n (fun z => hb (hs b z)) fun z => he (hx b z), fun _ _ q n _ he => u.any q n fun z => he (hx _ z), fun b ob q n he => u.free b ob q n fun z => he (hx b z), fun b ob q he => u.there b ob q fun z => he (hx b z), u.tups, u.frzs, u.tbls⟩
end

/-! ### the heap without what is tracked -/
def trk (h : Heap) (H : Hp) : List Addr := (List.range h.objs.size).filter fun a => (H a).isSome
def hidT (h : Heap) (H : Hp) : Heap := PySem.W.hideAll h (trk h H)
theorem hidT_size (h : Heap) (H : Hp) : (hidT h H).objs.size = h.objs.size := PySem.W.hideAll_size _ _
theorem hidT_get {h : Heap} {H : Hp} {b : Addr} {o : Obj} (e : h.get? b = some o) (n : H b = none) : (hidT h H).get? b = some o :=
  PySem.W.hideAll_get _ e fun hm => by
    have q : (H b).isSome = true := (List.mem_filter.mp hm).2
    rw [n] at q; simp at q
theorem of_hidT {h : Heap} {H : Hp} {b : Addr} {o : Obj} (e : (hidT h H).get? b = some o) : h.get? b = some o ∧ H b = none := by
  have e' : h.get? b = some o := PySem.W.of_hideAll (trk h H) e
  refine ⟨e', ?_⟩
  cases q : H b with
  | none => rfl
  | some x =>
    have hm : b ∈ trk h H := List.mem_filter.mpr ⟨List.mem_range.mpr (Heap.lt_size e'), by simp [q]⟩
    have z : (hidT h H).get? b = none := PySem.W.hideAll_none (trk h H) hm
    rw [z] at e; cases e

/-! ### OpenK's ledger, filled with every new object but one -/
def allNews (g h : Heap) (L : Addr) : List (Addr × Obj) := (List.range h.objs.size).filterMap fun a => if a = L ∨ (g.get? a).isSome = true then none else (h.get? a).map fun o => (a, o)
theorem mem_allNews {g h : Heap} {L a : Addr} {o : Obj} (h1 : a ≠ L) (h2 : g.get? a = none) (h3 : h.get? a = some o) : (a, o) ∈ allNews g h L :=
  List.mem_filterMap.mpr ⟨a, List.mem_range.mpr (Heap.lt_size h3), by simp [h1, h2, h3]⟩
theorem of_mem_allNews {g h : Heap} {L : Addr} {p : Addr × Obj} (hp : p ∈ allNews g h L) : p.1 ≠ L ∧ g.get? p.1 = none ∧ h.get? p.1 = some p.2 := by
  obtain ⟨b, _, e⟩ := List.mem_filterMap.mp hp
  split at e
  · cases e
  · rename_i hn
    cases q : h.get? b with
    | none => rw [q] at e; simp at e
    | some u =>
      rw [q] at e
      simp only [Option.map_some, Option.some.injEq] at e
      subst e
      refine ⟨fun z => hn (.inl z), ?_, q⟩
      show g.get? b = none
      cases r : g.get? b with
      | none => rfl
      | some v => exact (hn (.inr (by simp [r]))).elim
def rest (g h : Heap) (L d : Addr) : List (Addr × Obj) := (allNews g h L).filter fun p => decide (p.1 ≠ d)
theorem rest_ne {g h : Heap} {L d : Addr} : ∀ p ∈ rest g h L d, p.1 ≠ d := fun p hp => of_decide_eq_true (List.mem_filter.mp hp).2
theorem mem_rest {g h : Heap} {L d a : Addr} {o : Obj} (h1 : a ≠ L) (h2 : g.get? a = none) (h3 : h.get? a = some o) (h4 : a ≠ d) : (a, o) ∈ rest g h L d :=
  List.mem_filter.mpr ⟨mem_allNews h1 h2 h3, decide_eq_true h4⟩
theorem news_all {g h : Heap} {L : Addr} : News g L h (allNews g h L) := fun p hp => let ⟨a, b, c⟩ := of_mem_allNews hp; ⟨c, a, b⟩
theorem news_at {g h : Heap} {L d : Addr} {o : Obj} (h1 : d ≠ L) (h2 : g.get? d = none) (h3 : h.get? d = some o) : News g L h ((d, o) :: rest g h L d) := fun p hp => by
  rcases List.mem_cons.mp hp with rfl | hp
  · exact ⟨h3, h1, h2⟩
  · exact news_all p (List.mem_filter.mp hp).1
/-- behind a rule that changed d alone: all else but the frame is kept -/
theorem kept_of_news {g h h' : Heap} {L d : Addr} {m : Str → Option Value} (k : ∀ b o, g.get? b = some o → h.get? b = some o) (F : Fr g L h' m) (N : News g L h' (rest g h L d)) :
    ∀ b o, b ≠ L → b ≠ d → h.get? b = some o → h'.get? b = some o := fun b o h1 h2 e => by
  cases q : g.get? b with
  | some u =>
    have := k b u q
    rw [e] at this; cases this
    exact F.keep b _ q
  | none => exact (N (b, o) (mem_rest h1 q e h2)).1
end L2

namespace L2
open PySem PySem.Spec PyProof.Rows

/-- the module's facts, over the base: the heap at the law's entry without what is tracked there -/
structure Mod (K : PySem.W.Frag) (mg : Str → Option Value) (base : Heap) : Prop where
  kin : K.In base
  glob : base.Ns mainGlobals mg
  blt : ∃ mb, base.Ns builtinsNs mb ∧ ∀ x : Str, x ≠ "__name__" → mb x = bootBuiltins x
  nolimit : base.NoLimit

/-- the context: a def's body (or a comprehension's block) running. base: fixed through the whole law; s₀, H₀: the entry; outer: the frames whose slots others may change (a def's callers); stack: all frames that run;
   ex: iterators that were made ahead of the entry and are walked here (a comprehension's); fn: the names whose cells were made at the entry (a def: all; a comprehension's block: its own); calm: not within an except suite; pn: pins that every state bears; xe: what is wanted of an exception that leaves the code -/
structure Cx where
  prog : Program
  w : World
  K : PySem.W.Frag
  mg : Str → Option Value
  base : Heap
  A : Around
  N : List Str
  s₀ : Shared
  H₀ : Hp
  env : Env
  outer : List Env
  stack : List Env
  ex : List Addr
  fn : Str → Bool
  calm : Bool
  pn : List (Addr × Obj)
  xe : Value → Shared → Prop
/-- the callers' frames -/
def frs (l : List Env) : List Addr := l.filterMap (·.frame)
abbrev Cx.fs (X : Cx) : List Addr := frs X.outer

def Vis (sc : Scope) (x : Str) : Prop := sc.names.lookup x = some .local ∨ sc.names.lookup x = some .cell ∨ sc.names.lookup x = some .free
def Loc (sc : Scope) (x : Str) : Prop := sc.names.lookup x = some .local ∨ sc.names.lookup x = some .cell
def Look (env : Env) (h : Heap) (m : Str → Option Value) (x : Str) (u : Value) : Prop :=
  (env.kindOf x = some .local ∧ m x = some u) ∨ ((env.kindOf x = some .cell ∨ env.kindOf x = some .free) ∧ ∃ c, env.cells.lookup x = some c ∧ h.IsCell c (some u))

structure Cx.Ok (X : Cx) : Prop where
  mod : Mod X.K X.mg X.base
  kind : X.env.scope.kind = .function
  glob : X.env.globals = mainGlobals
  blt : X.env.builtins = builtinsNs
  above : X.s₀.heap.objs.size ≤ X.env.locals
  inj : ∀ x y c, X.env.cells.lookup x = some c → X.env.cells.lookup y = some c → x = y
  has : ∀ x, (X.env.kindOf x = some .cell ∨ X.env.kindOf x = some .free) → ∃ c, X.env.cells.lookup x = some c
  cab : ∀ x c, X.fn x = true → X.env.cells.lookup x = some c → X.s₀.heap.objs.size ≤ c
  hd : X.calm = true → X.A.handled = none
  frames : X.A.frames = some X.stack
  stk : X.stack = X.outer ∨ (X.stack = X.env :: X.outer ∧ X.env.frame = some X.env.locals)
  exf : ∀ b ∈ X.ex, b ≠ X.env.locals ∧ ∀ x c, X.env.cells.lookup x = some c → c ≠ b
  bs : ∀ b o, X.base.get? b = some o → X.s₀.heap.get? b = some o ∧ X.H₀ b = none
  bsz : X.base.objs.size ≤ X.s₀.heap.objs.size
  noex : ∀ b o, X.base.get? b = some o → b ∉ X.ex
  exfs : ∀ b ∈ X.ex, b ∉ X.fs
  funs : X.s₀.heap.FunFrames X.base X.outer
  frf : ∀ b ∈ X.fs, X.H₀ b = none

structure Inv (X : Cx) (pins : List (Addr × Obj)) (σ : List (Option V)) (H : Hp) (s : Shared) : Prop where
  ok : X.Ok
  os : s.os = X.s₀.os
  bare : AllBare s.gens
  base : Un X.fs X.ex X.H₀ H X.s₀.heap s.heap
  loc : ∃ m, s.heap.Ns X.env.locals m ∧ ∀ (i : Nat) (x : Str) (v : V), X.N[i]? = some x → σ[i]? = some (some v) → Vis X.env.scope x → ∃ u, RelV v u ∧ Look X.env s.heap m x u
  cell : ∀ x c, X.env.cells.lookup x = some c → ∃ v, s.heap.IsCell c v
  free : H X.env.locals = none
  freeC : ∀ x c, X.env.cells.lookup x = some c → H c = none
  pin : ∀ p ∈ X.pn ++ pins, s.heap.get? p.1 = some p.2 ∧ H p.1 = none ∧ p.1 ≠ X.env.locals ∧ p.1 ∉ X.fs ∧ ∀ v, p.2.data ≠ .cell v
  hok : HOk X.prog X.w H s.heap
  len : σ.length = X.N.length

section
variable {X : Cx} {pins : List (Addr × Obj)} {σ : List (Option V)} {H H' : Hp} {s : Shared} {h' : Heap}

theorem Cx.Ok.nofr (ok : X.Ok) {b : Addr} {o : Obj} (e : X.base.get? b = some o) : b ∉ X.fs := fun hb => by
  have := (ok.funs.mem hb).1
  rw [e] at this; cases this
theorem Inv.bs (I : Inv X pins σ H s) : ∀ b o, X.base.get? b = some o → s.heap.get? b = some o ∧ H b = none := fun b o e =>
  ⟨I.base.keep b o (I.ok.bs b o e).1 (I.ok.bs b o e).2 (I.ok.nofr e) (I.ok.noex b o e), I.base.free b o (I.ok.bs b o e).1 (I.ok.bs b o e).2 (I.ok.noex b o e)⟩
theorem Inv.bk (I : Inv X pins σ H s) : ∀ b o, X.base.get? b = some o → s.heap.get? b = some o := fun b o e => (I.bs b o e).1
theorem Inv.mod (I : Inv X pins σ H s) : Mod X.K X.mg X.base := I.ok.mod
theorem Inv.kIn (I : Inv X pins σ H s) : X.K.In s.heap := I.ok.mod.kin.keeps I.bk
theorem Inv.nolimit (I : Inv X pins σ H s) : s.heap.NoLimit := I.ok.mod.nolimit.keeps I.bk
/-- the frame over the base: for OpenK's rules (K.In X.base is I.mod.kin) -/
theorem Inv.fr (I : Inv X pins σ H s) : ∃ m, Fr X.base X.env.locals s.heap m :=
  let ⟨m, hn, _⟩ := I.loc
  ⟨m, hn, I.bk, Nat.le_trans I.ok.bsz I.ok.above⟩
theorem Inv.lt (I : Inv X pins σ H s) : X.env.locals < s.heap.objs.size := let ⟨_, hn, _⟩ := I.loc; hn.lt
theorem Inv.sz (I : Inv X pins σ H s) : X.s₀.heap.objs.size ≤ s.heap.objs.size := Nat.le_trans I.ok.above (Nat.le_of_lt I.lt)
theorem Inv.nofs (I : Inv X pins σ H s) {a : Addr} (h : s.heap.objs.size ≤ a) : a ∉ X.fs := fun hb => by
  obtain ⟨_, o, ho, _⟩ := I.ok.funs.mem hb
  exact absurd (Nat.lt_of_lt_of_le (Heap.lt_size ho) (Nat.le_trans I.sz h)) (Nat.lt_irrefl _)
theorem Inv.cne (I : Inv X pins σ H s) : ∀ x c, X.env.cells.lookup x = some c → c ≠ X.env.locals := fun x c e z => by
  obtain ⟨v, o, ho, hd⟩ := I.cell x c e
  obtain ⟨m, ⟨o', es, ep, ho', hd', _⟩, _⟩ := I.loc
  rw [z, ho'] at ho; cases ho; rw [hd'] at hd; cases hd
theorem Inv.funs (I : Inv X pins σ H s) : s.heap.FunFrames X.base X.outer := by
  have all : ∀ (l : List Env), (∀ b ∈ frs l, b ∈ X.fs) → X.s₀.heap.FunFrames X.base l → s.heap.FunFrames X.base l := by
    intro l
    induction l with
    | nil => intro _ _; trivial
    | cons env r ih =>
      intro hs hl
      obtain ⟨hk, ⟨L, o, hf, hn, ho, hd⟩, hr⟩ := hl
      have hL : L ∈ X.fs := hs L (by unfold frs; rw [List.filterMap_cons, hf]; exact List.mem_cons_self)
      obtain ⟨sl, e⟩ := I.base.slot L o ho (I.ok.frf L hL) hL fun z => I.ok.exfs L z hL
      exact ⟨hk, ⟨L, _, hf, hn, e, hd⟩, ih (fun b hb => hs b (by unfold frs; rw [List.filterMap_cons, hf]; exact List.mem_cons_of_mem _ hb)) hr⟩
  exact all X.outer (fun _ hb => hb) I.ok.funs

/-- the frames that run, for a call -/
theorem Inv.stack (I : Inv X pins σ H s) : s.heap.FunFrames X.base X.stack := by
  rcases I.ok.stk with e | ⟨e, hf⟩
  · rw [e]; exact I.funs
  · rw [e]
    obtain ⟨m, hn, _⟩ := I.loc
    refine .cons (by rw [I.ok.kind]; decide) hf hn ?_ I.funs
    exact Heap.get?_none_of_le (Nat.le_trans I.ok.bsz I.ok.above)
theorem Inv.stkSub (I : Inv X pins σ H s) : ∀ b ∈ frs X.stack, b ∈ X.env.locals :: X.fs := fun b hb => by
  rcases I.ok.stk with e | ⟨e, hf⟩
  · rw [e] at hb; exact List.mem_cons_of_mem _ hb
  · rw [e] at hb
    unfold frs at hb
    rw [List.filterMap_cons, hf] at hb
    exact hb
theorem Inv.stkFree (I : Inv X pins σ H s) : ∀ b ∈ frs X.stack, H b = none := fun b hb => by
  rcases List.mem_cons.mp (I.stkSub b hb) with e | hb
  · rw [e]; exact I.free
  · obtain ⟨_, o, ho, _⟩ := I.ok.funs.mem hb
    exact I.base.free b o ho (I.ok.frf b hb) fun z => I.ok.exfs b z hb

/-- THE STEP: the untracked objects but the frame and the records at ch are kept (the callers' frames up to slots), the frame's map is kept, the new abstract heap is held -/
theorem Inv.step {g' : Array GenState} {t' : Nat} {d' : Drawn} {ch : List Addr} (I : Inv X pins σ H s)
    (hch : ∀ b ∈ ch, (b ∈ X.ex ∨ X.s₀.heap.objs.size ≤ b) ∧ b ≠ X.env.locals ∧ (∀ x c, X.env.cells.lookup x = some c → c ≠ b) ∧ ∀ p ∈ X.pn ++ pins, p.1 ≠ b)
    (keep : ∀ b o, b ≠ X.env.locals → b ∉ X.fs → b ∉ ch → s.heap.get? b = some o → H b = none → h'.get? b = some o)
    (slot : ∀ b o, b ≠ X.env.locals → b ∈ X.fs → b ∉ ch → s.heap.get? b = some o → H b = none → ∃ sl, h'.get? b = some { o with slots := sl }) (free : ∀ b o, b ∉ ch → s.heap.get? b = some o → H b = none → H' b = none)
    (there : ∀ b o, b ∉ ch → s.heap.get? b = some o → ∃ o', h'.get? b = some o')
    (tups : ∀ b xs, H b = some (.tup xs) → H' b = some (.tup xs)) (frzs : ∀ b o u, H b = some (.frz o u) → H' b = some (.frz o u)) (tbls : ∀ b ps, H b = some (.tbl ps) → ∃ more, H' b = some (.tbl (ps ++ more)))
    (ns : ∀ m, s.heap.Ns X.env.locals m → h'.Ns X.env.locals m) (hok : HOk X.prog X.w H' h') (hg : AllBare g') :
    Inv X pins σ H' { s with heap := h', gens := g', drawn := d', toks := t' } := by
  have neL : ∀ b o, X.s₀.heap.get? b = some o → b ≠ X.env.locals := fun b o e => Nat.ne_of_lt (Nat.lt_of_lt_of_le (Heap.lt_size e) I.ok.above)
  have neC : ∀ b o, X.s₀.heap.get? b = some o → b ∉ X.ex → b ∉ ch := fun b o e hx hb => by
    rcases (hch b hb).1 with z | z
    · exact hx z
    · exact absurd (Nat.lt_of_lt_of_le (Heap.lt_size e) z) (Nat.lt_irrefl _)
  have cellK : ∀ x c, X.env.cells.lookup x = some c → ∀ v, s.heap.IsCell c v → h'.IsCell c v := fun x c e v ⟨o, ho, hd⟩ => by
    have nch : c ∉ ch := fun z => (hch c z).2.2.1 x c e rfl
    by_cases hc : c ∈ X.fs
    · obtain ⟨sl, q⟩ := slot c o (I.cne x c e) hc nch ho (I.freeC x c e)
      exact ⟨_, q, hd⟩
    · exact ⟨o, keep c o (I.cne x c e) hc nch ho (I.freeC x c e), hd⟩
  refine ⟨I.ok, I.os, hg, ⟨fun b o e n hb hx => ?_, fun b o e n hb hx => ?_, fun b o e n hx => ?_, fun b o e hx => ?_, fun b xs e => tups b xs (I.base.tups b xs e), fun b o xs e => frzs b o xs (I.base.frzs b o xs e), fun b ps e => ?_⟩, ?_, fun x c e => ?_, ?_, fun x c e => ?_, fun p hp => ?_, hok, I.len⟩
  · exact keep b o (neL b o e) hb (neC b o e hx) (I.base.keep b o e n hb hx) (I.base.free b o e n hx)
  · obtain ⟨sl, e1⟩ := I.base.slot b o e n hb hx
    obtain ⟨sl', e2⟩ := slot b _ (neL b o e) hb (neC b o e hx) e1 (I.base.free b o e n hx)
    exact ⟨sl', e2⟩
  · obtain ⟨o', e1⟩ := I.base.there b o e hx
    exact free b o' (neC b o e hx) e1 (I.base.free b o e n hx)
  · obtain ⟨o', e1⟩ := I.base.there b o e hx
    exact there b o' (neC b o e hx) e1
  · obtain ⟨m1, e1⟩ := I.base.tbls b ps e
    obtain ⟨m2, e2⟩ := tbls b _ e1
    exact ⟨m1 ++ m2, by rw [e2, Array.append_assoc]⟩
  · obtain ⟨m, hn, hl⟩ := I.loc
    refine ⟨m, ns m hn, fun i x v e1 e2 e3 => ?_⟩
    obtain ⟨u, r, l⟩ := hl i x v e1 e2 e3
    refine ⟨u, r, ?_⟩
    rcases l with l | ⟨k, c, e, z⟩
    · exact .inl l
    · exact .inr ⟨k, c, e, cellK x c e _ z⟩
  · obtain ⟨v, z⟩ := I.cell x c e
    exact ⟨v, cellK x c e v z⟩
  · obtain ⟨m, ⟨o, _, _, ho, _⟩, _⟩ := I.loc
    exact free _ o (fun z => (hch _ z).2.1 rfl) ho I.free
  · obtain ⟨v, o, ho, hd⟩ := I.cell x c e
    exact free c o (fun z => (hch c z).2.2.1 x c e rfl) ho (I.freeC x c e)
  · obtain ⟨e, n, ne, nf, d⟩ := I.pin p hp
    have nch : p.1 ∉ ch := fun z => (hch p.1 z).2.2.2 p hp rfl
    exact ⟨keep p.1 p.2 ne nf nch e n, free p.1 p.2 nch e n, ne, nf, d⟩
/-- .. where the frame's own object is kept too -/
theorem Inv.un {t' : Nat} (I : Inv X pins σ H s) (u : Un X.fs [] H H' s.heap h') (hok : HOk X.prog X.w H' h') : Inv X pins σ H' { s with heap := h', toks := t' } := by
  obtain ⟨m, ⟨o, es, ep, ho, r⟩, _⟩ := id I.loc
  obtain ⟨sl, hL⟩ := u.any ho I.free (by simp)
  exact I.step (g' := s.gens) (d' := s.drawn) (ch := []) (fun _ z => nomatch z) (fun b o _ hb _ e n => u.keep b o e n hb (by simp)) (fun b o _ hb _ e n => u.slot b o e n hb (by simp)) (fun b o _ e n => u.free b o e n (by simp)) (fun b o _ e => u.there b o e (by simp)) u.tups u.frzs u.tbls (fun m' hm => by
    obtain ⟨o', es', ep', ho', r'⟩ := hm
    rw [ho] at ho'; cases ho'
    exact ⟨_, es', ep', hL, r'⟩) hok I.bare
/-- behind a call (or a comprehension's block): the slots of this frame may have changed too, the records at ch may have turned -/
theorem Inv.call {g' : Array GenState} {t' : Nat} {d' : Drawn} {ch : List Addr} (I : Inv X pins σ H s) (u : Un (frs X.stack) ch H H' s.heap h') (hok : HOk X.prog X.w H' h') (hg : AllBare g')
    (hch : ∀ b ∈ ch, (b ∈ X.ex ∨ X.s₀.heap.objs.size ≤ b) ∧ b ≠ X.env.locals ∧ (∀ x c, X.env.cells.lookup x = some c → c ≠ b) ∧ ∀ p ∈ X.pn ++ pins, p.1 ≠ b) :
    Inv X pins σ H' { s with heap := h', gens := g', drawn := d', toks := t' } := by
  obtain ⟨m, ⟨o, es, ep, ho, r⟩, _⟩ := id I.loc
  obtain ⟨sl, hL⟩ := u.any ho I.free fun z => (hch _ z).2.1 rfl
  exact I.step (ch := ch) hch (fun b o hL hb hc e n => u.keep b o e n (fun z => (List.mem_cons.mp (I.stkSub b z)).elim hL hb) hc) (fun b o _ _ hc e n => u.any e n hc) (fun b o hc e n => u.free b o e n hc) (fun b o hc e => u.there b o e hc) u.tups u.frzs u.tbls (fun m' hm => by
    obtain ⟨o', es', ep', ho', r'⟩ := hm
    rw [ho] at ho'; cases ho'
    exact ⟨_, es', ep', hL, r'⟩) hok hg
/-- an untracked record of ours (an iterator) has turned -/
theorem Inv.turned {t' : Nat} {it : Addr} (I : Inv X pins σ H s) (k : ∀ b o, b ≠ it → s.heap.get? b = some o → h'.get? b = some o) (hn : H it = none) (hL : it ≠ X.env.locals)
    (h1 : it ∈ X.ex ∨ X.s₀.heap.objs.size ≤ it) (h2 : ∀ x c, X.env.cells.lookup x = some c → c ≠ it) (h3 : ∀ p ∈ X.pn ++ pins, p.1 ≠ it) : Inv X pins σ H { s with heap := h', toks := t' } := by
  have nit : ∀ b u, H b = some u → b ≠ it := fun b u e z => by rw [z, hn] at e; cases e
  refine I.step (g' := s.gens) (d' := s.drawn) (ch := [it]) (fun b hb => ?_) (fun b o _ _ hc e _ => k b o (fun z => hc (by simp [z])) e) (fun b o _ _ hc e _ => ⟨o.slots, k b o (fun z => hc (by simp [z])) e⟩) (fun _ _ _ _ n => n)
    (fun b o hc e => ⟨o, k b o (fun z => hc (by simp [z])) e⟩) (fun _ _ e => e) (fun _ _ _ e => e) (fun b ps e => ⟨#[], by rw [e]; simp⟩) (fun m hm => ?_) (fun b u e => ?_) I.bare
  · have e : b = it := by simpa using hb
    subst e
    exact ⟨h1, hL, h2, h3⟩
  · obtain ⟨o, es, ep, ho, r⟩ := hm
    exact ⟨o, es, ep, k _ o (Ne.symm hL) ho, r⟩
  · refine (I.hok b u e).stay (fun c v hc q => k c v ?_ q) (fun _ q => q) fun _ _ q => q
    rcases hc with z | z
    · rw [z]; exact nit b u e
    · exact nit c _ z
theorem Inv.tok (I : Inv X pins σ H s) (t : Nat) : Inv X pins σ H { s with toks := t } := I.un (h' := s.heap) (t' := t) Un.refl I.hok
/-- all objects kept -/
theorem Inv.kept {t' : Nat} (I : Inv X pins σ H s) (k : ∀ b u, s.heap.get? b = some u → h'.get? b = some u) : Inv X pins σ H { s with heap := h', toks := t' } := I.un (Un.kept k) (I.hok.kept k)
/-- a new object laid and tracked -/
theorem Inv.laid {a : Addr} {o : HO} {t' : Nat} (I : Inv X pins σ H s) (k : ∀ b u, s.heap.get? b = some u → h'.get? b = some u) (hp : s.heap.objs.size ≤ a) (new : ObjOk X.prog X.w (upd H a o) h' a o) :
    Inv X pins σ (upd H a o) { s with heap := h', toks := t' } := I.un (Un.laid k hp (I.hok.fresh hp)) (I.hok.laid k hp new)
/-- an object written -/
theorem Inv.write {x e : Addr} {o : HO} {t' : Nat} (I : Inv X pins σ H s) (mu : Mut (H x)) (he : e = x ∨ H e = some (.own x)) (k : ∀ b u, b ≠ e → s.heap.get? b = some u → h'.get? b = some u) (heo : ∃ u, h'.get? e = some u)
    (new : ObjOk X.prog X.w (upd H x o) h' x o) : Inv X pins σ (upd H x o) { s with heap := h', toks := t' } := I.un (Un.write mu he k heo) (I.hok.write mu he k heo new)
/-- forgetting slots, pins -/
theorem Inv.weak {σ' : List (Option V)} (I : Inv X pins σ H s) (hl : σ'.length = σ.length) (w : ∀ (i : Nat) v, σ'[i]? = some (some v) → σ[i]? = some (some v)) : Inv X pins σ' H s :=
  ⟨I.ok, I.os, I.bare, I.base, let ⟨m, hn, hl'⟩ := I.loc; ⟨m, hn, fun i x v e1 e2 e3 => hl' i x v e1 (w i v e2) e3⟩, I.cell, I.free, I.freeC, I.pin, I.hok, hl.trans I.len⟩
theorem Inv.pins_of {pins' : List (Addr × Obj)} (I : Inv X pins σ H s) (h : ∀ p ∈ pins', s.heap.get? p.1 = some p.2 ∧ H p.1 = none ∧ p.1 ≠ X.env.locals ∧ p.1 ∉ X.fs ∧ ∀ v, p.2.data ≠ .cell v) : Inv X pins' σ H s :=
  ⟨I.ok, I.os, I.bare, I.base, I.loc, I.cell, I.free, I.freeC, fun p hp => (List.mem_append.mp hp).elim (fun z => I.pin p (List.mem_append_left _ z)) (h p), I.hok, I.len⟩

theorem nodup_ix {N : List Str} (hN : N.Nodup) {i j : Nat} {x : Str} (a : N[i]? = some x) (b : N[j]? = some x) : i = j := by
  obtain ⟨h1, e1⟩ := List.getElem?_eq_some_iff.mp a
  obtain ⟨h2, e2⟩ := List.getElem?_eq_some_iff.mp b
  exact (List.getElem_inj hN).mp (e1.trans e2.symm)

/-- a name is stored; what changed -/
theorem store_ok2 {M : Model} {A : Around} {E : Value → Shared → Prop} {i : Nat} {x : Str} {v : V} {u : Value} {Q : Unit → Shared → Prop} (I : Inv X pins σ H s) (hN : X.N.Nodup) (hi : X.N[i]? = some x) (hx : Loc X.env.scope x) (r : RelV v u)
    (h : ∀ s', Inv X pins (σ.set i (some v)) H s' → (∃ a, Heap.SameBut a s.heap s'.heap ∧ (a = X.env.locals ∨ X.env.cells.lookup x = some a)) → Q () s') (hf : X.fn x = true ∨ X.env.scope.names.lookup x = some .local := by first | exact .inl rfl | exact .inr rfl | assumption) : wpAny M A (storeName X.env x u) Q E s := by
  obtain ⟨m, hn, hl⟩ := id I.loc
  have hcls : (X.env.scope.kind == .class || (X.env.scope.kind == .module && X.env.locals != X.env.globals)) = false := by rw [I.ok.kind]; rfl
  have hiσ : i < σ.length := by rw [I.len]; exact (List.getElem?_eq_some_iff.mp hi).1
  have cne := I.cne
  have tracked : ∀ {a : Addr} {h' : Heap}, (∃ o, s.heap.get? a = some o ∧ H a = none) → Heap.SameBut a s.heap h' → HOk X.prog X.w H h' := fun {a h'} ha hs b ob e => by
    obtain ⟨_, _, hfree⟩ := ha
    refine (I.hok b ob e).stay (fun c w' hc q => (hs.2 c ?_).trans q) (fun _ q => q) fun _ _ q => q
    rintro rfl
    rcases hc with rfl | hc
    · rw [hfree] at e; cases e
    · rw [hfree] at hc; cases hc
  rcases hx with hk | hk
  · refine wpAny_storeName_local hk hn (fun h' hn' hs => ?_) hcls
    obtain ⟨oL, _, _, hoL, _⟩ := id hn
    refine h _ ⟨I.ok, I.os, I.bare, ⟨fun b o e n hb hx => ?_, fun b o e n hb hx => ?_, I.base.free, fun b o e hx => ?_, I.base.tups, I.base.frzs, I.base.tbls⟩, ⟨_, hn', fun j y v' e1 e2 e3 => ?_⟩, fun y c e => ?_, I.free, I.freeC, fun p hp => ?_, tracked ⟨oL, hoL, I.free⟩ hs, by simpa using I.len⟩ ⟨_, hs, .inl rfl⟩
    · exact (hs.2 b (Nat.ne_of_lt (Nat.lt_of_lt_of_le (Heap.lt_size e) I.ok.above))).trans (I.base.keep b o e n hb hx)
    · obtain ⟨sl, e1⟩ := I.base.slot b o e n hb hx
      exact ⟨sl, (hs.2 b (Nat.ne_of_lt (Nat.lt_of_lt_of_le (Heap.lt_size e) I.ok.above))).trans e1⟩
    · obtain ⟨o', e1⟩ := I.base.there b o e hx
      exact ⟨o', (hs.2 b (Nat.ne_of_lt (Nat.lt_of_lt_of_le (Heap.lt_size e) I.ok.above))).trans e1⟩
    · by_cases hj : j = i
      · subst hj
        rw [hi] at e1; cases e1
        rw [List.getElem?_set_self hiσ] at e2
        cases e2
        exact ⟨u, r, .inl ⟨hk, by simp⟩⟩
      · rw [List.getElem?_set_ne (Ne.symm hj)] at e2
        obtain ⟨u', r', q⟩ := hl j y v' e1 e2 e3
        refine ⟨u', r', ?_⟩
        rcases q with ⟨k, e⟩ | ⟨k, c, e, z⟩
        · refine .inl ⟨k, ?_⟩
          have : y ≠ x := fun e => hj (nodup_ix hN e1 (e ▸ hi))
          simp [this, e]
        · exact .inr ⟨k, c, e, z.sameBut hs (cne y c e)⟩
    · obtain ⟨w', z⟩ := I.cell y c e
      exact ⟨w', z.sameBut hs (cne y c e)⟩
    · obtain ⟨e, n, ne, nf, d⟩ := I.pin p hp
      exact ⟨(hs.2 p.1 ne).trans e, n, ne, nf, d⟩
  · have hfn : X.fn x = true := by
      rcases hf with z | z
      · exact z
      · rw [z] at hk; cases hk
    obtain ⟨c, hc⟩ := I.ok.has x (.inl hk)
    obtain ⟨w', z⟩ := I.cell x c hc
    refine wpAny_storeName_cell I.ok.kind hk hc z (fun h' hc' hs => ?_)
    obtain ⟨oc, hoc, hocd⟩ := id z
    refine h { s with heap := h' } ⟨I.ok, I.os, I.bare, ⟨fun b o e n hb hx => ?_, fun b o e n hb hx => ?_, I.base.free, fun b o e hx => ?_, I.base.tups, I.base.frzs, I.base.tbls⟩, ⟨m, hn.sameBut hs (Ne.symm (cne x c hc)), fun j y v' e1 e2 e3 => ?_⟩, fun y c' e => ?_, I.free, I.freeC, fun p hp => ?_, tracked ⟨oc, hoc, I.freeC x c hc⟩ hs, by simpa using I.len⟩ ⟨c, hs, .inr hc⟩
    · exact (hs.2 b (Nat.ne_of_lt (Nat.lt_of_lt_of_le (Heap.lt_size e) (I.ok.cab x c hfn hc)))).trans (I.base.keep b o e n hb hx)
    · obtain ⟨sl, e1⟩ := I.base.slot b o e n hb hx
      exact ⟨sl, (hs.2 b (Nat.ne_of_lt (Nat.lt_of_lt_of_le (Heap.lt_size e) (I.ok.cab x c hfn hc)))).trans e1⟩
    · obtain ⟨o', e1⟩ := I.base.there b o e hx
      exact ⟨o', (hs.2 b (Nat.ne_of_lt (Nat.lt_of_lt_of_le (Heap.lt_size e) (I.ok.cab x c hfn hc)))).trans e1⟩
    · by_cases hj : j = i
      · subst hj
        rw [hi] at e1; cases e1
        rw [List.getElem?_set_self hiσ] at e2
        cases e2
        exact ⟨u, r, .inr ⟨.inl hk, c, hc, hc'⟩⟩
      · rw [List.getElem?_set_ne (Ne.symm hj)] at e2
        obtain ⟨u', r', q⟩ := hl j y v' e1 e2 e3
        refine ⟨u', r', ?_⟩
        rcases q with q | ⟨k, c', e, z'⟩
        · exact .inl q
        · refine .inr ⟨k, c', e, z'.sameBut hs ?_⟩
          rintro rfl
          exact hj (nodup_ix hN e1 (I.ok.inj _ _ _ e hc ▸ hi))
    · by_cases hcc : c' = c
      · subst hcc; exact ⟨_, hc'⟩
      · obtain ⟨w2, z2⟩ := I.cell y c' e
        exact ⟨w2, z2.sameBut hs hcc⟩
    · obtain ⟨e, n, ne, nf, d⟩ := I.pin p hp
      refine ⟨(hs.2 p.1 ?_).trans e, n, ne, nf, d⟩
      intro q
      rw [q, hoc] at e
      have q' : oc = p.2 := Option.some.inj e
      exact d w' (by rw [← q']; exact hocd)
theorem store_ok {M : Model} {A : Around} {E : Value → Shared → Prop} {i : Nat} {x : Str} {v : V} {u : Value} {Q : Unit → Shared → Prop} (I : Inv X pins σ H s) (hN : X.N.Nodup) (hi : X.N[i]? = some x) (hx : Loc X.env.scope x) (r : RelV v u)
    (h : ∀ s', Inv X pins (σ.set i (some v)) H s' → Q () s') (hf : X.fn x = true ∨ X.env.scope.names.lookup x = some .local := by first | exact .inl rfl | exact .inr rfl | assumption) : wpAny M A (storeName X.env x u) Q E s :=
  store_ok2 I hN hi hx r (fun s' I' _ => h s' I') hf
/-- behind a call or a block, the state as it is -/
theorem Inv.call' {s' : Shared} {ch : List Addr} (I : Inv X pins σ H s) (ho : s'.os = s.os) (u : Un (frs X.stack) ch H H' s.heap s'.heap) (hok : HOk X.prog X.w H' s'.heap) (hg : AllBare s'.gens)
    (hch : ∀ b ∈ ch, (b ∈ X.ex ∨ X.s₀.heap.objs.size ≤ b) ∧ b ≠ X.env.locals ∧ (∀ x c, X.env.cells.lookup x = some c → c ≠ b) ∧ ∀ p ∈ X.pn ++ pins, p.1 ≠ b) : Inv X pins σ H' s' := by
  obtain ⟨h', g', d', t', o'⟩ := s'
  have e : o' = s.os := ho
  subst e
  exact I.call (g' := g') (t' := t') (d' := d') u hok hg hch
end

/-! ### the judgements -/
/-- an exception: its class, its own dict's address (where it has one), the abstract heap behind it -/
abbrev XK := Value → Option Addr → Hp → Prop
abbrev St := List (Option V)
abbrev VK := V → Hp → Prop
/-- an expression's reading; a test's; an argument list's -/
abbrev TE := St → Hp → VK → Prop
abbrev TT := St → Hp → (Bool → Hp → Prop) → Prop
abbrev TA := St → Hp → (List V → Hp → Prop) → Prop
/-- what is wanted behind a statement -/
structure Ends where
  nx : St → Hp → Prop
  rt : VK
  bk : St → Hp → Prop := fun _ _ => False
  ct : St → Hp → Prop := fun _ _ => False
abbrev TS := Ends → St → Hp → Prop

def EP (X : Cx) (pins : List (Addr × Obj)) (σ : St) (Q : VK) (u : Value) (s' : Shared) : Prop := ∃ v H', Inv X pins σ H' s' ∧ RelV v u ∧ Q v H'
def TP (X : Cx) (pins : List (Addr × Obj)) (σ : St) (Q : Bool → Hp → Prop) (b : Bool) (s' : Shared) : Prop := ∃ H', Inv X pins σ H' s' ∧ Q b H'
def AP (X : Cx) (pins : List (Addr × Obj)) (σ : St) (Q : List V → Hp → Prop) (us : List Value) (s' : Shared) : Prop := ∃ vs H', Inv X pins σ H' s' ∧ Vals vs us ∧ Q vs H'
def SP (X : Cx) (pins : List (Addr × Obj)) (D : Ends) (f : Flow) (s' : Shared) : Prop :=
  match f with
  | .next => ∃ σ' H', Inv X pins σ' H' s' ∧ D.nx σ' H'
  | .brk => ∃ σ' H', Inv X pins σ' H' s' ∧ D.bk σ' H'
  | .cont => ∃ σ' H', Inv X pins σ' H' s' ∧ D.ct σ' H'
  | .ret u => ∃ v σ' H', Inv X pins σ' H' s' ∧ RelV v u ∧ D.rt v H'

def PE (X : Cx) (e : Expr) (t : TE) : Prop :=
  ∀ (pins : List (Addr × Obj)) (s : Shared) (σ : St) (H : Hp) (Q : VK), Inv X pins σ H s → t σ H Q → wpAny (model X.prog X.w) X.A (eval e X.env) (EP X pins σ Q) X.xe s
def PT (X : Cx) (e : Expr) (t : TT) : Prop :=
  ∀ (pins : List (Addr × Obj)) (s : Shared) (σ : St) (H : Hp) (Q : Bool → Hp → Prop), Inv X pins σ H s → t σ H Q → wpAny (model X.prog X.w) X.A (isTrue e X.env (eval e X.env)) (TP X pins σ Q) X.xe s
/-- a test whatever its 'whole' is (and, or) -/
def PW (X : Cx) (e : Expr) (t : TT) : Prop :=
  ∀ (whole : Sem Value) (pins : List (Addr × Obj)) (s : Shared) (σ : St) (H : Hp) (Q : Bool → Hp → Prop), Inv X pins σ H s → t σ H Q → wpAny (model X.prog X.w) X.A (isTrue e X.env whole) (TP X pins σ Q) X.xe s
theorem PW.pt {X : Cx} {e : Expr} {t : TT} (h : PW X e t) : PT X e t := h _
/-- an argument list (no star), from the left -/
def PA (X : Cx) (es : List Expr) (t : TA) : Prop :=
  ∀ (pos : Pos) (pins : List (Addr × Obj)) (s : Shared) (σ : St) (H : Hp) (Q : List V → Hp → Prop), Inv X pins σ H s → t σ H Q → wpAny (model X.prog X.w) X.A (spliced (backTo pos (starEach es X.env))) (AP X pins σ Q) X.xe s
def PS (X : Cx) (st : Stmt) (t : TS) : Prop :=
  ∀ (pins : List (Addr × Obj)) (s : Shared) (σ : St) (H : Hp) (D : Ends), Inv X pins σ H s → t D σ H → wpAny (model X.prog X.w) X.A (exec st X.env) (SP X pins D) X.xe s
def PSs (X : Cx) (st : List Stmt) (t : TS) : Prop :=
  ∀ (pins : List (Addr × Obj)) (s : Shared) (σ : St) (H : Hp) (D : Ends), Inv X pins σ H s → t D σ H → wpAny (model X.prog X.w) X.A (execs st X.env) (SP X pins D) X.xe s
/-- weaken the end -/
theorem thn {α : Type} {t : Sem α} {Q Q' : α → Shared → Prop} {M : Model} {A : Around} {E : Value → Shared → Prop} {s : Shared} (h : wpAny M A t Q E s) (hQ : ∀ a s, Q a s → Q' a s) : wpAny M A t Q' E s := wpAny_mono h hQ fun _ _ x => x
end L2

namespace L2
open PySem PySem.Spec PyProof.Rows
section
variable {X : Cx}

/-- two expressions in a row -/
theorem bin {a b : Expr} {ta tb : TE} (ha : PE X a ta) (hb : PE X b tb) {pins : List (Addr × Obj)} {s : Shared} {σ : St} {H : Hp} {R : V → V → Hp → Prop} (I : Inv X pins σ H s) (h : ta σ H fun x H1 => tb σ H1 fun y H2 => R x y H2)
    {α : Type} {Q : α → Shared → Prop} {f : Value → Value → Sem α}
    (hf : ∀ v u s2 x y H2, Inv X pins σ H2 s2 → RelV x v → RelV y u → R x y H2 → wpAny (model X.prog X.w) X.A (f v u) Q X.xe s2) :
    wpAny (model X.prog X.w) X.A (eval a X.env) (fun v s₁ => wpAny (model X.prog X.w) X.A (eval b X.env) (fun u s₂ => wpAny (model X.prog X.w) X.A (f v u) Q X.xe s₂) X.xe s₁) X.xe s := by
  refine thn (ha pins s σ H _ I h) fun v s1 ⟨x, H1, I1, r1, q1⟩ => ?_
  refine thn (hb pins s1 σ H1 _ I1 q1) fun u s2 ⟨y, H2, I2, r2, q2⟩ => ?_
  exact hf v u s2 x y H2 I2 r1 r2 q2

/-! ### names and constants -/
def tVar (i : Nat) : TE := fun σ H Q => ∃ v, σ[i]? = some (some v) ∧ Q v H
def tC (v : V) : TE := fun _ H Q => Q v H
theorem pe_var {i : Nat} {x : Str} {pos : Pos} (hN : X.N[i]? = some x) (hv : Vis X.env.scope x) (hd : (x == ("__debug__" : Str)) = false := by decide) (hcd : (x == ("__classdict__" : Str)) = false := by decide) : PE X (.Name x pos) (tVar i) := by
  intro pins s σ H Q I h
  obtain ⟨v, e, h⟩ := h
  obtain ⟨m, hn, hl⟩ := I.loc
  obtain ⟨u, r, l⟩ := hl i x v hN e hv
  have fin : EP X pins σ Q u s := ⟨v, H, I, r, h⟩
  rcases l with ⟨hk, hm⟩ | ⟨hk, c, hc, hcell⟩
  · exact wpAny_Name (wpAny_loadName_local I.ok.kind hk hn hm fin) hd
  · rcases hk with hk | hk
    · exact wpAny_Name (wpAny_loadName_cell I.ok.kind hk hc hcell fin) hd
    · exact wpAny_Name (wpAny_loadName_free I.ok.kind hk hc hcell fin hcd) hd
theorem pe_int {i j pos} : PE X (.Constant (.int i) j pos) (tC (.int i)) := fun _ _ _ H _ I h => wpAny_Constant_int ⟨.int i, H, I.tok _, ⟨_, rfl⟩, h⟩
theorem pe_bl {b j pos} : PE X (.Constant (.bool b) j pos) (tC (.bl b)) := fun _ _ _ H _ I h => Constant_bool ⟨.bl b, H, I, rfl, h⟩
theorem pe_non {j pos} : PE X (.Constant .none j pos) (tC .non) := fun _ _ _ H _ I h => Constant_none ⟨.non, H, I, rfl, h⟩
theorem pe_str {x j pos} : PE X (.Constant (.str x) j pos) (tC (.str x)) := fun _ _ _ H _ I h => Calls.Constant_str ⟨.str x, H, I.tok _, ⟨_, rfl⟩, h⟩

/-- a global name of the def -/
def Gl (X : Cx) (x : Str) : Prop := X.env.kindOf x = some .globalImplicit
theorem ld_glob {E : Value → Shared → Prop} {pins : List (Addr × Obj)} {s : Shared} {σ : St} {H : Hp} {x : Str} {u : Value} {pos : Pos} {Q : Value → Shared → Prop} (I : Inv X pins σ H s) (hg : Gl X x) (hm : X.mg x = some u) (h : Q u s)
    (hd : (x == ("__debug__" : Str)) = false := by decide) : wpAny (model X.prog X.w) X.A (eval (.Name x pos) X.env) Q E s :=
  Calls.Name_function_global I.ok.kind hg (Calls.loadGlobal_global (by rw [I.ok.glob]; exact I.mod.glob.keeps I.bk) hm h) hd
theorem ld_blt {E : Value → Shared → Prop} {pins : List (Addr × Obj)} {s : Shared} {σ : St} {H : Hp} {x : Str} {u : Value} {pos : Pos} {Q : Value → Shared → Prop} (I : Inv X pins σ H s) (hg : Gl X x) (hm : X.mg x = none) (hv : bootBuiltins x = some u) (h : Q u s)
    (hn : x ≠ "__name__" := by decide) (hd : (x == ("__debug__" : Str)) = false := by decide) : wpAny (model X.prog X.w) X.A (eval (.Name x pos) X.env) Q E s := by
  obtain ⟨mb, h1, h2⟩ := I.mod.blt
  exact Calls.Name_function_global I.ok.kind hg (Calls.loadGlobal_builtin (by rw [I.ok.glob]; exact I.mod.glob.keeps I.bk) hm (by rw [I.ok.blt]; exact h1.keeps I.bk) ((h2 x hn).trans hv) h) hd
/-- a module's constant, a class, a function, as a value -/
theorem pe_glob {x : Str} {v : V} {u : Value} {pos : Pos} (hg : Gl X x) (hm : X.mg x = some u) (r : RelV v u) (hd : (x == ("__debug__" : Str)) = false := by decide) : PE X (.Name x pos) (tC v) :=
  fun _ _ _ H _ I h => ld_glob I hg hm ⟨v, H, I, r, h⟩ hd
theorem pe_bltn {x : Str} {v : V} {u : Value} {pos : Pos} (hg : Gl X x) (hm : X.mg x = none) (hv : bootBuiltins x = some u) (r : RelV v u) (hn : x ≠ "__name__" := by decide) (hd : (x == ("__debug__" : Str)) = false := by decide) : PE X (.Name x pos) (tC v) :=
  fun _ _ _ H _ I h => ld_blt I hg hm hv ⟨v, H, I, r, h⟩ hn hd

/-! ### arithmetic -/
/-- two ints -/
def t2I (ta tb : TE) (k : Int → Int → Hp → Prop) : St → Hp → Prop := fun σ H => ta σ H fun x H1 => tb σ H1 fun y H2 => ∃ i j, x = .int i ∧ y = .int j ∧ k i j H2
def tAdd (ta tb : TE) : TE := fun σ H Q => t2I ta tb (fun i j H2 => Q (.int (i + j)) H2) σ H
def tSub (ta tb : TE) : TE := fun σ H Q => t2I ta tb (fun i j H2 => Q (.int (i - j)) H2) σ H
/-- the left factor below 2^64 -/
def tMul (ta tb : TE) : TE := fun σ H Q => t2I ta tb (fun i j H2 => (-(2 ^ 64) < i ∧ i < 2 ^ 64) ∧ Q (.int (i * j)) H2) σ H
variable {a b : Expr} {ta tb : TE} {pos : Pos}
theorem pe_add (ha : PE X a ta) (hb : PE X b tb) : PE X (.BinOp a .Add b pos) (tAdd ta tb) := by
  intro pins s σ H Q I h
  refine wpAny_BinOp (bin ha hb I h fun v u s2 x y H2 I2 rx ry q => ?_)
  obtain ⟨i, j, rfl, rfl, q⟩ := q
  obtain ⟨t, rfl⟩ := rx
  obtain ⟨t', rfl⟩ := ry
  exact add_int ⟨.int _, H2, I2.tok _, ⟨_, rfl⟩, q⟩
theorem pe_sub (ha : PE X a ta) (hb : PE X b tb) : PE X (.BinOp a .Sub b pos) (tSub ta tb) := by
  intro pins s σ H Q I h
  refine wpAny_BinOp (bin ha hb I h fun v u s2 x y H2 I2 rx ry q => ?_)
  obtain ⟨i, j, rfl, rfl, q⟩ := q
  obtain ⟨t, rfl⟩ := rx
  obtain ⟨t', rfl⟩ := ry
  exact sub_int ⟨.int _, H2, I2.tok _, ⟨_, rfl⟩, q⟩
theorem pe_mul (ha : PE X a ta) (hb : PE X b tb) : PE X (.BinOp a .Mult b pos) (tMul ta tb) := by
  intro pins s σ H Q I h
  refine wpAny_BinOp (bin ha hb I h fun v u s2 x y H2 I2 rx ry q => ?_)
  obtain ⟨i, j, rfl, rfl, ⟨q1, q2⟩, q⟩ := q
  obtain ⟨t, rfl⟩ := rx
  obtain ⟨t', rfl⟩ := ry
  exact mul_int ⟨.int _, H2, I2.tok _, ⟨_, rfl⟩, q⟩ (.of_left (intBits_le_64 q1 q2))

/-! ### comparisons -/
def PC (X : Cx) (op : CmpOp) (a b : Expr) (t : TE) : Prop :=
  ∀ (pins : List (Addr × Obj)) (s : Shared) (σ : St) (H : Hp) (Q : VK), Inv X pins σ H s → t σ H Q →
    wpAny (model X.prog X.w) X.A (eval a X.env) (fun v s₁ => wpAny (model X.prog X.w) X.A (eval b X.env) (fun u s₂ => wpAny (model X.prog X.w) X.A (compareOp op v u) (EP X pins σ Q) X.xe s₂) X.xe s₁) X.xe s
theorem nobehind (b : Expr) {op : CmpOp} (h : op ≠ .In) (h2 : op ≠ .NotIn) : behindInMarks op b = false := by
  have e1 : (op == CmpOp.In) = false := by cases op <;> first | rfl | exact absurd rfl h
  have e2 : (op == CmpOp.NotIn) = false := by cases op <;> first | rfl | exact absurd rfl h2
  cases b <;> simp [behindInMarks, e1, e2]
def tCmp (p : Int → Int → Bool) (ta tb : TE) : TE := fun σ H Q => t2I ta tb (fun i j H2 => Q (.bl (p i j)) H2) σ H
abbrev tLt : TE → TE → TE := tCmp fun i j => decide (i < j)
abbrev tLe : TE → TE → TE := tCmp fun i j => decide (i ≤ j)
abbrev tGt : TE → TE → TE := tCmp fun i j => decide (j < i)
abbrev tGe : TE → TE → TE := tCmp fun i j => decide (j ≤ i)
abbrev tEqI : TE → TE → TE := tCmp fun i j => decide (i = j)
abbrev tNeI : TE → TE → TE := tCmp fun i j => !decide (i = j)
/-- a comparison of two ints, by its rule -/
theorem pc_int {op : CmpOp} {p : Int → Int → Bool} (ha : PE X a ta) (hb : PE X b tb)
    (rule : ∀ (i j : Int) (t u : Tok) (Q : Value → Shared → Prop) (s : Shared), Q (.bool (p i j)) s → wpAny (model X.prog X.w) X.A (compareOp op (.int i t) (.int j u)) Q X.xe s) : PC X op a b (tCmp p ta tb) := by
  intro pins s σ H Q I h
  refine bin ha hb I h fun v u s2 x y H2 I2 rx ry q => ?_
  obtain ⟨i, j, rfl, rfl, q⟩ := q
  obtain ⟨t, rfl⟩ := rx
  obtain ⟨t', rfl⟩ := ry
  exact rule i j t t' _ s2 ⟨.bl _, H2, I2, rfl, q⟩
theorem pc_lt (ha : PE X a ta) (hb : PE X b tb) : PC X .Lt a b (tLt ta tb) := pc_int ha hb fun _ _ _ _ _ _ h => lt_int h
theorem pc_le (ha : PE X a ta) (hb : PE X b tb) : PC X .LtE a b (tLe ta tb) := pc_int ha hb fun _ _ _ _ _ _ h => le_int h
theorem pc_gt (ha : PE X a ta) (hb : PE X b tb) : PC X .Gt a b (tGt ta tb) := pc_int ha hb fun _ _ _ _ _ _ h => gt_int h
theorem pc_ge (ha : PE X a ta) (hb : PE X b tb) : PC X .GtE a b (tGe ta tb) := pc_int ha hb fun _ _ _ _ _ _ h => ge_int h
theorem pc_eqI (ha : PE X a ta) (hb : PE X b tb) : PC X .Eq a b (tEqI ta tb) := pc_int ha hb fun _ _ _ _ _ _ h => eq_int (by rw [Bool.beq_eq_decide_eq]; exact h)
theorem pc_neI (ha : PE X a ta) (hb : PE X b tb) : PC X .NotEq a b (tNeI ta tb) := pc_int ha hb fun _ _ _ _ _ _ h => ne_int (by rw [bne, Bool.beq_eq_decide_eq]; exact h)
/-- is None -/
def tIsN (ta : TE) : TE := fun σ H Q => ta σ H fun x H1 => Q (.bl (decide (x = .non))) H1
def tNotN (ta : TE) : TE := fun σ H Q => ta σ H fun x H1 => Q (.bl (!decide (x = .non))) H1
theorem RelV.none_iff {x : V} {v : Value} (r : RelV x v) : (v == Value.none) = decide (x = .non) := by
  cases x with
  | non => cases r; rfl
  | bl _ => cases r; rfl
  | int _ => obtain ⟨t, rfl⟩ := r; rfl
  | str _ => obtain ⟨t, rfl⟩ := r; rfl
  | byt _ => obtain ⟨t, rfl⟩ := r; rfl
  | flt _ => obtain ⟨t, rfl⟩ := r; rfl
  | ref _ => cases r; rfl
  | ty _ => cases r; rfl
theorem pc_isN {j pos'} (ha : PE X a ta) : PC X .Is a (.Constant .none j pos') (tIsN ta) := by
  intro pins s σ H Q I h
  refine thn (ha pins s σ H _ I h) fun v s1 ⟨x, H1, I1, r1, q1⟩ => ?_
  exact Constant_none (is_none_gen ⟨.bl _, H1, I1, by rw [r1.none_iff]; rfl, q1⟩)
theorem pc_notN {j pos'} (ha : PE X a ta) : PC X .IsNot a (.Constant .none j pos') (tNotN ta) := by
  intro pins s σ H Q I h
  refine thn (ha pins s σ H _ I h) fun v s1 ⟨x, H1, I1, r1, q1⟩ => ?_
  exact Constant_none (isnot_none_gen ⟨.bl _, H1, I1, by rw [r1.none_iff]; rfl, q1⟩)
/-- a comparison as a value, as a test -/
def tB (t : TE) : TT := fun σ H Q => t σ H fun x H1 => ∃ c, x = .bl c ∧ Q c H1
theorem pe_cmp {op : CmpOp} {t : TE} (h : PC X op a b t) (h1 : behindInMarks op b = false := by first | exact nobehind _ (by decide) (by decide) | rfl) : PE X (.Compare a [op] [b] pos) t := fun pins s σ H Q I hw => wpAny_Compare1 (h pins s σ H Q I hw) h1
theorem pt_cmp {op : CmpOp} {t : TE} (h : PC X op a b t) (h1 : behindInMarks op b = false := by first | exact nobehind _ (by decide) (by decide) | rfl) : PT X (.Compare a [op] [b] pos) (tB t) := by
  intro pins s σ H Q I hw
  refine wpAny_isTrue_Compare1 (thn (h pins s σ H _ I hw) fun v s1 h1 => thn h1 fun u s2 h2 => thn h2 fun c s3 ⟨x, H1, I1, r1, q1⟩ => ?_) h1
  obtain ⟨d, rfl, q⟩ := q1
  cases r1
  exact wpAny_truthy_bool ⟨H1, I1, q⟩
/-- an expression whose value is a bool, as a test -/
theorem pt_val {e : Expr} {t : TE} (h : PE X e t) (he : ∀ whole, isTrue e X.env whole = (do let v ← whole; standAt e.pos; holding [v] (truthy v)) := by intro _; rfl) : PT X e (tB t) := by
  intro pins s σ H Q I hw
  refine isTrue_plain (thn (h pins s σ H _ I hw) fun v s1 ⟨x, H1, I1, r1, q1⟩ => ?_) (he _)
  obtain ⟨d, rfl, q⟩ := q1
  cases r1
  exact wpAny_truthy_bool ⟨H1, I1, q⟩

/-! ### and, or, not -/
variable {tA tB' : TT} {rest : List Expr}
def tAnd (t u : TT) : TT := fun σ H Q => t σ H fun c H1 => if c = true then u σ H1 Q else Q false H1
def tOr (t u : TT) : TT := fun σ H Q => t σ H fun c H1 => if c = true then Q true H1 else u σ H1 Q
def tNot (t : TT) : TT := fun σ H Q => t σ H fun c H1 => Q (!c) H1
theorem pw_and1 (ha : PT X a tA) : PW X (.BoolOp .And [a] pos) tA := by
  intro wh pins s σ H Q I h
  refine isTrue_and (thn (ha pins s σ H Q I h) fun c s1 e => ?_)
  cases c with
  | true => exact isTrue_and_nil e
  | false => exact e
theorem pw_or1 (ha : PT X a tA) : PW X (.BoolOp .Or [a] pos) tA := by
  intro wh pins s σ H Q I h
  refine isTrue_or (thn (ha pins s σ H Q I h) fun c s1 e => ?_)
  cases c with
  | false => exact isTrue_or_nil e
  | true => exact e
theorem pw_and (ha : PT X a tA) (hb : PW X (.BoolOp .And (b :: rest) pos) tB') : PW X (.BoolOp .And (a :: b :: rest) pos) (tAnd tA tB') := by
  intro wh pins s σ H Q I h
  refine isTrue_and (thn (ha pins s σ H _ I h) fun c s1 ⟨H1, I1, q1⟩ => ?_)
  cases c with
  | true => exact hb wh pins s1 σ H1 Q I1 q1
  | false => exact ⟨H1, I1, q1⟩
theorem pw_or (ha : PT X a tA) (hb : PW X (.BoolOp .Or (b :: rest) pos) tB') : PW X (.BoolOp .Or (a :: b :: rest) pos) (tOr tA tB') := by
  intro wh pins s σ H Q I h
  refine isTrue_or (thn (ha pins s σ H _ I h) fun c s1 ⟨H1, I1, q1⟩ => ?_)
  cases c with
  | true => exact ⟨H1, I1, q1⟩
  | false => exact hb wh pins s1 σ H1 Q I1 q1
theorem pt_not (ha : PT X a tA) : PT X (.UnaryOp .Not a pos) (tNot tA) := by
  intro pins s σ H Q I h
  exact isTrue_not (ha pins s σ H (fun c H1 => Q (!c) H1) I h)
/-- .. as values (bools) -/
def tAndV (ta tb : TE) : TE := fun σ H Q => ta σ H fun x H1 => ∃ c, x = .bl c ∧ if c = true then tb σ H1 Q else Q (.bl false) H1
def tOrV (ta tb : TE) : TE := fun σ H Q => ta σ H fun x H1 => ∃ c, x = .bl c ∧ if c = true then Q (.bl true) H1 else tb σ H1 Q
def tNotV (ta : TE) : TE := fun σ H Q => ta σ H fun x H1 => ∃ c, x = .bl c ∧ Q (.bl (!c)) H1
theorem pe_one {op} {t : TE} (h : PE X a t) : PE X (.BoolOp op [a] pos) t := fun pins s σ H Q I hw => BoolOp_one (h pins s σ H Q I hw)
theorem pe_and (ha : PE X a ta) (hb : PE X (.BoolOp .And (b :: rest) pos) tb) : PE X (.BoolOp .And (a :: b :: rest) pos) (tAndV ta tb) := by
  intro pins s σ H Q I h
  refine BoolOp_and (thn (ha pins s σ H _ I h) fun v s1 ⟨x, H1, I1, r1, q1⟩ => ?_)
  obtain ⟨c, rfl, q1⟩ := q1
  cases r1
  refine wpAny_truthy_bool ?_
  cases c with
  | true => exact hb pins s1 σ H1 Q I1 q1
  | false => exact ⟨.bl false, H1, I1, rfl, q1⟩
theorem pe_or (ha : PE X a ta) (hb : PE X (.BoolOp .Or (b :: rest) pos) tb) : PE X (.BoolOp .Or (a :: b :: rest) pos) (tOrV ta tb) := by
  intro pins s σ H Q I h
  refine BoolOp_or (thn (ha pins s σ H _ I h) fun v s1 ⟨x, H1, I1, r1, q1⟩ => ?_)
  obtain ⟨c, rfl, q1⟩ := q1
  cases r1
  refine wpAny_truthy_bool ?_
  cases c with
  | false => exact hb pins s1 σ H1 Q I1 q1
  | true => exact ⟨.bl true, H1, I1, rfl, q1⟩
theorem pe_not (ha : PE X a ta) : PE X (.UnaryOp .Not a pos) (tNotV ta) := by
  intro pins s σ H Q I h
  refine UnaryOp_ (thn (ha pins s σ H _ I h) fun v s1 ⟨x, H1, I1, r1, q1⟩ => ?_)
  obtain ⟨c, rfl, q1⟩ := q1
  cases r1
  exact not_of (wpAny_truthy_bool ⟨.bl (!c), H1, I1, rfl, q1⟩)
/-- a if t else b -/
def tIf (t : TT) (ta tb : TE) : TE := fun σ H Q => t σ H fun c H1 => if c = true then ta σ H1 Q else tb σ H1 Q
theorem pe_ifExp {c : Expr} (hc : PT X c tA) (ha : PE X a ta) (hb : PE X b tb) : PE X (.IfExp c a b pos) (tIf tA ta tb) := by
  intro pins s σ H Q I h
  refine wpAny_IfExp (thn (hc pins s σ H _ I h) fun d s1 ⟨H1, I1, q1⟩ => ?_)
  cases d with
  | true => exact ha pins s1 σ H1 Q I1 q1
  | false => exact hb pins s1 σ H1 Q I1 q1
end
end L2

namespace L2
open PySem PySem.Spec PyProof.Rows

/-! ### a list, a tuple that is read: tracked, frozen, or an object of the module -/
def SqL (K : PySem.W.Frag) (H : Hp) (a : Addr) (xs : List V) : Prop :=
  Rd H a (.lst xs) ∨
    ∃ (o : Obj) (its : Array Value) (n : Nat), K.lookup a = some o ∧ o.cls = .type "list" ∧ o.dict = none ∧ o.data = .seq its n ∧ its.size ≤ sizeLine ∧ Vals xs its.toList
def SqT (K : PySem.W.Frag) (H : Hp) (a : Addr) (xs : List V) : Prop :=
  Rd H a (.tup xs) ∨
    ∃ (o : Obj) (its : Array Value) (n : Nat), K.lookup a = some o ∧ o.cls = .type "tuple" ∧ o.data = .seq its n ∧ its.size ≤ sizeLine ∧ Vals xs its.toList
def absV : Value → Option V
  | .none => some .non
  | .bool b => some (.bl b)
  | .int i _ => some (.int i)
  | .str x _ => some (.str x)
  | .bytes b _ => some (.byt b)
  | .float b _ => some (.flt b)
  | .ref a => some (.ref a)
  | .type n => some (.ty n)
  | _ => none
theorem RelV.abs {x : V} {u : Value} (r : RelV x u) : absV u = some x := by
  cases x with
  | non => cases r; rfl
  | bl _ => cases r; rfl
  | int _ => obtain ⟨t, rfl⟩ := r; rfl
  | str _ => obtain ⟨t, rfl⟩ := r; rfl
  | byt _ => obtain ⟨t, rfl⟩ := r; rfl
  | flt _ => obtain ⟨t, rfl⟩ := r; rfl
  | ref _ => cases r; rfl
  | ty _ => cases r; rfl
theorem RelV.inj {x y : V} {u : Value} (r : RelV x u) (q : RelV y u) : x = y := Option.some.inj (r.abs.symm.trans q.abs)
theorem Vals.inj : ∀ {xs ys : List V} {us : List Value}, Vals xs us → Vals ys us → xs = ys
  | _, _, _, .nil, .nil => rfl
  | _, _, _, .cons r t, .cons r' t' => by rw [r.inj r', Vals.inj t t']
section
variable {X : Cx} {pins : List (Addr × Obj)} {σ : St} {H : Hp} {s : Shared} {a : Addr} {xs ys : List V}
theorem SqL.of {K : PySem.W.Frag} (h : H a = some (.lst xs)) : SqL K H a xs := .inl (.inl h)
theorem SqT.of {K : PySem.W.Frag} (h : H a = some (.tup xs)) : SqT K H a xs := .inl (.inl h)
theorem Inv.list (I : Inv X pins σ H s) (h : SqL X.K H a xs) : ∃ its : List Value, Vals xs its ∧ PlainL s.heap a its.toArray ∧ xs.length ≤ sizeLine := by
  rcases h with h | ⟨o, its, n, hk, hc, hd, hs, hz, r⟩
  · obtain ⟨z, its, n, r, e⟩ := h.ok I.hok
    exact ⟨its, r, ⟨_, n, e, rfl, rfl, rfl⟩, z⟩
  · refine ⟨its.toList, r, ⟨o, n, I.kIn a o hk, hc, hd, by simpa using hs⟩, ?_⟩
    have e := r.length
    simp only [Array.length_toList] at e
    omega
theorem Inv.tuple (I : Inv X pins σ H s) (h : SqT X.K H a xs) : ∃ its : List Value, Vals xs its ∧ IsTup s.heap a its.toArray ∧ xs.length ≤ sizeLine := by
  rcases h with h | ⟨o, its, n, hk, hc, hs, hz, r⟩
  · obtain ⟨z, its, r, p⟩ := h.ok I.hok
    exact ⟨its, r, p, z⟩
  · refine ⟨its.toList, r, ⟨o, I.kIn a o hk, hc, n, by simpa using hs⟩, ?_⟩
    have e := r.length
    simp only [Array.length_toList] at e
    omega
theorem Inv.list_inj (I : Inv X pins σ H s) (h : SqL X.K H a xs) (h' : SqL X.K H a ys) : xs = ys := by
  obtain ⟨its, r, ⟨o, n, e, _, _, d⟩, _⟩ := I.list h
  obtain ⟨its', r', ⟨o', n', e', _, _, d'⟩, _⟩ := I.list h'
  rw [e] at e'; cases e'
  rw [d] at d'
  injection d' with d1 _
  have : its = its' := by simpa using congrArg Array.toList d1
  subst this
  exact r.inj r'
theorem Inv.tuple_inj (I : Inv X pins σ H s) (h : SqT X.K H a xs) (h' : SqT X.K H a ys) : xs = ys := by
  obtain ⟨its, r, ⟨o, e, _, n, d⟩, _⟩ := I.tuple h
  obtain ⟨its', r', ⟨o', e', _, n', d'⟩, _⟩ := I.tuple h'
  rw [e] at e'; cases e'
  rw [d] at d'
  injection d' with d1 _
  have : its = its' := by simpa using congrArg Array.toList d1
  subst this
  exact r.inj r'
end

/-! ### another wish about exceptions -/
abbrev Cx.wish (X : Cx) (E : Value → Shared → Prop) : Cx := { X with xe := E }
/-- no exception leaves -/
abbrev Cx.nox (X : Cx) : Cx := X.wish fun _ _ => False
theorem Cx.Ok.wish {X : Cx} (ok : X.Ok) (E : Value → Shared → Prop) : (X.wish E).Ok :=
  ⟨ok.mod, ok.kind, ok.glob, ok.blt, ok.above, ok.inj, ok.has, ok.cab, ok.hd, ok.frames, ok.stk, ok.exf, ok.bs, ok.bsz, ok.noex, ok.exfs, ok.funs, ok.frf⟩
theorem Cx.Ok.unwish {X : Cx} {E : Value → Shared → Prop} (ok : (X.wish E).Ok) : X.Ok :=
  ⟨ok.mod, ok.kind, ok.glob, ok.blt, ok.above, ok.inj, ok.has, ok.cab, ok.hd, ok.frames, ok.stk, ok.exf, ok.bs, ok.bsz, ok.noex, ok.exfs, ok.funs, ok.frf⟩
section
variable {X : Cx} {pins : List (Addr × Obj)} {σ : St} {H : Hp} {s : Shared} {E : Value → Shared → Prop}
theorem Inv.wish (I : Inv X pins σ H s) (E : Value → Shared → Prop) : Inv (X.wish E) pins σ H s := ⟨I.ok.wish E, I.os, I.bare, I.base, I.loc, I.cell, I.free, I.freeC, I.pin, I.hok, I.len⟩
theorem Inv.unwish (I : Inv (X.wish E) pins σ H s) : Inv X pins σ H s := ⟨I.ok.unwish, I.os, I.bare, I.base, I.loc, I.cell, I.free, I.freeC, I.pin, I.hok, I.len⟩
theorem SP.unwish {D : Ends} {f : Flow} {s' : Shared} (h : SP (X.wish E) pins D f s') : SP X pins D f s' := by
  cases f with
  | next => obtain ⟨σ', H', I, q⟩ := h; exact ⟨σ', H', I.unwish, q⟩
  | brk => obtain ⟨σ', H', I, q⟩ := h; exact ⟨σ', H', I.unwish, q⟩
  | cont => obtain ⟨σ', H', I, q⟩ := h; exact ⟨σ', H', I.unwish, q⟩
  | ret u => obtain ⟨v, σ', H', I, r, q⟩ := h; exact ⟨v, σ', H', I.unwish, r, q⟩
theorem PE.nox {e : Expr} {t : TE} (h : PE X.nox e t) : PE X e t := fun pins s σ H Q I hw =>
  wpAny_mono (h pins s σ H Q (I.wish _) hw) (fun _ _ ⟨v, H', I', r, q⟩ => ⟨v, H', I'.unwish, r, q⟩) fun _ _ z => False.elim z
theorem PT.nox {e : Expr} {t : TT} (h : PT X.nox e t) : PT X e t := fun pins s σ H Q I hw =>
  wpAny_mono (h pins s σ H Q (I.wish _) hw) (fun _ _ ⟨H', I', q⟩ => ⟨H', I'.unwish, q⟩) fun _ _ z => False.elim z
theorem PSs.nox {st : List Stmt} {t : TS} (h : PSs X.nox st t) : PSs X st t := fun pins s σ H D I hw =>
  wpAny_mono (h pins s σ H D (I.wish _) hw) (fun _ _ q => q.unwish) fun _ _ z => False.elim z
end

/-! ### blocks and small statements -/
section
variable {X : Cx} {st : Stmt} {rest : List Stmt} {t u : TS} {e : Expr} {te : TE} {pos : Pos}
def tNext : TS := fun D σ H => D.nx σ H
def tSeq (t u : TS) : TS := fun D σ H => t { D with nx := u D } σ H
theorem pss_nil : PSs X [] tNext := fun _ _ σ H _ I h => wpAny_execs_nil ⟨σ, H, I, h⟩
theorem pss_cons (h1 : PS X st t) (h2 : PSs X rest u) : PSs X (st :: rest) (tSeq t u) := by
  intro pins s σ H D I h
  refine wpAny_execs_cons (thn (h1 pins s σ H { D with nx := u D } I h) fun f s1 q => ?_)
  cases f with
  | next =>
    obtain ⟨σ', H', I', q⟩ := q
    exact h2 pins s1 σ' H' D I' q
  | ret v => exact q
  | brk => exact q
  | cont => exact q
theorem pss_one (h1 : PS X st t) : PSs X [st] t := by
  intro pins s σ H D I h
  refine wpAny_execs_cons (thn (h1 pins s σ H D I h) fun f s1 q => ?_)
  cases f with
  | next => exact wpAny_execs_nil q
  | ret v => exact q
  | brk => exact q
  | cont => exact q
def tBreak : TS := fun D σ H => D.bk σ H
def tCont : TS := fun D σ H => D.ct σ H
theorem ps_pass : PS X (.Pass pos) tNext := fun _ _ σ H _ I h => wpAny_Pass ⟨σ, H, I, h⟩
theorem ps_break : PS X (.Break pos) tBreak := fun _ _ σ H _ I h => wpAny_Break ⟨σ, H, I, h⟩
theorem ps_continue : PS X (.Continue pos) tCont := fun _ _ σ H _ I h => wpAny_Continue ⟨σ, H, I, h⟩
/-- in a def's body nothing is shown -/
theorem Inv.quiet {pins : List (Addr × Obj)} {σ : St} {H : Hp} {s : Shared} (I : Inv X pins σ H s) : interactive X.env = false := by simp [interactive, I.ok.kind]
/-- a docstring -/
theorem ps_doc {x j pos pos'} : PS X (.Expr (.Constant (.str x) j pos) pos') tNext := fun _ s σ H _ I h => wpAny_Expr (Calls.Constant_str (show SP X _ _ .next { s with toks := s.toks + 1 } from ⟨σ, H, I.tok _, h⟩)) I.quiet
/-- an expression whose value is dropped -/
def tDrop (te : TE) : TS := fun D σ H => te σ H fun _ H1 => D.nx σ H1
theorem ps_expr (he : PE X e te) (hs : swapsWith e none pos.line X.env = pure false := by rfl) : PS X (.Expr e pos) (tDrop te) := by
  intro pins s σ H D I h
  exact wpAny_Expr_any (thn (he pins s σ H _ I h) fun v s1 ⟨x, H1, I1, r1, q1⟩ => ⟨σ, H1, I1, q1⟩) I.quiet hs
def tRet (te : TE) : TS := fun D σ H => te σ H D.rt
theorem ps_ret (he : PE X e te) : PS X (.Return (some e) pos) (tRet te) := by
  intro pins s σ H D I h
  exact wpAny_Return_some (thn (he pins s σ H _ I h) fun v s1 ⟨x, H1, I1, r1, q1⟩ => ⟨x, σ, H1, I1, r1, q1⟩)
def tRetN : TS := fun D _ H => D.rt .non H
theorem ps_retN : PS X (.Return none pos) tRetN := fun _ _ σ H _ I h => wpAny_Return_none ⟨.non, σ, H, I, rfl, h⟩
def tIfS (c : TT) (t u : TS) : TS := fun D σ H => c σ H fun b H1 => if b = true then t D σ H1 else u D σ H1
theorem ps_if {c : Expr} {a b : List Stmt} {tc : TT} (hc : PT X c tc) (ha : PSs X a t) (hb : PSs X b u) : PS X (.If c a b pos) (tIfS tc t u) := by
  intro pins s σ H D I h
  refine wpAny_If (thn (hc pins s σ H _ I h) fun d s1 ⟨H1, I1, q1⟩ => ?_)
  cases d with
  | true => exact ha pins s1 σ H1 D I1 q1
  | false => exact hb pins s1 σ H1 D I1 q1
/-- code that the proof never comes to -/
def tNever : TS := fun _ _ _ => False
theorem ps_never : PS X st tNever := fun _ _ _ _ _ _ h => h.elim
theorem pss_never {sts : List Stmt} : PSs X sts tNever := fun _ _ _ _ _ _ h => h.elim
end

/-! ### targets -/
abbrev TG := V → St → Hp → (St → Hp → Prop) → Prop
abbrev TGs := List V → St → Hp → (St → Hp → Prop) → Prop
def PG (X : Cx) (target : Expr) (t : TG) : Prop :=
  ∀ (pins : List (Addr × Obj)) (s : Shared) (σ : St) (H : Hp) (v : V) (u : Value) (Q : St → Hp → Prop), Inv X pins σ H s → RelV v u → t v σ H Q →
    wpAny (model X.prog X.w) X.A (assign target X.env u) (fun _ s' => ∃ σ' H', Inv X pins σ' H' s' ∧ Q σ' H') X.xe s
/-- several targets, one after another -/
def PGs (X : Cx) (ts : List Expr) (t : TGs) : Prop :=
  ∀ (pins : List (Addr × Obj)) (s : Shared) (σ : St) (H : Hp) (vs : List V) (us : List Value) (Q : St → Hp → Prop), Inv X pins σ H s → Vals vs us → t vs σ H Q →
    wpAny (model X.prog X.w) X.A (assignInOrder ((assignEach ts X.env).map (·.2)) us) (fun _ s' => ∃ σ' H', Inv X pins σ' H' s' ∧ Q σ' H') X.xe s
/-- o[i] = v, by values -/
abbrev TSet := V → V → V → Hp → (Hp → Prop) → Prop
def PSet (X : Cx) (t : TSet) : Prop :=
  ∀ (pins : List (Addr × Obj)) (s : Shared) (σ : St) (H : Hp) (o i v : V) (ov iv u : Value) (Q : Hp → Prop), Inv X pins σ H s → RelV o ov → RelV i iv → RelV v u → t o i v H Q →
    wpAny (model X.prog X.w) X.A (setItem ov iv u) (fun _ s' => ∃ H', Inv X pins σ H' s' ∧ Q H') X.xe s
/-- a op= b, by values -/
abbrev TIp := V → V → Hp → VK → Prop
def PIp (X : Cx) (op : Operator) (t : TIp) : Prop :=
  ∀ (pins : List (Addr × Obj)) (s : Shared) (σ : St) (H : Hp) (x y : V) (v u : Value) (Q : VK), Inv X pins σ H s → RelV x v → RelV y u → t x y H Q →
    wpAny (model X.prog X.w) X.A (inplaceOp op v u) (EP X pins σ Q) X.xe s
section
variable {X : Cx} {pos : Pos}
def gName (i : Nat) : TG := fun v σ H Q => Q (σ.set i (some v)) H
theorem pg_name {i : Nat} {x : Str} (hN : X.N.Nodup) (hi : X.N[i]? = some x) (hx : Loc X.env.scope x) (hf : X.fn x = true ∨ X.env.scope.names.lookup x = some .local := by first | exact .inl rfl | exact .inr rfl | assumption) : PG X (.Name x pos) (gName i) := by
  intro pins s σ H v u Q I r h
  exact wpAny_assign_Name (store_ok I hN hi hx r (fun s' I' => ⟨_, H, I', h⟩) hf)
def gNil : TGs := fun vs σ H Q => vs = [] ∧ Q σ H
def gCons (t : TG) (u : TGs) : TGs := fun vs σ H Q => ∃ v r, vs = v :: r ∧ t v σ H fun σ' H' => u r σ' H' Q
theorem pgs_nil : PGs X [] gNil := by
  intro pins s σ H vs us Q I r h
  obtain ⟨e, h⟩ := h
  subst e
  cases r
  exact assignInOrder_nil ⟨σ, H, I, h⟩
theorem pgs_cons {e : Expr} {es : List Expr} {t : TG} {u : TGs} (h1 : PG X e t) (h2 : PGs X es u)
    (hs : (assignEach (e :: es) X.env).map (·.2) = assign e X.env :: (assignEach es X.env).map (·.2) := by rfl) : PGs X (e :: es) (gCons t u) := by
  intro pins s σ H vs us Q I r h
  obtain ⟨v, vr, e1, h⟩ := h
  subst e1
  cases r with
  | cons r rr =>
    rw [hs]
    refine assignInOrder_cons (thn (h1 pins s σ H _ _ _ I r h) fun _ s1 ⟨σ1, H1, I1, q1⟩ => ?_)
    exact h2 pins s1 σ1 H1 _ _ Q I1 rr q1
/-- (a, b, ..) = a tuple of that length -/
def gTup (K : PySem.W.Frag) (n : Nat) (t : TGs) : TG := fun v σ H Q => ∃ a xs, v = .ref a ∧ SqT K H a xs ∧ xs.length = n ∧ t xs σ H Q
theorem pg_tup {es : List Expr} {k : Nat} {t : TGs} {n : Nat} (hc : X.calm = true) (h : PGs X es t)
    (hn : (assignEach es X.env).length = n := by rfl) (hst : (assignEach es X.env).findIdx? (·.1) = none := by rfl) : PG X (.Tuple es k pos) (gTup X.K n t) := by
  intro pins s σ H v u Q I r hw
  obtain ⟨a, xs, e1, hq, hl, hw⟩ := hw
  subst e1
  cases r
  obtain ⟨its, rv, ht, hz⟩ := I.tuple hq
  refine assign_Tuple_tuple (I.ok.hd hc) ht (by simp [hn, ← hl, rv.length]) hst fun h' hx => ?_
  have I1 : Inv X pins σ H { s with heap := h' } := I.kept (t' := s.toks) fun b o e => hx b o (Nat.ne_of_lt (Heap.lt_size e)) e
  exact h pins _ σ H xs _ Q I1 (by simpa using rv) hw
/-- o[i] = .. -/
def gSub (to ti : TE) (t : TSet) : TG := fun v σ H Q => to σ H fun o H1 => ti σ H1 fun i H2 => t o i v H2 fun H3 => Q σ H3
theorem pg_sub {o i : Expr} {to ti : TE} {t : TSet} (ho : PE X o to) (hi : PE X i ti) (hs : PSet X t)
    (ha : ∀ v, assign (.Subscript o i pos) X.env v = (do
      let ov ← holding [v] (eval o X.env)
      let iv ← holding [v, ov] (eval i X.env)
      standAt pos
      holding [v, ov, iv] (setItem ov iv v)
      release [v, ov, iv] []) := by intro _; rfl) : PG X (.Subscript o i pos) (gSub to ti t) := by
  intro pins s σ H v u Q I r h
  rw [ha]
  refine wpAny_bind (wpAny_holding (thn (ho pins s σ H _ I h) fun ov s1 ⟨x, H1, I1, r1, q1⟩ => ?_))
  refine wpAny_bind (wpAny_holding (thn (hi pins s1 σ H1 _ I1 q1) fun iv s2 ⟨y, H2, I2, r2, q2⟩ => ?_))
  refine wpAny_bind (wpAny_standAt (wpAny_bind (wpAny_holding (thn (hs pins s2 σ H2 x y v ov iv u _ I2 r1 r2 r q2) fun _ s3 ⟨H3, I3, q3⟩ => ?_))))
  exact wpAny_release ⟨σ, H3, I3, q3⟩
/-- target = value -/
def tAsg (te : TE) (g : TG) : TS := fun D σ H => te σ H fun x H1 => g x σ H1 D.nx
theorem ps_asg {tg e : Expr} {te : TE} {g : TG} (he : PE X e te) (hg : PG X tg g) (hs : swapsWithSole [tg] e pos.line X.env = pure false := by rfl) (hw : swappedStores [tg] e X.env = pure none := by rfl)
    (h1 : (assignEach [tg] X.env).map (·.2) = [assign tg X.env] := by rfl) : PS X (.Assign [tg] e pos) (tAsg te g) := by
  intro pins s σ H D I h
  refine wpAny_Assign_stores (thn (he pins s σ H _ I h) fun v s1 ⟨x, H1, I1, r1, q1⟩ => ?_) hs hw
  rw [h1]
  exact thn (hg pins s1 σ H1 x v _ I1 r1 q1) fun _ s2 q => q
/-- name = value -/
theorem ps_set {i : Nat} {x : Str} {e : Expr} {te : TE} {pos' : Pos} (hN : X.N.Nodup) (hi : X.N[i]? = some x) (hx : Loc X.env.scope x) (he : PE X e te) (hs : swapsWith e (some (.Name x pos')) pos.line X.env = pure false := by rfl) (hf : X.fn x = true ∨ X.env.scope.names.lookup x = some .local := by first | exact .inl rfl | exact .inr rfl | assumption) :
    PS X (.Assign [.Name x pos'] e pos) (tAsg te (gName i)) := by
  intro pins s σ H D I h
  refine wpAny_Assign_Name (thn (he pins s σ H _ I h) fun v s1 ⟨y, H1, I1, r1, q1⟩ => ?_) hs
  exact store_ok I1 hN hi hx r1 (fun s2 I2 => ⟨_, H1, I2, q1⟩) hf
/-- a, b = x, y with plain local names: stored from the right; the pair itself is not tracked (the opening rows as in PyProof/Rows/TupAssign.lean:23) -/
def tPar (i j : Nat) (ta : TA) : TS := fun D σ H => ta σ H fun vs H1 => ∃ v w, vs = [v, w] ∧ D.nx ((σ.set i (some v)).set j (some w)) H1
theorem ps_par {i j : Nat} {x y : Str} {a b : Expr} {ta : TA} {px py pt : Pos} {kt k2 pt2} (hc : X.calm = true) (hN : X.N.Nodup) (hi : X.N[i]? = some x) (hj : X.N[j]? = some y) (hij : i ≠ j)
    (hx : X.env.scope.names.lookup x = some .local) (hy : X.env.scope.names.lookup y = some .local) (ha : PA X [a, b] ta)
    (hw : swappedStores [.Tuple [.Name x px, .Name y py] kt pt] (.Tuple [a, b] k2 pt2) X.env = pure (some [x, y]))
    (hs : swapsWithSole [.Tuple [.Name x px, .Name y py] kt pt] (.Tuple [a, b] k2 pt2) pos.line X.env = pure false := by rfl) :
    PS X (.Assign [.Tuple [.Name x px, .Name y py] kt pt] (.Tuple [a, b] k2 pt2) pos) (tPar i j ta) := by
  intro pins s σ H D I h
  rw [exec_Assign_arm]
  refine wpAny_bind (wpAny_standAt ?_)
  rw [hs]
  refine wpAny_bind (wpAny_pure ?_)
  rw [if_neg (by decide)]
  refine wpAny_bind (Tuple_ (thn (ha _ pins s σ H _ I h) fun us s1 ⟨vs, H1, I1, r1, q1⟩ => ?_))
  obtain ⟨v, w, e1, q1⟩ := q1
  subst e1
  obtain ⟨u1, u2, rfl, rv, rw'⟩ : ∃ u1 u2, us = [u1, u2] ∧ RelV v u1 ∧ RelV w u2 := by
    cases r1 with
    | cons p q =>
      cases q with
      | cons p' q' =>
        cases q'
        exact ⟨_, _, rfl, p, p'⟩
  refine wpAny_newObj_type ?_ (by show 2 ≤ sizeLine; decide)
  have I2 : Inv X pins σ H1 { s1 with heap := s1.heap.push { cls := .type "tuple", data := .seq [u1, u2].toArray } } := I1.kept (t' := s1.toks) fun b o e => Heap.get?_push_of_some _ e
  rw [hw]
  refine wpAny_bind (wpAny_pure ?_)
  show wpAny (model X.prog X.w) X.A (do rule "assign.swapped-stores"; let items ← unpackItems (.ref s1.heap.objs.size) 2 none; assignInOrder [fun v => bindName X.env y v, fun v => bindName X.env x v] items.reverse; pure Flow.next) _ _ _
  refine wpAny_bind (wpAny_rule (wpAny_bind (unpackItems_tuple (items := #[u1, u2]) (I.ok.hd hc) (IsTup.new s1.heap _) fun h' hx' => ?_)))
  have I3 := I2.kept (h' := h') (t' := s1.toks) fun b o e => hx' b o (Nat.ne_of_lt (Heap.lt_size e)) e
  show wpAny _ _ (assignInOrder [fun v => bindName X.env y v, fun v => bindName X.env x v] [u2, u1] >>= fun _ => pure Flow.next) _ _ _
  refine wpAny_bind (assignInOrder_cons (wpAny_bindName (store_ok I3 hN hj (.inl hy) rw' (fun s2 I4 => ?_) (.inr hy))))
  refine assignInOrder_cons (wpAny_bindName (store_ok I4 hN hi (.inl hx) rv (fun s3 I5 => assignInOrder_nil (wpAny_pure ?_)) (.inr hx)))
  rw [List.set_comm _ _ (Ne.symm hij)] at I5
  exact ⟨_, H1, I5, q1⟩
/-- name op= e -/
def tAug (i : Nat) (te : TE) (ti : TIp) : TS := fun D σ H => ∃ x, σ[i]? = some (some x) ∧ te σ H fun y H1 => ti x y H1 fun z H2 => D.nx (σ.set i (some z)) H2
theorem ps_aug {i : Nat} {x : Str} {e : Expr} {te : TE} {op : Operator} {ti : TIp} {pos' : Pos} (hN : X.N.Nodup) (hi : X.N[i]? = some x) (hx : Loc X.env.scope x) (he : PE X e te) (ho : PIp X op ti) (hf : X.fn x = true ∨ X.env.scope.names.lookup x = some .local := by first | exact .inl rfl | exact .inr rfl | assumption) :
    PS X (.AugAssign (.Name x pos') op e pos) (tAug i te ti) := by
  intro pins s σ H D I h
  obtain ⟨v, e1, h⟩ := h
  obtain ⟨m, hn, hl⟩ := I.loc
  have vis : Vis X.env.scope x := by rcases hx with k | k; exact .inl k; exact .inr (.inl k)
  obtain ⟨u, r, l⟩ := hl i x v hi e1 vis
  refine wpAny_AugAssign_Name ?_
  have go : wpAny (model X.prog X.w) X.A (eval e X.env) (fun w s₂ => wpAny (model X.prog X.w) X.A (inplaceOp op u w) (fun r s₃ => wpAny (model X.prog X.w) X.A (storeName X.env x r) (fun _ => SP X pins D .next) X.xe s₃) X.xe s₂) X.xe s := by
    refine thn (he pins s σ H _ I h) fun w s1 ⟨y, H1, I1, r1, q1⟩ => ?_
    refine thn (ho pins s1 σ H1 v y u w _ I1 r r1 q1) fun z s2 ⟨zv, H2, I2, r2, q2⟩ => ?_
    exact store_ok I2 hN hi hx r2 (fun s3 I3 => ⟨_, H2, I3, q2⟩) hf
  rcases l with ⟨hk, hm⟩ | ⟨hk, c, hc, hcell⟩
  · exact wpAny_loadName_local I.ok.kind hk hn hm go
  · rcases hk with hk | hk
    · exact wpAny_loadName_cell I.ok.kind hk hc hcell go
    · rcases hx with k | k
      · have : X.env.scope.names.lookup x = some .free := hk
        rw [k] at this; cases this
      · have : X.env.scope.names.lookup x = some .free := hk
        rw [k] at this; cases this
/-- o[i] op= e -/
def tAugS (to ti te : TE) (tget : V → V → Hp → VK → Prop) (tip : TIp) (tset : TSet) : TS := fun D σ H => to σ H fun o H1 => ti σ H1 fun i H2 => tget o i H2 fun x H3 => te σ H3 fun y H4 => tip x y H4 fun z H5 => tset o i z H5 fun H6 => D.nx σ H6
/-- o[i], by values -/
def PGet (X : Cx) (t : V → V → Hp → VK → Prop) : Prop :=
  ∀ (pins : List (Addr × Obj)) (s : Shared) (σ : St) (H : Hp) (o i : V) (ov iv : Value) (Q : VK), Inv X pins σ H s → RelV o ov → RelV i iv → t o i H Q →
    wpAny (model X.prog X.w) X.A (getItem ov iv) (EP X pins σ Q) X.xe s
theorem ps_augS {o i e : Expr} {to ti te : TE} {tget : V → V → Hp → VK → Prop} {tip : TIp} {tset : TSet} {op : Operator} {tpos : Pos} (ho : PE X o to) (hi : PE X i ti) (hg : PGet X tget) (he : PE X e te) (hp : PIp X op tip) (hs : PSet X tset)
    (ha : ∀ ov iv new, augStore i ov iv new = (do holding [new, ov, iv] (setItem ov iv new); release [new, ov, iv] []; pure .next) := by intros; rfl) : PS X (.AugAssign (.Subscript o i tpos) op e pos) (tAugS to ti te tget tip tset) := by
  intro pins s σ H D I h
  refine wpAny_AugAssign_SubscriptAny (thn (ho pins s σ H _ I h) fun ov s1 ⟨x1, H1, I1, r1, q1⟩ => ?_) ha
  refine thn (hi pins s1 σ H1 _ I1 q1) fun iv s2 ⟨x2, H2, I2, r2, q2⟩ => ?_
  refine thn (hg pins s2 σ H2 x1 x2 ov iv _ I2 r1 r2 q2) fun old s3 ⟨x3, H3, I3, r3, q3⟩ => ?_
  refine thn (he pins s3 σ H3 _ I3 q3) fun v s4 ⟨x4, H4, I4, r4, q4⟩ => ?_
  refine thn (hp pins s4 σ H4 x3 x4 old v _ I4 r3 r4 q4) fun new s5 ⟨x5, H5, I5, r5, q5⟩ => ?_
  exact thn (hs pins s5 σ H5 x1 x2 x5 ov iv new _ I5 r1 r2 r5 q5) fun _ s6 ⟨H6, I6, q6⟩ => ⟨σ, H6, I6, q6⟩
/-- ints -/
def ipI (f : Int → Int → Int) : TIp := fun x y H Q => ∃ i j, x = .int i ∧ y = .int j ∧ Q (.int (f i j)) H
theorem ip_add : PIp X .Add (ipI fun i j => i + j) := by
  intro pins s σ H x y v u Q I r1 r2 h
  obtain ⟨i, j, e1, e2, q⟩ := h
  subst e1; subst e2
  obtain ⟨t, rfl⟩ := r1
  obtain ⟨t', rfl⟩ := r2
  exact iadd_int ⟨.int _, H, I.tok _, ⟨_, rfl⟩, q⟩
theorem ip_sub : PIp X .Sub (ipI fun i j => i - j) := by
  intro pins s σ H x y v u Q I r1 r2 h
  obtain ⟨i, j, e1, e2, q⟩ := h
  subst e1; subst e2
  obtain ⟨t, rfl⟩ := r1
  obtain ⟨t', rfl⟩ := r2
  exact isub_int ⟨.int _, H, I.tok _, ⟨_, rfl⟩, q⟩
end

/-! ### while -/
section
variable {X : Cx} {pos : Pos}
/-- the invariant W with its measure -/
def tWhile (c : TT) (tb : TS) : TS := fun D σ H => ∃ W : Nat → St → Hp → Prop, (∃ m, W m σ H) ∧ ∀ m σ H, W m σ H →
  c σ H fun b H1 => if b = true then ∃ N : St → Hp → Prop, (∀ σ' H', N σ' H' → ∃ m', m' < m ∧ W m' σ' H') ∧ tb { D with nx := N, ct := N, bk := D.nx } σ H1 else D.nx σ H1
theorem ps_while {c : Expr} {body : List Stmt} {tc : TT} {tb : TS} (hp : PassesOwn (model X.prog X.w) X.A X.env X.xe) (hc : PT X c tc) (hb : PSs X body tb) : PS X (.While c body [] pos) (tWhile tc tb) := by
  intro pins s σ H D I h
  obtain ⟨W, ⟨m0, w0⟩, turn⟩ := h
  refine wpAny_While (codeAny_whileLoop (fun n s' => ∃ σ' H', Inv X pins σ' H' s' ∧ W n σ' H') ?_ m0 ⟨σ, H, I, w0⟩)
  rintro n s1 ⟨σ1, H1, I1, w1⟩
  refine wpAny_passesOwn hp (thn (hc pins s1 σ1 H1 _ I1 (turn n σ1 H1 w1)) fun b s2 ⟨H2, I2, q2⟩ => ?_)
  cases b with
  | true =>
    obtain ⟨N, hN, q2⟩ := q2
    rw [if_pos rfl]
    refine wpAny_passesOwn hp (thn (hb pins s2 σ1 H2 _ I2 q2) fun f s3 q3 => ?_)
    cases f with
    | next =>
      obtain ⟨σ3, H3, I3, n3⟩ := q3
      obtain ⟨m', hm, w3⟩ := hN σ3 H3 n3
      exact ⟨m', hm, σ3, H3, I3, w3⟩
    | cont =>
      obtain ⟨σ3, H3, I3, n3⟩ := q3
      obtain ⟨m', hm, w3⟩ := hN σ3 H3 n3
      exact ⟨m', hm, σ3, H3, I3, w3⟩
    | brk => exact q3
    | ret v => exact q3
  | false =>
    rw [if_neg Bool.false_ne_true]
    exact wpAny_execs_nil ⟨σ1, H2, I2, q2⟩
end

/-! ### what a loop or a comprehension walks -/
/-- at turn i: it yields x (the heap may grow), or it stops -/
structure It where
  go : Nat → Hp → Prop
  yld : Nat → Hp → V → Hp → Prop
  stop : Nat → Hp → Prop
/-- the iterator's own objects may turn: they are not the frame's, not pinned, younger than the entry (or a comprehension's own) -/
def FpOk (X : Cx) (pins : List (Addr × Obj)) (H : Hp) (b : Addr) : Prop :=
  H b = none ∧ b ≠ X.env.locals ∧ b ∉ X.fs ∧ (b ∈ X.ex ∨ X.s₀.heap.objs.size ≤ b) ∧ (∀ x c, X.env.cells.lookup x = some c → c ≠ b) ∧ ∀ p ∈ X.pn ++ pins, p.1 ≠ b
theorem Inv.fpOk {X : Cx} {pins : List (Addr × Obj)} {σ : St} {H H' : Hp} {s : Shared} {b : Addr} (I : Inv X pins σ H s) (hb : s.heap.objs.size ≤ b) (hn : H' b = none) : FpOk X pins H' b := by
  refine ⟨hn, Nat.ne_of_gt (Nat.lt_of_lt_of_le I.lt hb), I.nofs hb, .inr (Nat.le_trans I.sz hb), fun x c e z => ?_, fun p hp z => ?_⟩
  · obtain ⟨v, q⟩ := I.cell x c e
    exact absurd (Nat.lt_of_lt_of_le q.lt (by rw [z]; exact hb)) (Nat.lt_irrefl _)
  · exact absurd (Nat.lt_of_lt_of_le (Heap.lt_size (I.pin p hp).1) (by rw [z]; exact hb)) (Nat.lt_irrefl _)
structure Turn (P : Program) (w : World) (K : PySem.W.Frag) (tg : Expr) (J : It) (fp : List Addr) (it : Addr) (tn : Nat → Heap → Prop) : Prop where
  mem : it ∈ fp
  obj : ∀ i h, tn i h → ∀ b ∈ fp, ∃ o, h.get? b = some o ∧ ∀ v, o.data ≠ .cell v
  keep : ∀ i h h', tn i h → (∀ b ∈ fp, ∀ o, h.get? b = some o → h'.get? b = some o) → tn i h'
  item : ∀ (X : Cx), X.prog = P → X.w = w → X.K = K → X.calm = true → ∀ (i : Nat) (pins : List (Addr × Obj)) (s : Shared) (σ : St) (H : Hp) (E : Value → Shared → Prop), Inv X pins σ H s → (∀ b ∈ fp, FpOk X pins H b) → tn i s.heap → J.go i H →
    wpAny (model P w) X.A (pyNext (.ref it)) (fun r s1 => ∃ u, r = some u ∧
      wpAny (model P w) X.A (letOwnedTupleGo tg (.ref it) u) (fun _ s2 => ∃ x H', Inv X pins σ H' s2 ∧ RelV x u ∧ J.yld i H x H' ∧ tn (i + 1) s2.heap ∧ ∀ b ∈ fp, H' b = none) E s1) E s
  done : ∀ (X : Cx), X.prog = P → X.w = w → X.K = K → X.calm = true → ∀ (i : Nat) (pins : List (Addr × Obj)) (s : Shared) (σ : St) (H : Hp) (E : Value → Shared → Prop), Inv X pins σ H s → (∀ b ∈ fp, FpOk X pins H b) → tn i s.heap → J.stop i H →
    wpAny (model P w) X.A (pyNext (.ref it)) (fun r s1 => r = none ∧ Inv X pins σ H s1) E s
  self : ∀ (A : Around) (i : Nat) (s : Shared) (Q : Value → Shared → Prop) (E : Value → Shared → Prop), tn i s.heap → Q (.ref it) s → wpAny (model P w) A (pyIter (.ref it)) Q E s
abbrev TI := St → Hp → (It → Hp → Prop) → Prop
/-- an iterator has come -/
def PIE (X : Cx) (pins : List (Addr × Obj)) (σ : St) (tg : Expr) (R : It → Hp → Prop) (itv : Value) (s2 : Shared) : Prop :=
  ∃ (it : Addr) (fp : List Addr) (tn : Nat → Heap → Prop) (J : It) (H' : Hp), itv = .ref it ∧ Inv X pins σ H' s2 ∧ Turn X.prog X.w X.K tg J fp it tn ∧ tn 0 s2.heap ∧ (∀ b ∈ fp, FpOk X pins H' b) ∧ R J H'
def PI (X : Cx) (tg iter : Expr) (wi : TI) : Prop :=
  ∀ (pins : List (Addr × Obj)) (s : Shared) (σ : St) (H : Hp) (R : It → Hp → Prop), Inv X pins σ H s → wi σ H R →
    wpAny (model X.prog X.w) X.A (eval iter X.env) (fun v s1 => wpAny (model X.prog X.w) X.A (pyIter v) (PIE X pins σ tg R) X.xe s1) X.xe s

/-- the step ahead of the store is nothing for an iterator that keeps no tuple -/
theorem go_of {M : Model} {A : Around} {E : Value → Shared → Prop} {s : Shared} {tg : Expr} {it : Addr} {u : Value} {o : Obj} {n : String} {vs : Array Value} {Q : Unit → Shared → Prop} (ho : s.heap.get? it = some o) (hc : o.cls = .type n) (hd : o.data = .fields vs)
    (hn : ["enumerate", "zip", "dict_itemiterator", "dict_reverseitemiterator", "odict_iterator", "itertools.zip_longest", "itertools.pairwise"].contains n = false) (hQ : Q () s) : wpAny M A (letOwnedTupleGo tg (.ref it) u) Q E s := by
  unfold letOwnedTupleGo
  cases tg <;> first
    | exact wpAny_pure hQ
    | (cases u <;> first
        | exact wpAny_pure hQ
        | (refine wpAny_bind (wpAny_load ho ?_)
           rw [hc, hd]
           show wpAny M A (if (["enumerate", "zip", "dict_itemiterator", "dict_reverseitemiterator", "odict_iterator", "itertools.zip_longest", "itertools.pairwise"].contains n && vs[0]? == some (rawInt _)) = true then _ else _) Q E s
           rw [if_neg (by intro h; rw [hn, Bool.false_and] at h; cases h)]
           exact wpAny_pure hQ))

/-- the list at a, as it stands at each turn (a loop may append to it) -/
def Itl (K : PySem.W.Frag) (a : Addr) : It :=
  ⟨fun i H => ∃ xs x, SqL K H a xs ∧ xs[i]? = some x, fun i H x H' => H' = H ∧ ∀ xs, SqL K H a xs → xs[i]? = some x, fun i H => ∃ xs, SqL K H a xs ∧ xs.length ≤ i⟩
def Itt (K : PySem.W.Frag) (a : Addr) : It :=
  ⟨fun i H => ∃ xs x, SqT K H a xs ∧ xs[i]? = some x, fun i H x H' => H' = H ∧ ∀ xs, SqT K H a xs → xs[i]? = some x, fun i H => ∃ xs, SqT K H a xs ∧ xs.length ≤ i⟩
/-- lo, lo + 1, .. (n of them) -/
def Itr (lo : Int) (n : Nat) : It := ⟨fun i _ => i < n, fun i H x H' => H' = H ∧ x = .int (lo + i), fun i _ => n ≤ i⟩
theorem turn_list {P : Program} {w : World} {K : PySem.W.Frag} {tg : Expr} (a it : Addr) : Turn P w K tg (Itl K a) [it] it (fun i h => h.IsListIter it a i) where
  mem := by simp
  obj := fun i h st b hb => by
    have e : b = it := by simpa using hb
    subst e
    obtain ⟨o, e, c, d⟩ := st
    exact ⟨o, e, fun v z => by rw [d] at z; cases z⟩
  keep := fun i h h' st k => st.at fun o e => k it (by simp) o e
  item := by
    intro X hP hw hK hc i pins s σ H E I hf st hg
    subst hP hw hK
    obtain ⟨xs, x, hq, hx⟩ := hg
    obtain ⟨its, rv, p, hz⟩ := I.list hq
    obtain ⟨u, hu, ru⟩ := rv.get hx
    obtain ⟨f0, f1, f2, f3, f4, f5⟩ := hf it (by simp)
    refine wpAny_pyNext_list_item st p.isList (x := u) (by simpa using hu) fun h' st' sb => ?_
    have I1 : Inv X pins σ H { s with heap := h' } := I.turned (t' := s.toks) (fun b o hb e => (sb.2 b hb).trans e) f0 f1 f3 f4 f5
    obtain ⟨o, e, c, d⟩ := id st'
    exact ⟨u, rfl, go_of (s := { s with heap := h' }) e c d (by decide) ⟨x, H, I1, ru, ⟨rfl, fun ys hy => by rw [I.list_inj hy hq]; exact hx⟩, st', fun b hb => (hf b hb).1⟩⟩
  done := by
    intro X hP hw hK hc i pins s σ H E I hf st hg
    subst hP hw hK
    obtain ⟨xs, hq, hx⟩ := hg
    obtain ⟨its, rv, p, hz⟩ := I.list hq
    obtain ⟨f0, f1, f2, f3, f4, f5⟩ := hf it (by simp)
    have hl := rv.length
    exact wpAny_pyNext_list_end (I.ok.hd hc) st p.isList (by simp; omega) fun h' eb => ⟨rfl, I.turned (t' := s.toks) (fun b o hb e => eb b o hb e) f0 f1 f3 f4 f5⟩
  self := fun _ _ _ _ _ st h => wpAny_pyIter_listiter st h
theorem turn_tuple {P : Program} {w : World} {K : PySem.W.Frag} {tg : Expr} (a it : Addr) : Turn P w K tg (Itt K a) [it] it (fun i h => h.IsTupleIter it a i) where
  mem := by simp
  obj := fun i h st b hb => by
    have e : b = it := by simpa using hb
    subst e
    obtain ⟨o, e, c, d⟩ := st
    exact ⟨o, e, fun v z => by rw [d] at z; cases z⟩
  keep := fun i h h' st k => st.at fun o e => k it (by simp) o e
  item := by
    intro X hP hw hK hc i pins s σ H E I hf st hg
    subst hP hw hK
    obtain ⟨xs, x, hq, hx⟩ := hg
    obtain ⟨its, rv, p, hz⟩ := I.tuple hq
    obtain ⟨u, hu, ru⟩ := rv.get hx
    obtain ⟨f0, f1, f2, f3, f4, f5⟩ := hf it (by simp)
    refine wpAny_pyNext_tuple_item st (show s.heap.IsTuple a its.toArray from p) (x := u) (by simpa using hu) fun h' st' sb => ?_
    have I1 : Inv X pins σ H { s with heap := h' } := I.turned (t' := s.toks) (fun b o hb e => (sb.2 b hb).trans e) f0 f1 f3 f4 f5
    obtain ⟨o, e, c, d⟩ := id st'
    exact ⟨u, rfl, go_of (s := { s with heap := h' }) e c d (by decide) ⟨x, H, I1, ru, ⟨rfl, fun ys hy => by rw [I.tuple_inj hy hq]; exact hx⟩, st', fun b hb => (hf b hb).1⟩⟩
  done := by
    intro X hP hw hK hc i pins s σ H E I hf st hg
    subst hP hw hK
    obtain ⟨xs, hq, hx⟩ := hg
    obtain ⟨its, rv, p, hz⟩ := I.tuple hq
    obtain ⟨f0, f1, f2, f3, f4, f5⟩ := hf it (by simp)
    have hl := rv.length
    exact wpAny_pyNext_tuple_end (I.ok.hd hc) st (show s.heap.IsTuple a its.toArray from p) (by simp; omega) fun h' eb => ⟨rfl, I.turned (t' := s.toks) (fun b o hb e => eb b o hb e) f0 f1 f3 f4 f5⟩
  self := fun _ _ _ _ _ st h => wpAny_pyIter_tupleiter st h
theorem turn_range {P : Program} {w : World} {K : PySem.W.Frag} {tg : Expr} (it : Addr) (lo : Int) (n : Nat) : Turn P w K tg (Itr lo n) [it] it (fun i h => IsRangeIter h it (lo + (i : Nat) * 1) ((n : Int) - (i : Nat)) 1) where
  mem := by simp
  obj := fun i h st b hb => by
    have e : b = it := by simpa using hb
    subst e
    exact ⟨_, st, fun v z => by
      have z' : Data.fields _ = Data.cell v := z
      cases z'⟩
  keep := fun i h h' st k => k it (by simp) _ st
  item := by
    intro X hP hw hK hc i pins s σ H E I hf st hg
    subst hP hw hK
    obtain ⟨f0, f1, f2, f3, f4, f5⟩ := hf it (by simp)
    have W := Walks.range (prog := X.prog) (w := X.w) (I.ok.hd hc) it lo 1 n
    refine W.item i s _ _ hg st fun v h' tk hv st' kk => ?_
    obtain ⟨t, rfl⟩ := hv
    have I1 : Inv X pins σ H { s with heap := h', toks := tk } := I.turned (fun b o hb e => kk b o (by simpa using hb) e) f0 f1 f3 f4 f5
    refine ⟨_, rfl, go_of (s := { s with heap := h', toks := tk }) (n := "range_iterator") st' rfl rfl (by decide) ⟨.int (lo + i), H, I1, ⟨t, ?_⟩, ⟨rfl, rfl⟩, st', fun b hb => (hf b hb).1⟩⟩
    rw [Int.mul_one]
  done := by
    intro X hP hw hK hc i pins s σ H E I hf st hg
    subst hP hw hK
    obtain ⟨f0, f1, f2, f3, f4, f5⟩ := hf it (by simp)
    exact wpAny_pyNext_range_end (I.ok.hd hc) st (by have : n ≤ i := hg; omega) fun h' eb => ⟨rfl, I.turned (t' := s.toks) (fun b o hb e => eb b o hb e) f0 f1 f3 f4 f5⟩
  self := fun _ _ _ _ _ st h => wpAny_pyIter_rangeiter st h
end L2

namespace L2
open PySem PySem.Spec PyProof.Rows
section
variable {X : Cx} {tg : Expr}
def iList (K : PySem.W.Frag) (tl : TE) : TI := fun σ H R => tl σ H fun x H1 => ∃ a, x = .ref a ∧ (∃ xs, SqL K H1 a xs) ∧ R (Itl K a) H1
def iTup (K : PySem.W.Frag) (tl : TE) : TI := fun σ H R => tl σ H fun x H1 => ∃ a, x = .ref a ∧ (∃ xs, SqT K H1 a xs) ∧ R (Itt K a) H1
theorem pi_list {l : Expr} {tl : TE} (hl : PE X l tl) : PI X tg l (iList X.K tl) := by
  intro pins s σ H R I h
  refine thn (hl pins s σ H _ I h) fun v s1 ⟨x, H1, I1, r1, q1⟩ => ?_
  obtain ⟨a, e, ⟨xs, hq⟩, q⟩ := q1
  subst e
  cases r1
  obtain ⟨its, rv, p, hz⟩ := I1.list hq
  refine wpAny_pyIter_list p.isList ?_
  refine ⟨s1.heap.objs.size, [s1.heap.objs.size], _, _, H1, rfl, I1.kept (t' := s1.toks) fun b o e => Heap.get?_push_of_some _ e, turn_list a _, ⟨_, Heap.get?_push_size _ rfl, rfl, rfl⟩, fun b hb => ?_, q⟩
  have e : b = s1.heap.objs.size := by simpa using hb
  subst e
  exact I1.fpOk (Nat.le_refl _) (I1.hok.fresh (Nat.le_refl _))
theorem pi_tup {l : Expr} {tl : TE} (hl : PE X l tl) : PI X tg l (iTup X.K tl) := by
  intro pins s σ H R I h
  refine thn (hl pins s σ H _ I h) fun v s1 ⟨x, H1, I1, r1, q1⟩ => ?_
  obtain ⟨a, e, ⟨xs, hq⟩, q⟩ := q1
  subst e
  cases r1
  obtain ⟨its, rv, p, hz⟩ := I1.tuple hq
  refine wpAny_pyIter_tuple (show s1.heap.IsTuple a its.toArray from p) ?_
  refine ⟨s1.heap.objs.size, [s1.heap.objs.size], _, _, H1, rfl, I1.kept (t' := s1.toks) fun b o e => Heap.get?_push_of_some _ e, turn_tuple a _, ⟨_, Heap.get?_push_size _ rfl, rfl, rfl⟩, fun b hb => ?_, q⟩
  have e : b = s1.heap.objs.size := by simpa using hb
  subst e
  exact I1.fpOk (Nat.le_refl _) (I1.hok.fresh (Nat.le_refl _))
/-- a range object just made, walked -/
theorem range_it {pins : List (Addr × Obj)} {σ : St} {H : Hp} {s : Shared} {R : It → Hp → Prop} {E : Value → Shared → Prop} {lo hi : Int} {t u v : Tok} {tk : Nat} (I : Inv X pins σ H s) (h1 : -(2 ^ 62) ≤ lo) (h2 : lo < 2 ^ 62) (h3 : -(2 ^ 62) ≤ hi) (h4 : hi < 2 ^ 62)
    (q : R (Itr lo (hi - lo).toNat) H) : wpAny (model X.prog X.w) X.A (pyIter (.ref s.heap.objs.size)) (PIE X pins σ tg R) E { s with heap := s.heap.push { cls := .type "range", data := .fields #[.int lo t, .int hi u, .int 1 v] }, toks := tk } := by
  refine wpAny_pyIter_range (IsRange.new ..) (small_one h1 h2 h3 h4) ?_
  have I1 : Inv X pins σ H { s with heap := s.heap.push { cls := .type "range", data := .fields #[.int lo t, .int hi u, .int 1 v] }, toks := tk } := I.kept fun b o e => Heap.get?_push_of_some _ e
  refine ⟨(s.heap.push { cls := .type "range", data := .fields #[.int lo t, .int hi u, .int 1 v] }).objs.size, [(s.heap.push { cls := .type "range", data := .fields #[.int lo t, .int hi u, .int 1 v] }).objs.size], _, _, H, rfl,
    I1.kept (t' := tk) fun b o e => Heap.get?_push_of_some _ e, turn_range _ lo (hi - lo).toNat, ?_, fun b hb => ?_, q⟩
  · have e1 : lo + ((0 : Nat) : Int) * 1 = lo := by simp
    have e2 : (((hi - lo).toNat : Nat) : Int) - ((0 : Nat) : Int) = Builtin.Range.rangeSize lo hi 1 := by rw [rangeSize_one]; split <;> omega
    show IsRangeIter _ _ (lo + ((0 : Nat) : Int) * 1) ((((hi - lo).toNat : Nat) : Int) - ((0 : Nat) : Int)) 1
    rw [e1, e2]
    exact Heap.get?_push_size _ rfl
  · have e : b = (s.heap.push { cls := .type "range", data := .fields #[.int lo t, .int hi u, .int 1 v] }).objs.size := by simpa using hb
    subst e
    exact I1.fpOk (Nat.le_refl _) (I1.hok.fresh (Nat.le_refl _))
def iRng1 (ta : TA) : TI := fun σ H R => ta σ H fun vs H1 => ∃ j : Int, vs = [.int j] ∧ -(2 ^ 62) ≤ j ∧ j < 2 ^ 62 ∧ R (Itr 0 j.toNat) H1
def iRng2 (ta : TA) : TI := fun σ H R => ta σ H fun vs H1 => ∃ i j : Int, vs = [.int i, .int j] ∧ (-(2 ^ 62) ≤ i ∧ i < 2 ^ 62 ∧ -(2 ^ 62) ≤ j ∧ j < 2 ^ 62) ∧ R (Itr i (j - i).toNat) H1
theorem pi_range1 {a : Expr} {ta : TA} {p pos : Pos} (hg : Gl X "range") (hm : X.mg "range" = none) (ha : PA X [a] ta) (hs : starEach [a] X.env = [(false, eval a X.env)] := by rfl) : PI X tg (.Call (.Name "range" p) [a] [] pos) (iRng1 ta) := by
  intro pins s σ H R I h
  refine Call_ (ld_blt I hg hm boot_range (PyProof.Rows.callWith_type1 (thn (ha pos pins s σ H _ I h) fun us s1 ⟨vs, H1, I1, r1, q1⟩ => ?_) hs rfl))
  obtain ⟨j, e, q1, q2, q⟩ := q1
  subst e
  cases r1 with
  | cons r rr =>
    cases rr
    obtain ⟨t, rfl⟩ := r
    exact call_range_1 (range_it I1 (by omega) (by omega) q1 q2 (by simpa using q))
theorem pi_range2 {a b : Expr} {ta : TA} {p pos : Pos} (hg : Gl X "range") (hm : X.mg "range" = none) (ha : PA X [a, b] ta) (hs : starEach [a, b] X.env = [(false, eval a X.env), (false, eval b X.env)] := by rfl) (hs2 : starEach [b] X.env = [(false, eval b X.env)] := by rfl) :
    PI X tg (.Call (.Name "range" p) [a, b] [] pos) (iRng2 ta) := by
  intro pins s σ H R I h
  refine Call_ (ld_blt I hg hm boot_range (PyProof.Rows.callWith_type1 (thn (ha pos pins s σ H _ I h) fun us s1 ⟨vs, H1, I1, r1, q1⟩ => ?_) (by rw [hs, hs2]) (by rw [hs2]; rfl)))
  obtain ⟨i, j, e, ⟨q1, q2, q3, q4⟩, q⟩ := q1
  subst e
  cases r1 with
  | cons r rr =>
    cases rr with
    | cons r' rr =>
      cases rr
      obtain ⟨t, rfl⟩ := r
      obtain ⟨t', rfl⟩ := r'
      exact call_range_2 (range_it I1 q1 q2 q3 q4 q)

/-! ### for -/
/-- W: the invariant by the turn and a measure; N: what the body is to reach -/
def tFor (wi : TI) (g : TG) (tb : TS) : TS := fun D σ H => wi σ H fun J H1 => ∃ W : Nat → Nat → St → Hp → Prop, (∃ m, W 0 m σ H1) ∧ ∀ i m σ H, W i m σ H →
  (J.stop i H ∧ D.nx σ H) ∨ (J.go i H ∧ ∃ N : St → Hp → Prop, (∀ σ' H', N σ' H' → ∃ m', m' < m ∧ W (i + 1) m' σ' H') ∧ ∀ x H', J.yld i H x H' → g x σ H' fun σ2 H2 => tb { D with nx := N, ct := N, bk := D.nx } σ2 H2)
/-- the records at fp as they stand -/
def pinsAt (fp : List Addr) (h : Heap) : List (Addr × Obj) := fp.filterMap fun b => (h.get? b).map fun o => (b, o)
theorem mem_pinsAt {fp : List Addr} {h : Heap} {b : Addr} {o : Obj} (hb : b ∈ fp) (e : h.get? b = some o) : (b, o) ∈ pinsAt fp h := List.mem_filterMap.mpr ⟨b, hb, by rw [e]; rfl⟩
theorem of_pinsAt {fp : List Addr} {h : Heap} {p : Addr × Obj} (hp : p ∈ pinsAt fp h) : p.1 ∈ fp ∧ h.get? p.1 = some p.2 := by
  obtain ⟨b, hb, e⟩ := List.mem_filterMap.mp hp
  cases q : h.get? b with
  | none => rw [q] at e; cases e
  | some o =>
    rw [q] at e
    have e' : (b, o) = p := Option.some.inj e
    subst e'
    exact ⟨hb, q⟩
theorem Inv.pinned {pins : List (Addr × Obj)} {σ : St} {H : Hp} {s : Shared} {fp : List Addr} (I : Inv X pins σ H s) (hf : ∀ b ∈ fp, FpOk X pins H b) (ho : ∀ b ∈ fp, ∃ o, s.heap.get? b = some o ∧ ∀ v, o.data ≠ .cell v) : Inv X (pins ++ pinsAt fp s.heap) σ H s :=
  I.pins_of fun p hp => (List.mem_append.mp hp).elim (fun z => I.pin p (List.mem_append_right _ z)) fun z => by
    obtain ⟨hb, e⟩ := of_pinsAt z
    obtain ⟨f0, f1, f2, _⟩ := hf p.1 hb
    obtain ⟨o, e', d⟩ := ho p.1 hb
    rw [e] at e'; cases e'
    exact ⟨e, f0, f1, f2, d⟩
theorem Inv.unpinned {pins pl : List (Addr × Obj)} {σ : St} {H : Hp} {s : Shared} (I : Inv X (pins ++ pl) σ H s) : Inv X pins σ H s := I.pins_of fun p hp => I.pin p (List.mem_append_right _ (List.mem_append_left _ hp))
theorem ps_for {iter : Expr} {body : List Stmt} {wi : TI} {g : TG} {tb : TS} {pos : Pos} (hp : PassesOwn (model X.prog X.w) X.A X.env X.xe) (hc : X.calm = true) (hi : PI X tg iter wi) (hg : PG X tg g) (hb : PSs X body tb)
    (hs : ∀ x, foldedSetIterable iter X.env x = pure x := by intro _; rfl) : PS X (.For tg iter body [] pos) (tFor wi g tb) := by
  intro pins s σ H D I h
  refine wpAny_For (thn (hi pins s σ H _ I h) fun v s1 h1 => thn h1 fun itv s2 h2 => ?_) hs
  obtain ⟨it, fp, tn, J, H2, e, I2, T, st2, f2, W, ⟨m0, w0⟩, turn⟩ := h2
  subst e
  -- what stays true of the iterator's objects through the loop
  have stat : ∀ {H' : Hp}, (∀ b ∈ fp, H' b = none) → ∀ b ∈ fp, FpOk X pins H' b := fun hn b hb => ⟨hn b hb, (f2 b hb).2⟩
  refine codeAny_forLoop_any (fun n s' => ∃ i σ' H', Inv X pins σ' H' s' ∧ tn i s'.heap ∧ (∀ b ∈ fp, H' b = none) ∧ W i n σ' H') ?_ m0 ⟨0, σ, H2, I2, st2, fun b hb => (f2 b hb).1, w0⟩
  rintro n s3 ⟨i, σ3, H3, I3, st3, fr3, w3⟩
  rcases turn i n σ3 H3 w3 with ⟨stop, qn⟩ | ⟨go, N, hN, step⟩
  · refine wpAny_passesOwn hp (thn (T.done X rfl rfl rfl hc i pins s3 σ3 H3 X.xe I3 (stat fr3) st3 stop) fun r s4 ⟨hr, I4⟩ => ?_)
    subst hr
    exact wpAny_execs_nil ⟨σ3, H3, I4, qn⟩
  · refine wpAny_passesOwn hp (thn (T.item X rfl rfl rfl hc i pins s3 σ3 H3 X.xe I3 (stat fr3) st3 go) fun r s4 ⟨u, hr, h4⟩ => ?_)
    subst hr
    refine wpAny_passesOwn hp (thn h4 fun _ s5 ⟨x, H5, I5, r5, y5, st5, fr5⟩ => ?_)
    have I5' := I5.pinned (stat fr5) (T.obj _ _ st5)
    refine wpAny_passesOwn hp (thn (hg _ s5 σ3 H5 x u _ I5' r5 (step x H5 y5)) fun _ s6 ⟨σ6, H6, I6, q6⟩ => ?_)
    refine wpAny_passesOwn hp (thn (hb _ s6 σ6 H6 _ I6 q6) fun f s7 q7 => ?_)
    have again : ∀ {σ7 : St} {H7 : Hp}, Inv X (pins ++ pinsAt fp s5.heap) σ7 H7 s7 → N σ7 H7 → ∃ m, m < n ∧ ∃ i σ' H', Inv X pins σ' H' s7 ∧ tn i s7.heap ∧ (∀ b ∈ fp, H' b = none) ∧ W i m σ' H' := fun {σ7 H7} I7 n7 => by
      obtain ⟨m', hm, w7⟩ := hN σ7 H7 n7
      refine ⟨m', hm, i + 1, σ7, H7, I7.unpinned, T.keep _ _ _ st5 fun b hb o e => (I7.pin (b, o) (List.mem_append_right _ (List.mem_append_right _ (mem_pinsAt hb e)))).1, fun b hb => ?_, w7⟩
      obtain ⟨o, e, d⟩ := T.obj _ _ st5 b hb
      exact (I7.pin (b, o) (List.mem_append_right _ (List.mem_append_right _ (mem_pinsAt hb e)))).2.1
    cases f with
    | next => obtain ⟨σ7, H7, I7, n7⟩ := q7; exact again I7 n7
    | cont => obtain ⟨σ7, H7, I7, n7⟩ := q7; exact again I7 n7
    | brk => obtain ⟨σ7, H7, I7, q7⟩ := q7; exact ⟨σ7, H7, I7.unpinned, q7⟩
    | ret v => obtain ⟨x7, σ7, H7, I7, r7, q7⟩ := q7; exact ⟨x7, σ7, H7, I7.unpinned, r7, q7⟩
end

/-! ### the forms one uses -/
/-- over a list that the body leaves as it is -/
theorem for_list {K : PySem.W.Frag} {a : Addr} {xs : List V} {g : TG} {tb : TS} {D : Ends} {σ : St} {H : Hp} (Pv : Nat → St → Hp → Prop) (h0 : Pv 0 σ H) (hl : ∀ i σ H, i ≤ xs.length → Pv i σ H → SqL K H a xs)
    (hs : ∀ i x σ H, xs[i]? = some x → Pv i σ H → g x σ H fun σ2 H2 => tb { D with nx := Pv (i + 1), ct := Pv (i + 1), bk := D.nx } σ2 H2) (hd : ∀ σ H, Pv xs.length σ H → D.nx σ H) :
    ∃ W : Nat → Nat → St → Hp → Prop, (∃ m, W 0 m σ H) ∧ ∀ i m σ H, W i m σ H →
      ((Itl K a).stop i H ∧ D.nx σ H) ∨ ((Itl K a).go i H ∧ ∃ N : St → Hp → Prop, (∀ σ' H', N σ' H' → ∃ m', m' < m ∧ W (i + 1) m' σ' H') ∧ ∀ x H', (Itl K a).yld i H x H' → g x σ H' fun σ2 H2 => tb { D with nx := N, ct := N, bk := D.nx } σ2 H2) := by
  refine ⟨fun i m σ H => m = xs.length - i ∧ i ≤ xs.length ∧ Pv i σ H, ⟨xs.length, by simp, Nat.zero_le _, h0⟩, ?_⟩
  rintro i m σ H ⟨rfl, hi, p⟩
  have q := hl i σ H hi p
  by_cases hlt : i < xs.length
  · refine .inr ⟨⟨xs, xs[i], q, by simp [hlt]⟩, Pv (i + 1), fun σ' H' p' => ⟨xs.length - (i + 1), by omega, rfl, hlt, p'⟩, fun x H' y => ?_⟩
    obtain ⟨e, y⟩ := y
    subst e
    exact hs i x σ _ (y xs q) p
  · have e : i = xs.length := by omega
    subst e
    exact .inl ⟨⟨xs, q, Nat.le_refl _⟩, hd σ H p⟩
theorem for_tup {K : PySem.W.Frag} {a : Addr} {xs : List V} {g : TG} {tb : TS} {D : Ends} {σ : St} {H : Hp} (Pv : Nat → St → Hp → Prop) (h0 : Pv 0 σ H) (hl : ∀ i σ H, i ≤ xs.length → Pv i σ H → SqT K H a xs)
    (hs : ∀ i x σ H, xs[i]? = some x → Pv i σ H → g x σ H fun σ2 H2 => tb { D with nx := Pv (i + 1), ct := Pv (i + 1), bk := D.nx } σ2 H2) (hd : ∀ σ H, Pv xs.length σ H → D.nx σ H) :
    ∃ W : Nat → Nat → St → Hp → Prop, (∃ m, W 0 m σ H) ∧ ∀ i m σ H, W i m σ H →
      ((Itt K a).stop i H ∧ D.nx σ H) ∨ ((Itt K a).go i H ∧ ∃ N : St → Hp → Prop, (∀ σ' H', N σ' H' → ∃ m', m' < m ∧ W (i + 1) m' σ' H') ∧ ∀ x H', (Itt K a).yld i H x H' → g x σ H' fun σ2 H2 => tb { D with nx := N, ct := N, bk := D.nx } σ2 H2) := by
  refine ⟨fun i m σ H => m = xs.length - i ∧ i ≤ xs.length ∧ Pv i σ H, ⟨xs.length, by simp, Nat.zero_le _, h0⟩, ?_⟩
  rintro i m σ H ⟨rfl, hi, p⟩
  have q := hl i σ H hi p
  by_cases hlt : i < xs.length
  · refine .inr ⟨⟨xs, xs[i], q, by simp [hlt]⟩, Pv (i + 1), fun σ' H' p' => ⟨xs.length - (i + 1), by omega, rfl, hlt, p'⟩, fun x H' y => ?_⟩
    obtain ⟨e, y⟩ := y
    subst e
    exact hs i x σ _ (y xs q) p
  · have e : i = xs.length := by omega
    subst e
    exact .inl ⟨⟨xs, q, Nat.le_refl _⟩, hd σ H p⟩
theorem for_range {lo : Int} {n : Nat} {g : TG} {tb : TS} {D : Ends} {σ : St} {H : Hp} (Pv : Nat → St → Hp → Prop) (h0 : Pv 0 σ H)
    (hs : ∀ i σ H, i < n → Pv i σ H → g (.int (lo + i)) σ H fun σ2 H2 => tb { D with nx := Pv (i + 1), ct := Pv (i + 1), bk := D.nx } σ2 H2) (hd : ∀ σ H, Pv n σ H → D.nx σ H) :
    ∃ W : Nat → Nat → St → Hp → Prop, (∃ m, W 0 m σ H) ∧ ∀ i m σ H, W i m σ H →
      ((Itr lo n).stop i H ∧ D.nx σ H) ∨ ((Itr lo n).go i H ∧ ∃ N : St → Hp → Prop, (∀ σ' H', N σ' H' → ∃ m', m' < m ∧ W (i + 1) m' σ' H') ∧ ∀ x H', (Itr lo n).yld i H x H' → g x σ H' fun σ2 H2 => tb { D with nx := N, ct := N, bk := D.nx } σ2 H2) := by
  refine ⟨fun i m σ H => m = n - i ∧ i ≤ n ∧ Pv i σ H, ⟨n, by simp, Nat.zero_le _, h0⟩, ?_⟩
  rintro i m σ H ⟨rfl, hi, p⟩
  by_cases hlt : i < n
  · refine .inr ⟨hlt, Pv (i + 1), fun σ' H' p' => ⟨n - (i + 1), by omega, rfl, hlt, p'⟩, fun x H' y => ?_⟩
    obtain ⟨e, y⟩ := y
    subst e y
    exact hs i σ _ hlt p
  · have e : i = n := by omega
    subst e
    exact .inl ⟨Nat.le_refl _, hd σ H p⟩
/-- while, by a word and a measure of the state -/
theorem while_by {c : TT} {tb : TS} {D : Ends} {σ : St} {H : Hp} (Pv : St → Hp → Prop) (μ : St → Hp → Nat) (h0 : Pv σ H)
    (hs : ∀ σ H, Pv σ H → c σ H fun b H1 => if b = true then tb { D with nx := fun σ' H' => Pv σ' H' ∧ μ σ' H' < μ σ H, ct := fun σ' H' => Pv σ' H' ∧ μ σ' H' < μ σ H, bk := D.nx } σ H1 else D.nx σ H1)
    (mono : ∀ σ H Q Q', (∀ b H1, Q b H1 → Q' b H1) → c σ H Q → c σ H Q') : tWhile c tb D σ H := by
  refine ⟨fun m σ H => m = μ σ H ∧ Pv σ H, ⟨_, rfl, h0⟩, ?_⟩
  rintro m σ H ⟨rfl, p⟩
  refine mono σ H _ _ (fun b H1 q => ?_) (hs σ H p)
  cases b with
  | true => exact ⟨_, fun σ' H' ⟨p', l⟩ => ⟨_, l, rfl, p'⟩, q⟩
  | false => exact q
end L2

namespace L2
open PySem PySem.Spec PyProof.Rows

abbrev R2 := V → V → Hp → VK → Prop
/-- a two-place operation on values: f is binaryOp op, inplaceOp op or compareOp op -/
def OpR (X : Cx) (f : Value → Value → Sem Value) (r : R2) : Prop :=
  ∀ (pins : List (Addr × Obj)) (s : Shared) (σ : St) (H : Hp) (x y : V) (v u : Value) (Q : VK), Inv X pins σ H s → RelV x v → RelV y u → r x y H Q →
    wpAny (model X.prog X.w) X.A (f v u) (EP X pins σ Q) X.xe s
/-- a one-place operation -/
def UnR (X : Cx) (f : Value → Sem Value) (r : V → Hp → VK → Prop) : Prop :=
  ∀ (pins : List (Addr × Obj)) (s : Shared) (σ : St) (H : Hp) (x : V) (v : Value) (Q : VK), Inv X pins σ H s → RelV x v → r x H Q →
    wpAny (model X.prog X.w) X.A (f v) (EP X pins σ Q) X.xe s
/-- a call of a value that is known (a builtin, a type) with values -/
def CallR (X : Cx) (f : Value) (r : List V → Hp → VK → Prop) : Prop :=
  ∀ (pins : List (Addr × Obj)) (s : Shared) (σ : St) (H : Hp) (xs : List V) (us : List Value) (Q : VK), Inv X pins σ H s → Vals xs us → r xs H Q →
    wpAny (model X.prog X.w) X.A (call f us) (EP X pins σ Q) X.xe s
/-- a value's truth -/
def TruR (X : Cx) (r : V → Hp → (Bool → Hp → Prop) → Prop) : Prop :=
  ∀ (pins : List (Addr × Obj)) (s : Shared) (σ : St) (H : Hp) (x : V) (v : Value) (Q : Bool → Hp → Prop), Inv X pins σ H s → RelV x v → r x H Q →
    wpAny (model X.prog X.w) X.A (truthy v) (TP X pins σ Q) X.xe s

def tOp (r : R2) (ta tb : TE) : TE := fun σ H Q => ta σ H fun x H1 => tb σ H1 fun y H2 => r x y H2 Q
def tUn (r : V → Hp → VK → Prop) (ta : TE) : TE := fun σ H Q => ta σ H fun x H1 => r x H1 Q
/-- ints in, under C, and a value out -/
def rI (C : Int → Int → Prop) (g : Int → Int → V) : R2 := fun x y H Q => ∃ i j, x = .int i ∧ y = .int j ∧ C i j ∧ Q (g i j) H
def rI0 (g : Int → Int → V) : R2 := fun x y H Q => ∃ i j, x = .int i ∧ y = .int j ∧ Q (g i j) H
def rU (g : Int → V) : V → Hp → VK → Prop := fun x H Q => ∃ i, x = .int i ∧ Q (g i) H

section
variable {X : Cx} {a b c : Expr} {ta tb tc : TE} {pos : Pos}

theorem binT (ha : PE X a ta) (hb : PE X b tb) {pins : List (Addr × Obj)} {s : Shared} {σ : St} {H : Hp} {R : V → V → Hp → Prop} (I : Inv X pins σ H s)
    (h : ta σ H fun x H1 => tb σ H1 fun y H2 => R x y H2) {Q : Value → Shared → Prop} {f : Value → Value → Sem Value}
    (hf : ∀ v u s2 x y H2, Inv X pins σ H2 s2 → RelV x v → RelV y u → R x y H2 → wpAny (model X.prog X.w) X.A (f v u) Q X.xe s2) :
    wpAny (model X.prog X.w) X.A (eval a X.env) (fun v s₁ => wpAny (model X.prog X.w) X.A (eval b X.env) (fun u s₂ => wpAny (model X.prog X.w) X.A (f v u) Q X.xe s₂) X.xe s₁) X.xe s := by
  refine thn (ha pins s σ H _ I h) fun v s1 ⟨x, H1, I1, r1, q1⟩ => ?_
  refine thn (hb pins s1 σ H1 _ I1 q1) fun u s2 ⟨y, H2, I2, r2, q2⟩ => ?_
  exact hf v u s2 x y H2 I2 r1 r2 q2

theorem pe_op {op : Operator} {r : R2} (ho : OpR X (binaryOp op) r) (ha : PE X a ta) (hb : PE X b tb) : PE X (.BinOp a op b pos) (tOp r ta tb) := by
  intro pins s σ H Q I h
  exact wpAny_BinOp (binT ha hb I h fun v u s2 x y H2 I2 rx ry q => ho pins s2 σ H2 x y v u Q I2 rx ry q)
theorem pe_un {op : UnaryOp} {r : V → Hp → VK → Prop} (ho : UnR X (unaryOp op) r) (ha : PE X a ta) : PE X (.UnaryOp op a pos) (tUn r ta) := by
  intro pins s σ H Q I h
  exact UnaryOp_ (thn (ha pins s σ H _ I h) fun v s1 ⟨x, H1, I1, r1, q1⟩ => ho pins s1 σ H1 x v Q I1 r1 q1)
/-- a op= e at a name: the name's slot i -/
theorem augR {op : Operator} {r : R2} (ho : OpR X (inplaceOp op) r) {pins : List (Addr × Obj)} {s : Shared} {σ : St} {H : Hp} {x y : V} {v u : Value} {Q : VK} (I : Inv X pins σ H s)
    (rx : RelV x v) (ry : RelV y u) (q : r x y H Q) : wpAny (model X.prog X.w) X.A (inplaceOp op v u) (EP X pins σ Q) X.xe s := ho pins s σ H x y v u Q I rx ry q

/-! ### ints -/
theorem opI {f : Value → Value → Sem Value} {C : Int → Int → Prop} {g : Int → Int → Int}
    (rule : ∀ (i j : Int) (t u : Tok) (s : Shared) (Q : Value → Shared → Prop) (E : Value → Shared → Prop), C i j → Q (.int (g i j) s.toks) { s with toks := s.toks + 1 } → wpAny (model X.prog X.w) X.A (f (.int i t) (.int j u)) Q E s) :
    OpR X f (rI C fun i j => .int (g i j)) := by
  intro pins s σ H x y v u Q I rx ry h
  obtain ⟨i, j, rfl, rfl, hc, q⟩ := h
  obtain ⟨t, rfl⟩ := rx
  obtain ⟨t', rfl⟩ := ry
  exact rule i j t t' s _ _ hc ⟨.int (g i j), H, I.tok _, ⟨_, rfl⟩, q⟩
theorem opI0 {f : Value → Value → Sem Value} {g : Int → Int → Int}
    (rule : ∀ (i j : Int) (t u : Tok) (s : Shared) (Q : Value → Shared → Prop) (E : Value → Shared → Prop), Q (.int (g i j) s.toks) { s with toks := s.toks + 1 } → wpAny (model X.prog X.w) X.A (f (.int i t) (.int j u)) Q E s) :
    OpR X f (rI0 fun i j => .int (g i j)) := by
  intro pins s σ H x y v u Q I rx ry h
  obtain ⟨i, j, rfl, rfl, q⟩ := h
  obtain ⟨t, rfl⟩ := rx
  obtain ⟨t', rfl⟩ := ry
  exact rule i j t t' s _ _ ⟨.int (g i j), H, I.tok _, ⟨_, rfl⟩, q⟩
theorem opB0 {f : Value → Value → Sem Value} {g : Int → Int → Bool}
    (rule : ∀ (i j : Int) (t u : Tok) (s : Shared) (Q : Value → Shared → Prop) (E : Value → Shared → Prop), Q (.bool (g i j)) s → wpAny (model X.prog X.w) X.A (f (.int i t) (.int j u)) Q E s) :
    OpR X f (rI0 fun i j => .bl (g i j)) := by
  intro pins s σ H x y v u Q I rx ry h
  obtain ⟨i, j, rfl, rfl, q⟩ := h
  obtain ⟨t, rfl⟩ := rx
  obtain ⟨t', rfl⟩ := ry
  exact rule i j t t' s _ _ ⟨.bl (g i j), H, I, rfl, q⟩

def CDiv (i j : Int) : Prop := 0 < j ∧ j < 1073741824
def CDivN (i j : Int) : Prop := j ≠ 0 ∧ j.natAbs < 1073741824
def CPow (i j : Int) : Prop := 0 ≤ j ∧ j ≤ 1000000 ∧ i.natAbs < 2 ^ 64
def CMul (i j : Int) : Prop := (-(2 ^ 64) < i ∧ i < 2 ^ 64) ∨ (-(2 ^ 64) < j ∧ j < 2 ^ 64)
theorem CMul.ok {i j : Int} (h : CMul i j) : IntMulOk i j := by
  rcases h with ⟨h1, h2⟩ | ⟨h1, h2⟩
  · exact .of_left (intBits_le_64 h1 h2)
  · exact .of_right (intBits_le_64 h1 h2)
theorem two_pow_nn (k : Nat) : (0 : Int) ≤ 2 ^ k := by
  rw [two_pow_cast]
  exact Int.natCast_nonneg _

theorem op_add : OpR X (binaryOp .Add) (rI0 fun i j => .int (i + j)) := opI0 fun _ _ _ _ _ _ _ q => add_int q
theorem op_sub : OpR X (binaryOp .Sub) (rI0 fun i j => .int (i - j)) := opI0 fun _ _ _ _ _ _ _ q => sub_int q
theorem op_mul : OpR X (binaryOp .Mult) (rI CMul fun i j => .int (i * j)) := opI fun _ _ _ _ _ _ _ hc q => mul_int q hc.ok
/-- // by a positive divisor -/
theorem op_fdiv : OpR X (binaryOp .FloorDiv) (rI CDiv fun i j => .int (i / j)) := opI fun i j _ _ _ _ _ hc q => by
  have h1 : (0 : Int) < j := hc.1
  have h2 : j < 1073741824 := hc.2
  exact floordiv_int (by omega) (by rw [Int.fdiv_eq_ediv_of_nonneg i (by omega)]; exact q) (.inl (PyProof.noPylong_small (by omega)))
theorem op_fdivN : OpR X (binaryOp .FloorDiv) (rI CDivN fun i j => .int (i.fdiv j)) := opI fun _ _ _ _ _ _ _ hc q => floordiv_int hc.1 q (.inl (PyProof.noPylong_small hc.2))
/-- % by a positive divisor of any size -/
theorem op_mod : OpR X (binaryOp .Mod) (rI (fun _ j => 0 < j) fun i j => .int (i % j)) := opI fun i j _ _ _ _ _ hc q => by
  have h1 : (0 : Int) < j := hc
  exact mod_int' (by omega) (by rw [Int.fmod_eq_emod_of_nonneg i (by omega)]; exact q)
theorem op_modN : OpR X (binaryOp .Mod) (rI (fun _ j => j ≠ 0) fun i j => .int (i.fmod j)) := opI fun _ _ _ _ _ _ _ hc q => mod_int' hc q
theorem op_pow : OpR X (binaryOp .Pow) (rI CPow fun i j => .int (i ^ j.toNat)) := opI fun _ _ _ _ _ _ _ hc q => pow_int_small hc.1 hc.2.1 hc.2.2 q
theorem op_shl : OpR X (binaryOp .LShift) (rI CPow fun i j => .int (i * 2 ^ j.toNat)) := opI fun _ _ _ _ _ _ _ hc q => lshift_int_small hc.1 hc.2.1 hc.2.2 q
theorem op_shr : OpR X (binaryOp .RShift) (rI (fun _ j => 0 ≤ j) fun i j => .int (i / 2 ^ j.toNat)) := opI fun i j _ _ _ _ _ hc q =>
  rshift_int hc (by rw [Int.fdiv_eq_ediv_of_nonneg i (two_pow_nn _)]; exact q)
theorem op_and : OpR X (binaryOp .BitAnd) (rI0 fun i j => .int (Builtin.bitAnd i j)) := opI0 fun _ _ _ _ _ _ _ q => and_int q
theorem op_or : OpR X (binaryOp .BitOr) (rI0 fun i j => .int (Builtin.bitOr i j)) := opI0 fun _ _ _ _ _ _ _ q => or_int q
theorem op_xor : OpR X (binaryOp .BitXor) (rI0 fun i j => .int (Builtin.bitXor i j)) := opI0 fun _ _ _ _ _ _ _ q => xor_int q

theorem iop_add : OpR X (inplaceOp .Add) (rI0 fun i j => .int (i + j)) := opI0 fun _ _ _ _ _ _ _ q => iadd_int q
theorem iop_sub : OpR X (inplaceOp .Sub) (rI0 fun i j => .int (i - j)) := opI0 fun _ _ _ _ _ _ _ q => isub_int q
theorem iop_mul : OpR X (inplaceOp .Mult) (rI CMul fun i j => .int (i * j)) := opI fun _ _ _ _ _ _ _ hc q => imul_int q hc.ok
theorem iop_fdiv : OpR X (inplaceOp .FloorDiv) (rI CDiv fun i j => .int (i / j)) := opI fun i j _ _ _ _ _ hc q => by
  have h1 : (0 : Int) < j := hc.1
  have h2 : j < 1073741824 := hc.2
  exact ifloordiv_int (by omega) (by rw [Int.fdiv_eq_ediv_of_nonneg i (by omega)]; exact q) (.inl (PyProof.noPylong_small (by omega)))
theorem iop_mod : OpR X (inplaceOp .Mod) (rI (fun _ j => 0 < j) fun i j => .int (i % j)) := opI fun i j _ _ _ _ _ hc q => by
  have h1 : (0 : Int) < j := hc
  exact imod_int (by omega) (by rw [Int.fmod_eq_emod_of_nonneg i (by omega)]; exact q)
theorem iop_shl : OpR X (inplaceOp .LShift) (rI CPow fun i j => .int (i * 2 ^ j.toNat)) := opI fun _ _ _ _ _ _ _ hc q => ilshift_int_small hc.1 hc.2.1 hc.2.2 q
theorem iop_shr : OpR X (inplaceOp .RShift) (rI (fun _ j => 0 ≤ j) fun i j => .int (i / 2 ^ j.toNat)) := opI fun i j _ _ _ _ _ hc q =>
  irshift_int hc (by rw [Int.fdiv_eq_ediv_of_nonneg i (two_pow_nn _)]; exact q)
theorem iop_and : OpR X (inplaceOp .BitAnd) (rI0 fun i j => .int (Builtin.bitAnd i j)) := opI0 fun _ _ _ _ _ _ _ q => iand_int q
theorem iop_or : OpR X (inplaceOp .BitOr) (rI0 fun i j => .int (Builtin.bitOr i j)) := opI0 fun _ _ _ _ _ _ _ q => ior_int q
theorem iop_xor : OpR X (inplaceOp .BitXor) (rI0 fun i j => .int (Builtin.bitXor i j)) := opI0 fun _ _ _ _ _ _ _ q => ixor_int q

theorem unI {f : Value → Sem Value} {g : Int → Int}
    (rule : ∀ (i : Int) (t : Tok) (s : Shared) (Q : Value → Shared → Prop) (E : Value → Shared → Prop), Q (.int (g i) s.toks) { s with toks := s.toks + 1 } → wpAny (model X.prog X.w) X.A (f (.int i t)) Q E s) :
    UnR X f (rU fun i => .int (g i)) := by
  intro pins s σ H x v Q I rx h
  obtain ⟨i, rfl, q⟩ := h
  obtain ⟨t, rfl⟩ := rx
  exact rule i t s _ _ ⟨.int (g i), H, I.tok _, ⟨_, rfl⟩, q⟩
theorem un_neg : UnR X (unaryOp .USub) (rU fun i => .int (-i)) := unI fun _ _ _ _ _ q => neg_int q
theorem un_inv : UnR X (unaryOp .Invert) (rU fun i => .int (Builtin.bitNot i)) := unI fun _ _ _ _ _ q => invert_int q

/-! ### bools among ints: n += (a < b) -/
theorem op_add_ib : OpR X (binaryOp .Add) (fun x y H Q => ∃ i k, x = .int i ∧ y = .bl k ∧ Q (.int (i + b2i k)) H) := by
  intro pins s σ H x y v u Q I rx ry h
  obtain ⟨i, k, rfl, rfl, q⟩ := h
  obtain ⟨t, rfl⟩ := rx
  cases ry
  exact add_int_bool ⟨.int (i + b2i k), H, I.tok _, ⟨_, rfl⟩, q⟩
end

/-! ### comparisons -/
/-- the scalars that == tells apart as data does -/
def scal : V → V → Bool
  | .non, .non => true | .non, .int _ => true | .int _, .non => true | .non, .bl _ => true | .bl _, .non => true | .non, .str _ => true | .str _, .non => true
  | .int _, .int _ => true | .bl _, .bl _ => true | .str _, .str _ => true | .byt _, .byt _ => true
  | .int _, .str _ => true | .str _, .int _ => true | .bl _, .str _ => true | .str _, .bl _ => true
  | _, _ => false
def rEq : R2 := fun x y H Q => scal x y = true ∧ Q (.bl (decide (x = y))) H
def rNe : R2 := fun x y H Q => scal x y = true ∧ Q (.bl (!decide (x = y))) H

theorem dec_int {i j : Int} : decide (V.int i = V.int j) = (i == j) := by
  rw [Bool.eq_iff_iff]
  simp
theorem dec_bl {i j : Bool} : decide (V.bl i = V.bl j) = (i == j) := by
  rw [Bool.eq_iff_iff]
  simp
theorem dec_str {i j : Str} : decide (V.str i = V.str j) = (i == j) := by
  rw [Bool.eq_iff_iff]
  simp
theorem dec_byt {i j : Array UInt8} : decide (V.byt i = V.byt j) = (i.toList == j.toList) := by
  rw [Bool.eq_iff_iff]
  cases i
  cases j
  simp

section
variable {X : Cx} {a b c : Expr} {ta tb tc : TE} {pos : Pos}
theorem fin_bl {pins : List (Addr × Obj)} {σ : St} {H : Hp} {s : Shared} {Q : VK} {k k' : Bool} (I : Inv X pins σ H s) (q : Q (.bl k) H) (e : k = k') : EP X pins σ Q (.bool k') s := by
  subst e
  exact ⟨.bl k, H, I, rfl, q⟩
theorem op_eq : OpR X (compareOp .Eq) rEq := by
  intro pins s σ H x y v u Q I rx ry h
  obtain ⟨hs, q⟩ := h
  cases x with
  | non =>
    cases rx
    cases y with
    | non => cases ry; exact PySem.EqNone.eq_none_none (fin_bl I q (by simp))
    | bl j => cases ry; exact PySem.EqNone.eq_none_bool (fin_bl I q (by simp))
    | int j => obtain ⟨t', rfl⟩ := ry; exact PySem.EqNone.eq_none_int (fin_bl I q (by simp))
    | str j => obtain ⟨t', rfl⟩ := ry; exact PySem.EqNone.eq_none_str (fin_bl I q (by simp))
    | _ => exact absurd (show false = true from hs) Bool.false_ne_true
  | bl i =>
    cases rx
    cases y with
    | non => cases ry; exact PySem.EqNone.eq_bool_none (fin_bl I q (by simp))
    | bl j => cases ry; exact eq_bool (fin_bl I q dec_bl)
    | str j => obtain ⟨t', rfl⟩ := ry; exact PySem.EqMixed.eq_bool_str (fin_bl I q (by simp))
    | _ => exact absurd (show false = true from hs) Bool.false_ne_true
  | int i =>
    obtain ⟨t, rfl⟩ := rx
    cases y with
    | non => cases ry; exact PySem.EqNone.eq_int_none (fin_bl I q (by simp))
    | int j => obtain ⟨t', rfl⟩ := ry; exact eq_int (fin_bl I q dec_int)
    | str j => obtain ⟨t', rfl⟩ := ry; exact PySem.EqMixed.eq_int_str (fin_bl I q (by simp))
    | _ => exact absurd (show false = true from hs) Bool.false_ne_true
  | str i =>
    obtain ⟨t, rfl⟩ := rx
    cases y with
    | non => cases ry; exact PySem.EqNone.eq_str_none (fin_bl I q (by simp))
    | bl j => cases ry; exact PySem.EqMixed.eq_str_bool (fin_bl I q (by simp))
    | int j => obtain ⟨t', rfl⟩ := ry; exact PySem.EqMixed.eq_str_int (fin_bl I q (by simp))
    | str j => obtain ⟨t', rfl⟩ := ry; exact eq_str (fin_bl I q dec_str)
    | _ => exact absurd (show false = true from hs) Bool.false_ne_true
  | byt i =>
    obtain ⟨t, rfl⟩ := rx
    cases y with
    | byt j => obtain ⟨t', rfl⟩ := ry; exact PySem.W.eq_bytes (fin_bl I q dec_byt)
    | _ => exact absurd (show false = true from hs) Bool.false_ne_true
  | _ => cases y <;> exact absurd (show false = true from hs) Bool.false_ne_true
theorem op_ne : OpR X (compareOp .NotEq) rNe := by
  intro pins s σ H x y v u Q I rx ry h
  obtain ⟨hs, q⟩ := h
  cases x with
  | non =>
    cases rx
    cases y with
    | non => cases ry; exact PySem.EqNone.ne_none_none (fin_bl I q (by simp))
    | bl j => cases ry; exact PySem.EqNone.ne_none_bool (fin_bl I q (by simp))
    | int j => obtain ⟨t', rfl⟩ := ry; exact PySem.EqNone.ne_none_int (fin_bl I q (by simp))
    | str j => obtain ⟨t', rfl⟩ := ry; exact PySem.EqNone.ne_none_str (fin_bl I q (by simp))
    | _ => exact absurd (show false = true from hs) Bool.false_ne_true
  | bl i =>
    cases rx
    cases y with
    | non => cases ry; exact PySem.EqNone.ne_bool_none (fin_bl I q (by simp))
    | bl j => cases ry; exact ne_bool (fin_bl I q (congrArg not dec_bl))
    | str j => obtain ⟨t', rfl⟩ := ry; exact PySem.EqMixed.ne_bool_str (fin_bl I q (by simp))
    | _ => exact absurd (show false = true from hs) Bool.false_ne_true
  | int i =>
    obtain ⟨t, rfl⟩ := rx
    cases y with
    | non => cases ry; exact PySem.EqNone.ne_int_none (fin_bl I q (by simp))
    | int j => obtain ⟨t', rfl⟩ := ry; exact ne_int (fin_bl I q (congrArg not dec_int))
    | str j => obtain ⟨t', rfl⟩ := ry; exact PySem.EqMixed.ne_int_str (fin_bl I q (by simp))
    | _ => exact absurd (show false = true from hs) Bool.false_ne_true
  | str i =>
    obtain ⟨t, rfl⟩ := rx
    cases y with
    | non => cases ry; exact PySem.EqNone.ne_str_none (fin_bl I q (by simp))
    | bl j => cases ry; exact PySem.EqMixed.ne_str_bool (fin_bl I q (by simp))
    | int j => obtain ⟨t', rfl⟩ := ry; exact PySem.EqMixed.ne_str_int (fin_bl I q (by simp))
    | str j => obtain ⟨t', rfl⟩ := ry; exact ne_str (fin_bl I q (congrArg not dec_str))
    | _ => exact absurd (show false = true from hs) Bool.false_ne_true
  | byt i =>
    obtain ⟨t, rfl⟩ := rx
    cases y with
    | byt j => obtain ⟨t', rfl⟩ := ry; exact PySem.W.ne_bytes (fin_bl I q (congrArg not dec_byt))
    | _ => exact absurd (show false = true from hs) Bool.false_ne_true
  | _ => cases y <;> exact absurd (show false = true from hs) Bool.false_ne_true

theorem op_lt : OpR X (compareOp .Lt) (rI0 fun i j => .bl (decide (i < j))) := opB0 fun _ _ _ _ _ _ _ q => lt_int q
theorem op_le : OpR X (compareOp .LtE) (rI0 fun i j => .bl (decide (i ≤ j))) := opB0 fun _ _ _ _ _ _ _ q => le_int q
theorem op_gt : OpR X (compareOp .Gt) (rI0 fun i j => .bl (decide (j < i))) := opB0 fun _ _ _ _ _ _ _ q => gt_int q
theorem op_ge : OpR X (compareOp .GtE) (rI0 fun i j => .bl (decide (j ≤ i))) := opB0 fun _ _ _ _ _ _ _ q => ge_int q
theorem op_lt_str : OpR X (compareOp .Lt) (fun x y H Q => ∃ i j, x = .str i ∧ y = .str j ∧ Q (.bl (decide (i.cps.toList < j.cps.toList))) H) := by
  intro pins s σ H x y v u Q I rx ry h
  obtain ⟨i, j, rfl, rfl, q⟩ := h
  obtain ⟨t, rfl⟩ := rx
  obtain ⟨t', rfl⟩ := ry
  exact lt_str (fin_bl I q rfl)
/-- the one string within the other -/
theorem op_in_str : OpR X (compareOp .In) (fun x y H Q => ∃ i j, x = .str i ∧ y = .str j ∧ Q (.bl (!(Builtin.Str.occurrences j i 0 j.length 1).isEmpty)) H) := by
  intro pins s σ H x y v u Q I rx ry h
  obtain ⟨i, j, rfl, rfl, q⟩ := h
  obtain ⟨t, rfl⟩ := rx
  obtain ⟨t', rfl⟩ := ry
  exact in_str (fin_bl I q rfl)

/-- is None, is not None: the right side a value none -/
theorem op_isN : OpR X (compareOp .Is) (fun x y H Q => y = .non ∧ Q (.bl (decide (x = .non))) H) := by
  intro pins s σ H x y v u Q I rx ry h
  obtain ⟨rfl, q⟩ := h
  cases ry
  refine is_none_gen (fin_bl I q ?_)
  cases x <;> first
    | (cases rx; rfl)
    | (obtain ⟨t, rfl⟩ := rx; rfl)
theorem op_notN : OpR X (compareOp .IsNot) (fun x y H Q => y = .non ∧ Q (.bl (!decide (x = .non))) H) := by
  intro pins s σ H x y v u Q I rx ry h
  obtain ⟨rfl, q⟩ := h
  cases ry
  refine isnot_none_gen (fin_bl I q ?_)
  cases x <;> first
    | (cases rx; rfl)
    | (obtain ⟨t, rfl⟩ := rx; rfl)

theorem op_notin_str : OpR X (compareOp .NotIn) (fun x y H Q => ∃ i j, x = .str i ∧ y = .str j ∧ Q (.bl (!(!(Builtin.Str.occurrences j i 0 j.length 1).isEmpty))) H) := by
  intro pins s σ H x y v u Q I rx ry h
  obtain ⟨i, j, rfl, rfl, q⟩ := h
  obtain ⟨t, rfl⟩ := rx
  obtain ⟨t', rfl⟩ := ry
  exact notIn_str (fin_bl I q rfl)
/-- is, is not of two objects that are tracked lists or instances -/
def isObj : HO → Bool
  | .lst _ => true
  | .ins _ _ _ => true
  | _ => false
theorem obj_there {pins : List (Addr × Obj)} {s : Shared} {σ : St} {H : Hp} {a : Addr} {o : HO} (I : Inv X pins σ H s) (h : H a = some o) (p : isObj o = true) : ∃ ob, s.heap.get? a = some ob ∧ ob.cls ≠ .type "tuple" := by
  cases o with
  | lst xs =>
    obtain ⟨_, its, n, _, e⟩ : xs.length ≤ sizeLine ∧ ∃ (its : List Value) (n : Nat), Vals xs its ∧ s.heap.get? a = some { cls := .type "list", data := .seq its.toArray n } := I.hok a _ h
    exact ⟨_, e, (by show Value.type "list" ≠ .type "tuple"; decide +kernel)⟩
  | ins C dx fs =>
    have x := I.hok a _ h
    obtain ⟨_, _, _, e, _⟩ := x
    exact ⟨_, e, (by show Value.ref C ≠ .type "tuple"; exact fun z => by cases z)⟩
  | _ => exact absurd (show false = true from p) Bool.false_ne_true
theorem op_is_ref : OpR X (compareOp .Is) (fun x y H Q => ∃ a b oa ob, x = .ref a ∧ y = .ref b ∧ H a = some oa ∧ isObj oa = true ∧ H b = some ob ∧ isObj ob = true ∧ Q (.bl (decide (a = b))) H) := by
  intro pins s σ H x y v u Q I rx ry h
  obtain ⟨a, b, oa, ob, rfl, rfl, ha, pa, hb, pb, q⟩ := h
  cases rx
  cases ry
  obtain ⟨o1, e1, n1⟩ := obj_there I ha pa
  obtain ⟨o2, e2, _⟩ := obj_there I hb pb
  by_cases z : a = b
  · subst z
    exact wpAny_is_ref_self (fin_bl I q (by simp))
  · exact wpAny_is_ref_other z e1 e2 n1 (fin_bl I q (by simp [z]))
theorem op_isnot_ref : OpR X (compareOp .IsNot) (fun x y H Q => ∃ a b oa ob, x = .ref a ∧ y = .ref b ∧ H a = some oa ∧ isObj oa = true ∧ H b = some ob ∧ isObj ob = true ∧ Q (.bl (!decide (a = b))) H) := by
  intro pins s σ H x y v u Q I rx ry h
  obtain ⟨a, b, oa, ob, rfl, rfl, ha, pa, hb, pb, q⟩ := h
  cases rx
  cases ry
  obtain ⟨o1, e1, n1⟩ := obj_there I ha pa
  obtain ⟨o2, e2, _⟩ := obj_there I hb pb
  by_cases z : a = b
  · subst z
    exact wpAny_isNot_ref_self (fin_bl I q (by simp))
  · exact wpAny_isNot_ref_other z e1 e2 n1 (fin_bl I q (by simp [z]))

/-- two rules for one operation: by cases -/
theorem OpR.or {f : Value → Value → Sem Value} {r r' : R2} (h : OpR X f r) (h' : OpR X f r') : OpR X f (fun x y H Q => r x y H Q ∨ r' x y H Q) := by
  intro pins s σ H x y v u Q I rx ry q
  rcases q with q | q
  · exact h pins s σ H x y v u Q I rx ry q
  · exact h' pins s σ H x y v u Q I rx ry q

theorem nomark (b : Expr) {op : CmpOp} (h : op ≠ .In := by decide) (h2 : op ≠ .NotIn := by decide) : behindInMarks op b = false := by
  have e1 : (op == CmpOp.In) = false := by cases op <;> first | rfl | exact absurd rfl h
  have e2 : (op == CmpOp.NotIn) = false := by cases op <;> first | rfl | exact absurd rfl h2
  cases b <;> simp [behindInMarks, e1, e2]
/-- a comparison as a value; hm: nomark b, or (for in, not in) by with_unfolding_all rfl -/
theorem pe_cmpR {op : CmpOp} {r : R2} (ho : OpR X (compareOp op) r) (ha : PE X a ta) (hb : PE X b tb) (hm : behindInMarks op b = false) : PE X (.Compare a [op] [b] pos) (tOp r ta tb) := by
  intro pins s σ H Q I h
  exact wpAny_Compare1 (binT ha hb I h fun v u s2 x y H2 I2 rx ry q => ho pins s2 σ H2 x y v u Q I2 rx ry q) hm
/-- a reading of a value as a test -/
def tTest (t : TE) : TT := fun σ H Q => t σ H fun x H' => ∃ k, x = .bl k ∧ Q k H'
theorem pt_cmpR {op : CmpOp} {r : R2} (ho : OpR X (compareOp op) r) (ha : PE X a ta) (hb : PE X b tb) (hm : behindInMarks op b = false) : PT X (.Compare a [op] [b] pos) (tTest (tOp r ta tb)) := by
  intro pins s σ H Q I h
  refine wpAny_isTrue_Compare1 (thn (ha pins s σ H _ I h) fun v s1 ⟨x, H1, I1, r1, q1⟩ => thn (hb pins s1 σ H1 _ I1 q1) fun u s2 ⟨y, H2, I2, r2, q2⟩ =>
    thn (ho pins s2 σ H2 x y v u _ I2 r1 r2 q2) fun c s3 ⟨z, H3, I3, r3, k, e, q3⟩ => ?_) hm
  subst e
  cases r3
  exact wpAny_truthy_bool ⟨H3, I3, q3⟩
/-- a op1 b op2 c -/
def tChain (r r' : R2) (ta tb tc : TE) : TE := fun σ H Q => ta σ H fun x H1 => tb σ H1 fun y H2 => r x y H2 fun z H3 => ∃ k, z = .bl k ∧
  (if k = true then tc σ H3 fun w' H4 => r' y w' H4 Q else Q (.bl false) H3)
theorem pe_chain {op op' : CmpOp} {r r' : R2} (ho : OpR X (compareOp op) r) (ho' : OpR X (compareOp op') r') (ha : PE X a ta) (hb : PE X b tb) (hc : PE X c tc)
    (hm : lastMarks [op, op'] [b, c] = false := by with_unfolding_all rfl) : PE X (.Compare a [op, op'] [b, c] pos) (tChain r r' ta tb tc) := by
  intro pins s σ H Q I h
  refine Compare_chain (thn (ha pins s σ H _ I h) fun v s1 ⟨x, H1, I1, r1, q1⟩ => chain_link (thn (hb pins s1 σ H1 _ I1 q1) fun u s2 ⟨y, H2, I2, r2, q2⟩ =>
    thn (ho pins s2 σ H2 x y v u _ I2 r1 r2 q2) fun d s3 ⟨z, H3, I3, r3, k, e, q3⟩ => ?_)) hm
  subst e
  cases r3
  refine wpAny_truthy_bool ?_
  cases k with
  | false => exact ite_ff ⟨.bl false, H3, I3, rfl, q3⟩
  | true => exact ite_tt (chain_last (thn (hc pins s3 σ H3 _ I3 q3) fun w' s4 ⟨z', H4, I4, r4, q4⟩ => ho' pins s4 σ H4 y z' u w' Q I4 r2 r4 q4))
theorem pt_chain {op op' : CmpOp} {r r' : R2} (ho : OpR X (compareOp op) r) (ho' : OpR X (compareOp op') r') (ha : PE X a ta) (hb : PE X b tb) (hc : PE X c tc)
    (hm : lastMarks [op, op'] [b, c] = false := by with_unfolding_all rfl) : PT X (.Compare a [op, op'] [b, c] pos) (tTest (tChain r r' ta tb tc)) := by
  intro pins s σ H Q I h
  refine isTrue_chain (thn (ha pins s σ H _ I h) fun v s1 ⟨x, H1, I1, r1, q1⟩ => test_link (thn (hb pins s1 σ H1 _ I1 q1) fun u s2 ⟨y, H2, I2, r2, q2⟩ =>
    thn (ho pins s2 σ H2 x y v u _ I2 r1 r2 q2) fun d s3 ⟨z, H3, I3, r3, k, e, q3⟩ => ?_)) hm
  subst e
  cases r3
  refine wpAny_truthy_bool ?_
  cases k with
  | false =>
    obtain ⟨k', e', q'⟩ := q3
    cases e'
    exact ite_ff ⟨H3, I3, q'⟩
  | true =>
    refine ite_tt (test_last (thn (hc pins s3 σ H3 _ I3 q3) fun w' s4 ⟨z', H4, I4, r4, q4⟩ => thn (ho' pins s4 σ H4 y z' u w' _ I4 r2 r4 q4) fun d' s5 ⟨z2, H5, I5, r5, k2, e2, q5⟩ => ?_))
    subst e2
    cases r5
    exact wpAny_truthy_bool ⟨H5, I5, q5⟩

/-! ### truth -/
/-- a value's truth by the abstract heap -/
def TruV (K : PySem.W.Frag) (x : V) (H : Hp) (k : Bool) : Prop :=
  match x with
  | .non => k = false
  | .bl b => k = b
  | .int i => k = (i != 0)
  | .str y => y.length ≤ sizeLine ∧ k = ((y.length : Int) != 0)
  | .byt y => y.size ≤ sizeLine ∧ k = ((y.size : Int) != 0)
  | .ref p => (∃ xs, SqL K H p xs ∧ k = !xs.isEmpty) ∨ (∃ xs, SqT K H p xs ∧ k = !xs.isEmpty) ∨ ∃ kvs, H p = some (.dK kvs) ∧ k = !kvs.isEmpty
  | _ => False
theorem isEmpty_kv {κ : Type} {kvs : List (κ × V)} {vs : List (κ × Value)} (r : KV kvs vs) : (!vs.isEmpty) = !kvs.isEmpty := by
  cases r <;> rfl
theorem isEmpty_of {xs : List V} {its : List Value} (r : Vals xs its) : (!its.toArray.isEmpty) = !xs.isEmpty := by
  cases r <;> simp
theorem line63 : (sizeLine : Nat) < 2 ^ 63 := by rw [sizeLine_eq]; decide
theorem tru_ok : TruR X (fun x H Q => ∃ k, TruV X.K x H k ∧ Q k H) := by
  intro pins s σ H x v Q I rx h
  obtain ⟨k, e, q⟩ := h
  have hl := line63
  have hs : sizeLine = 16777216 := sizeLine_eq
  cases x with
  | non =>
    cases rx
    have e' : k = false := e
    subst e'
    exact truthy_none ⟨H, I, q⟩
  | bl b =>
    cases rx
    have e' : k = b := e
    subst e'
    exact wpAny_truthy_bool ⟨H, I, q⟩
  | int i =>
    obtain ⟨t, rfl⟩ := rx
    have e' : k = (i != 0) := e
    subst e'
    exact PySem.P.truthy_int ⟨H, I, q⟩
  | str y =>
    obtain ⟨t, rfl⟩ := rx
    obtain ⟨hy, e'⟩ : y.length ≤ sizeLine ∧ k = ((y.length : Int) != 0) := e
    subst e'
    exact PySem.P.truthy_str (by omega) ⟨H, I.tok _, q⟩
  | byt y =>
    obtain ⟨t, rfl⟩ := rx
    obtain ⟨hy, e'⟩ : y.size ≤ sizeLine ∧ k = ((y.size : Int) != 0) := e
    subst e'
    exact PySem.W.truthy_bytes (by omega) ⟨H, I.tok _, q⟩
  | ref p =>
    cases rx
    have e' : (∃ xs, SqL X.K H p xs ∧ k = !xs.isEmpty) ∨ (∃ xs, SqT X.K H p xs ∧ k = !xs.isEmpty) ∨ ∃ kvs, H p = some (.dK kvs) ∧ k = !kvs.isEmpty := e
    rcases e' with ⟨xs, hx, e'⟩ | ⟨xs, hx, e'⟩ | ⟨kvs, hx, e'⟩
    · subst e'
      obtain ⟨its, r, pl, hz⟩ := I.list hx
      have hlen := r.length
      exact wpAny_truthy_list pl.isList (by simp only [List.size_toArray]; omega) ⟨H, I.tok _, by rw [isEmpty_of r]; exact q⟩
    · subst e'
      obtain ⟨its, r, pl, hz⟩ := I.tuple hx
      have hlen := r.length
      exact truthy_tuple pl (by simp only [List.size_toArray]; omega) ⟨H, I.tok _, by rw [isEmpty_of r]; exact q⟩
    · subst e'
      obtain ⟨hz, hS, vs, r, m⟩ : kvs.length ≤ sizeLine ∧ (p == sysModules) = false ∧ ∃ vs, KV kvs vs ∧ s.heap.DictOf (mixKind X.prog X.w) p vs := I.hok p _ hx
      have hlen : kvs.length = vs.length := Paired.length r
      exact wpAny_truthy_dict hS m (by omega) ⟨H, I.tok _, by rw [isEmpty_kv r]; exact q⟩
  | _ => exact (show False from e).elim
/-- any expression whose test is its value's truth (a name, a call, a subscript, a field ..: he by fun _ => rfl) -/
theorem pt_truth (ha : PE X a ta) (he : ∀ whole, isTrue a X.env whole = (do let v ← whole; standAt a.pos; holding [v] (truthy v))) :
    PT X a (fun σ H Q => ta σ H fun x H' => ∃ k, TruV X.K x H' k ∧ Q k H') := by
  intro pins s σ H Q I h
  exact isTrue_plain (thn (ha pins s σ H _ I h) fun v s1 ⟨x, H1, I1, r1, q1⟩ => tru_ok pins s1 σ H1 x v Q I1 r1 q1) (he _)

/-! ### strs and bytes -/
theorem pe_byt {x : List UInt8} {k : Nat} : PE X (.Constant (.bytes x) k pos) (fun _ H Q => Q (.byt x.toArray) H) := fun _ _ _ H _ I h => PySem.W.Constant_bytes ⟨.byt x.toArray, H, I.tok _, ⟨_, rfl⟩, h⟩
theorem op_add_str : OpR X (binaryOp .Add) (fun x y H Q => ∃ i j, x = .str i ∧ y = .str j ∧ i.length + j.length ≤ sizeLine ∧ Q (.str (i ++ j)) H) := by
  intro pins s σ H x y v u Q I rx ry h
  obtain ⟨i, j, rfl, rfl, hz, q⟩ := h
  obtain ⟨t, rfl⟩ := rx
  obtain ⟨t', rfl⟩ := ry
  exact add_str (fun t' tk => ⟨.str (i ++ j), H, I.tok _, ⟨_, rfl⟩, q⟩) hz
theorem iop_add_str : OpR X (inplaceOp .Add) (fun x y H Q => ∃ i j, x = .str i ∧ y = .str j ∧ i.length + j.length ≤ sizeLine ∧ Q (.str (i ++ j)) H) := by
  intro pins s σ H x y v u Q I rx ry h
  obtain ⟨i, j, rfl, rfl, hz, q⟩ := h
  obtain ⟨t, rfl⟩ := rx
  obtain ⟨t', rfl⟩ := ry
  exact iadd_str (fun t' tk => ⟨.str (i ++ j), H, I.tok _, ⟨_, rfl⟩, q⟩) hz
theorem op_add_byt : OpR X (binaryOp .Add) (fun x y H Q => ∃ i j, x = .byt i ∧ y = .byt j ∧ i.size + j.size ≤ 16777216 ∧ Q (.byt (i ++ j)) H) := by
  intro pins s σ H x y v u Q I rx ry h
  obtain ⟨i, j, rfl, rfl, hz, q⟩ := h
  obtain ⟨t, rfl⟩ := rx
  obtain ⟨t', rfl⟩ := ry
  exact PySem.W.KBy.add_bytes hz (fun t' tk => ⟨.byt (i ++ j), H, I.tok _, ⟨_, rfl⟩, q⟩)

def PlainIxT (b : Expr) : Prop := ∀ o i, subscripted b false o i = operate [o, i] (getItem o i)
/-- s[i], 0 ≤ i < len -/
theorem pe_item_str (ha : PE X a ta) (hb : PE X b tb) (hs : PlainIxT b) :
    PE X (.Subscript a b pos) (tOp (fun x y H Q => ∃ z i c, x = .str z ∧ y = .int i ∧ 0 ≤ i ∧ i < 2 ^ 63 ∧ i < z.length ∧ z.cps[i.toNat]? = some c ∧ Q (.str ⟨#[c]⟩) H) ta tb) := by
  intro pins s σ H Q I h
  refine Subscript_ (binT ha hb I h fun v u s2 x y H2 I2 rx ry q => ?_)
  obtain ⟨z, i, c, rfl, rfl, h0, h63, h1, hc, q⟩ := q
  obtain ⟨t, rfl⟩ := rx
  obtain ⟨t', rfl⟩ := ry
  have e : seqIndex? i z.length = some i.toNat := PySem.StrLaws.seqIndex_nonneg h0 h1
  exact tail_any (typeIs_str s2 z t) slot_str_getitem.lookup (getItem_str (c := c) (by
    have e1 : decide (i < -(2 ^ 63 : Int)) = false := decide_eq_false (by omega)
    have e2 : decide (i ≥ 2 ^ 63) = false := decide_eq_false (by omega)
    rw [e1, e2] <;> rfl) (by rw [e]; exact hc) ⟨.str ⟨#[c]⟩, H2, I2.tok _, ⟨_, rfl⟩, q⟩) (hs _ _)
/-- b[i], 0 ≤ i < len -/
theorem pe_item_byt (ha : PE X a ta) (hb : PE X b tb) (hs : PlainIxT b) :
    PE X (.Subscript a b pos) (tOp (fun x y H Q => ∃ (z : List UInt8) (i : Int), x = .byt z.toArray ∧ y = .int i ∧ z.length ≤ sizeLine ∧ 0 ≤ i ∧ i < z.length ∧ Q (.int ((z.getD i.toNat 0).toNat : Nat)) H) ta tb) := by
  intro pins s σ H Q I h
  refine Subscript_ (binT ha hb I h fun v u s2 x y H2 I2 rx ry q => ?_)
  obtain ⟨z, i, rfl, rfl, hz, h0, h1, q⟩ := q
  obtain ⟨t, rfl⟩ := rx
  obtain ⟨t', rfl⟩ := ry
  have hl : sizeLine = 16777216 := sizeLine_eq
  exact tail_any (PySem.W.typeIs_bytes s2 z.toArray t) PySem.W.FB.slot_bytes_getitem.lookup (PySem.W.getItem_bytes (by omega) h0 h1 ⟨.int ((z.getD i.toNat 0).toNat : Nat), H2, I2.tok _, ⟨_, rfl⟩, q⟩) (hs _ _)

/-! ### scalar builtins, by CallR -/
theorem vals1 {x : V} {us : List Value} (r : Vals [x] us) : ∃ u, us = [u] ∧ RelV x u := by
  cases r with
  | cons r1 r2 => cases r2; exact ⟨_, rfl, r1⟩
theorem vals2 {x y : V} {us : List Value} (r : Vals [x, y] us) : ∃ u w', us = [u, w'] ∧ RelV x u ∧ RelV y w' := by
  cases r with
  | cons r1 r2 =>
    cases r2 with
    | cons r3 r4 => cases r4; exact ⟨_, _, rfl, r1, r3⟩
theorem call_abs : CallR X (.builtin "abs") (fun xs H Q => ∃ i, xs = [.int i] ∧ Q (.int (if i < 0 then -i else i)) H) := by
  intro pins s σ H xs us Q I r h
  obtain ⟨i, rfl, q⟩ := h
  obtain ⟨u, rfl, t, rfl⟩ := vals1 r
  exact call_abs_int fun u tk => ⟨.int (if i < 0 then -i else i), H, I.tok _, ⟨_, rfl⟩, q⟩
theorem call_max2 (hc : X.calm = true) : CallR X (.builtin "max") (fun xs H Q => ∃ i j, xs = [.int i, .int j] ∧ Q (.int (if j > i then j else i)) H) := by
  intro pins s σ H xs us Q I r h
  obtain ⟨i, j, rfl, q⟩ := h
  obtain ⟨u, w', rfl, ⟨t, rfl⟩, ⟨t', rfl⟩⟩ := vals2 r
  refine max_two_ints (I.ok.hd hc) fun h' tk k => ⟨_, H, I.kept k, ?_, q⟩
  by_cases hj : j > i
  · rw [if_pos hj, if_pos hj]; exact ⟨_, rfl⟩
  · rw [if_neg hj, if_neg hj]; exact ⟨_, rfl⟩
theorem call_min2 (hc : X.calm = true) : CallR X (.builtin "min") (fun xs H Q => ∃ i j, xs = [.int i, .int j] ∧ Q (.int (if j < i then j else i)) H) := by
  intro pins s σ H xs us Q I r h
  obtain ⟨i, j, rfl, q⟩ := h
  obtain ⟨u, w', rfl, ⟨t, rfl⟩, ⟨t', rfl⟩⟩ := vals2 r
  refine min_two_ints (I.ok.hd hc) fun h' tk k => ⟨_, H, I.kept k, ?_, q⟩
  by_cases hj : j < i
  · rw [if_pos hj, if_pos hj]; exact ⟨_, rfl⟩
  · rw [if_neg hj, if_neg hj]; exact ⟨_, rfl⟩
theorem call_int1 : CallR X (.type "int") (fun xs H Q => (∃ i, xs = [.int i] ∧ Q (.int i) H) ∨ ∃ k, xs = [.bl k] ∧ Q (.int (if k then 1 else 0)) H) := by
  intro pins s σ H xs us Q I r h
  rcases h with ⟨i, rfl, q⟩ | ⟨k, rfl, q⟩
  · obtain ⟨u, rfl, t, rfl⟩ := vals1 r
    exact call_int_int ⟨.int i, H, I, ⟨_, rfl⟩, q⟩
  · obtain ⟨u, rfl, r1⟩ := vals1 r
    cases r1
    exact call_int_bool ⟨.int (if k then 1 else 0), H, I.tok _, ⟨_, rfl⟩, q⟩
theorem call_bool1 : CallR X (.type "bool") (fun xs H Q => (∃ i, xs = [.int i] ∧ Q (.bl (i != 0)) H) ∨ ∃ k, xs = [.bl k] ∧ Q (.bl k) H) := by
  intro pins s σ H xs us Q I r h
  rcases h with ⟨i, rfl, q⟩ | ⟨k, rfl, q⟩
  · obtain ⟨u, rfl, t, rfl⟩ := vals1 r
    exact call_bool_int ⟨.bl (i != 0), H, I, rfl, q⟩
  · obtain ⟨u, rfl, r1⟩ := vals1 r
    cases r1
    exact call_bool_bool ⟨.bl k, H, I, rfl, q⟩
theorem call_str_int : CallR X (.type "str") (fun xs H Q => ∃ i, xs = [.int i] ∧ i.natAbs.log2 < 1920 ∧ Q (.str (toString i)) H) := by
  intro pins s σ H xs us Q I r h
  obtain ⟨i, rfl, hz, q⟩ := h
  obtain ⟨u, rfl, t, rfl⟩ := vals1 r
  exact PySem.P.str_of_int hz ⟨.str _, H, I.tok _, ⟨_, rfl⟩, q⟩
theorem call_ord : CallR X (.builtin "ord") (fun xs H Q => ∃ x, xs = [.str x] ∧ x.length = 1 ∧ Q (.int (x.cps.getD 0 0 : Nat)) H) := by
  intro pins s σ H xs us Q I r h
  obtain ⟨x, rfl, hz, q⟩ := h
  obtain ⟨u, rfl, t, rfl⟩ := vals1 r
  exact ord_of_one hz ⟨.int _, H, I.tok _, ⟨_, rfl⟩, q⟩
theorem call_chr : CallR X (.builtin "chr") (fun xs H Q => ∃ i, xs = [.int i] ∧ 0 ≤ i ∧ i ≤ 1114111 ∧ Q (.str ⟨#[i.toNat]⟩) H) := by
  intro pins s σ H xs us Q I r h
  obtain ⟨i, rfl, h0, h1, q⟩ := h
  obtain ⟨u, rfl, t, rfl⟩ := vals1 r
  exact chr_of_range h0 h1 ⟨.str _, H, I.tok _, ⟨_, rfl⟩, q⟩
/-- len of a str, a bytes, a list, a tuple -/
def LenV (K : PySem.W.Frag) (x : V) (H : Hp) (n : Nat) : Prop :=
  match x with
  | .str y => y.length ≤ sizeLine ∧ n = y.length
  | .byt y => y.size ≤ sizeLine ∧ n = y.size
  | .ref p => (∃ xs, SqL K H p xs ∧ n = xs.length) ∨ ∃ xs, SqT K H p xs ∧ n = xs.length
  | _ => False
theorem call_len : CallR X (.builtin "len") (fun xs H Q => ∃ x n, xs = [x] ∧ LenV X.K x H n ∧ Q (.int n) H) := by
  intro pins s σ H xs us Q I r h
  obtain ⟨x, n, rfl, e, q⟩ := h
  obtain ⟨u, rfl, rx⟩ := vals1 r
  have hl := line63
  have hs : sizeLine = 16777216 := sizeLine_eq
  cases x with
  | str y =>
    obtain ⟨t, rfl⟩ := rx
    obtain ⟨hy, e'⟩ : y.length ≤ sizeLine ∧ n = y.length := e
    subst e'
    exact len_str (by omega) ⟨.int _, H, I.tok _, ⟨_, rfl⟩, q⟩
  | byt y =>
    obtain ⟨t, rfl⟩ := rx
    obtain ⟨hy, e'⟩ : y.size ≤ sizeLine ∧ n = y.size := e
    subst e'
    exact PySem.W.len_bytes (by omega) ⟨.int _, H, I.tok _, ⟨_, rfl⟩, q⟩
  | ref p =>
    cases rx
    have e' : (∃ xs, SqL X.K H p xs ∧ n = xs.length) ∨ ∃ xs, SqT X.K H p xs ∧ n = xs.length := e
    rcases e' with ⟨xs, hx, e'⟩ | ⟨xs, hx, e'⟩
    · subst e'
      obtain ⟨its, r', pl, hz⟩ := I.list hx
      have hlen := r'.length
      exact Calls.call_len_list pl.isList (by simp only [List.size_toArray]; omega) ⟨.int xs.length, H, I.tok _, ⟨_, by simp only [List.size_toArray]; rw [hlen]⟩, q⟩
    · subst e'
      obtain ⟨its, r', pl, hz⟩ := I.tuple hx
      have hlen := r'.length
      exact len_tuple pl (by simp only [List.size_toArray]; omega) ⟨.int xs.length, H, I.tok _, ⟨_, by simp only [List.size_toArray]; rw [hlen]⟩, q⟩
  | _ => exact (show False from e).elim
/-- divmod: a new tuple -/
theorem call_divmod : CallR X (.builtin "divmod") (fun xs H Q => ∃ i j, xs = [.int i, .int j] ∧ CDiv i j ∧ ∀ p, H p = none → Q (.ref p) (upd H p (.tup [.int (i / j), .int (i % j)]))) := by
  intro pins s σ H xs us Q I r h
  obtain ⟨i, j, rfl, ⟨h1, h2⟩, q⟩ := h
  obtain ⟨u, w', rfl, ⟨t, rfl⟩, ⟨t', rfl⟩⟩ := vals2 r
  refine divmod_int (by omega) ?_ (.inl (PyProof.noPylong_small (by omega)))
  rw [Int.fdiv_eq_ediv_of_nonneg i (by omega), Int.fmod_eq_emod_of_nonneg i (by omega)]
  have hn : H s.heap.objs.size = none := I.hok.fresh (Nat.le_refl _)
  refine ⟨.ref s.heap.objs.size, _, ?_, rfl, q _ hn⟩
  refine I.laid (fun b o e => Heap.get?_push_of_some _ e) (Nat.le_refl _) ⟨by simp only [List.length_cons, List.length_nil]; rw [sizeLine_eq]; decide, [.int (i / j) s.toks, .int (i % j) (s.toks + 1)], .cons ⟨_, rfl⟩ (.cons ⟨_, rfl⟩ .nil), ?_⟩
  exact ⟨_, Heap.get?_push_size s.heap rfl, rfl, 0, rfl⟩
end
end L2

namespace L2
open PySem PySem.Spec PyProof.Rows

/-! ### an instance, its attributes a map -/
structure ObjM (h : Heap) (x dx C : Addr) (mA : Str → Option Value) : Prop where
  obj : h.get? x = some (PySem.W.instObj C dx)
  ns : h.Ns1 dx mA
  ne : dx ≠ x

theorem lookIn_ns {h : Heap} {dx : Addr} {mA : Str → Option Value} (n : h.Ns1 dx mA) : ∃ od, h.get? dx = some od ∧ ∀ name, PySem.W.lookIn name od = some (mA name) := by
  obtain ⟨o, es, ep, ho, hd, hk, _, hm⟩ := n
  refine ⟨o, ho, fun name => ?_⟩
  have e := hm name
  unfold nsFind findBy at e
  rw [← Array.find?_toList] at e
  unfold PySem.W.lookIn
  rw [hd]
  dsimp only
  split
  · rename_i y q
    rw [q] at e
    exact congrArg some e
  · rename_i q
    rw [q] at e
    have a : es.toList.any (·.refKey) = false := by
      rw [List.any_eq_false]
      intro y hy
      obtain ⟨z, t, hkey⟩ := hk y (Array.mem_toList_iff.mp hy)
      simp [DictEntry.refKey, hkey]
    have a' : ¬ es.toList.any (·.refKey) = true := by rw [a]; exact Bool.false_ne_true
    rw [if_neg a']
    exact congrArg some e

theorem ObjM.look {h : Heap} {x dx C : Addr} {mA : Str → Option Value} (I : ObjM h x dx C mA) : ∃ od, PySem.W.InstAt h x (PySem.W.instObj C dx) C (some od) ∧ ∀ name, PySem.W.lookIn name od = some (mA name) :=
  let ⟨od, ho, hl⟩ := lookIn_ns I.ns
  ⟨od, ⟨I.obj, rfl, rfl, ho⟩, hl⟩

section
variable {prog : Program} {w : World} {A : Around} {E : Value → Shared → Prop} {s : Shared} {K : PySem.W.Frag} {x dx C f : Addr} {mA : Str → Option Value} {name : Str} {v : Value}

theorem get_map {expr : Bool} {Q : Value → Shared → Prop} (X : K.In s.heap) (I : ObjM s.heap x dx C mA) (hg : PySem.W.plainGet K C name = true) (hh : PySem.W.hasDictIn K C = true)
    (ha : PySem.W.findIn K (.ref C) name = some none) (hv : mA name = some v) (hv' : PySem.W.handedIn v = true) (h : Q v { s with toks := s.toks + 1 }) :
    wpAny (model prog w) A (getAttr (.ref x) name expr) Q E s := by
  obtain ⟨od, J, hl⟩ := I.look
  exact PySem.W.get_value X J (PySem.W.plainGet_of hg).1 (PySem.W.findObj_own hh ha rfl (by rw [hl, hv])) hv' h

theorem get_const {expr : Bool} {a : Value} {Q : Value → Shared → Prop} (X : K.In s.heap) (I : ObjM s.heap x dx C mA) (hg : PySem.W.plainGet K C name = true) (hh : PySem.W.hasDictIn K C = true)
    (ha : PySem.W.findIn K (.ref C) name = some (some a)) (hn : PySem.W.specialIn K a "__get__" = some none) (hc : PySem.W.copiedNames.contains name = false) (hv : mA name = none) (hv' : PySem.W.handedIn a = true)
    (h : Q a { s with toks := s.toks + 1 }) : wpAny (model prog w) A (getAttr (.ref x) name expr) Q E s := by
  obtain ⟨od, J, hl⟩ := I.look
  exact PySem.W.get_value X J (PySem.W.plainGet_of hg).1 (PySem.W.findObj_cls hh ha hn hv' hc (by rw [hl, hv])) hv' h

theorem get_meth {pl : Sem Bool} {Q : Value × List Value → Shared → Prop} (X : K.In s.heap) (I : ObjM s.heap x dx C mA) (hg : PySem.W.plainGet K C name = true)
    (hf : PySem.W.findIn K (.ref C) name = some (some (.ref f))) (ht : PySem.W.isFn K (.ref f) = true) (hv : mA name = none) (h : Q (.ref f, [.ref x]) s) :
    wpAny (model prog w) A (getMethod (.ref x) name pl) Q E s := by
  obtain ⟨od, J, hl⟩ := I.look
  exact PySem.W.method_fn X J (PySem.W.plainGet_of hg).1 (PySem.W.plainGet_of hg).2 hf (beq_iff_eq.mp ht) (by show (PySem.W.lookIn name od).map (·.isSome) = some false; rw [hl, hv]; rfl) h

theorem set_map {ns : List Str} {Q : Unit → Shared → Prop} (X : K.In s.heap) (I : ObjM s.heap x dx C mA)
    (hs : PySem.W.findIn K (.ref C) "__setattr__" = some (some (.builtin "object.__setattr__"))) (hp : PySem.W.plainOver K C = true) (ht : PySem.W.takerIn K C name = some none) (hh : PySem.W.hasDictIn K C = true)
    (hw : PySem.Within mA ns) (hsz : ns.length ≤ sizeLine)
    (h : ∀ h', ObjM h' x dx C (fun y => if y = name then some v else mA y) → Heap.SameBut dx s.heap h' → Q () { s with heap := h', toks := s.toks + 2 }) :
    wpAny (model prog w) A (setAttr (.ref x) name v) Q E s := by
  obtain ⟨od, J, hl⟩ := I.look
  refine PySem.W.set_plain X J hs (PySem.W.osa_open (s := { s with toks := s.toks + 1 }) (r := none) X J hp ht fun b => ?_)
  obtain ⟨cd, hc, hd'⟩ := PySem.W.any_some hh
  have hx : s.heap.get? x = some ⟨.ref C, some dx, .plain, #[]⟩ := I.obj
  refine wpAny_bind (wpAny_pure (wpAny_bind (wpAny_bind (wpAny_loadPart hx (wpAny_bind (PySem.W.Looks.here (s := { s with toks := s.toks + 1 }) (PySem.W.looks_clsIn X hc) ?_))))))
  rw [hd']
  refine wpAny_pure (a := some dx) (wpAny_bind (wpAny_pure (wpAny_bind ?_)))
  refine wpAny_nsSet1 (s := { s with toks := s.toks + 1 }) I.ns fun h' hn2 hs2 => ?_
  obtain ⟨oD, esD, epD, hoD, hdD, hcD⟩ := hn2.count (PySem.Within.cons name v hw)
  refine wpAny_bind (wpAny_lookBehind hoD (by rw [hdD]; exact pastItsLine_dict (Nat.le_trans hcD (by rw [List.length_cons]; omega))) ?_)
  exact wpAny_pure (h _ ⟨(hs2.2 _ (Ne.symm I.ne)).trans I.obj, hn2, I.ne⟩ hs2)

/-- C(..): the dict at the heap's end, the instance behind it; then its __init__ -/
theorem make_map {R : Result → Shared → Prop} {vs : List Value} {kw : List (Str × Value)} (X : K.In s.heap) (hm : PySem.W.makesIn K C = true)
    (hi : PySem.W.findIn K (.ref C) "__init__" = some (some (.ref f))) (hf : PySem.W.typeIn K (.ref f) = some (.type "function"))
    (h : codeAny (model prog w) (A.under (.builtin "type.__call__" ⟨.ref C :: vs, kw⟩)) (.call (.ref f) ⟨.ref (s.heap.objs.size + 1) :: vs, kw⟩) (PySem.W.InitBack (s.heap.objs.size + 1) R)
      { s with heap := (s.heap.push PySem.W.emptyDict).push (PySem.W.instObj C s.heap.objs.size) }) :
    codeAny (model prog w) A (.call (.ref C) ⟨vs, kw⟩) R s := by
  obtain ⟨hh, g, d, t, os⟩ := s
  exact PySem.W.make_core (PySem.W.makes_of X hm) (PySem.W.looks_findIn X hi) (fun self => PySem.W.bind_fn X self hf) (.inl rfl) h
/-- C() where there is no __init__ but object's -/
theorem make_map0 {R : Result → Shared → Prop} (X : K.In s.heap) (hm : PySem.W.makesIn K C = true)
    (hi : PySem.W.findIn K (.ref C) "__init__" = some (some (.builtin "object.__init__")))
    (hb : ∀ self, PySem.W.Looks (model prog w) s.heap (bindSpecial (.builtin "object.__init__") self) (.builtin "object.__init__", [self]))
    (h : codeAny (model prog w) (A.under (.builtin "type.__call__" ⟨[.ref C], []⟩)) (.call (.builtin "object.__init__") ⟨[.ref (s.heap.objs.size + 1)], []⟩) (PySem.W.InitBack (s.heap.objs.size + 1) R)
      { s with heap := (s.heap.push PySem.W.emptyDict).push (PySem.W.instObj C s.heap.objs.size) }) :
    codeAny (model prog w) A (.call (.ref C) ⟨[], []⟩) R s := by
  obtain ⟨hh, g, d, t, os⟩ := s
  exact PySem.W.make_core (PySem.W.makes_of X hm) (PySem.W.looks_findIn X hi) hb (.inr ⟨rfl, rfl⟩) h
end

/-! ### the attributes as a list of pairs -/
def putF (f : Str) (v : V) : List (Str × V) → List (Str × V)
  | [] => [(f, v)]
  | (g, x) :: r => if g = f then (g, v) :: r else (g, x) :: putF f v r
theorem lookup_putF (f g : Str) (v : V) : ∀ fs : List (Str × V), (putF f v fs).lookup g = if g = f then some v else fs.lookup g
  | [] => by
    show List.lookup g [(f, v)] = _
    by_cases h : g = f
    · have hb : (g == f) = true := beq_iff_eq.mpr h
      simp only [List.lookup, hb, if_pos h]
    · have hb : (g == f) = false := beq_eq_false_iff_ne.mpr h
      simp only [List.lookup, hb, if_neg h]
  | (k, x) :: r => by
    have ih := lookup_putF f g v r
    rw [show putF f v ((k, x) :: r) = (if k = f then (k, v) :: r else (k, x) :: putF f v r) from rfl]
    by_cases hk : k = f
    · rw [if_pos hk]
      by_cases h : g = k
      · have hb : (g == k) = true := beq_iff_eq.mpr h
        simp only [List.lookup, hb, if_pos (h.trans hk)]
      · have hb : (g == k) = false := beq_eq_false_iff_ne.mpr h
        simp only [List.lookup, hb, if_neg (fun e : g = f => h (e.trans hk.symm))]
    · rw [if_neg hk]
      by_cases h : g = k
      · have hb : (g == k) = true := beq_iff_eq.mpr h
        simp only [List.lookup, hb, if_neg (fun e : g = f => hk (h.symm.trans e))]
      · have hb : (g == k) = false := beq_eq_false_iff_ne.mpr h
        simp only [List.lookup, hb]
        exact ih
theorem keys_putF (f : Str) (v : V) : ∀ fs : List (Str × V), f ∈ (putF f v fs).map (·.1) ∧ ∀ g, g ∈ fs.map (·.1) → g ∈ (putF f v fs).map (·.1)
  | [] => ⟨by simp [putF], fun g h => by simp at h⟩
  | (k, x) :: r => by
    obtain ⟨i1, i2⟩ := keys_putF f v r
    rw [show putF f v ((k, x) :: r) = (if k = f then (k, v) :: r else (k, x) :: putF f v r) from rfl]
    by_cases hk : k = f
    · rw [if_pos hk]
      subst hk
      exact ⟨by simp, fun g h => by simpa using h⟩
    · rw [if_neg hk]
      refine ⟨?_, fun g h => ?_⟩
      · rw [List.map_cons]
        exact List.mem_cons_of_mem _ i1
      · rw [List.map_cons] at h ⊢
        rcases List.mem_cons.mp h with e | e
        · exact List.mem_cons.mpr (.inl e)
        · exact List.mem_cons_of_mem _ (i2 g e)
theorem length_putF (f : Str) (v : V) : ∀ fs : List (Str × V), (putF f v fs).length ≤ fs.length + 1
  | [] => by simp [putF]
  | (k, x) :: r => by
    have ih := length_putF f v r
    rw [show putF f v ((k, x) :: r) = (if k = f then (k, v) :: r else (k, x) :: putF f v r) from rfl]
    by_cases hk : k = f
    · rw [if_pos hk, List.length_cons, List.length_cons]; omega
    · rw [if_neg hk, List.length_cons, List.length_cons]; omega

theorem RelO.some_of {v : V} {o : Option Value} (r : RelO (some v) o) : ∃ u, o = some u ∧ RelV v u := by
  cases o with
  | none => exact (show False from r).elim
  | some u => exact ⟨u, rfl, r⟩
theorem RelO.none_of {o : Option Value} (r : RelO none o) : o = none := by
  cases o with
  | none => rfl
  | some u => exact (show False from r).elim
theorem handed_of {v : V} {u : Value} (r : RelV v u) : PySem.W.handedIn u = true := by
  cases v with
  | non => cases (show u = Value.none from r); rfl
  | bl b => cases (show u = Value.bool b from r); rfl
  | int i => obtain ⟨t, e⟩ := (show ∃ t, u = Value.int i t from r); cases e; rfl
  | str x => obtain ⟨t, e⟩ := (show ∃ t, u = Value.str x t from r); cases e; rfl
  | byt b => obtain ⟨t, e⟩ := (show ∃ t, u = Value.bytes b t from r); cases e; rfl
  | flt b => obtain ⟨t, e⟩ := (show ∃ t, u = Value.float b t from r); cases e; rfl
  | ref a => cases (show u = Value.ref a from r); rfl
  | ty n => cases (show u = Value.type n from r); rfl

section
variable {P : Program} {w : World} {H H' : Hp} {h h' : Heap} {a C dx : Addr} {fs fs' : List (Str × V)}
theorem ins_get (hok : HOk P w H h) (e : H a = some (.ins C dx fs)) : ∃ mA, ObjM h a dx C mA ∧ (∀ f, RelO (fs.lookup f) (mA f)) ∧ PySem.Within mA (fs.map (·.1)) ∧ fs.length ≤ 1000 ∧ H dx = some (.own a) := by
  obtain ⟨d, z, ne, ob, mA, n, r, q⟩ := (show ObjOk P w H h a (.ins C dx fs) from hok a _ e)
  exact ⟨mA, ⟨ob, n, ne⟩, r, q, z, d⟩
end

/-! ### what of the text a class must have -/
structure Cls (K : PySem.W.Frag) (C : Addr) : Prop where
  pg : PySem.W.plainGet K C Str.empty = true
  hd : PySem.W.hasDictIn K C = true
  po : PySem.W.plainOver K C = true
  sa : PySem.W.findIn K (.ref C) "__setattr__" = some (some (.builtin "object.__setattr__"))
theorem Cls.get {K : PySem.W.Frag} {C : Addr} (c : Cls K C) (f : Str) : PySem.W.plainGet K C f = true := c.pg
/-- no class of it has the name -/
def NoAttr (K : PySem.W.Frag) (C : Addr) (f : Str) : Prop := PySem.W.findIn K (.ref C) f = some none
theorem NoAttr.taker {K : PySem.W.Frag} {C : Addr} {f : Str} (n : NoAttr K C f) : PySem.W.takerIn K C f = some none := by
  unfold PySem.W.takerIn
  rw [show PySem.W.findIn K (.ref C) f = some none from n]
  rfl
/-- a constant of the class -/
structure Con (K : PySem.W.Frag) (C : Addr) (f : Str) (v : V) (u : Value) : Prop where
  at_ : PySem.W.findIn K (.ref C) f = some (some u)
  rel : RelV v u
  get : PySem.W.specialIn K u "__get__" = some none
  cp : PySem.W.copiedNames.contains f = false
/-- a method: a plain def of the class or of one above it -/
structure Meth (K : PySem.W.Frag) (C : Addr) (m : Str) (f : Addr) : Prop where
  at_ : PySem.W.findIn K (.ref C) m = some (some (.ref f))
  fn : PySem.W.isFn K (.ref f) = true
  kp : PySem.W.keepIn K (.ref f) = true

section
variable {X : Cx} {pins : List (Addr × Obj)} {σ : St} {H : Hp} {s : Shared} {a C dx : Addr} {fs : List (Str × V)} {f : Str} {v : V} {A : Around} {E : Value → Shared → Prop}

theorem getattr_ok {b : Bool} {Q : Value → Shared → Prop} (I : Inv X pins σ H s) (e : H a = some (.ins C dx fs)) (c : Cls X.K C) (n : NoAttr X.K C f) (l : fs.lookup f = some v)
    (h : ∀ u s', Inv X pins σ H s' → RelV v u → Q u s') : wpAny (model X.prog X.w) A (getAttr (.ref a) f b) Q E s := by
  obtain ⟨mA, O, r, _, _, _⟩ := ins_get I.hok e
  obtain ⟨u, hu, ru⟩ := RelO.some_of (v := v) (o := mA f) (by rw [← l]; exact r f)
  exact get_map I.kIn O (c.get f) c.hd n hu (handed_of ru) (h u _ (I.tok _) ru)

theorem getcon_ok {b : Bool} {u : Value} {Q : Value → Shared → Prop} (I : Inv X pins σ H s) (e : H a = some (.ins C dx fs)) (c : Cls X.K C) (k : Con X.K C f v u) (l : fs.lookup f = none)
    (h : ∀ s', Inv X pins σ H s' → Q u s') : wpAny (model X.prog X.w) A (getAttr (.ref a) f b) Q E s := by
  obtain ⟨mA, O, r, _, _, _⟩ := ins_get I.hok e
  have hn : mA f = none := RelO.none_of (by rw [← l]; exact r f)
  exact get_const I.kIn O (c.get f) c.hd k.at_ k.get k.cp hn (handed_of k.rel) (h _ (I.tok _))

theorem getmeth_ok {m : Str} {g : Addr} {pl : Sem Bool} {Q : Value × List Value → Shared → Prop} (I : Inv X pins σ H s) (e : H a = some (.ins C dx fs)) (c : Cls X.K C) (k : Meth X.K C m g) (l : fs.lookup m = none)
    (h : Q (.ref g, [.ref a]) s) : wpAny (model X.prog X.w) A (getMethod (.ref a) m pl) Q E s := by
  obtain ⟨mA, O, r, _, _, _⟩ := ins_get I.hok e
  have hn : mA m = none := RelO.none_of (by rw [← l]; exact r m)
  exact get_meth I.kIn O (c.get m) k.at_ k.fn hn h

theorem setattr_ok {y : V} {u : Value} {Q : Unit → Shared → Prop} (I : Inv X pins σ H s) (e : H a = some (.ins C dx fs)) (c : Cls X.K C) (n : NoAttr X.K C f) (hl : fs.length < 1000) (ry : RelV y u)
    (h : ∀ s', Inv X pins σ (upd H a (.ins C dx (putF f y fs))) s' → Q () s') : wpAny (model X.prog X.w) A (setAttr (.ref a) f u) Q E s := by
  obtain ⟨mA, O, r, wi, _, ho⟩ := ins_get I.hok e
  have hz : (fs.map (·.1)).length ≤ sizeLine := by rw [List.length_map, sizeLine_eq]; omega
  refine set_map I.kIn O c.sa c.po n.taker c.hd wi hz fun h' O' sb => h _ ?_
  have hd : ∃ o, h'.get? dx = some o := let ⟨o, _, _, e', _⟩ := O'.ns; ⟨o, e'⟩
  refine I.write (x := a) (e := dx) (by rw [e]; exact True.intro) (.inr ho) (fun b q hb z => (sb.2 b hb).trans z) hd ?_
  refine ⟨by rw [upd_ne O.ne]; exact ho, ?_, O.ne, O'.obj, _, O'.ns, fun g => ?_, fun g hg => ?_⟩
  · have := length_putF f y fs; omega
  · show RelO ((putF f y fs).lookup g) (if g = f then some u else mA g)
    rw [lookup_putF]
    by_cases q : g = f
    · rw [if_pos q, if_pos q]; exact ry
    · rw [if_neg q, if_neg q]; exact r g
  · by_cases q : g = f
    · rw [q]; exact (keys_putF f y fs).1
    · refine (keys_putF f y fs).2 g (wi g fun z => hg ?_)
      show (if g = f then some u else mA g) = none
      rw [if_neg q]; exact z

/-- a new instance, tracked, without attributes -/
theorem Inv.made (I : Inv X pins σ H s) : Inv X pins σ (upd (upd H s.heap.objs.size (.own (s.heap.objs.size + 1))) (s.heap.objs.size + 1) (.ins C s.heap.objs.size []))
    { s with heap := (s.heap.push PySem.W.emptyDict).push (PySem.W.instObj C s.heap.objs.size) } := by
  have e1 : (s.heap.push PySem.W.emptyDict).get? s.heap.objs.size = some PySem.W.emptyDict := Heap.get?_push_size s.heap rfl
  have e2 : ((s.heap.push PySem.W.emptyDict).push (PySem.W.instObj C s.heap.objs.size)).get? (s.heap.objs.size + 1) = some (PySem.W.instObj C s.heap.objs.size) := by
    have := Heap.get?_push_size (s.heap.push PySem.W.emptyDict) (o := PySem.W.instObj C s.heap.objs.size) rfl
    rwa [Heap.size_push] at this
  have e3 : (s.heap.push PySem.W.emptyDict).Ns s.heap.objs.size (fun _ => none) := ⟨PySem.W.emptyDict, #[], _, e1, rfl, (fun e he => absurd he (by simp)), fun _ => rfl⟩
  have I1 := I.laid (a := s.heap.objs.size) (o := .own (s.heap.objs.size + 1)) (h' := s.heap.push PySem.W.emptyDict) (t' := s.toks) (fun b u q => Heap.get?_push_of_some _ q) (Nat.le_refl _) ⟨_, e1⟩
  refine I1.laid (a := s.heap.objs.size + 1) (o := .ins C s.heap.objs.size []) (t' := s.toks) (fun b u q => Heap.get?_push_of_some _ q) (Nat.le_of_eq (Heap.size_push _ _)) ?_
  have ne : s.heap.objs.size ≠ s.heap.objs.size + 1 := Nat.ne_of_lt (Nat.lt_succ_self _)
  refine ⟨by rw [upd_ne ne, upd_same], Nat.zero_le _, ne, e2, fun _ => none, (Heap.Ns1.of_empty e3).at fun o q => Heap.get?_push_of_some _ q, fun _ => True.intro, fun y hy => absurd rfl hy⟩

/-- e.f where nothing but the object is asked: through attributeBase (super) and the last hold -/
theorem attr_of {prog : Program} {w : World} {env : Env} {e : Expr} {f : Str} {pos : Pos} {s : Shared} {Q : Value → Shared → Prop} (hb : attributeBase e f env (eval e env) = eval e env)
    (h : wpAny (model prog w) A (eval e env) (fun o s₁ => wpAny (model prog w) A (getAttr o f true) Q E s₁) E s) : wpAny (model prog w) A (eval (.Attribute e f pos) env) Q E s :=
  Attribute_any_ h (by rw [arm_eval_Attribute, hb])
end

/-! ### readings and rules -/
/-- e.f, an attribute of the instance -/
def tFld (K : PySem.W.Frag) (ta : TE) (f : Str) : TE := fun σ H Q => ta σ H fun x H1 => ∃ a C dx fs v, x = .ref a ∧ H1 a = some (.ins C dx fs) ∧ Cls K C ∧ NoAttr K C f ∧ fs.lookup f = some v ∧ Q v H1
/-- e.f, a constant of the class -/
def tCon (K : PySem.W.Frag) (ta : TE) (f : Str) : TE := fun σ H Q => ta σ H fun x H1 => ∃ a C dx fs v u, x = .ref a ∧ H1 a = some (.ins C dx fs) ∧ Cls K C ∧ Con K C f v u ∧ fs.lookup f = none ∧ Q v H1
/-- e.f = value -/
def sFld (K : PySem.W.Frag) (ta tv : TE) (f : Str) : TS := fun D σ H => tv σ H fun y H1 => ta σ H1 fun x H2 => ∃ a C dx fs, x = .ref a ∧ H2 a = some (.ins C dx fs) ∧ Cls K C ∧ NoAttr K C f ∧ fs.length < 1000 ∧
  D.nx σ (upd H2 a (.ins C dx (putF f y fs)))
/-- an augmented operator on two values -/
def InOp (X : Cx) (op : Operator) (rd : V → V → Hp → VK → Prop) : Prop :=
  ∀ (pins : List (Addr × Obj)) (s : Shared) (σ : St) (H : Hp) (x y : V) (u v : Value) (Q : VK), Inv X pins σ H s → RelV x u → RelV y v → rd x y H Q → wpAny (model X.prog X.w) X.A (inplaceOp op u v) (EP X pins σ Q) X.xe s
/-- e.f op= value -/
def sFldAug (K : PySem.W.Frag) (ta tv : TE) (rd : V → V → Hp → VK → Prop) (f : Str) : TS := fun D σ H => ta σ H fun x H1 => ∃ a C dx fs v, x = .ref a ∧ H1 a = some (.ins C dx fs) ∧ Cls K C ∧ NoAttr K C f ∧ fs.lookup f = some v ∧
  tv σ H1 fun y H2 => rd v y H2 fun z H3 => ∃ dx' fs', H3 a = some (.ins C dx' fs') ∧ fs'.length < 1000 ∧ D.nx σ (upd H3 a (.ins C dx' (putF f z fs')))

section
variable {X : Cx} {o e value : Expr} {f : Str} {pos pos' tpos : Pos} {ta tv : TE}
theorem pe_fld (he : PE X e ta) (hb : attributeBase e f X.env (eval e X.env) = eval e X.env) : PE X (.Attribute e f pos) (tFld X.K ta f) := by
  intro pins s σ H Q I h
  refine attr_of hb (thn (he pins s σ H _ I h) fun u s1 ⟨x, H1, I1, rx, a, C, dx, fs, v, ex, ea, c, n, l, q⟩ => ?_)
  subst ex
  obtain rfl : u = Value.ref a := rx
  exact getattr_ok I1 ea c n l fun u' s2 I2 ru => ⟨v, H1, I2, ru, q⟩
theorem pe_con (he : PE X e ta) (hb : attributeBase e f X.env (eval e X.env) = eval e X.env) : PE X (.Attribute e f pos) (tCon X.K ta f) := by
  intro pins s σ H Q I h
  refine attr_of hb (thn (he pins s σ H _ I h) fun u s1 ⟨x, H1, I1, rx, a, C, dx, fs, v, u0, ex, ea, c, k, l, q⟩ => ?_)
  subst ex
  obtain rfl : u = Value.ref a := rx
  exact getcon_ok I1 ea c k l fun s2 I2 => ⟨v, H1, I2, k.rel, q⟩
theorem ps_fld (ha : PE X o ta) (hv : PE X value tv) (hs : swapsWith value (some (.Attribute o f pos')) pos.line X.env = pure false) : PS X (.Assign [.Attribute o f pos'] value pos) (sFld X.K ta tv f) := by
  intro pins s σ H D I h
  refine plainObj_wpAny_Assign_Attribute (thn (hv pins s σ H _ I h) fun u s1 ⟨y, H1, I1, ry, q⟩ => thn (ha pins s1 σ H1 _ I1 q) fun ov s2 ⟨x, H2, I2, rx, a, C, dx, fs, ex, ea, c, n, l, q2⟩ => ?_) hs
  subst ex
  obtain rfl : ov = Value.ref a := rx
  exact setattr_ok I2 ea c n l ry fun s3 I3 => ⟨σ, _, I3, q2⟩
theorem ps_fldaug {op : Operator} {rd : V → V → Hp → VK → Prop} (ha : PE X o ta) (hv : PE X value tv) (hop : InOp X op rd) : PS X (.AugAssign (.Attribute o f tpos) op value pos) (sFldAug X.K ta tv rd f) := by
  intro pins s σ H D I h
  refine wpAny_AugAssign_AttributeAny (thn (ha pins s σ H _ I h) fun ov s1 ⟨x, H1, I1, rx, a, C, dx, fs, v, ex, ea, c, n, l, q⟩ => ?_)
  subst ex
  obtain rfl : ov = Value.ref a := rx
  refine getattr_ok I1 ea c n l fun u s2 I2 ru => thn (hv pins s2 σ H1 _ I2 q) fun w3 s3 ⟨y, H2, I3, ry, q3⟩ => thn (hop pins s3 σ H2 v y u w3 _ I3 ru ry q3) fun w4 s4 ⟨z, H3, I4, rz, dx', fs', ea', l', q4⟩ => ?_
  exact setattr_ok I4 ea' c n l' rz fun s5 I5 => ⟨σ, _, I5, q4⟩
def rAdd : V → V → Hp → VK → Prop := fun x y H Q => ∃ i j, x = .int i ∧ y = .int j ∧ Q (.int (i + j)) H
def rSub : V → V → Hp → VK → Prop := fun x y H Q => ∃ i j, x = .int i ∧ y = .int j ∧ Q (.int (i - j)) H
theorem in_add : InOp X .Add rAdd := by
  rintro pins s σ H x y u v Q I rx ry ⟨i, j, rfl, rfl, q⟩
  obtain ⟨t, rfl⟩ := (show ∃ t, u = Value.int i t from rx)
  obtain ⟨t', rfl⟩ := (show ∃ t', v = Value.int j t' from ry)
  exact PyProof.Rows.iadd_int ⟨.int (i + j), H, I.tok _, ⟨_, rfl⟩, q⟩
theorem in_sub : InOp X .Sub rSub := by
  rintro pins s σ H x y u v Q I rx ry ⟨i, j, rfl, rfl, q⟩
  obtain ⟨t, rfl⟩ := (show ∃ t, u = Value.int i t from rx)
  obtain ⟨t', rfl⟩ := (show ∃ t', v = Value.int j t' from ry)
  exact PyProof.Rows.isub_int ⟨.int (i - j), H, I.tok _, ⟨_, rfl⟩, q⟩

/-- what is between an instance and its method: the tree of a method call -/
theorem methcall_of {pl : Sem Bool} {m : Str} {apos : Pos} {args : List Expr} {pins : List (Addr × Obj)} {s : Shared} {σ : St} {H : Hp} {Q : Value → Shared → Prop} {te : TE} (he : PE X e te) (I : Inv X pins σ H s)
    (h : te σ H fun x H1 => ∃ a C dx fs g, x = .ref a ∧ H1 a = some (.ins C dx fs) ∧ Cls X.K C ∧ Meth X.K C m g ∧ fs.lookup m = none ∧
      ∀ s1, Inv X pins σ H1 s1 → wpAny (model X.prog X.w) X.A (callWith pos (.ref g) [.ref a] (backTo pos (starEach args X.env)) (backToKw pos (keywordEach [] X.env))) Q X.xe s1)
    (ht : eval (.Call (.Attribute e m apos) args [] pos) X.env = (do
      let ov ← eval e X.env
      standAt apos.atName
      let (f, first) ← holding [ov] (getMethod ov m pl)
      callWith pos f first (backTo pos (starEach args X.env)) (backToKw pos (keywordEach [] X.env)))) :
    wpAny (model X.prog X.w) X.A (eval (.Call (.Attribute e m apos) args [] pos) X.env) Q X.xe s := by
  refine PySem.W.methodCall_KW (pl := pl) (thn (he pins s σ H _ I h) fun u s1 ⟨x, H1, I1, rx, a, C, dx, fs, g, ex, ea, c, k, l, q⟩ => ?_) ht
  subst ex
  obtain rfl : u = Value.ref a := rx
  exact getmeth_ok I1 ea c k l (q s1 I1)
end

/-! ### isinstance -/
section
variable {X : Cx} {pins : List (Addr × Obj)} {σ : St} {H : Hp} {s : Shared} {A : Around} {E : Value → Shared → Prop} {Q : Value → Shared → Prop} {c : Value} {b : Bool}
/-- the type of a value, as the fragment's deciders take it; for an instance its class -/
inductive TyOf (K : PySem.W.Frag) (H : Hp) : V → Value → Prop where
  | non : TyOf K H .non (.type "NoneType")
  | bl (x : Bool) : TyOf K H (.bl x) (.type "bool")
  | int (i : Int) : TyOf K H (.int i) (.type "int")
  | str (x : Str) : TyOf K H (.str x) (.type "str")
  | flt (x : UInt64) : TyOf K H (.flt x) (.type "float")
  | lst {a : Addr} {xs : List V} (e : H a = some (.lst xs)) : TyOf K H (.ref a) (.type "list")
  | frz {a : Addr} {o : Obj} {xs : List V} (e : H a = some (.frz o (.lst xs))) : TyOf K H (.ref a) (.type "list")
  | tup {a : Addr} {xs : List V} (e : H a = some (.tup xs)) : TyOf K H (.ref a) (.type "tuple")
  | dK {a : Addr} {kvs : List (Key × V)} (e : H a = some (.dK kvs)) : TyOf K H (.ref a) (.type "dict")
  | dT {a : Addr} {kvs : List (List Key × V)} (e : H a = some (.dT kvs)) : TyOf K H (.ref a) (.type "dict")
  | ins {a C dx : Addr} {fs : List (Str × V)} (e : H a = some (.ins C dx fs)) (cl : Cls K C) (ha : PySem.W.findIn K (.ref C) "__class__" = some (some (.builtin "object.__class__")))
      (hn : PySem.W.specialIn K (.builtin "object.__class__") "__get__" = some (some (.builtin "getset_descriptor.__get__"))) (htk : PySem.W.takesIn K (.builtin "object.__class__") = some true)
      (hm : PySem.W.mroIn K C (.type "object") = some true) : TyOf K H (.ref a) (.ref C)
/-- isinstance(x, c) for one class c, a built-in or an own one: kitOne's answer -/
theorem isinst_ok {x : V} {u t : Value} (I : Inv X pins σ H s) (rx : RelV x u) (ty : TyOf X.K H x t) (e : PySem.W.kitOne X.K t c = some b) (h : ∀ tk, Q (.bool b) { s with toks := tk }) :
    wpAny (model X.prog X.w) A (call (.builtin "isinstance") [u, c]) Q E s := by
  cases ty with
  | non => cases (show u = Value.none from rx); exact PySem.W.kia_one PySem.W.kitx_none I.kIn True.intro e (fun z => nomatch z) h
  | bl y => cases (show u = Value.bool y from rx); exact PySem.W.kia_one PySem.W.kitx_bool I.kIn True.intro e (fun z => nomatch z) h
  | int i => obtain ⟨t, q⟩ := (show ∃ t, u = Value.int i t from rx); cases q; exact PySem.W.kia_one PySem.W.kitx_int I.kIn True.intro e (fun z => nomatch z) h
  | str y => obtain ⟨t, q⟩ := (show ∃ t, u = Value.str y t from rx); cases q; exact PySem.W.kia_one PySem.W.kitx_str I.kIn True.intro e (fun z => nomatch z) h
  | flt y => obtain ⟨t, q⟩ := (show ∃ t, u = Value.float y t from rx); cases q; exact PySem.W.kia_one PySem.W.kitx_float I.kIn True.intro e (fun z => nomatch z) h
  | @lst a xs ea =>
    cases (show u = Value.ref a from rx)
    obtain ⟨_, _, n, _, h1⟩ := (show ObjOk X.prog X.w H s.heap a (.lst xs) from I.hok a _ ea)
    exact PySem.W.kia_one PySem.W.kitx_list I.kIn ⟨_, h1, rfl⟩ e (fun z => nomatch z) h
  | @frz a ob xs ea =>
    cases (show u = Value.ref a from rx)
    obtain ⟨_, _, _, n, _, h1⟩ := (show ObjOk X.prog X.w H s.heap a (.frz ob (.lst xs)) from I.hok a _ ea)
    exact PySem.W.kia_one PySem.W.kitx_list I.kIn ⟨_, h1, rfl⟩ e (fun z => nomatch z) h
  | @tup a xs ea =>
    cases (show u = Value.ref a from rx)
    obtain ⟨_, _, _, p⟩ := (show ObjOk X.prog X.w H s.heap a (.tup xs) from I.hok a _ ea)
    obtain ⟨o, h1, h2, _⟩ := p
    exact PySem.W.kia_one PySem.W.kitx_tuple I.kIn ⟨o, h1, h2⟩ e (fun z => nomatch z) h
  | @dK a kvs ea =>
    cases (show u = Value.ref a from rx)
    obtain ⟨_, _, vs, _, p⟩ := (show ObjOk X.prog X.w H s.heap a (.dK kvs) from I.hok a _ ea)
    obtain ⟨o, es, ep, h1, h2, _⟩ := p
    exact PySem.W.kia_one PySem.W.kitx_dict I.kIn ⟨o, h1, h2.1⟩ e (fun z => nomatch z) h
  | @dT a kvs ea =>
    cases (show u = Value.ref a from rx)
    obtain ⟨_, _, xs, _, o, es, ep, h1, h2, _⟩ := (show ObjOk X.prog X.w H s.heap a (.dT kvs) from I.hok a _ ea)
    exact PySem.W.kia_one PySem.W.kitx_dict I.kIn ⟨o, h1, h2.1⟩ e (fun z => nomatch z) h
  | @ins a C dx fs ea cl ha hn htk hm =>
    cases (show u = Value.ref a from rx)
    obtain ⟨mA, O, _⟩ := ins_get I.hok ea
    obtain ⟨od, J, _⟩ := O.look
    exact PySem.W.kia_one (PySem.W.kitx_own (cl.get _) cl.hd ha hn htk hm) I.kIn J e (fun z => nomatch z) h
end
end L2

namespace L2
open PySem PySem.Spec PyProof.Rows

/-! ### room -/
structure Room (k : Nat) (A : Around) : Prop where
  hd : A.handled = none
  dp : A.depth + 3 * k + 5 < recursionLimit
  un : A.units + 16 * k + 200 < cLine
theorem Room.mono {j k : Nat} {A : Around} (r : Room k A) (h : j ≤ k) : Room j A := ⟨r.hd, by have := r.dp; omega, by have := r.un; omega⟩
theorem Room.deeper {k : Nat} {A : Around} (r : Room (k + 1) A) (env : Env) : Room k (A.deeper env) :=
  ⟨r.hd, by have := r.dp; show A.depth + 1 + 3 * k + 5 < _; omega, by have := r.un; show A.units + 3 + 16 * k + 200 < _; omega⟩
theorem Room.in1 {k : Nat} {A : Around} (r : Room (k + 1) A) : Room k A.in1 :=
  ⟨r.hd, by have := r.dp; show A.depth + 3 * k + 5 < _; omega, by have := r.un; show A.units + 1 + 16 * k + 200 < _; omega⟩
theorem make_depth {A : Around} {C : Addr} {us : List Value} {kw : List (Str × Value)} : (A.under (.builtin "type.__call__" ⟨.ref C :: us, kw⟩)).depth = A.depth + 1 := by
  first | rfl | simp [Around.under, Code.weight, Code.isCreation, Code.isGuard, Code.isCaller, Code.frames, Code.isFrame, guardIds]
theorem make_units {A : Around} {C : Addr} {us : List Value} {kw : List (Str × Value)} : (A.under (.builtin "type.__call__" ⟨.ref C :: us, kw⟩)).units = A.units + 1 := by
  first | rfl | simp [Around.under, Code.cUnits, Code.frames, Code.isFrame]
theorem Room.make {k : Nat} {A : Around} (r : Room (k + 1) A) (C : Addr) (us : List Value) (kw : List (Str × Value)) : Room k (A.under (.builtin "type.__call__" ⟨.ref C :: us, kw⟩)) :=
  ⟨r.hd, by have := r.dp; rw [make_depth]; omega, by have := r.un; rw [make_units]; omega⟩
theorem Room.depth {k : Nat} {A : Around} (r : Room k A) : A.depth < recursionLimit := by have := r.dp; omega
theorem Room.units {k : Nat} {A : Around} (r : Room k A) : A.units + 64 < cLine := by have := r.un; omega
theorem Room.units0 {k : Nat} {A : Around} (r : Room k A) : A.units < cLine := by have := r.un; omega

/-! ### argument lists and displays -/
def tNil : TA := fun _ H Q => Q [] H
def tCons (ta : TE) (tr : TA) : TA := fun σ H Q => ta σ H fun x H1 => tr σ H1 fun xs H2 => Q (x :: xs) H2
section
variable {X : Cx} {e : Expr} {es : List Expr} {te : TE} {t : TA} {pos : Pos}
theorem pa_nil : PA X [] tNil := fun _ _ _ _ H Q I h => Calls.spliced_nil ⟨[], H, I, .nil, h⟩
theorem pa_cons (ha : PE X e te) (hr : PA X es t) (hs : starEach (e :: es) X.env = (false, eval e X.env) :: starEach es X.env := by rfl) : PA X (e :: es) (tCons te t) := by
  intro pos pins s σ H Q I h
  rw [hs]
  show wpAny _ _ (spliced ((false, eval e X.env) :: backTo pos (starEach es X.env))) _ _ s
  refine Calls.spliced_cons (thn (ha pins s σ H _ I h) fun u s1 ⟨x, H1, I1, r1, q1⟩ => ?_)
  exact thn (hr pos pins s1 σ H1 _ I1 q1) fun us s2 ⟨xs, H2, I2, r2, q2⟩ => ⟨x :: xs, H2, I2, .cons r1 r2, q2⟩

/-- a tuple, a list of written items -/
def tTup (t : TA) : TE := fun σ H Q => t σ H fun xs H1 => xs.length ≤ sizeLine ∧ ∀ p, H1 p = none → Q (.ref p) (upd H1 p (.tup xs))
def tLst (t : TA) : TE := fun σ H Q => t σ H fun xs H1 => xs.length ≤ sizeLine ∧ ∀ p, H1 p = none → Q (.ref p) (upd H1 p (.lst xs))
theorem pe_tup {x1} (h : PA X es t) : PE X (.Tuple es x1 pos) (tTup t) := by
  intro pins s σ H Q I hq
  refine wpAny_Tuple_spliced (thn (h pos pins s σ H _ I hq) fun us s1 ⟨xs, H1, I1, r, z, q⟩ => ⟨by rw [← r.length]; exact z, ?_⟩)
  have hf : H1 s1.heap.objs.size = none := I1.hok.fresh (Nat.le_refl _)
  refine ⟨.ref s1.heap.objs.size, upd H1 s1.heap.objs.size (.tup xs), I1.laid (t' := s1.toks) (fun b u e => Heap.get?_push_of_some _ e) (Nat.le_refl _) ?_, rfl, q _ hf⟩
  exact ⟨z, us, r, ⟨_, Heap.get?_push_size _ rfl, rfl, _, rfl⟩⟩
theorem pe_lst (h : PA X es t) : PE X (.List es pos) (tLst t) := by
  intro pins s σ H Q I hq
  refine wpAny_List_spliced (thn (h pos pins s σ H _ I hq) fun us s1 ⟨xs, H1, I1, r, z, q⟩ => ⟨by rw [← r.length]; exact z, ?_⟩)
  have hf : H1 s1.heap.objs.size = none := I1.hok.fresh (Nat.le_refl _)
  refine ⟨.ref s1.heap.objs.size, upd H1 s1.heap.objs.size (.lst xs), I1.laid (t' := s1.toks) (fun b u e => Heap.get?_push_of_some _ e) (Nat.le_refl _) ?_, rfl, q _ hf⟩
  exact ⟨z, us, 0, r, Heap.get?_push_size _ rfl⟩
end

/-! ### what a def promises -/
/-- a def's promise: the bound arguments in the parameters' order, the heap, the wanted end, the wanted exception -/
abbrev Sp := List V → Hp → VK → XK → Prop
/-- how an exception lies behind a call (file 08 gives it): the callers' frames, abstract heap and state ahead of the call, the wish, the exception, the state -/
abbrev CXT := List Env → Hp → Shared → XK → Value → Shared → Prop

/-- the state at a call -/
structure Env0 (P : Program) (w : World) (K : PySem.W.Frag) (mg : Str → Option Value) (base : Heap) (A : Around) (outer : List Env) (s : Shared) (H : Hp) : Prop where
  frames : A.frames = some outer
  mod : Mod K mg base
  bs : ∀ b o, base.get? b = some o → s.heap.get? b = some o ∧ H b = none
  bsz : base.objs.size ≤ s.heap.objs.size
  funs : s.heap.FunFrames base outer
  frf : ∀ b ∈ frs outer, H b = none
  hok : HOk P w H s.heap
  bare : AllBare s.gens
/-- a call's end -/
def CE (outer : List Env) (P : Program) (w : World) (H : Hp) (s : Shared) (Q : VK) (u : Value) (s' : Shared) : Prop :=
  ∃ v H', s'.os = s.os ∧ AllBare s'.gens ∧ Un (frs outer) [] H H' s.heap s'.heap ∧ HOk P w H' s'.heap ∧ RelV v u ∧ Q v H'
def CR (CX : CXT) (outer : List Env) (P : Program) (w : World) (H : Hp) (s : Shared) (Q : VK) (E : XK) (r : Result) (s' : Shared) : Prop :=
  match r with
  | .ok (.ret u) => CE outer P w H s Q u s'
  | .ok _ => False
  | .error e => CX outer H s E e s'
structure FnOk (P : Program) (w : World) (K : PySem.W.Frag) (mg : Str → Option Value) (base : Heap) (CX : CXT) (k : Nat) (f : Addr) (fd : FuncData) (ps : List Str) (sp : Sp) : Prop where
  len : ∀ vs H Q E, sp vs H Q E → vs.length = ps.length
  run : ∀ (A : Around) (outer : List Env) (s : Shared) (H : Hp) (args : Args) (us : List Value) (vs : List V) (Q : VK) (E : XK), Room k A → Env0 P w K mg base A outer s H → BindsTo s fd args (ps.zip us) → Vals vs us → sp vs H Q E →
    codeAny (model P w) A (.call (.ref f) args) (CR CX outer P w H s Q E) s
theorem FnOk.mono {P : Program} {w : World} {K : PySem.W.Frag} {mg : Str → Option Value} {base : Heap} {CX : CXT} {j k : Nat} {f : Addr} {fd : FuncData} {ps : List Str} {sp : Sp} (F : FnOk P w K mg base CX j f fd ps sp) (h : j ≤ k) :
    FnOk P w K mg base CX k f fd ps sp := ⟨F.len, fun A outer s H args us vs Q E hr => F.run A outer s H args us vs Q E (hr.mono h)⟩
/-- a weaker promise -/
theorem FnOk.imp {P : Program} {w : World} {K : PySem.W.Frag} {mg : Str → Option Value} {base : Heap} {CX : CXT} {k : Nat} {f : Addr} {fd : FuncData} {ps : List Str} {sp sp' : Sp} (F : FnOk P w K mg base CX k f fd ps sp)
    (h : ∀ vs H Q E, sp' vs H Q E → sp vs H Q E) : FnOk P w K mg base CX k f fd ps sp' :=
  ⟨fun vs H Q E q => F.len vs H Q E (h _ _ _ _ q), fun A outer s H args us vs Q E hr he hb hv hs => F.run A outer s H args us vs Q E hr he hb hv (h _ _ _ _ hs)⟩

theorem Env0.make {P : Program} {w : World} {K : PySem.W.Frag} {mg : Str → Option Value} {base : Heap} {A : Around} {outer : List Env} {s : Shared} {H : Hp} (e : Env0 P w K mg base A outer s H) (C : Addr) (us : List Value) (kw : List (Str × Value)) :
    Env0 P w K mg base (A.under (.builtin "type.__call__" ⟨.ref C :: us, kw⟩)) outer s H := ⟨by first | exact e.frames | (simpa [Around.under, Code.envs, Code.isFrame, pushEnvs] using e.frames), e.mod, e.bs, e.bsz, e.funs, e.frf, e.hok, e.bare⟩
theorem Env0.in1 {P : Program} {w : World} {K : PySem.W.Frag} {mg : Str → Option Value} {base : Heap} {A : Around} {outer : List Env} {s : Shared} {H : Hp} (e : Env0 P w K mg base A outer s H) :
    Env0 P w K mg base A.in1 outer s H := ⟨e.frames, e.mod, e.bs, e.bsz, e.funs, e.frf, e.hok, e.bare⟩

section
variable {X : Cx} {pins : List (Addr × Obj)} {σ : St} {H : Hp} {s s' : Shared}
/-- from a body: what a callee wants -/
theorem Inv.env0 (I : Inv X pins σ H s) : Env0 X.prog X.w X.K X.mg X.base X.A X.stack s H :=
  ⟨I.ok.frames, I.ok.mod, I.bs, Nat.le_trans I.ok.bsz I.sz, I.stack, I.stkFree, I.hok, I.bare⟩
/-- behind a call -/
theorem Inv.after {Q : VK} {u : Value} (I : Inv X pins σ H s) (h : CE X.stack X.prog X.w H s Q u s') : EP X pins σ Q u s' := by
  obtain ⟨v, H', os, bare, un, hok, r, q⟩ := h
  obtain ⟨hh, g, d, t, os'⟩ := s'
  obtain rfl : os' = s.os := os
  exact ⟨v, H', I.call (h' := hh) (g' := g) (d' := d) (t' := t) (ch := []) un hok bare (fun b z => absurd z (by simp)), r, q⟩
end

/-! ### calls -/
/-- f(..): the written arguments, then the defaults dvs; E: what is wanted of an exception -/
def tCall (sp : Sp) (dvs : List V) (E : XK) (t : TA) : TE := fun σ H Q => t σ H fun vs H1 => sp (vs ++ dvs) H1 Q E
/-- o.m(..) of an instance of the class at C -/
def tMeth (C : Addr) (m : Str) (sp : Sp) (dvs : List V) (E : XK) (ta : TE) (t : TA) : TE := fun σ H Q => ta σ H fun x H1 => ∃ a dx fs, x = .ref a ∧ H1 a = some (.ins C dx fs) ∧ fs.lookup m = none ∧
  t σ H1 fun vs H2 => sp (x :: (vs ++ dvs)) H2 Q E
/-- C(..): a new instance and its dict, then __init__ -/
def tMake (C : Addr) (sp : Sp) (dvs : List V) (E : XK) (t : TA) : TE := fun σ H Q => t σ H fun vs H1 => ∀ x dx, H1 x = none → H1 dx = none → dx ≠ x →
  sp (.ref x :: (vs ++ dvs)) (upd (upd H1 dx (.own x)) x (.ins C dx [])) (fun v H2 => v = .non ∧ Q (.ref x) H2) E

/-- how the parameters are bound: us the positional arguments, kw the keywords' values by name, ds the defaults that fill up -/
def Binds (K : PySem.W.Frag) (fd : FuncData) (ps : List Str) (ds : List Value) : Prop :=
  ∀ (s : Shared) (us : List Value), K.In s.heap → (us ++ ds).length = ps.length → BindsTo s fd ⟨us, []⟩ (ps.zip (us ++ ds))
/-- every parameter is given -/
theorem Binds.all {K : PySem.W.Frag} {fd : FuncData} {ps : List Str} (h : ∀ us : List Value, us.length = ps.length → bindArgs fd ⟨us, []⟩ = pure (ps.zip us)) : Binds K fd ps [] := fun s us _ hl => by
  rw [List.append_nil] at hl ⊢
  exact .of_eq (h us hl)

/-- an exception of a callee reaches what this body wants of exceptions -/
def Passes (CX : CXT) (X : Cx) (E : XK) : Prop := ∀ (pins : List (Addr × Obj)) (σ : St) (H : Hp) (s : Shared) (e : Value) (s' : Shared), Inv X pins σ H s → CX X.stack H s E e s' → X.xe e s'

section
variable {X : Cx} {CX : CXT} {k : Nat} {f C : Addr} {fd : FuncData} {ps : List Str} {sp : Sp} {dvs : List V} {ds : List Value} {E : XK} {x m : Str} {p pos apos : Pos} {e o : Expr} {es : List Expr} {ta : TE} {t : TA}

/-- the callee runs -/
theorem run_fn {pins : List (Addr × Obj)} {σ : St} {H : Hp} {s : Shared} {Q : VK} {us : List Value} {vs : List V} (F : FnOk X.prog X.w X.K X.mg X.base CX k f fd ps sp) (hr : Room k X.A) (hb : Binds X.K fd ps ds) (hd : Vals dvs ds) (hx : Passes CX X E)
    (I : Inv X pins σ H s) (r : Vals vs us) (h : sp (vs ++ dvs) H Q E) : wpAny (model X.prog X.w) X.A (call (.ref f) us) (EP X pins σ Q) X.xe s := by
  have r2 : Vals (vs ++ dvs) (us ++ ds) := r.append hd
  have hl : (us ++ ds).length = ps.length := by rw [← r2.length]; exact F.len _ _ _ _ h
  refine wpAny_call (codeAny_mono (F.run X.A X.stack s H ⟨us, []⟩ (us ++ ds) (vs ++ dvs) Q E hr I.env0 (hb s us I.kIn hl) r2 h) fun r s' hq => ?_)
  cases r with
  | error e => exact hx pins σ H s e s' I hq
  | ok fl =>
    cases fl with
    | ret u => exact I.after hq
    | next => exact False.elim hq
    | brk => exact False.elim hq
    | cont => exact False.elim hq

theorem pe_call (F : FnOk X.prog X.w X.K X.mg X.base CX k f fd ps sp) (hr : Room k X.A) (hg : Gl X x) (hm : X.mg x = some (.ref f)) (hk : PySem.W.keepIn X.K (.ref f) = true) (hb : Binds X.K fd ps ds) (hd : Vals dvs ds) (hx : Passes CX X E)
    (ha : PA X (e :: es) t) (hdb : (x == ("__debug__" : Str)) = false := by decide) (he : starEach (e :: es) X.env = (false, eval e X.env) :: starEach es X.env := by rfl) (hpl : (backTo pos (starEach es X.env)).any (·.1) = false := by rfl) :
    PE X (.Call (.Name x p) (e :: es) [] pos) (tCall sp dvs E t) := by
  intro pins s σ H Q I h
  refine wpAny_Call_Name_kw (ld_glob I hg hm ?_ hdb)
  refine PySem.W.callWith_K (h₀ := X.base) I.ok.mod.kin hk (thn (ha pos pins s σ H _ I h) fun us s1 ⟨vs, H1, I1, r, q⟩ => ⟨I1.kIn, ?_⟩) he hpl
  exact run_fn F hr hb hd hx I1 r q
theorem pe_call0 (F : FnOk X.prog X.w X.K X.mg X.base CX k f fd ps sp) (hr : Room k X.A) (hg : Gl X x) (hm : X.mg x = some (.ref f)) (hk : PySem.W.keepIn X.K (.ref f) = true) (hb : Binds X.K fd ps ds) (hd : Vals dvs ds) (hx : Passes CX X E)
    (hdb : (x == ("__debug__" : Str)) = false := by decide) : PE X (.Call (.Name x p) [] [] pos) (tCall sp dvs E tNil) := by
  intro pins s σ H Q I h
  refine wpAny_Call_Name_kw (ld_glob I hg hm ?_ hdb)
  exact PySem.W.callWith_K0 I.kIn hk (run_fn (us := []) F hr hb hd hx I .nil h)

/-- o.m(e, ..) -/
theorem pe_meth {pl : Sem Bool} (he : PE X o ta) (c : Cls X.K C) (hm : Meth X.K C m f) (F : FnOk X.prog X.w X.K X.mg X.base CX k f fd ps sp) (hr : Room k X.A) (hb : Binds X.K fd ps ds) (hd : Vals dvs ds) (hx : Passes CX X E) (ha : PA X (e :: es) t)
    (hst : starEach (e :: es) X.env = (false, eval e X.env) :: starEach es X.env := by rfl) (hpl : (backTo pos (starEach es X.env)).any (·.1) = false := by rfl)
    (ht : eval (.Call (.Attribute o m apos) (e :: es) [] pos) X.env = (do
      let ov ← eval o X.env
      standAt apos.atName
      let (f, first) ← holding [ov] (getMethod ov m pl)
      callWith pos f first (backTo pos (starEach (e :: es) X.env)) (backToKw pos (keywordEach [] X.env))) := by rfl) :
    PE X (.Call (.Attribute o m apos) (e :: es) [] pos) (tMeth C m sp dvs E ta t) := by
  intro pins s σ H Q I h
  refine PySem.W.methodCall_KW (pl := pl) (thn (he pins s σ H _ I h) fun u s1 ⟨x, H1, I1, rx, a, dx, fs, ex, ea, l, q⟩ => ?_) ht
  subst ex
  obtain rfl : u = Value.ref a := rx
  refine getmeth_ok I1 ea c hm l ?_
  refine PySem.W.callWith_K (first := [.ref a]) (h₀ := X.base) I.ok.mod.kin hm.kp (thn (ha pos pins s1 σ H1 _ I1 q) fun us s2 ⟨vs, H2, I2, r, q2⟩ => ⟨I2.kIn, ?_⟩) hst hpl
  exact run_fn (us := .ref a :: us) (vs := .ref a :: vs) F hr hb hd hx I2 (.cons rfl r) q2
/-- o.m() -/
theorem pe_meth0 {pl : Sem Bool} (he : PE X o ta) (c : Cls X.K C) (hm : Meth X.K C m f) (F : FnOk X.prog X.w X.K X.mg X.base CX k f fd ps sp) (hr : Room k X.A) (hb : Binds X.K fd ps ds) (hd : Vals dvs ds) (hx : Passes CX X E)
    (ht : eval (.Call (.Attribute o m apos) [] [] pos) X.env = (do
      let ov ← eval o X.env
      standAt apos.atName
      let (f, first) ← holding [ov] (getMethod ov m pl)
      callWith pos f first (backTo pos (starEach [] X.env)) (backToKw pos (keywordEach [] X.env))) := by rfl) :
    PE X (.Call (.Attribute o m apos) [] [] pos) (tMeth C m sp dvs E ta tNil) := by
  intro pins s σ H Q I h
  refine PySem.W.methodCall_KW (pl := pl) (thn (he pins s σ H _ I h) fun u s1 ⟨x, H1, I1, rx, a, dx, fs, ex, ea, l, q⟩ => ?_) ht
  subst ex
  obtain rfl : u = Value.ref a := rx
  refine getmeth_ok I1 ea c hm l ?_
  exact PySem.W.callWith_K0 (first := [.ref a]) I1.kIn hm.kp (run_fn (us := [.ref a]) (vs := [.ref a]) F hr hb hd hx I1 (.cons rfl .nil) q)

/-- what a class must have to be made -/
structure Mk (K : PySem.W.Frag) (C f : Addr) : Prop where
  makes : PySem.W.makesIn K C = true
  init : PySem.W.findIn K (.ref C) "__init__" = some (some (.ref f))
  fn : PySem.W.isFn K (.ref f) = true
  kp : PySem.W.keepIn K (.ref C) = true

theorem run_make {pins : List (Addr × Obj)} {σ : St} {H : Hp} {s : Shared} {Q : VK} {us : List Value} {vs : List V} (M : Mk X.K C f) (F : FnOk X.prog X.w X.K X.mg X.base CX k f fd ps sp) (hr : Room (k + 1) X.A) (hb : Binds X.K fd ps ds) (hd : Vals dvs ds)
    (hx : Passes CX X E) (I : Inv X pins σ H s) (r : Vals vs us)
    (h : ∀ x dx, H x = none → H dx = none → dx ≠ x → sp (.ref x :: (vs ++ dvs)) (upd (upd H dx (.own x)) x (.ins C dx [])) (fun v H2 => v = .non ∧ Q (.ref x) H2) E) :
    wpAny (model X.prog X.w) X.A (call (.ref C) us) (EP X pins σ Q) X.xe s := by
  have hq := h (s.heap.objs.size + 1) s.heap.objs.size (I.hok.fresh (Nat.le_succ _)) (I.hok.fresh (Nat.le_refl _)) (Nat.ne_of_lt (Nat.lt_succ_self _))
  have I2 := Inv.made (C := C) I
  have r2 : Vals (V.ref (s.heap.objs.size + 1) :: (vs ++ dvs)) (Value.ref (s.heap.objs.size + 1) :: (us ++ ds)) := .cons rfl (r.append hd)
  have hl : (Value.ref (s.heap.objs.size + 1) :: us ++ ds).length = ps.length := by
    have e := r2.length
    rw [F.len _ _ _ _ hq] at e
    exact e.symm
  refine wpAny_call (make_map (f := f) I.kIn M.makes M.init (beq_iff_eq.mp M.fn) (codeAny_mono (F.run _ X.stack _ _ ⟨Value.ref (s.heap.objs.size + 1) :: us, []⟩ (Value.ref (s.heap.objs.size + 1) :: (us ++ ds)) _ _ E (hr.make C us [])
    (I2.env0.make C us []) (hb _ (Value.ref (s.heap.objs.size + 1) :: us) I2.kIn hl) r2 hq) fun r s' hq' => ?_))
  cases r with
  | error e => exact hx pins σ _ _ e s' I2 hq'
  | ok fl =>
    cases fl with
    | ret u =>
      obtain ⟨v, H', I3, rv, ev, q3⟩ := I2.after hq'
      subst ev
      exact ⟨rv, ⟨V.ref (s.heap.objs.size + 1), H', I3, rfl, q3⟩⟩
    | next => exact False.elim hq'
    | brk => exact False.elim hq'
    | cont => exact False.elim hq'
theorem pe_make (M : Mk X.K C f) (F : FnOk X.prog X.w X.K X.mg X.base CX k f fd ps sp) (hr : Room (k + 1) X.A) (hg : Gl X x) (hm : X.mg x = some (.ref C)) (hb : Binds X.K fd ps ds) (hd : Vals dvs ds) (hx : Passes CX X E)
    (ha : PA X (e :: es) t) (hdb : (x == ("__debug__" : Str)) = false := by decide) (he : starEach (e :: es) X.env = (false, eval e X.env) :: starEach es X.env := by rfl) (hpl : (backTo pos (starEach es X.env)).any (·.1) = false := by rfl) :
    PE X (.Call (.Name x p) (e :: es) [] pos) (tMake C sp dvs E t) := by
  intro pins s σ H Q I h
  refine wpAny_Call_Name_kw (ld_glob I hg hm ?_ hdb)
  refine PySem.W.callWith_K (h₀ := X.base) I.ok.mod.kin M.kp (thn (ha pos pins s σ H _ I h) fun us s1 ⟨vs, H1, I1, r, q⟩ => ⟨I1.kIn, ?_⟩) he hpl
  exact run_make M F hr hb hd hx I1 r q
theorem pe_make0 (M : Mk X.K C f) (F : FnOk X.prog X.w X.K X.mg X.base CX k f fd ps sp) (hr : Room (k + 1) X.A) (hg : Gl X x) (hm : X.mg x = some (.ref C)) (hb : Binds X.K fd ps ds) (hd : Vals dvs ds) (hx : Passes CX X E)
    (hdb : (x == ("__debug__" : Str)) = false := by decide) : PE X (.Call (.Name x p) [] [] pos) (tMake C sp dvs E tNil) := by
  intro pins s σ H Q I h
  refine wpAny_Call_Name_kw (ld_glob I hg hm ?_ hdb)
  exact PySem.W.callWith_K0 I.kIn M.kp (run_make (us := []) M F hr hb hd hx I .nil h)
end

/-! ### keywords -/
/-- the values of the keywords, from the left -/
def PK (X : Cx) (kws : List Keyword) (t : TA) : Prop :=
  ∀ (pos : Pos) (pins : List (Addr × Obj)) (s : Shared) (σ : St) (H : Hp) (Q : List V → Hp → Prop), Inv X pins σ H s → t σ H Q → wpAny (model X.prog X.w) X.A (evalAll ((backToKw pos (keywordEach kws X.env)).map (·.2))) (AP X pins σ Q) X.xe s
section
variable {X : Cx} {CX : CXT} {k : Nat} {f C : Addr} {fd : FuncData} {ps ks : List Str} {sp : Sp} {E : XK} {x m : Str} {p pos apos kpos : Pos} {e o : Expr} {es : List Expr} {kws : List Keyword} {te ta : TE} {t tk : TA} {nm : Option Str}
theorem pk_nil : PK X [] tNil := fun _ _ _ _ H Q I h => wpAny_evalAll_nil ⟨[], H, I, .nil, h⟩
theorem pk_cons (ha : PE X e te) (hr : PK X kws t) : PK X (⟨nm, e, kpos⟩ :: kws) (tCons te t) := by
  intro pos pins s σ H Q I h
  show wpAny _ _ (evalAll ((do let v ← eval e X.env; standAt pos; pure v) :: (backToKw pos (keywordEach kws X.env)).map (·.2))) _ _ s
  refine wpAny_evalAll_cons (wpAny_bind (thn (ha pins s σ H _ I h) fun u s1 ⟨x, H1, I1, r1, q1⟩ => wpAny_bind (wpAny_standAt (wpAny_pure ?_))))
  exact thn (hr pos pins s1 σ H1 _ I1 q1) fun us s2 ⟨xs, H2, I2, r2, q2⟩ => ⟨x :: xs, H2, I2, .cons r1 r2, q2⟩

/-- how a call with keywords binds: g puts the positional values us and the keywords' values ws (names ks) in the parameters' order, defaults among them -/
structure KBinds (K : PySem.W.Frag) (fd : FuncData) (ps ks : List Str) (g : List Value → List Value → List Value) (gV : List V → List V → List V) : Prop where
  to : ∀ (s : Shared) (us ws : List Value), K.In s.heap → (g us ws).length = ps.length → BindsTo s fd ⟨us, ks.zip ws⟩ (ps.zip (g us ws))
  rel : ∀ {vs : List V} {us : List Value} {zs : List V} {ws : List Value}, Vals vs us → Vals zs ws → Vals (gV vs zs) (g us ws)
def tCallK (sp : Sp) (gV : List V → List V → List V) (E : XK) (t tk : TA) : TE := fun σ H Q => t σ H fun vs H1 => tk σ H1 fun zs H2 => sp (gV vs zs) H2 Q E
variable {g : List Value → List Value → List Value} {gV : List V → List V → List V}
theorem run_fnk {pins : List (Addr × Obj)} {σ : St} {H : Hp} {s : Shared} {Q : VK} {us ws : List Value} {vs zs : List V} (F : FnOk X.prog X.w X.K X.mg X.base CX k f fd ps sp) (hr : Room k X.A) (hb : KBinds X.K fd ps ks g gV) (hx : Passes CX X E)
    (I : Inv X pins σ H s) (r : Vals vs us) (rz : Vals zs ws) (h : sp (gV vs zs) H Q E) : wpAny (model X.prog X.w) X.A (call (.ref f) us (ks.zip ws)) (EP X pins σ Q) X.xe s := by
  have r2 := hb.rel r rz
  have hl : (g us ws).length = ps.length := by rw [← r2.length]; exact F.len _ _ _ _ h
  refine wpAny_call (codeAny_mono (F.run X.A X.stack s H ⟨us, ks.zip ws⟩ (g us ws) (gV vs zs) Q E hr I.env0 (hb.to s us ws I.kIn hl) r2 h) fun r s' hq => ?_)
  cases r with
  | error e => exact hx pins σ H s e s' I hq
  | ok fl =>
    cases fl with
    | ret u => exact I.after hq
    | next => exact False.elim hq
    | brk => exact False.elim hq
    | cont => exact False.elim hq
/-- f(e, .., k = v, ..) -/
theorem pe_callK (F : FnOk X.prog X.w X.K X.mg X.base CX k f fd ps sp) (hr : Room k X.A) (hg : Gl X x) (hm : X.mg x = some (.ref f)) (hk : PySem.W.keepIn X.K (.ref f) = true) (hb : KBinds X.K fd ps ks g gV) (hx : Passes CX X E)
    (ha : PA X (e :: es) t) (hkw : PK X kws tk) (hall : (backToKw pos (keywordEach kws X.env)).all (·.1.isSome) = true := by rfl) (hks : (backToKw pos (keywordEach kws X.env)).filterMap (·.1) = ks := by rfl)
    (hdb : (x == ("__debug__" : Str)) = false := by decide) (he : starEach (e :: es) X.env = (false, eval e X.env) :: starEach es X.env := by rfl)
    (hpl : ((backTo pos (starEach (e :: es) X.env)).any (·.1) || (backToKw pos (keywordEach kws X.env)).any (·.1.isNone)) = false := by rfl) :
    PE X (.Call (.Name x p) (e :: es) kws pos) (tCallK sp gV E t tk) := by
  intro pins s σ H Q I h
  refine wpAny_Call_Name_kw (ld_glob I hg hm ?_ hdb)
  refine PySem.W.callWith_KW (h₀ := X.base) I.ok.mod.kin hk hall (thn (ha pos pins s σ H _ I h) fun us s1 ⟨vs, H1, I1, r, q⟩ => ?_) hpl he
  refine thn (hkw pos pins s1 σ H1 _ I1 q) fun ws s2 ⟨zs, H2, I2, rz, q2⟩ => ⟨I2.kIn, ?_⟩
  rw [hks]
  exact run_fnk F hr hb hx I2 r rz q2
end

/-! ### a def's body keeps its promise -/
/-- names: the parameters first -/
structure FnScope (N P : List Str) (sc : Scope) : Prop where
  kind : sc.kind = .function
  co : sc.isCoroutine = false
  gen : sc.isGenerator = false
  nd : N.Nodup
  pre : N.take P.length = P
  par : ∀ x ∈ P, sc.names.lookup x = some .local ∨ sc.names.lookup x = some .cell
  nofree : ∀ y ∈ sc.names, y.2 ≠ .free

theorem bindL_out {kindOf : Str → Option NameKind} {x : Str} : ∀ {binds : List (Str × Value)} {m : Str → Option Value}, (∀ v, (x, v) ∉ binds) → bindL kindOf binds m x = m x
  | [], _, _ => rfl
  | (n, v) :: r, m, h => by
    unfold bindL
    rw [bindL_out fun w hw => h w (List.mem_cons_of_mem _ hw)]
    split
    · have : x ≠ n := by rintro rfl; exact h v List.mem_cons_self
      simp [this]
    · rfl
theorem bindC_out {kindOf : Str → Option NameKind} {x : Str} : ∀ {binds : List (Str × Value)} {m : Str → Option Value}, (∀ v, (x, v) ∉ binds) → bindC kindOf binds m x = m x
  | [], _, _ => rfl
  | (n, v) :: r, m, h => by
    unfold bindC
    rw [bindC_out fun w hw => h w (List.mem_cons_of_mem _ hw)]
    split
    · rfl
    · have : x ≠ n := by rintro rfl; exact h v List.mem_cons_self
      simp [this]
theorem bindL_get {kindOf : Str → Option NameKind} {x : Str} {v : Value} : ∀ {P : List Str} {vs : List Value} {i : Nat} {m : Str → Option Value}, P.Nodup → P[i]? = some x → vs[i]? = some v → kindOf x = some .local →
    bindL kindOf (P.zip vs) m x = some v
  | [], _, _, _, _, h, _, _ => by simp at h
  | _ :: _, [], _, _, _, _, h, _ => by simp at h
  | p :: P, w :: vs, 0, m, nd, h1, h2, hk => by
    simp at h1 h2; subst h1; subst h2
    show bindL kindOf ((p, w) :: P.zip vs) m p = _
    unfold bindL
    rw [bindL_out fun v hv => (List.nodup_cons.mp nd).1 (List.of_mem_zip hv).1, if_pos hk]
    simp
  | p :: P, w :: vs, i + 1, m, nd, h1, h2, hk => by
    show bindL kindOf ((p, w) :: P.zip vs) m x = _
    unfold bindL
    exact bindL_get (i := i) (List.nodup_cons.mp nd).2 (by simpa using h1) (by simpa using h2) hk
theorem bindC_get {kindOf : Str → Option NameKind} {x : Str} {v : Value} : ∀ {P : List Str} {vs : List Value} {i : Nat} {m : Str → Option Value}, P.Nodup → P[i]? = some x → vs[i]? = some v → kindOf x ≠ some .local →
    bindC kindOf (P.zip vs) m x = some v
  | [], _, _, _, _, h, _, _ => by simp at h
  | _ :: _, [], _, _, _, _, h, _ => by simp at h
  | p :: P, w :: vs, 0, m, nd, h1, h2, hk => by
    simp at h1 h2; subst h1; subst h2
    show bindC kindOf ((p, w) :: P.zip vs) m p = _
    unfold bindC
    rw [bindC_out fun v hv => (List.nodup_cons.mp nd).1 (List.of_mem_zip hv).1, if_neg hk]
    simp
  | p :: P, w :: vs, i + 1, m, nd, h1, h2, hk => by
    show bindC kindOf ((p, w) :: P.zip vs) m x = _
    unfold bindC
    exact bindC_get (i := i) (List.nodup_cons.mp nd).2 (by simpa using h1) (by simpa using h2) hk

/-- the names' values at the entry -/
def start (N : List Str) (vs : List V) : St := vs.map some ++ List.replicate (N.length - vs.length) none

/-- the context of a def's body, at its entry; an exception leaves the frame, then lies as CX says -/
def cxOf (CX : CXT) (P : Program) (w : World) (K : PySem.W.Frag) (mg : Str → Option Value) (base : Heap) (N : List Str) (qual : Str) (scope : Scope) (f : Addr) (cd : Value) (A : Around) (outer : List Env) (s : Shared) (H : Hp) (E : XK) : Cx where
  prog := P
  w := w
  K := K
  mg := mg
  base := base
  A := A.deeper (envOfC qual scope s.heap.objs.size f cd)
  N := N
  s₀ := s
  H₀ := H
  env := envOfC qual scope s.heap.objs.size f cd
  outer := outer
  stack := envOfC qual scope s.heap.objs.size f cd :: outer
  ex := []
  calm := true
  fn := fun _ => true
  pn := []
  xe := fun e s' => wpAny (model P w) (A.deeper (envOfC qual scope s.heap.objs.size f cd)) (leaving (envOfC qual scope s.heap.objs.size f cd) e) (fun _ s'' => CX outer H s E e s'') (fun e' s'' => CX outer H s E e' s'') s'

theorem cell_has {sc : Scope} {n : Nat} {x : Str} (h : sc.names.lookup x = some .cell) : ∃ c, (cellsFrom n sc.names []).lookup x = some c := by
  have q := PySem.W.cellsFrom_some sc.names n [] (.inl h)
  exact Option.isSome_iff_exists.mp q

theorem inv_start {CX : CXT} {P : Program} {w : World} {K : PySem.W.Frag} {mg : Str → Option Value} {base : Heap} {N ps : List Str} {qual : Str} {scope : Scope} {f : Addr} {cd : Value} {A : Around} {outer : List Env} {s s1 : Shared} {H : Hp} {E : XK} {us : List Value} {vs : List V}
    (S : FnScope N ps scope) (hd : A.handled = none) (e0 : Env0 P w K mg base A outer s H) (hl : vs.length = ps.length) (r : Vals vs us)
    (x : InCallC s s.heap.objs.size (bindL (envOfC qual scope s.heap.objs.size f cd).kindOf (ps.zip us) fun _ => none) (cellsFrom (s.heap.objs.size + 1) scope.names []) (bindC (envOfC qual scope s.heap.objs.size f cd).kindOf (ps.zip us) fun _ => none) s1) :
    Inv (cxOf CX P w K mg base N qual scope f cd A outer s H E) [] (start N vs) H s1 := by
  have hpl : ps.length ≤ N.length := by have := congrArg List.length S.pre; rw [List.length_take] at this; omega
  obtain ⟨h1, tk, rfl, hk⟩ := x.done
  have noA : ∀ b : Addr, b ∉ (cxOf CX P w K mg base N qual scope f cd A outer s H E).ex := fun b z => absurd (show b ∈ ([] : List Addr) from z) (by simp)
  refine ⟨⟨e0.mod, S.kind, rfl, rfl, Nat.le_refl _, fun y z c h1 h2 => ?_, fun y hy => ?_, fun y c _ h => ?_, fun _ => hd, Around.frames_deeper e0.frames, .inr ⟨rfl, rfl⟩, fun b z => absurd z (noA b), e0.bs, e0.bsz, fun b _ _ => noA b, fun b z => absurd z (noA b), e0.funs, e0.frf⟩,
    rfl, e0.bare, Un.kept hk, ⟨_, x.toInCall.ns, fun i y v h1 h2 h3 => ?_⟩, fun y c h => ⟨_, x.cell y c h⟩, e0.hok.fresh (Nat.le_refl _), fun y c h => ?_, fun p hp => absurd (show p ∈ ([] : List (Addr × Obj)) from hp) (by simp), e0.hok.kept hk, ?_⟩
  · exact name_of_addr x.apart (PySem.mem_of_lookup h1) (PySem.mem_of_lookup h2)
  · have hy : scope.names.lookup y = some .cell ∨ scope.names.lookup y = some .free := hy
    rcases hy with hy | hy
    · exact cell_has hy
    · exact absurd rfl (S.nofree _ (PySem.mem_of_lookup hy))
  · exact Nat.le_of_lt (x.above y c (PySem.mem_of_lookup h))
  · have hi : i < vs.length := by
      unfold start at h2
      by_cases hi : i < vs.length
      · exact hi
      · rw [List.getElem?_append_right (by simpa using hi)] at h2
        rw [List.getElem?_replicate] at h2
        split at h2 <;> cases h2
    have ha : vs[i]? = some v := by
      unfold start at h2
      rw [List.getElem?_append_left (by simpa using hi), List.getElem?_map] at h2
      cases e : vs[i]? with
      | none => rw [e] at h2; cases h2
      | some a => rw [e] at h2; cases h2; rfl
    obtain ⟨u, hu, rv⟩ := r.get ha
    have hp : ps[i]? = some y := by
      rw [← S.pre, List.getElem?_take_of_lt (by omega)]; exact h1
    have ndP : ps.Nodup := by rw [← S.pre]; exact S.nd.sublist (List.take_sublist _ _)
    refine ⟨u, rv, ?_⟩
    rcases S.par y (List.mem_of_getElem? hp) with k | k
    · exact .inl ⟨k, bindL_get ndP hp hu k⟩
    · obtain ⟨c, e⟩ := cell_has (n := s.heap.objs.size + 1) k
      refine .inr ⟨.inl k, c, e, ?_⟩
      have q := x.cell y c e
      rw [bindC_get ndP hp hu (by show scope.names.lookup y ≠ _; rw [k]; decide)] at q
      exact q
  · exact e0.hok.fresh (Nat.le_of_lt (x.above y c (PySem.mem_of_lookup h)))
  · unfold start
    show _ = N.length
    rw [List.length_append, List.length_map, List.length_replicate]
    omega

/-- THE RULE: a def (or a method) of the text, by its body. The body's reading t is chosen for each entry; it is run at the parameters' values -/
theorem fn_of {CX : CXT} {P : Program} {w : World} {K : PySem.W.Frag} {mg : Str → Option Value} {base : Heap} {k : Nat} {f : Addr} {name qual : Str} {params : Arguments} {body : List Stmt} {scope : Scope} {dV kV doc pm cdv ct oc : Value} {an od : Option Addr}
    {osl : Array (Option Value)} {N ps : List Str} {sp : Sp} (lk : K.lookup f = some ⟨oc, od, .func (PySem.W.fnOf name qual params body scope dV kV doc pm an cdv ct), osl⟩) (hcd : PySem.W.codeIn K cdv qual = true) (S : FnScope N ps scope)
    (len : ∀ vs H Q E, sp vs H Q E → vs.length = ps.length)
    (hbody : ∀ (A : Around) (outer : List Env) (s : Shared) (H : Hp) (vs : List V) (Q : VK) (E : XK), Room k (A.deeper (envOfC qual scope s.heap.objs.size f cdv)) → sp vs H Q E →
      ∃ t, PSs (cxOf CX P w K mg base N qual scope f cdv A outer s H E) body t ∧ t { nx := fun _ H' => Q .non H', rt := Q } (start N vs) H) :
    FnOk P w K mg base CX (k + 1) f (PySem.W.fnOf name qual params body scope dV kV doc pm an cdv ct) ps sp := by
  refine ⟨len, fun A outer s H args us vs Q E hr e0 hb r hsp => ?_⟩
  have hl := len _ _ _ _ hsp
  have KX : K.In s.heap := e0.mod.kin.keeps fun b o e => (e0.bs b o e).1
  have lim : s.heap.NoLimit := e0.mod.nolimit.keeps fun b o e => (e0.bs b o e).1
  have hkind : ∀ y ∈ ps.zip us, scope.names.lookup y.1 = some .local ∨ (scope.names.lookup y.1 = some .cell ∧ ((cellsFrom (s.heap.objs.size + 1) scope.names []).lookup y.1).isSome = true) := fun ⟨n, v⟩ hy => by
    rcases S.par n (List.of_mem_zip hy).1 with q | q
    · exact .inl q
    · exact .inr ⟨q, PySem.W.cellsFrom_some _ _ _ (.inl q)⟩
  refine codeAny_call_function hr.depth (KX _ _ lk) rfl S.co S.gen rfl (PySem.W.codeRec_of KX hcd) (hb _ _ _ _ ?_)
  refine wpAny_newFunctionEnv_cells S.kind hkind fun env he s1 x => ?_
  subst he
  refine ⟨lim.keeps x.toInCall.keep, codeAny_func ?_⟩
  obtain ⟨t, ht, hq⟩ := hbody A outer s H vs Q E (hr.deeper _) hsp
  have I : Inv (cxOf CX P w K mg base N qual scope f cdv A outer s H E) [] (start N vs) H s1 := inv_start S hr.hd e0 hl r x
  refine wpAny_mono (ht [] s1 (start N vs) H _ I hq) (fun fl s' hs => ?_) fun e s' hs => hs
  have fin : ∀ {σ' : St} {H' : Hp} {v : V} {u : Value}, Inv (cxOf CX P w K mg base N qual scope f cdv A outer s H E) [] σ' H' s' → RelV v u → Q v H' → CE outer P w H s Q u s' :=
    fun {σ' H' v u} J rv q => ⟨v, H', J.os, J.bare, J.base, J.hok, rv, q⟩
  cases fl with
  | ret u =>
    obtain ⟨v, σ', H', J, rv, q⟩ := hs
    exact fin J rv q
  | next =>
    obtain ⟨σ', H', J, q⟩ := hs
    exact fin (v := V.non) (u := Value.none) J rfl q
  | brk =>
    obtain ⟨_, _, _, q⟩ := hs
    exact False.elim q
  | cont =>
    obtain ⟨_, _, _, q⟩ := hs
    exact False.elim q
end L2

namespace L2
open PySem PySem.Spec PyProof.Rows
section
variable {X : Cx} {x : Str} {p pos : Pos} {e : Expr} {es : List Expr} {t : TA} {id T : String} {r : List V → Hp → VK → Prop}

def tCB (r : List V → Hp → VK → Prop) (t : TA) : TE := fun σ H Q => t σ H fun vs H1 => r vs H1 Q
/-- f(e, ..), f a built-in function -/
theorem pe_callB (hc : CallR X (.builtin id) r) (hg : Gl X x) (hm : X.mg x = none) (hv : bootBuiltins x = some (.builtin id)) (ha : PA X (e :: es) t) (hn : x ≠ "__name__" := by decide) (hdb : (x == ("__debug__" : Str)) = false := by decide)
    (he : starEach (e :: es) X.env = (false, eval e X.env) :: starEach es X.env := by rfl) (hpl : (backTo pos (starEach es X.env)).any (·.1) = false := by rfl) : PE X (.Call (.Name x p) (e :: es) [] pos) (tCB r t) := by
  intro pins s σ H Q I h
  refine wpAny_Call_Name_kw (ld_blt I hg hm hv ?_ hn hdb)
  exact PyProof.Rows.callWith_builtin1 (thn (ha pos pins s σ H _ I h) fun us s1 ⟨vs, H1, I1, r1, q1⟩ => hc pins s1 σ H1 vs us Q I1 r1 q1) he hpl
/-- T(e, ..), T a built-in type -/
theorem pe_callTy (hc : CallR X (.type T) r) (hg : Gl X x) (hm : X.mg x = none) (hv : bootBuiltins x = some (.type T)) (ha : PA X (e :: es) t) (hn : x ≠ "__name__" := by decide) (hdb : (x == ("__debug__" : Str)) = false := by decide)
    (he : starEach (e :: es) X.env = (false, eval e X.env) :: starEach es X.env := by rfl) (hpl : (backTo pos (starEach es X.env)).any (·.1) = false := by rfl) : PE X (.Call (.Name x p) (e :: es) [] pos) (tCB r t) := by
  intro pins s σ H Q I h
  refine wpAny_Call_Name_kw (ld_blt I hg hm hv ?_ hn hdb)
  exact PyProof.Rows.callWith_type1 (thn (ha pos pins s σ H _ I h) fun us s1 ⟨vs, H1, I1, r1, q1⟩ => hc pins s1 σ H1 vs us Q I1 r1 q1) he hpl
/-- T() -/
theorem pe_callTy0 (hc : CallR X (.type T) r) (hg : Gl X x) (hm : X.mg x = none) (hv : bootBuiltins x = some (.type T)) (hn : x ≠ "__name__" := by decide) (hdb : (x == ("__debug__" : Str)) = false := by decide) :
    PE X (.Call (.Name x p) [] [] pos) (tCB r tNil) := by
  intro pins s σ H Q I h
  refine wpAny_Call_Name_kw (ld_blt I hg hm hv ?_ hn hdb)
  exact PyProof.Rows.callWith_type0 (hc pins s σ H [] [] Q I .nil h)
end
end L2

namespace HT
open PySem PyProof.Rows

/-- t < u of tuples of ints -/
def lexLt : List Int → List Int → Bool
  | [], [] => false
  | [], _ :: _ => true
  | _ :: _, [] => false
  | x :: xs, y :: ys => if x = y then lexLt xs ys else decide (x < y)
theorem lexLt_cons (x y : Int) (xs ys : List Int) : lexLt (x :: xs) (y :: ys) = if x = y then lexLt xs ys else decide (x < y) := rfl
theorem lexLt_nil_nil : lexLt [] [] = false := rfl
theorem lexLt_nil_cons (y : Int) (ys : List Int) : lexLt [] (y :: ys) = true := rfl
theorem lexLt_cons_nil (x : Int) (xs : List Int) : lexLt (x :: xs) [] = false := rfl

theorem eqAt_int (A : Around) (s : Shared) (a : Int) (t : Tok) (c : Int) (u : Tok) : ∃ e, SeqAt.EqAt A s (.int a t) (.int c u) e ∧ (e = true ↔ a = c) :=
  ⟨(a == c), SeqAt.EqAt.int_int a t c u, by simp⟩
theorem rcLt_int (A : Around) (s : Shared) (a : Int) (t : Tok) (c : Int) (u : Tok) (prog : Program) (w : World) (E : Value → Shared → Prop) (Q : Value → Shared → Prop) (h : Q (.bool (decide (a < c))) s) :
    wpAny (model prog w) A (richCompare .Lt (.int a t) (.int c u)) Q E s :=
  (PyProof.Rows.lt_int h : wpAny (model prog w) A (compareOp .Lt (.int a t) (.int c u)) Q E s)

section
open PySem.SeqAt
open PySem.AutoSeq1 (wpAny_loadPart')
open PySem.MeetsSeq PySem.MeetsSeq2 PySem.MeetsSeq3

theorem tuple_lt_ints (l b : Addr) (items items2 : Array Value) (n n2 : Nat) (dd dd2 : Option Addr) (sl sl2 : Array (Option Value)) (ns ms : List Int) (hi : IntsAre items.toList ns) (hj : IntsAre items2.toList ms) :
    Meets (Builtin.«tuple.__lt__» ⟨[.ref l, .ref b], []⟩)
      (fun _ R s => s.heap.get? l = some { cls := .type "tuple", dict := dd, data := .seq items n, slots := sl } ∧ s.heap.get? b = some { cls := .type "tuple", dict := dd2, data := .seq items2 n2, slots := sl2 } ∧
        R (.ok (.ret (.bool (lexLt ns ms)))) s) :=
  .of_wp fun prog w A R s h => by
    obtain ⟨hp, g, d, tk, os⟩ := s; obtain ⟨hl, hb, h⟩ := h
    have f2 := AutoSeq1.sub_tuple_tuple
    have z1 : items.size = ns.length := by rw [← hi.length]; simp
    have z2 : items2.size = ms.length := by rw [← hj.length]; simp
    wp_walk using wpAny_loadPart' hl, wpAny_loadPart' hb, wpAny_forIn_list _ (fun rest b s' => b.1 = none ∧ s' = ⟨hp, g, d, tk, os⟩ ∧ ∃ (vs ws : List Value) (ns' ms' : List Int), rest = vs.zip ws ∧
      IntsAre vs ns' ∧ IntsAre ws ms' ∧ ns'.length + items2.size = ms'.length + items.size ∧ R (.ok (.ret (.bool (lexLt ns' ms')))) ⟨hp, g, d, tk, os⟩) _
    case turn =>
      rintro ⟨y, x⟩ rest b s' ⟨hb', rfl, vs, ws, ns', ms', hz, hvi, hwi, hlen, hR⟩
      cases hvi with
      | nil => rw [List.zip_nil_left] at hz; cases hz
      | cons a t hvi' =>
        cases hwi with
        | nil => rw [List.zip_nil_right] at hz; cases hz
        | cons c u hwi' =>
          rw [List.zip_cons_cons] at hz
          injection hz with hyx hrest
          injection hyx with hy hx
          subst hy hx
          rw [lexLt_cons] at hR
          simp only [List.length_cons] at hlen
          obtain ⟨e, he, hiff⟩ := eqAt_int A.in1 ⟨hp, g, d, tk, os⟩ a t c u
          refine wpAny_bind (he prog w _ _ ?_)
          cases e with
          | true =>
            rw [if_pos (hiff.mp rfl)] at hR
            wp_walk
            exact ⟨rfl, rfl, _, _, _, _, hrest, hvi', hwi', by omega, hR⟩
          | false =>
            rw [if_neg (fun q => absurd (hiff.mpr q) Bool.false_ne_true)] at hR
            have hri := rcLt_int A.in1 ⟨hp, g, d, tk, os⟩ a t c u prog w
            wp_walk using hri
            exact ⟨_, rfl, by simpa using hR⟩
    case fin =>
      rintro ⟨b1, b2⟩ s' ⟨hb', rfl, vs, ws, ns', ms', hz, hvi, hwi, hlen, hR⟩
      simp only at hb'
      subst hb'
      have hv : lexLt ns' ms' = decide (items.size < items2.size) := by
        cases hvi with
        | nil =>
          cases hwi with
          | nil =>
            simp only [List.length_nil] at hlen
            rw [lexLt_nil_nil]
            exact (decide_eq_false (by omega)).symm
          | cons c u hw =>
            simp only [List.length_nil, List.length_cons] at hlen
            rw [lexLt_nil_cons]
            exact (decide_eq_true (by omega)).symm
        | cons a t hv =>
          cases hwi with
          | nil =>
            simp only [List.length_nil, List.length_cons] at hlen
            rw [lexLt_cons_nil]
            exact (decide_eq_false (by omega)).symm
          | cons c u hw =>
            rw [List.zip_cons_cons] at hz
            cases hz
      rw [hv] at hR
      wp_walk
      exact ⟨_, rfl, by simpa [Builtin.Tuple.tupleCompareSizes] using hR⟩
    case h =>
      exact ⟨rfl, rfl, items.toList, items2.toList, ns, ms, rfl, hi, hj, by omega, h⟩
end

section
variable {prog : Program} {w : World} {A : Around} {E : Value → Shared → Prop} {s : Shared}

theorem lt_tupInts {l b : Addr} {items items2 : Array Value} {ns ms : List Int} {Q : Value → Shared → Prop} (hl : IsTup s.heap l items) (hb : IsTup s.heap b items2) (hi : IntsAre items.toList ns) (hj : IntsAre items2.toList ms)
    (hu : A.units < cLine) (h : Q (.bool (lexLt ns ms)) s) : wpAny (model prog w) A (compareOp .Lt (.ref l) (.ref b)) Q E s := by
  obtain ⟨⟨cls, dd, data, sl⟩, ho, hc, n, hd⟩ := id hl
  obtain ⟨⟨cls2, dd2, data2, sl2⟩, ho2, hc2, n2, hd2⟩ := id hb
  simp only at hc hd hc2 hd2
  subst hc hd hc2 hd2
  exact richCompare_meets_room (op := .Lt) ⟨_, ho, rfl⟩ ⟨_, ho2, rfl⟩ PySem.F.slot_tuple_lt PySem.F.entry_tuple_lt (PySem.F.args_tuple_lt_2 _ _) (tuple_lt_ints l b items items2 n n2 dd dd2 sl sl2 ns ms hi hj)
    ⟨ho, ho2, show Value.bool (lexLt ns ms) ≠ Value.notImplemented ∧ Q (.bool (lexLt ns ms)) s from ⟨(fun x => nomatch x), h⟩⟩ hu

/-- t + u, t not empty -/
theorem cat_tup {t b : Addr} {vs ws : List Value} {Q : Value → Shared → Prop} (ht : IsTup s.heap t vs.toArray) (hb : IsTup s.heap b ws.toArray) (hv : vs ≠ [])
    (h1 : ws = [] → Q (.ref t) s) (h2 : ws ≠ [] → Q (.ref s.heap.objs.size) { s with heap := s.heap.push { cls := .type "tuple", data := .seq (vs ++ ws).toArray } })
    (hsz : vs.length + ws.length ≤ sizeLine) : wpAny (model prog w) A (binaryOp .Add (.ref t) (.ref b)) Q E s := by
  obtain ⟨⟨cls, dd, data, sl⟩, ho, hc, n, hd⟩ := id ht
  obtain ⟨⟨cls2, dd2, data2, sl2⟩, ho2, hc2, n2, hd2⟩ := id hb
  simp only at hc hd hc2 hd2
  subst hc hd hc2 hd2
  have e : vs.toArray ++ ws.toArray = (vs ++ ws).toArray := by simp
  by_cases hw : ws = []
  · exact concat_meets ⟨_, ho, rfl⟩ ⟨_, ho2, rfl⟩ noFill_tuple_add seq_tuple_add PySem.F.slot_tuple_add PySem.F.entry_tuple_add (PySem.F.args_tuple_add_2 _ _)
      (tuple_addW1 t b vs.toArray ws.toArray n n2 dd dd2 sl sl2 (by simpa using hv) (by simp [hw])) ⟨ho, ho2, h1 hw⟩
  · refine concat_meets ⟨_, ho, rfl⟩ ⟨_, ho2, rfl⟩ noFill_tuple_add seq_tuple_add PySem.F.slot_tuple_add PySem.F.entry_tuple_add (PySem.F.args_tuple_add_2 _ _)
      (tuple_addW2 t b vs.toArray ws.toArray n n2 dd dd2 sl sl2 (by simpa using hv) (by simpa using hw) (by rw [List.size_toArray, List.size_toArray]; exact hsz)) ⟨ho, ho2, ?_⟩
    rw [e]
    exact h2 hw

/-! ### t[a:b], not the whole -/
/-- a slice's bound as a place among n (d where it is left out) -/
def sIx (n d : Nat) : Option Int → Nat
  | none => d
  | some v => if v < 0 then (v + (n : Int)).toNat else min v.toNat n
theorem sIx_none (n d : Nat) : sIx n d none = d := rfl
theorem sIx_nat (n d k : Nat) : sIx n d (some (k : Int)) = min k n := by
  show (if (k : Int) < 0 then ((k : Int) + (n : Int)).toNat else min (k : Int).toNat n) = min k n
  rw [if_neg (by omega), Int.toNat_natCast]
theorem sIx_le (n d : Nat) (hd : d ≤ n) (o : Option Int) : sIx n d o ≤ n := by
  cases o with
  | none => exact hd
  | some v =>
    show (if v < 0 then (v + (n : Int)).toNat else min v.toNat n) ≤ n
    by_cases hv : v < 0
    · rw [if_pos hv]; omega
    · rw [if_neg hv]; exact Nat.min_le_right _ _
theorem clip_eq (v : Int) (n d : Nat) : (if v < 0 then max (v + (n : Int)) 0 else min v (n : Int)) = ((sIx n d (some v) : Nat) : Int) := by
  show (if v < 0 then max (v + (n : Int)) 0 else min v (n : Int)) = (((if v < 0 then (v + (n : Int)).toNat else min v.toNat n) : Nat) : Int)
  by_cases hv : v < 0
  · simp only [if_pos hv]; omega
  · simp only [if_neg hv]; omega
theorem adjust_gen (lo hi : Option Int) (n : Nat) : Builtin.Slice.sliceAdjust lo hi 1 (n : Int) = (((sIx n 0 lo : Nat) : Int), ((sIx n n hi : Nat) : Int)) := by
  have h1 : ¬ ((1 : Int) < 0) := by omega
  unfold Builtin.Slice.sliceAdjust
  simp only [h1, if_false]
  refine Prod.ext ?_ ?_
  · cases lo with
    | none => rfl
    | some v => exact clip_eq v n 0
  · cases hi with
    | none => rfl
    | some v => exact clip_eq v n n
theorem places_gen (i j : Nat) : Builtin.Slice.slicePlaces (i : Int) (j : Int) 1 = j - i := by
  unfold Builtin.Slice.slicePlaces
  have h1 : (1 : Int) > 0 := by omega
  simp only [h1, if_true, Int.ediv_one]
  split <;> omega
theorem slicePart_ {v : Value} {o : Option Int} {Q : Option Int → Shared → Prop} (p : IsPart v o) (h : Q o s) : wpAny (model prog w) A (Builtin.Slice.slicePartIndex v) Q E s := by
  cases p with
  | none => exact slicePart_none h
  | int i t => exact slicePart_int h
theorem sliceApplied_gen {sl : Addr} {vl vu : Value} {lo hi : Option Int} {n : Nat} {Q : Int × Int × Nat → Shared → Prop} (hs : s.heap.IsSliceOf sl vl vu .none) (pl : IsPart vl lo) (pu : IsPart vu hi)
    (h : Q (((sIx n 0 lo : Nat) : Int), 1, sIx n n hi - sIx n 0 lo) s) : wpAny (model prog w) A (Builtin.Slice.sliceApplied (.ref sl) (pure (n : Int))) Q E s := by
  obtain ⟨os, hos, hcs, hds⟩ := id hs
  unfold Builtin.Slice.sliceApplied Builtin.Slice.sliceFields
  refine wpAny_bind (wpAny_bind (wpAny_field hos hds (x := vl) rfl (wpAny_bind (wpAny_field hos hds (x := vu) rfl (wpAny_bind (wpAny_field hos hds (x := .none) rfl (wpAny_pure ?_)))))))
  refine wpAny_bind (slicePart_none ?_)
  show wpAny _ _ (if ((1 : Int) == 0) = true then _ else _) _ _ s
  rw [if_neg (by decide)]
  refine wpAny_bind (slicePart_ pl (wpAny_bind (slicePart_ pu (wpAny_bind (wpAny_pure ?_)))))
  show wpAny _ _ (match Builtin.Slice.sliceAdjust lo hi 1 (n : Int) with | (lo, hi) => pure (lo, (1 : Int), Builtin.Slice.slicePlaces lo hi 1)) _ _ s
  rw [adjust_gen lo hi n]
  show wpAny _ _ (pure (((sIx n 0 lo : Nat) : Int), (1 : Int), Builtin.Slice.slicePlaces ((sIx n 0 lo : Nat) : Int) ((sIx n n hi : Nat) : Int) 1)) _ _ s
  rw [places_gen]
  exact wpAny_pure h
theorem pick_gen (xs : Array Value) (i k : Nat) : ((List.range k).filterMap fun (m : Nat) => xs[((i : Int) + (m : Int) * 1).toNat]?).toArray = ((xs.toList.drop i).take k).toArray := by
  have e : (fun (m : Nat) => xs[((i : Int) + (m : Int) * 1).toNat]?) = fun m => xs[i + m]? := by
    funext m
    have : ((i : Int) + (m : Int) * 1).toNat = i + m := by omega
    rw [this]
  rw [e]
  have := pick_run xs i k
  rw [List.filterMap_map] at this
  have e2 : ((fun x => xs[x]?) ∘ fun x => i + x) = fun m => xs[i + m]? := rfl
  rw [e2] at this
  rw [this]

theorem getItem_tuple_cut {t sl : Addr} {items : Array Value} {vl vu : Value} {lo hi : Option Int} {Q : Value → Shared → Prop} (ht : IsTup s.heap t items) (hs : s.heap.IsSliceOf sl vl vu .none) (pl : IsPart vl lo) (pu : IsPart vu hi)
    (hw : ¬ (sIx items.size 0 lo = 0 ∧ sIx items.size items.size hi = items.size))
    (h : Q (.ref s.heap.objs.size) { s with heap := s.heap.push { cls := .type "tuple", data := .seq ((items.toList.drop (sIx items.size 0 lo)).take (sIx items.size items.size hi - sIx items.size 0 lo)).toArray } })
    (hsz : items.size ≤ sizeLine) : wpAny (model prog w) A (getItem (.ref t) (.ref sl)) Q E s := by
  have htake : sizeOk (.seq ((items.toList.drop (sIx items.size 0 lo)).take (sIx items.size items.size hi - sIx items.size 0 lo)).toArray) := by
    show ((items.toList.drop (sIx items.size 0 lo)).take (sIx items.size items.size hi - sIx items.size 0 lo)).toArray.size ≤ sizeLine
    rw [List.size_toArray, List.length_take, List.length_drop, Array.length_toList]
    omega
  have hj : sIx items.size items.size hi ≤ items.size := sIx_le _ _ (Nat.le_refl _) hi
  obtain ⟨os, hos, hcs, hds⟩ := id hs
  have hTs : s.TypeIs (.ref sl) "slice" := ⟨os, hos, hcs⟩
  unfold getItem
  try with_reducible refine wpAny_holding ?_
  first | refine wpAny_bind (wpAny_pure ?_) | skip
  refine wpAny_bind (wpAny_sequenceKey ht.typeIs (by decide) ?_)
  refine wpAny_bind (wpAny_callSpecial?_slot (name := Str.ofString "__getitem__") ht.typeIs PyProof.Rows.slot_tuple_getitem
    (wpAny_call_entry PyProof.Rows.slot_tuple_getitem ht.typeIs entry_tuple_getitem ?_ (args_tuple_getitem _ _)))
  show wpAny _ _ (Builtin.Tuple.tupleItemsOf (.ref t) >>= _) _ _ s
  refine wpAny_bind (tupleItemsOf_ ht ?_)
  refine wpAny_bind (wpAny_typeOf hTs ?_)
  rw [if_pos (by decide)]
  refine wpAny_bind (sliceApplied_gen hs pl pu ?_)
  have hno : ¬ ((((sIx items.size 0 lo : Nat) : Int) == 0 && (1 : Int) == 1 && (sIx items.size items.size hi - sIx items.size 0 lo) == items.size) = true) := by
    intro q
    rw [Bool.and_eq_true, Bool.and_eq_true] at q
    have q1 : ((sIx items.size 0 lo : Nat) : Int) = 0 := eq_of_beq q.1.1
    have q2 : sIx items.size items.size hi - sIx items.size 0 lo = items.size := eq_of_beq q.2
    exact hw ⟨by omega, by omega⟩
  show wpAny _ _ (if (((sIx items.size 0 lo : Nat) : Int) == 0 && (1 : Int) == 1 && (sIx items.size items.size hi - sIx items.size 0 lo) == items.size) = true then _ else _) _ _ s
  rw [if_neg hno, pick_gen]
  first
    | exact wpAny_bind (m := Builtin.Tuple.tupleExact _) (wpAny_newObj_type (wpAny_pure ⟨_, rfl, wpAny_pure h⟩) htake)
    | exact wpAny_bind (m := Builtin.Tuple.tupleExact _) (wpAny_newObj_type (wpAny_bind (wpAny_pure (wpAny_pure ⟨_, rfl, wpAny_pure h⟩))) htake)
    | exact wpAny_bind (wpAny_bind (m := Builtin.Tuple.tupleExact _) (wpAny_newObj_type (wpAny_pure (wpAny_pure ⟨_, rfl, wpAny_pure h⟩)) htake))
    | exact wpAny_bind (wpAny_bind (m := Builtin.Tuple.tupleExact _) (wpAny_newObj_type (wpAny_pure ⟨_, rfl, wpAny_pure h⟩) htake))
end
end HT

namespace L2
open PySem PySem.Spec PyProof.Rows

/-! ### the parts of a slice -/
abbrev TO := St → Hp → (Option Int → Hp → Prop) → Prop
/-- a slice's part (left out, or an int) -/
def PO (X : Cx) (e : Option Expr) (t : TO) : Prop :=
  ∀ (pins : List (Addr × Obj)) (s : Shared) (σ : St) (H : Hp) (Q : Option Int → Hp → Prop), Inv X pins σ H s → t σ H Q →
    wpAny (model X.prog X.w) X.A (evalPart e X.env) (fun u s' => ∃ o H', Inv X pins σ H' s' ∧ IsPart u o ∧ Q o H') X.xe s
def tNoPart : TO := fun _ H Q => Q none H
def tPart (t : TE) : TO := fun σ H Q => t σ H fun x H1 => ∃ i, x = .int i ∧ Q (some i) H1

theorem intsAre_of {ns : List Int} : ∀ {us : List Value}, Vals (ns.map V.int) us → IntsAre us ns := by
  induction ns with
  | nil => intro us r; rw [List.map_nil] at r; cases r; exact .nil
  | cons n ns ih =>
    intro us r
    rw [List.map_cons] at r
    cases r with
    | cons r1 r2 =>
      obtain ⟨t, e⟩ := r1
      subst e
      exact .cons n t (ih r2)

section
variable {X : Cx} {e : Expr} {te : TE} {lo hi : Option Expr} {tl th : TO} {pos p2 : Pos}

theorem po_none : PO X none tNoPart := by
  intro pins s σ H Q I h
  rw [evalPart_none]
  exact wpAny_pure ⟨none, H, I, .none, h⟩
theorem po_some (h : PE X e te) : PO X (some e) (tPart te) := by
  intro pins s σ H Q I hw
  rw [evalPart_some]
  refine thn (h pins s σ H _ I hw) fun u s1 ⟨x, H1, I1, r1, q1⟩ => ?_
  obtain ⟨i, rfl, q⟩ := q1
  obtain ⟨t, rfl⟩ := r1
  exact ⟨some i, H1, I1, .int i t, q⟩

/-- what a slice of a value is, by values: the slice object stands at sl -/
def SlR (X : Cx) (r : V → Option Int → Option Int → Hp → VK → Prop) : Prop :=
  ∀ (pins : List (Addr × Obj)) (s : Shared) (σ : St) (H : Hp) (x : V) (v vl vu : Value) (lo hi : Option Int) (sl : Addr) (Q : VK), Inv X pins σ H s → RelV x v → s.heap.IsSliceOf sl vl vu .none → IsPart vl lo → IsPart vu hi → r x lo hi H Q →
    ∃ T id, typeLookup (.type T) "__getitem__" = pure (some (.builtin id)) ∧ s.TypeIs v T ∧ wpAny (model X.prog X.w) X.A (getItem v (.ref sl)) (EP X pins σ Q) X.xe s
theorem SlR.or {r r' : V → Option Int → Option Int → Hp → VK → Prop} (h : SlR X r) (h' : SlR X r') : SlR X (fun x lo hi H Q => r x lo hi H Q ∨ r' x lo hi H Q) := by
  intro pins s σ H x v vl vu lo hi sl Q I rx hs pl pu q
  rcases q with q | q
  · exact h pins s σ H x v vl vu lo hi sl Q I rx hs pl pu q
  · exact h' pins s σ H x v vl vu lo hi sl Q I rx hs pl pu q
def tSl (r : V → Option Int → Option Int → Hp → VK → Prop) (te : TE) (tl th : TO) : TE := fun σ H Q => te σ H fun x H1 => tl σ H1 fun l H2 => th σ H2 fun u H3 => r x l u H3 Q
/-- a[lo:hi], any a -/
theorem pe_slice {r : V → Option Int → Option Int → Hp → VK → Prop} (hr : SlR X r) (he : PE X e te) (hl : PO X lo tl) (hu : PO X hi th) : PE X (.Subscript e (.Slice lo hi none p2) pos) (tSl r te tl th) := by
  intro pins s σ H Q I h
  refine Subscript_ (thn (he pins s σ H _ I h) fun v s1 ⟨x, H1, I1, r1, q1⟩ => ?_)
  refine wpAny_Slice (thn (hl pins s1 σ H1 _ I1 q1) fun vl s2 ⟨l, H2, I2, pl, q2⟩ => thn (hu pins s2 σ H2 _ I2 q2) fun vu s3 ⟨u, H3, I3, pu, q3⟩ => ?_)
  rw [evalPart_none]
  refine wpAny_pure ?_
  have I4 : Inv X pins σ H3 { s3 with heap := s3.heap.push { cls := .type "slice", data := .fields #[vl, vu, .none] } } := I3.kept (t' := s3.toks) fun b ob q => Heap.get?_push_of_some _ q
  obtain ⟨T, id, hT, ht, hg⟩ := hr pins { s3 with heap := s3.heap.push { cls := .type "slice", data := .fields #[vl, vu, .none] } } σ H3 x v vl vu l u s3.heap.objs.size Q I4 r1 (Heap.IsSliceOf.new ..) pl pu q3
  show wpAny (model X.prog X.w) X.A (subscriptTail e (.Slice lo hi none p2) v (.ref s3.heap.objs.size)) (EP X pins σ Q) X.xe { s3 with heap := s3.heap.push { cls := .type "slice", data := .fields #[vl, vu, .none] } }
  exact tail_any (ops := [.ref s3.heap.objs.size, v]) ht hT hg (by with_unfolding_all rfl)

/-- the items of xs[lo:hi] -/
def cutV (xs : List V) (lo hi : Option Int) : List V := (xs.drop (HT.sIx xs.length 0 lo)).take (HT.sIx xs.length xs.length hi - HT.sIx xs.length 0 lo)
theorem cutV_length (xs : List V) (lo hi : Option Int) : (cutV xs lo hi).length ≤ xs.length := by
  unfold cutV
  rw [List.length_take, List.length_drop]
  omega
/-- t[lo:hi], not the whole of it (the whole would be t itself) -/
def rSlT (K : PySem.W.Frag) : V → Option Int → Option Int → Hp → VK → Prop := fun x lo hi H Q => ∃ a xs, x = .ref a ∧ SqT K H a xs ∧
  ¬ (HT.sIx xs.length 0 lo = 0 ∧ HT.sIx xs.length xs.length hi = xs.length) ∧ ∀ p, H p = none → Q (.ref p) (upd H p (.tup (cutV xs lo hi)))
theorem sl_tup : SlR X (rSlT X.K) := by
  intro pins s σ H x v vl vu lo hi sl Q I rx hs pl pu h
  obtain ⟨a, xs, rfl, hx, hw, q⟩ := h
  cases rx
  obtain ⟨its, r, ht, hz⟩ := I.tuple hx
  have hlen : its.toArray.size = xs.length := by rw [List.size_toArray]; exact r.length.symm
  refine ⟨"tuple", _, PyProof.Rows.slot_tuple_getitem.lookup, ht.typeIs, ?_⟩
  refine HT.getItem_tuple_cut ht hs pl pu (by rw [hlen]; exact hw) ?_ (by rw [hlen]; exact hz)
  rw [hlen]
  refine ⟨.ref s.heap.objs.size, _, I.laid (t' := s.toks) (o := .tup (cutV xs lo hi)) (fun b ob q => Heap.get?_push_of_some _ q) (Nat.le_refl _) ?_, rfl, q _ (I.hok.fresh (Nat.le_refl _))⟩
  exact ⟨Nat.le_trans (cutV_length xs lo hi) hz, _, (r.drop (HT.sIx xs.length 0 lo)).take (HT.sIx xs.length xs.length hi - HT.sIx xs.length 0 lo), IsTup.new _ _⟩

/-! ### t < u, t + u -/
def rLtT (K : PySem.W.Frag) : R2 := fun x y H Q => ∃ a b ns ms, x = .ref a ∧ y = .ref b ∧ SqT K H a (ns.map V.int) ∧ SqT K H b (ms.map V.int) ∧ Q (.bl (HT.lexLt ns ms)) H
theorem op_ltT (hu : X.A.units < cLine) : OpR X (compareOp .Lt) (rLtT X.K) := by
  intro pins s σ H x y v u Q I rx ry h
  obtain ⟨a, b, ns, ms, rfl, rfl, ha, hb, q⟩ := h
  cases rx
  cases ry
  obtain ⟨its, r1, p1, _⟩ := I.tuple ha
  obtain ⟨its2, r2, p2, _⟩ := I.tuple hb
  have i1 : IntsAre its.toArray.toList ns := intsAre_of r1
  have i2 : IntsAre its2.toArray.toList ms := intsAre_of r2
  exact HT.lt_tupInts p1 p2 i1 i2 hu ⟨.bl (HT.lexLt ns ms), H, I, rfl, q⟩
/-- t + u, t not empty: u empty gives t itself -/
def rCatT (K : PySem.W.Frag) : R2 := fun x y H Q => ∃ a b xs ys, x = .ref a ∧ y = .ref b ∧ SqT K H a xs ∧ SqT K H b ys ∧ xs ≠ [] ∧ xs.length + ys.length ≤ sizeLine ∧
  (ys = [] → Q (.ref a) H) ∧ (ys ≠ [] → ∀ p, H p = none → Q (.ref p) (upd H p (.tup (xs ++ ys))))
theorem Vals.nil_iff {xs : List V} {us : List Value} (r : Vals xs us) : us = [] ↔ xs = [] := by
  cases r with
  | nil => simp
  | cons _ _ => simp
theorem op_catT : OpR X (binaryOp .Add) (rCatT X.K) := by
  intro pins s σ H x y v u Q I rx ry h
  obtain ⟨a, b, xs, ys, rfl, rfl, ha, hb, hx, hz, q1, q2⟩ := h
  cases rx
  cases ry
  obtain ⟨its, r1, p1, _⟩ := I.tuple ha
  obtain ⟨its2, r2, p2, _⟩ := I.tuple hb
  refine HT.cat_tup p1 p2 (fun z => hx (r1.nil_iff.mp z)) (fun z => ⟨.ref a, H, I, rfl, q1 (r2.nil_iff.mp z)⟩) (fun z => ?_) (by rw [← r1.length, ← r2.length]; exact hz)
  refine ⟨.ref s.heap.objs.size, _, I.laid (t' := s.toks) (o := .tup (xs ++ ys)) (fun b ob q => Heap.get?_push_of_some _ q) (Nat.le_refl _) ?_, rfl, q2 (fun w => z (r2.nil_iff.mpr w)) _ (I.hok.fresh (Nat.le_refl _))⟩
  exact ⟨by rw [List.length_append]; exact hz, _, r1.append r2, IsTup.new _ _⟩
/-- tuple(t) -/
theorem call_tupleT : CallR X (.type "tuple") (fun xs H Q => ∃ a ys, xs = [.ref a] ∧ SqT X.K H a ys ∧ Q (.ref a) H) := by
  intro pins s σ H xs us Q I r h
  obtain ⟨a, ys, rfl, ha, q⟩ := h
  obtain ⟨u, rfl, ru⟩ := vals1 r
  cases ru
  obtain ⟨its, _, p1, _⟩ := I.tuple ha
  exact call_tuple_same (items := its.toArray) p1 ⟨.ref a, H, I, rfl, q⟩
end
end L2

namespace L2
open PySem PySem.Spec PyProof.Rows

/-! ### places -/
/-- the place that an index of any sign means -/
def ixN (n : Nat) (i : Int) : Option Nat := if 0 ≤ i then (if i < n then some i.toNat else none) else if -(n : Int) ≤ i then some (i + n).toNat else none
def atI {α : Type} (xs : List α) (i : Int) : Option α := (ixN xs.length i).bind fun j => xs[j]?
theorem ixN_seq {n : Nat} {i : Int} {j : Nat} (h : ixN n i = some j) : seqIndex? i n = some j ∧ j < n ∧ -(n : Int) ≤ i ∧ i < n := by
  unfold ixN at h
  by_cases h0 : 0 ≤ i
  · rw [if_pos h0] at h
    by_cases h1 : i < n
    · rw [if_pos h1] at h
      have e : i.toNat = j := Option.some.inj h
      exact ⟨by rw [seqIndex_of h0 h1, e], by omega, by omega, h1⟩
    · rw [if_neg h1] at h; cases h
  · rw [if_neg h0] at h
    by_cases h1 : -(n : Int) ≤ i
    · rw [if_pos h1] at h
      have e : (i + n).toNat = j := Option.some.inj h
      exact ⟨by rw [seqIndex_neg (by omega) h1, e], by omega, h1, by omega⟩
    · rw [if_neg h1] at h; cases h
theorem atI_get {α : Type} {xs : List α} {i : Int} {v : α} (h : atI xs i = some v) : ∃ j, seqIndex? i xs.length = some j ∧ xs[j]? = some v ∧ j < xs.length ∧ -(xs.length : Int) ≤ i ∧ i < xs.length := by
  unfold atI at h
  cases e : ixN xs.length i with
  | none => rw [e] at h; cases h
  | some j =>
    rw [e] at h
    obtain ⟨h1, h2, h3, h4⟩ := ixN_seq e
    exact ⟨j, h1, h, h2, h3, h4⟩
theorem atI_nat {α : Type} {xs : List α} {j : Nat} {v : α} (h : xs[j]? = some v) : atI xs (j : Int) = some v := by
  have hj : j < xs.length := (List.getElem?_eq_some_iff.mp h).1
  have e : ixN xs.length (j : Int) = some j := by
    unfold ixN
    rw [if_pos (by omega), if_pos (by omega)]; simp
  unfold atI; rw [e]; exact h
theorem atI_last {α : Type} (xs : List α) (v : α) : atI (xs ++ [v]) (-1) = some v := by
  have hl : (xs ++ [v]).length = xs.length + 1 := by simp
  have e : ixN (xs ++ [v]).length (-1) = some xs.length := by
    unfold ixN
    rw [hl, if_neg (by decide), if_pos (by omega)]
    congr 1
    omega
  unfold atI
  rw [e]
  show (xs ++ [v])[xs.length]? = some v
  simp

/-! ### what may be subscripted -/
/-- what stands as an index of a plain subscript -/
def PlainIx (b : Expr) : Prop := ∀ o i, subscripted b false o i = operate [o, i] (getItem o i)
/-- a subscript by values -/
def IxR (X : Cx) (r : R2) : Prop :=
  ∀ (value slice : Expr) (pins : List (Addr × Obj)) (s : Shared) (σ : St) (H : Hp) (x y : V) (v u : Value) (Q : VK), Inv X pins σ H s → RelV x v → RelV y u → r x y H Q →
    subscripted slice false v u = operate [v, u] (getItem v u) → wpAny (model X.prog X.w) X.A (subscriptTail value slice v u) (EP X pins σ Q) X.xe s
/-- a call of a builtin's method by values: the receiver, the arguments -/
def MtR (X : Cx) (id : String) (r : V → List V → Hp → VK → Prop) : Prop :=
  ∀ (pins : List (Addr × Obj)) (s : Shared) (σ : St) (H : Hp) (x : V) (xs : List V) (v : Value) (us : List Value) (Q : VK), Inv X pins σ H s → RelV x v → Vals xs us → r x xs H Q →
    wpAny (model X.prog X.w) X.A (call (.builtin id) (v :: us)) (EP X pins σ Q) X.xe s
section
variable {X : Cx} {a b : Expr} {ta tb : TE} {pos : Pos}
theorem IxR.or {r r' : R2} (h : IxR X r) (h' : IxR X r') : IxR X (fun x y H Q => r x y H Q ∨ r' x y H Q) := by
  intro value slice pins s σ H x y v u Q I rx ry q hs
  rcases q with q | q
  · exact h value slice pins s σ H x y v u Q I rx ry q hs
  · exact h' value slice pins s σ H x y v u Q I rx ry q hs
theorem MtR.or {id : String} {r r' : V → List V → Hp → VK → Prop} (h : MtR X id r) (h' : MtR X id r') : MtR X id (fun x xs H Q => r x xs H Q ∨ r' x xs H Q) := by
  intro pins s σ H x xs v us Q I rx rs q
  rcases q with q | q
  · exact h pins s σ H x xs v us Q I rx rs q
  · exact h' pins s σ H x xs v us Q I rx rs q
/-- a[b] -/
theorem pe_ix {r : R2} (hr : IxR X r) (ha : PE X a ta) (hb : PE X b tb) (hs : PlainIx b) : PE X (.Subscript a b pos) (tOp r ta tb) := by
  intro pins s σ H Q I h
  exact Subscript_ (binT ha hb I h fun v u s2 x y H2 I2 rx ry q => hr a b pins s2 σ H2 x y v u Q I2 rx ry q (hs _ _))

def rIxL (K : PySem.W.Frag) : R2 := fun x y H Q => ∃ p xs i v, x = .ref p ∧ y = .int i ∧ SqL K H p xs ∧ atI xs i = some v ∧ Q v H
def rIxT (K : PySem.W.Frag) : R2 := fun x y H Q => ∃ p xs i v, x = .ref p ∧ y = .int i ∧ SqT K H p xs ∧ atI xs i = some v ∧ Q v H
def rIxS : R2 := fun x y H Q => ∃ z i c, x = .str z ∧ y = .int i ∧ z.length ≤ sizeLine ∧ atI z.cps.toList i = some c ∧ Q (.str ⟨#[c]⟩) H
theorem ix_list : IxR X (rIxL X.K) := by
  intro value slice pins s σ H x y v u Q I rx ry h hs
  obtain ⟨p, xs, i, z, rfl, rfl, hq, he, q⟩ := h
  cases rx
  obtain ⟨t, rfl⟩ := ry
  obtain ⟨its, r, pl, hz⟩ := I.list hq
  obtain ⟨j, h1, h2, h3, h4, h5⟩ := atI_get he
  obtain ⟨w, ew, rw'⟩ := r.get h2
  have hl := r.length
  have hn := line63
  have fin : EP X pins σ Q w s := ⟨z, H, I, rw', q⟩
  by_cases h0 : 0 ≤ i
  · have hj : i.toNat = j := by
      rw [seqIndex_of h0 h5] at h1
      exact Option.some.inj h1
    exact item_listR pl.isList h0 (by omega) (by rw [hj]; simpa using ew) fin hs
  · have hj : (i + (its.toArray.size : Int)).toNat = j := by
      rw [seqIndex_neg (by omega) h4] at h1
      rw [List.size_toArray, ← hl]
      exact Option.some.inj h1
    exact subscriptTail_builtinR (x := w) pl.isList.typeIs slot_list_getitem.lookup
      (wpAny_getItem_list_neg (Q := fun r s' => r = w ∧ EP X pins σ Q r s') pl.isList (by omega) (by rw [List.size_toArray] <;> omega) (by omega) (by rw [hj]; simpa using ew) ⟨rfl, fin⟩) hs
theorem ix_tup : IxR X (rIxT X.K) := by
  intro value slice pins s σ H x y v u Q I rx ry h hs
  obtain ⟨p, xs, i, z, rfl, rfl, hq, he, q⟩ := h
  cases rx
  obtain ⟨t, rfl⟩ := ry
  obtain ⟨its, r, pl, hz⟩ := I.tuple hq
  obtain ⟨j, h1, h2, h3, h4, h5⟩ := atI_get he
  obtain ⟨w, ew, rw'⟩ := r.get h2
  have hl := r.length
  have hn := line63
  have fin : EP X pins σ Q w s := ⟨z, H, I, rw', q⟩
  exact subscriptTail_builtinR (x := w) pl.typeIs slot_tuple_getitem.lookup
    (getItem_tuple (j := j) (Q := fun r s' => r = w ∧ EP X pins σ Q r s') pl (by omega) (by omega) (by rw [List.size_toArray, ← hl]; exact h1) (by simpa using ew) ⟨rfl, fin⟩) hs
theorem ix_str : IxR X rIxS := by
  intro value slice pins s σ H x y v u Q I rx ry h hs
  obtain ⟨z, i, c, rfl, rfl, hz, he, q⟩ := h
  obtain ⟨t, rfl⟩ := rx
  obtain ⟨t', rfl⟩ := ry
  obtain ⟨j, h1, h2, h3, h4, h5⟩ := atI_get he
  have hl : z.cps.toList.length = z.length := by simp [Str.length]
  rw [hl] at h1 h4 h5
  have hn := line63
  exact tail_any (typeIs_str s z t) slot_str_getitem.lookup (getItem_str (c := c) (by
    have e1 : decide (i < -(2 ^ 63 : Int)) = false := decide_eq_false (by omega)
    have e2 : decide (i ≥ 2 ^ 63) = false := decide_eq_false (by omega)
    rw [e1, e2, Bool.or_false]) (by rw [h1]; simpa using h2) ⟨.str ⟨#[c]⟩, H, I.tok _, ⟨_, rfl⟩, q⟩) hs
/-- list, tuple or str -/
def rIx (K : PySem.W.Frag) : R2 := fun x y H Q => rIxL K x y H Q ∨ rIxT K x y H Q ∨ rIxS x y H Q
theorem ix_seq : IxR X (rIx X.K) := ix_list.or (ix_tup.or ix_str)

/-! ### xs[i] = v, any sign -/
/-- the list's object behind a store -/
theorem mapSeq_set (its : List Value) (n j : Nat) (u : Value) : Obj.mapSeq (·.setIfInBounds j u) { cls := .type "list", data := .seq its.toArray n } = { cls := .type "list", data := .seq (its.set j u).toArray n } := by
  simp [Obj.mapSeq]
theorem Inv.lst {pins : List (Addr × Obj)} {σ : St} {H : Hp} {s : Shared} {p : Addr} {xs : List V} (I : Inv X pins σ H s) (h : H p = some (.lst xs)) :
    ∃ (its : List Value) (n : Nat), Vals xs its ∧ s.heap.get? p = some { cls := .type "list", data := .seq its.toArray n } ∧ xs.length ≤ sizeLine := by
  obtain ⟨z, its, n, r, e⟩ := I.hok p _ h
  exact ⟨its, n, r, e, z⟩
/-- the list at p is written by an update of its object -/
theorem Inv.lstUpd {pins : List (Addr × Obj)} {σ : St} {H : Hp} {s : Shared} {p : Addr} {xs ys : List V} {its its' : List Value} {n n' : Nat} {f : Obj → Obj} (I : Inv X pins σ H s) (h : H p = some (.lst xs))
    (ho : s.heap.get? p = some { cls := .type "list", data := .seq its.toArray n }) (hf : f { cls := .type "list", data := .seq its.toArray n } = { cls := .type "list", data := .seq its'.toArray n' }) (r : Vals ys its') (hz : ys.length ≤ sizeLine) (t : Nat) :
    Inv X pins σ (upd H p (.lst ys)) { s with heap := s.heap.update p f, toks := t } := by
  have e : (s.heap.update p f).get? p = some { cls := .type "list", data := .seq its'.toArray n' } := by
    rw [Heap.get?_update_self f ho (by rw [hf] <;> rfl), hf]
  refine I.write (x := p) (e := p) (by rw [h]; trivial) (.inl rfl) (fun b u hb q => (Heap.get?_update_other _ _ (Ne.symm hb)).trans q) ⟨_, e⟩ ?_
  exact ⟨hz, its', n', r, e⟩
def rSetL : V → V → V → Hp → (Hp → Prop) → Prop := fun o i v H Q => ∃ p xs k j, o = .ref p ∧ i = .int k ∧ H p = some (.lst xs) ∧ ixN xs.length k = some j ∧ Q (upd H p (.lst (xs.set j v)))
theorem set_list : PSet X rSetL := by
  intro pins s σ H o i v ov iv u Q I ro ri rv h
  obtain ⟨p, xs, k, j, rfl, rfl, hp, hj, q⟩ := h
  cases ro
  obtain ⟨t, rfl⟩ := ri
  obtain ⟨its, n, r, ho, hz⟩ := I.lst hp
  obtain ⟨h1, h2, h3, h4⟩ := ixN_seq hj
  have hl := r.length
  have hn := line63
  have I' : Inv X pins σ (upd H p (.lst (xs.set j v))) { s with heap := s.heap.update p (Obj.mapSeq (·.setIfInBounds j u)) } :=
    I.lstUpd hp ho (mapSeq_set its n j u) (r.set rv j) (by rw [List.length_set]; exact hz) s.toks
  by_cases h0 : 0 ≤ k
  · have hk : k.toNat = j := by
      rw [seqIndex_of h0 h4] at h1
      exact Option.some.inj h1
    exact PySem.W.ki_setAt ho h0 (by omega) (by rw [List.size_toArray, ← hl]; exact h4) (by rw [hk]; exact ⟨_, I', q⟩)
  · have hk : (k + (its.toArray.size : Int)).toNat = j := by
      rw [seqIndex_neg (by omega) h3] at h1
      rw [List.size_toArray, ← hl]
      exact Option.some.inj h1
    exact PySem.W.ki_setBack ho (by omega) (by rw [List.size_toArray, ← hl]; exact h3) (by omega) (by rw [hk]; exact ⟨_, I', q⟩)

/-! ### slices -/
theorem slice_bounds (lo hi : Option Int) (n : Nat) : (sliceBounds lo hi none n).1 = ((HT.sIx n 0 lo : Nat) : Int) ∧ (sliceBounds lo hi none n).2.1 = ((HT.sIx n n hi : Nat) : Int) ∧ (sliceBounds lo hi none n).2.2 = 1 := by
  refine ⟨?_, ?_, rfl⟩
  · cases lo with
    | none => simp [sliceBounds, HT.sIx]
    | some i =>
      simp only [sliceBounds, HT.sIx, Option.getD_none, show (1 : Int) > 0 by decide, if_true]
      by_cases h : i < 0
      · simp only [h, if_true] <;> omega
      · simp only [h, if_false] <;> omega
  · cases hi with
    | none => simp [sliceBounds, HT.sIx]
    | some i =>
      simp only [sliceBounds, HT.sIx, Option.getD_none, show (1 : Int) > 0 by decide, if_true]
      by_cases h : i < 0
      · simp only [h, if_true] <;> omega
      · simp only [h, if_false] <;> omega
theorem slicePick_cut (its : List Value) (lo hi : Option Int) : slicePick its.toArray lo hi none = ((its.drop (HT.sIx its.length 0 lo)).take (HT.sIx its.length its.length hi - HT.sIx its.length 0 lo)).toArray := by
  obtain ⟨h1, h2, h3⟩ := slice_bounds lo hi its.toArray.size
  unfold slicePick
  rw [h1, h2, h3]
  simp only [sliceRange_one, pick_run, List.size_toArray] <;> rfl
/-- xs[lo:hi] of a list: a new list -/
def rSlL (K : PySem.W.Frag) : V → Option Int → Option Int → Hp → VK → Prop := fun x lo hi H Q => ∃ a xs, x = .ref a ∧ SqL K H a xs ∧ ∀ p, H p = none → Q (.ref p) (upd H p (.lst (cutV xs lo hi)))
theorem sl_list : SlR X (rSlL X.K) := by
  intro pins s σ H x v vl vu lo hi sl Q I rx hs pl pu h
  obtain ⟨a, xs, rfl, hx, q⟩ := h
  cases rx
  obtain ⟨its, r, ht, hz⟩ := I.list hx
  have hlen := r.length
  refine ⟨"list", _, slot_list_getitem.lookup, ht.isList.typeIs, ?_⟩
  refine wpAny_getItem_list_slice ht.isList hs pl pu .none (by simp) ?_ (by rw [List.size_toArray] <;> omega)
  rw [slicePick_cut, ← hlen]
  refine ⟨.ref s.heap.objs.size, _, I.laid (t' := s.toks) (o := .lst (cutV xs lo hi)) (fun b ob q => Heap.get?_push_of_some _ q) (Nat.le_refl _) ?_, rfl, q _ (I.hok.fresh (Nat.le_refl _))⟩
  exact ⟨Nat.le_trans (cutV_length xs lo hi) hz, _, 0, (r.drop (HT.sIx xs.length 0 lo)).take (HT.sIx xs.length xs.length hi - HT.sIx xs.length 0 lo), Heap.get?_push_size _ rfl⟩

/-! ### in, not in: flat items -/
def flatV : V → Bool
  | .non => true
  | .bl _ => true
  | .int _ => true
  | .str _ => true
  | _ => false
/-- == of flat values -/
def eqV : V → V → Bool
  | .non, .non => true
  | .bl a, .bl b => a == b
  | .bl a, .int b => (if a then 1 else 0) == b
  | .int a, .bl b => a == (if b then 1 else 0)
  | .int a, .int b => a == b
  | .str a, .str b => a == b
  | _, _ => false
theorem eqAt_V {A : Around} {s : Shared} {y x : V} {u v : Value} (ry : RelV y u) (rx : RelV x v) (fy : flatV y = true) (fx : flatV x = true) : SeqAt.EqAt A s u v (eqV y x) := by
  cases y with
  | non =>
    cases ry
    cases x with
    | non => cases rx; exact SeqAt.EqAt.same _
    | bl b => cases rx; exact SeqAt.EqAt.none_bool b
    | int b => obtain ⟨t, rfl⟩ := rx; exact SeqAt.EqAt.none_int b t
    | str b => obtain ⟨t, rfl⟩ := rx; exact SeqAt.EqAt.none_str b t
    | _ => exact absurd (show false = true from fx) Bool.false_ne_true
  | bl a =>
    cases ry
    cases x with
    | non => cases rx; exact SeqAt.EqAt.bool_none a
    | bl b => cases rx; exact SeqAt.EqAt.bool_bool a b
    | int b => obtain ⟨t, rfl⟩ := rx; exact SeqAt.EqAt.bool_int a b t
    | str b => obtain ⟨t, rfl⟩ := rx; exact SeqAt.EqAt.bool_str a b t
    | _ => exact absurd (show false = true from fx) Bool.false_ne_true
  | int a =>
    obtain ⟨t', rfl⟩ := ry
    cases x with
    | non => cases rx; exact SeqAt.EqAt.int_none a t'
    | bl b => cases rx; exact SeqAt.EqAt.int_bool a t' b
    | int b => obtain ⟨t, rfl⟩ := rx; exact SeqAt.EqAt.int_int a t' b t
    | str b => obtain ⟨t, rfl⟩ := rx; exact SeqAt.EqAt.int_str a t' b t
    | _ => exact absurd (show false = true from fx) Bool.false_ne_true
  | str a =>
    obtain ⟨t', rfl⟩ := ry
    cases x with
    | non => cases rx; exact SeqAt.EqAt.str_none a t'
    | bl b => cases rx; exact SeqAt.EqAt.str_bool a t' b
    | int b => obtain ⟨t, rfl⟩ := rx; exact SeqAt.EqAt.str_int a t' b t
    | str b => obtain ⟨t, rfl⟩ := rx; exact SeqAt.EqAt.str_str a t' b t
    | _ => exact absurd (show false = true from fx) Bool.false_ne_true
  | _ => exact absurd (show false = true from fy) Bool.false_ne_true
/-- the items' answers, read off the values (a value's own answer does not lean on its token) -/
def eqU (x : V) (u : Value) : Bool := match u with
  | .none => eqV .non x
  | .bool b => eqV (.bl b) x
  | .int i _ => eqV (.int i) x
  | .str z _ => eqV (.str z) x
  | _ => false
theorem eqU_of {x y : V} {u : Value} (r : RelV y u) (f : flatV y = true) : eqU x u = eqV y x := by
  cases y with
  | non => cases r; rfl
  | bl b => cases r; rfl
  | int i => obtain ⟨t, rfl⟩ := r; rfl
  | str z => obtain ⟨t, rfl⟩ := r; rfl
  | _ => exact absurd (show false = true from f) Bool.false_ne_true
theorem any_eqU {x : V} : ∀ {xs : List V} {us : List Value}, Vals xs us → xs.all flatV = true → us.any (eqU x) = xs.any fun y => eqV y x
  | _, _, .nil, _ => rfl
  | y :: xs, u :: us, .cons r t, f => by
    rw [List.all_cons, Bool.and_eq_true] at f
    rw [List.any_cons, List.any_cons, eqU_of r f.1, any_eqU t f.2]
theorem mem_eqAt {A : Around} {s : Shared} {x : V} {v : Value} (rx : RelV x v) (fx : flatV x = true) : ∀ {xs : List V} {us : List Value}, Vals xs us → xs.all flatV = true → ∀ u ∈ us, SeqAt.EqAt A s u v (eqU x u)
  | _, _, .nil, _ => fun u hu => by cases hu
  | y :: xs, u :: us, .cons r t, f => fun u' hu => by
    rw [List.all_cons, Bool.and_eq_true] at f
    rcases List.mem_cons.mp hu with rfl | hu
    · rw [eqU_of r f.1]; exact eqAt_V r rx f.1 fx
    · exact mem_eqAt rx fx t f.2 u' hu
def inV (x : V) (xs : List V) : Bool := xs.any fun y => eqV y x
/-- x in a list or tuple of flat items -/
def rIn (K : PySem.W.Frag) (neg : Bool) : R2 := fun x y H Q => ∃ p xs, y = .ref p ∧ (SqL K H p xs ∨ SqT K H p xs) ∧ flatV x = true ∧ xs.all flatV = true ∧ Q (.bl (if neg then !inV x xs else inV x xs)) H
theorem op_in_seq : OpR X (compareOp .In) (rIn X.K false) := by
  intro pins s σ H x y v u Q I rx ry h
  obtain ⟨p, xs, rfl, hq, fx, fs, q⟩ := h
  cases ry
  rcases hq with hq | hq
  · obtain ⟨its, r, pl, hz⟩ := I.list hq
    refine SeqAt.in_listAt (eqU x) pl.isList (fun w hw => mem_eqAt rx fx r fs w (by simpa using hw)) ⟨.bl _, H, I, rfl, ?_⟩
    rw [show its.toArray.any (eqU x) = its.any (eqU x) by simp, any_eqU r fs]
    exact q
  · obtain ⟨its, r, pl, hz⟩ := I.tuple hq
    refine SeqAt.in_tupleAt (eqU x) pl (fun w hw => mem_eqAt rx fx r fs w (by simpa using hw)) ⟨.bl _, H, I, rfl, ?_⟩
    rw [show its.toArray.any (eqU x) = its.any (eqU x) by simp, any_eqU r fs]
    exact q
theorem op_notIn_seq : OpR X (compareOp .NotIn) (rIn X.K true) := by
  intro pins s σ H x y v u Q I rx ry h
  obtain ⟨p, xs, rfl, hq, fx, fs, q⟩ := h
  cases ry
  rcases hq with hq | hq
  · obtain ⟨its, r, pl, hz⟩ := I.list hq
    refine SeqAt.notIn_listAt (eqU x) pl.isList (fun w hw => mem_eqAt rx fx r fs w (by simpa using hw)) ⟨.bl _, H, I, rfl, ?_⟩
    rw [show its.toArray.any (eqU x) = its.any (eqU x) by simp, any_eqU r fs]
    exact q
  · obtain ⟨its, r, pl, hz⟩ := I.tuple hq
    refine SeqAt.notIn_tupleAt (eqU x) pl (fun w hw => mem_eqAt rx fx r fs w (by simpa using hw)) ⟨.bl _, H, I, rfl, ?_⟩
    rw [show its.toArray.any (eqU x) = its.any (eqU x) by simp, any_eqU r fs]
    exact q
theorem op_notIn_str : OpR X (compareOp .NotIn) (fun x y H Q => ∃ i j, x = .str i ∧ y = .str j ∧ Q (.bl (!(!(Builtin.Str.occurrences j i 0 j.length 1).isEmpty))) H) := by
  intro pins s σ H x y v u Q I rx ry h
  obtain ⟨i, j, rfl, rfl, q⟩ := h
  obtain ⟨t, rfl⟩ := rx
  obtain ⟨t', rfl⟩ := ry
  exact notIn_str ⟨.bl _, H, I, rfl, q⟩

/-! ### len, list(x), tuple(x) of any list or tuple that is read -/
theorem call_len_seq : CallR X (.builtin "len") (fun xs H Q => ∃ p ys, xs = [.ref p] ∧ (SqL X.K H p ys ∨ SqT X.K H p ys) ∧ Q (.int ys.length) H) := by
  intro pins s σ H xs us Q I r h
  obtain ⟨p, ys, rfl, hq, q⟩ := h
  obtain ⟨u, rfl, rx⟩ := vals1 r
  cases rx
  have hn := line63
  rcases hq with hq | hq
  · obtain ⟨its, r', pl, hz⟩ := I.list hq
    have hlen := r'.length
    exact Calls.call_len_list pl.isList (by simp only [List.size_toArray] <;> omega) ⟨.int ys.length, H, I.tok _, ⟨s.toks + 1, by rw [List.size_toArray, hlen]⟩, q⟩
  · obtain ⟨its, r', pl, hz⟩ := I.tuple hq
    have hlen := r'.length
    exact len_tuple pl (by simp only [List.size_toArray] <;> omega) ⟨.int ys.length, H, I.tok _, ⟨s.toks + 1, by rw [List.size_toArray, hlen]⟩, q⟩
theorem call_len_str : CallR X (.builtin "len") (fun xs H Q => ∃ z, xs = [.str z] ∧ z.length ≤ sizeLine ∧ Q (.int z.length) H) := by
  intro pins s σ H xs us Q I r h
  obtain ⟨z, rfl, hz, q⟩ := h
  obtain ⟨u, rfl, t, rfl⟩ := vals1 r
  have hn := line63
  exact len_str (by omega) ⟨.int z.length, H, I.tok _, ⟨_, rfl⟩, q⟩
theorem CallR.or {f : Value} {r r' : List V → Hp → VK → Prop} (h : CallR X f r) (h' : CallR X f r') : CallR X f (fun xs H Q => r xs H Q ∨ r' xs H Q) := by
  intro pins s σ H xs us Q I rs q
  rcases q with q | q
  · exact h pins s σ H xs us Q I rs q
  · exact h' pins s σ H xs us Q I rs q
theorem call_list_of : CallR X (.type "list") (fun xs H Q => ∃ p ys, xs = [.ref p] ∧ (SqL X.K H p ys ∨ SqT X.K H p ys) ∧ ∀ l, H l = none → Q (.ref l) (upd H l (.lst ys))) := by
  intro pins s σ H xs us Q I r h
  obtain ⟨p, ys, rfl, hq, q⟩ := h
  obtain ⟨u, rfl, rx⟩ := vals1 r
  cases rx
  have fin : ∀ (its : List Value), Vals ys its → ys.length ≤ sizeLine → ∀ (h' : Heap) (c' : Nat), (∀ b o', s.heap.get? b = some o' → h'.get? b = some o') →
      h'.get? s.heap.objs.size = some { cls := .type "list", dict := none, data := .seq its.toArray c', slots := #[] } → EP X pins σ Q (.ref s.heap.objs.size) { s with heap := h' } := fun its r' hz h' c' kp e =>
    ⟨.ref s.heap.objs.size, _, I.laid (t' := s.toks) kp (Nat.le_refl _) (show ObjOk X.prog X.w _ h' _ (.lst ys) from ⟨hz, its, c', r', e⟩), rfl, q _ (I.hok.fresh (Nat.le_refl _))⟩
  rcases hq with hq | hq
  · obtain ⟨its, r', pl, hz⟩ := I.list hq
    have hlen := r'.length
    obtain ⟨o, ho, hc, n, hd⟩ := pl.isList
    exact call_list_seq p (.inl rfl) ho hc hd (fun h' c' kp e => fin its r' hz h' c' kp e) (by simp only [List.size_toArray] <;> omega)
  · obtain ⟨its, r', pl, hz⟩ := I.tuple hq
    have hlen := r'.length
    obtain ⟨o, ho, hc, n, hd⟩ := pl
    exact call_list_seq p (.inr rfl) ho hc hd (fun h' c' kp e => fin its r' hz h' c' kp e) (by simp only [List.size_toArray] <;> omega)
theorem call_tuple_of : CallR X (.type "tuple") (fun xs H Q => ∃ p ys, xs = [.ref p] ∧ ((SqL X.K H p ys ∧ ∀ l, H l = none → Q (.ref l) (upd H l (.tup ys))) ∨ (SqT X.K H p ys ∧ Q (.ref p) H))) := by
  intro pins s σ H xs us Q I r h
  obtain ⟨p, ys, rfl, h⟩ := h
  obtain ⟨u, rfl, rx⟩ := vals1 r
  cases rx
  rcases h with ⟨hq, q⟩ | ⟨hq, q⟩
  · obtain ⟨its, r', pl, hz⟩ := I.list hq
    have hlen := r'.length
    refine call_tuple_list pl.isList (fun h' kp => ?_) (by simp only [List.size_toArray] <;> omega)
    have I1 : Inv X pins σ H { s with heap := h' } := I.kept (t' := s.toks) kp
    have I2 : Inv X pins σ (upd H h'.objs.size (.tup ys)) { s with heap := h'.push { cls := .type "tuple", data := .seq its.toArray } } :=
      I1.laid (t' := s.toks) (fun b o e => Heap.get?_push_of_some _ e) (Nat.le_refl _) (show ObjOk X.prog X.w _ _ _ (.tup ys) from ⟨hz, its, r', IsTup.new _ _⟩)
    exact ⟨.ref h'.objs.size, _, I2, rfl, q _ (I1.hok.fresh (Nat.le_refl _))⟩
  · obtain ⟨its, r', pl, hz⟩ := I.tuple hq
    exact call_tuple_same pl ⟨.ref p, H, I, rfl, q⟩

/-! ### the call of a builtin's method: o.m(..) -/
/-- the value is of that builtin type -/
def tyV (K : PySem.W.Frag) (T : String) (x : V) (H : Hp) : Prop := match x with
  | .str _ => T = "str"
  | .int _ => T = "int"
  | .ref p => (T = "list" ∧ ∃ xs, SqL K H p xs) ∨ (T = "tuple" ∧ ∃ o, K.lookup p = some o ∧ o.cls = .type "tuple" ∧ o.dict = none) ∨
      (T = "dict" ∧ ((∃ kvs, H p = some (.dK kvs)) ∨ ∃ kvs, H p = some (.dT kvs))) ∨ (T = "set" ∧ ∃ S n, H p = some (.set S n))
  | _ => False
theorem tyV_is {pins : List (Addr × Obj)} {σ : St} {H : Hp} {s : Shared} {T : String} {x : V} {v : Value} (I : Inv X pins σ H s) (r : RelV x v) (ty : tyV X.K T x H) :
    s.TypeIs v T ∧ ∀ a, v = .ref a → ∃ ob, s.heap.get? a = some ob ∧ ob.dict = none := by
  cases x with
  | str z =>
    obtain ⟨t, rfl⟩ := r
    cases (show T = "str" from ty)
    exact ⟨typeIs_str s z t, fun _ e => nomatch e⟩
  | int i =>
    obtain ⟨t, rfl⟩ := r
    cases (show T = "int" from ty)
    exact ⟨typeIs_int s i t, fun _ e => nomatch e⟩
  | ref p =>
    cases r
    rcases ty with ⟨rfl, xs, hq⟩ | ⟨rfl, o, hk, hc, hd⟩ | ⟨rfl, hk⟩ | ⟨rfl, S, n, hk⟩
    · obtain ⟨its, _, pl, _⟩ := I.list hq
      refine ⟨pl.isList.typeIs, fun a e => ?_⟩
      cases e
      obtain ⟨o, n, e, c, hd, _⟩ := pl
      exact ⟨o, e, hd⟩
    · refine ⟨⟨o, I.kIn p o hk, hc⟩, fun a e => ?_⟩
      cases e
      exact ⟨o, I.kIn _ o hk, hd⟩
    · have z : ∃ o, s.heap.get? p = some o ∧ o.ExactDict := by
        rcases hk with ⟨kvs, hk⟩ | ⟨kvs, hk⟩
        · obtain ⟨_, _, _, _, o, _, _, e, ex, _⟩ := I.hok p _ hk
          exact ⟨o, e, ex⟩
        · obtain ⟨_, _, _, _, o, _, _, e, ex, _⟩ := I.hok p _ hk
          exact ⟨o, e, ex⟩
      obtain ⟨o, e, ex⟩ := z
      refine ⟨⟨o, e, ex.1⟩, fun a e2 => ?_⟩
      cases e2
      exact ⟨o, e, ex.2.1⟩
    · obtain ⟨o, _, _, _, e, ex, _⟩ := I.hok p _ hk
      refine ⟨⟨o, e, ex.1⟩, fun a e2 => ?_⟩
      cases e2
      exact ⟨o, e, ex.2.1⟩
  | _ => exact False.elim ty
def tBM0 (K : PySem.W.Frag) (T : String) (r : V → List V → Hp → VK → Prop) (to : TE) : TE := fun σ H Q => to σ H fun x H1 => tyV K T x H1 ∧ r x [] H1 Q
def tBM (K : PySem.W.Frag) (T : String) (r : V → List V → Hp → VK → Prop) (to : TE) (t : TA) : TE := fun σ H Q => to σ H fun x H1 => tyV K T x H1 ∧ t σ H1 fun xs H2 => r x xs H2 Q
variable {o e : Expr} {es : List Expr} {to : TE} {t : TA} {name : Str} {apos cpos : Pos} {T id : String} {r : V → List V → Hp → VK → Prop}
theorem pe_bm0 (pa : PlainAttrs T) (slot : Slot T name id) (hty : typeOf (.builtin id) = pure (.type "method_descriptor")) (hm : MtR X id r) (ho : PE X o to)
    (hbase : attributeBase o name X.env (eval o X.env) = eval o X.env := by rfl) (hline : (apos.endLine == cpos.line) = true := by rfl) : PE X (.Call (.Attribute o name apos) [] [] cpos) (tBM0 X.K T r to) := by
  intro pins s σ H Q I h
  refine wpAny_Call_method0_late hbase hline (thn (ho pins s σ H _ I h) fun v s1 ⟨x, H1, I1, r1, ty, q1⟩ => ?_)
  obtain ⟨h1, h2⟩ := tyV_is I1 r1 ty
  exact ⟨T, id, pa, slot, hty, h1, h2, Calls.callWith_builtin rfl (PySem.evalArgs_none (hm pins s1 σ H1 x [] v [] Q I1 r1 .nil q1))⟩
theorem pe_bm (pa : PlainAttrs T) (slot : Slot T name id) (hty : typeOf (.builtin id) = pure (.type "method_descriptor")) (hm : MtR X id r) (ho : PE X o to) (ha : PA X (e :: es) t)
    (hbase : attributeBase o name X.env (eval o X.env) = eval o X.env := by rfl)
    (hfew : ((backTo cpos (starEach (e :: es) X.env)).all (fun x => !x.1) && (backToKw cpos (keywordEach [] X.env)).all (fun x => x.1.isSome)
      && decide ((e :: es).length + ([] : List Keyword).length + (if ([] : List Keyword).isEmpty then 0 else 1) < 30)) = true := by rfl)
    (hline : (apos.endLine == cpos.line) = true := by rfl) (hs : starEach (e :: es) X.env = (false, eval e X.env) :: starEach es X.env := by rfl) (hplain : (backTo cpos (starEach es X.env)).any (·.1) = false := by rfl) :
    PE X (.Call (.Attribute o name apos) (e :: es) [] cpos) (tBM X.K T r to t) := by
  intro pins s σ H Q I h
  refine wpAny_Call_method_late hbase hfew hline rfl (thn (ho pins s σ H _ I h) fun v s1 ⟨x, H1, I1, r1, ty, q1⟩ => ?_)
  obtain ⟨h1, h2⟩ := tyV_is I1 r1 ty
  refine ⟨T, id, pa, slot, hty, h1, h2, ?_⟩
  have hA := ha cpos pins s1 σ H1 _ I1 q1
  rw [hs] at hA ⊢
  refine Calls.callWith_builtin (by show (false || (backTo cpos (starEach es X.env)).any (·.1)) = false; rw [hplain] <;> rfl) (Calls.evalArgs_plain ?_)
  exact thn hA fun us s2 ⟨vs, H2, I2, r2, q2⟩ => hm pins s2 σ H2 x vs v us Q I2 r1 r2 q2
/- xs.append(e), list.index on a module's tuple .. are MtR facts of 06m -/
end
end L2

namespace L2
open PySem PySem.Spec PyProof.Rows

def MtM (X : Cx) (id : String) (r : V → List V → Hp → VK → Prop) : Prop :=
  ∀ (pins : List (Addr × Obj)) (s : Shared) (σ : St) (H : Hp) (x : V) (xs : List V) (v : Value) (us : List Value) (Q : VK), Inv X pins σ H s → RelV x v → Vals xs us → r x xs H Q →
    wpAny (model X.prog X.w) X.A (call (.builtin id) (v :: us)) (EP X pins σ Q) X.xe s

/-! ### lists of values -/
theorem Vals.one : ∀ {x : V} {us : List Value}, Vals [x] us → ∃ u, us = [u] ∧ RelV x u
  | _, _, .cons r .nil => ⟨_, rfl, r⟩
theorem Vals.two : ∀ {x y : V} {us : List Value}, Vals [x, y] us → ∃ u v, us = [u, v] ∧ RelV x u ∧ RelV y v
  | _, _, _, .cons r (.cons q .nil) => ⟨_, _, rfl, r, q⟩
theorem Vals.zero : ∀ {us : List Value}, Vals [] us → us = []
  | _, .nil => rfl
theorem Vals.dropLast {xs : List V} {us : List Value} (h : Vals xs us) : Vals xs.dropLast us.dropLast := by
  induction h with
  | nil => exact .nil
  | cons r t ih =>
    cases t with
    | nil => exact .nil
    | cons q t' => exact .cons r ih
theorem Vals.eraseIdx : ∀ {xs : List V} {us : List Value} (i : Nat), Vals xs us → Vals (xs.eraseIdx i) (us.eraseIdx i)
  | _, _, _, .nil => .nil
  | _, _, 0, .cons _ t => t
  | _, _, i + 1, .cons r t => .cons r (Vals.eraseIdx i t)
theorem Vals.reverse {xs : List V} {us : List Value} (h : Vals xs us) : Vals xs.reverse us.reverse := by
  induction h with
  | nil => exact .nil
  | cons r t ih => rw [List.reverse_cons, List.reverse_cons]; exact Vals.append ih (.cons r .nil)
theorem Vals.rep {xs : List V} {us : List Value} (h : Vals xs us) : ∀ k : Nat, Vals (List.replicate k xs).flatten (List.replicate k us).flatten
  | 0 => .nil
  | k + 1 => by
    rw [List.replicate_succ, List.replicate_succ, List.flatten_cons, List.flatten_cons]
    exact Vals.append h (Vals.rep h k)
theorem erase_last {α : Type} (l : List α) : l.eraseIdx (l.length - 1) = l.dropLast := by
  induction l with
  | nil => rfl
  | cons a r ih =>
    cases r with
    | nil => rfl
    | cons b r =>
      have e : (a :: b :: r).length - 1 = ((b :: r).length - 1) + 1 := by
        have h1 : (a :: b :: r).length = r.length + 2 := rfl
        have h2 : (b :: r).length = r.length + 1 := rfl
        omega
      rw [e, List.eraseIdx_cons_succ, ih]
      all_goals rfl
theorem len_erase {α : Type} : ∀ (l : List α) (i : Nat), (l.eraseIdx i).length ≤ l.length
  | [], _ => Nat.le_refl _
  | _ :: _, 0 => Nat.le_succ _
  | _ :: r, i + 1 => Nat.succ_le_succ (len_erase r i)
theorem foldl_rep (its : List Value) : ∀ (k : Nat) (acc : List Value),
    List.foldl (fun x1 x2 => x1 ++ x2) acc.toArray (List.replicate k its.toArray) = (acc ++ (List.replicate k its).flatten).toArray
  | 0, acc => by simp
  | k + 1, acc => by
    have e : acc.toArray ++ its.toArray = (acc ++ its).toArray := by simp
    have e2 : (acc ++ its) ++ (List.replicate k its).flatten = acc ++ (List.replicate (k + 1) its).flatten := by
      rw [List.replicate_succ, List.flatten_cons, List.append_assoc]
    rw [← e2, ← foldl_rep its k (acc ++ its), ← e, List.replicate_succ, List.foldl_cons]

section
variable {X : Cx} {pins : List (Addr × Obj)} {σ : St} {H : Hp} {s : Shared} {l b : Addr} {xs ys zs : List V}

/-! ### the two steps: a tracked list is rewritten, a new list is laid -/
theorem Inv.lset {its its' : List Value} {n : Nat} {f : Array Value → Array Value} {t' : Nat} (I : Inv X pins σ H s) (hH : H l = some (.lst xs))
    (e : s.heap.get? l = some { cls := .type "list", data := .seq its.toArray n }) (hf : f its.toArray = its'.toArray) (hv : Vals ys its') (hz : ys.length ≤ sizeLine) :
    Inv X pins σ (upd H l (.lst ys)) { s with heap := s.heap.update l (Obj.mapSeq f), toks := t' } := by
  have q := PySem.IsL.update e f
  rw [hf] at q
  refine I.write (x := l) (e := l) (by rw [hH]; exact trivial) (.inl rfl) (fun b' u hb hu => (Heap.get?_update_other s.heap (Obj.mapSeq f) (Ne.symm hb)).trans hu) ⟨_, q⟩ ?_
  exact ⟨hz, its', _, hv, q⟩
theorem Inv.lnew {its : List Value} {t' : Nat} (I : Inv X pins σ H s) (hv : Vals ys its) (hz : ys.length ≤ sizeLine) :
    Inv X pins σ (upd H s.heap.objs.size (.lst ys)) { s with heap := s.heap.push { cls := .type "list", data := .seq its.toArray }, toks := t' } :=
  I.laid (fun _ _ q => Heap.get?_push_of_some _ q) (Nat.le_refl _) ⟨hz, its, 0, hv, Heap.get?_push_size _ rfl⟩
theorem Inv.fresh (I : Inv X pins σ H s) : H s.heap.objs.size = none := I.hok.fresh (Nat.le_refl _)
theorem Inv.lstM (I : Inv X pins σ H s) (hH : H l = some (.lst xs)) : xs.length ≤ sizeLine ∧ ∃ (its : List Value) (n : Nat), Vals xs its ∧ xs.length = its.length ∧ s.heap.get? l = some { cls := .type "list", data := .seq its.toArray n } := by
  obtain ⟨z, its, n, r, e⟩ := I.hok l _ hH
  exact ⟨z, its, n, r, r.length, e⟩

theorem notLongL {n : Nat} (h : n ≤ sizeLine) : Builtin.List.listTooLong n = false := by
  unfold Builtin.List.listTooLong
  exact decide_eq_false (by omega)
end

section
variable {X : Cx}

/-! ### methods -/
def rAppend : V → List V → Hp → VK → Prop := fun x vs H Q => ∃ l xs y, x = .ref l ∧ vs = [y] ∧ H l = some (.lst xs) ∧ xs.length < sizeLine ∧ Q .non (upd H l (.lst (xs ++ [y])))
theorem mt_append : MtM X "list.append" rAppend := by
  intro pins s σ H x vs v us Q I rx rv h
  obtain ⟨l, xs, y, rfl, rfl, hH, hz, q⟩ := h
  cases rx
  obtain ⟨u, rfl, ru⟩ := rv.one
  obtain ⟨z, its, n, r, hl, e⟩ := I.lstM hH
  refine call_meets F.slot_list_append ⟨_, e, rfl⟩ F.entry_list_append (F.args_list_append_2 _ _) (PySem.list_append l its.toArray n u (by rw [List.size_toArray]; omega)) ⟨e, ?_⟩
  refine ⟨.non, _, I.lset (its' := its ++ [u]) hH e (by simp) (r.append (.cons ru .nil)) ?_, rfl, q⟩
  rw [List.length_append, List.length_singleton]
  omega

def rExtend : V → List V → Hp → VK → Prop := fun x vs H Q => ∃ l b xs zs, x = .ref l ∧ vs = [.ref b] ∧ H l = some (.lst xs) ∧ H b = some (.lst zs) ∧ xs.length + zs.length ≤ sizeLine ∧ Q .non (upd H l (.lst (xs ++ zs)))
theorem mt_extend : MtM X "list.extend" rExtend := by
  intro pins s σ H x vs v us Q I rx rv h
  obtain ⟨l, b, xs, zs, rfl, rfl, hH, hB, hz, q⟩ := h
  cases rx
  obtain ⟨u, rfl, ru⟩ := rv.one
  cases ru
  obtain ⟨z, its, n, r, hl, e⟩ := I.lstM hH
  obtain ⟨z2, its2, n2, r2, hl2, e2⟩ := I.lstM hB
  have hsz : its.toArray.size + its2.toArray.size ≤ sizeLine := by rw [List.size_toArray, List.size_toArray]; omega
  have hlong : ¬ (!its.toArray.isEmpty && Builtin.List.listTooLong (its.toArray.size + its2.toArray.size)) = true := by
    rw [notLongL hsz, Bool.and_false]
    exact Bool.false_ne_true
  refine call_meets F.slot_list_extend ⟨_, e, rfl⟩ F.entry_list_extend (F.args_list_extend_2 _ _)
    (AutoSeq1.list_extend_list_list_0 l its.toArray n b its2.toArray n2 hlong (by rw [List.size_toArray]; omega) (by omega)) ⟨e, e2, ?_⟩
  refine ⟨.non, _, I.lset (its' := its ++ its2) hH e (by simp) (r.append r2) ?_, rfl, q⟩
  rw [List.length_append]
  omega

def rPop : V → List V → Hp → VK → Prop := fun x vs H Q => ∃ l xs y, x = .ref l ∧ vs = [] ∧ H l = some (.lst xs) ∧ xs[xs.length - 1]? = some y ∧ Q y (upd H l (.lst xs.dropLast))
theorem mt_pop : MtM X "list.pop" rPop := by
  intro pins s σ H x vs v us Q I rx rv h
  obtain ⟨l, xs, y, rfl, rfl, hH, hy, q⟩ := h
  cases rx
  have hus := rv.zero
  subst hus
  obtain ⟨z, its, n, r, hl, e⟩ := I.lstM hH
  obtain ⟨u, hu, ru⟩ := r.get hy
  have hy' : its.toArray[its.toArray.size - 1]? = some u := by
    show its.toArray[its.length - 1]? = some u
    rw [← Array.getElem?_toList, ← hl]
    exact hu
  refine call_meets F.slot_list_pop ⟨_, e, rfl⟩ F.entry_list_pop (F.args_list_pop_1 _) (MeetsSeq.list_pop_last l its.toArray n u hy' (by rw [List.size_toArray]; omega)) ⟨e, ?_⟩
  refine ⟨y, _, I.lset (its' := its.dropLast) hH e ?_ r.dropLast ?_, ru, q⟩
  · show its.toArray.eraseIdxIfInBounds (its.toArray.size - 1) = its.dropLast.toArray
    rw [List.size_toArray, List.eraseIdxIfInBounds_toArray, erase_last]
  · rw [List.length_dropLast]
    omega

def rPopAt : V → List V → Hp → VK → Prop := fun x vs H Q => ∃ l xs i k y, x = .ref l ∧ vs = [.int i] ∧ H l = some (.lst xs) ∧ -(2 ^ 63) ≤ i ∧ i < 2 ^ 63 ∧ seqIndex? i xs.length = some k ∧ xs[k]? = some y ∧ Q y (upd H l (.lst (xs.eraseIdx k)))
theorem mt_popAt : MtM X "list.pop" rPopAt := by
  intro pins s σ H x vs v us Q I rx rv h
  obtain ⟨l, xs, i, k, y, rfl, rfl, hH, h1, h2, hk, hy, q⟩ := h
  cases rx
  obtain ⟨u, rfl, ru⟩ := rv.one
  obtain ⟨t, rfl⟩ := ru
  obtain ⟨z, its, n, r, hl, e⟩ := I.lstM hH
  obtain ⟨w, hw, rw'⟩ := r.get hy
  refine call_meets F.slot_list_pop ⟨_, e, rfl⟩ F.entry_list_pop (F.args_list_pop_2 _ _)
    (MeetsSeq.list_pop_at l its.toArray n i t k w (fitsIndex_both h1 h2) (by rw [List.size_toArray, ← hl]; exact hk) (by rw [← Array.getElem?_toList]; exact hw) (by rw [List.size_toArray]; omega)) ⟨e, ?_⟩
  refine ⟨y, _, I.lset (its' := its.eraseIdx k) hH e ?_ (r.eraseIdx k) ?_, rw', q⟩
  · show its.toArray.eraseIdxIfInBounds k = (its.eraseIdx k).toArray
    rw [List.eraseIdxIfInBounds_toArray]
  · have := len_erase xs k
    omega

def rReverse : V → List V → Hp → VK → Prop := fun x vs H Q => ∃ l xs, x = .ref l ∧ vs = [] ∧ H l = some (.lst xs) ∧ Q .non (upd H l (.lst xs.reverse))
theorem mt_reverse : MtM X "list.reverse" rReverse := by
  intro pins s σ H x vs v us Q I rx rv h
  obtain ⟨l, xs, rfl, rfl, hH, q⟩ := h
  cases rx
  have hus := rv.zero
  subst hus
  obtain ⟨z, its, n, r, hl, e⟩ := I.lstM hH
  refine call_meets F.slot_list_reverse ⟨_, e, rfl⟩ F.entry_list_reverse (F.args_list_reverse_1 _) (AutoSeq1.list_reverse_list_0 l its.toArray n (by rw [List.size_toArray]; omega)) ⟨e, ?_⟩
  refine ⟨.non, _, I.lset (its' := its.reverse) hH e (by simp) r.reverse ?_, rfl, q⟩
  rw [List.length_reverse]
  omega

def rClear : V → List V → Hp → VK → Prop := fun x vs H Q => ∃ l xs, x = .ref l ∧ vs = [] ∧ H l = some (.lst xs) ∧ Q .non (upd H l (.lst []))
theorem mt_clear : MtM X "list.clear" rClear := by
  intro pins s σ H x vs v us Q I rx rv h
  obtain ⟨l, xs, rfl, rfl, hH, q⟩ := h
  cases rx
  have hus := rv.zero
  subst hus
  obtain ⟨z, its, n, r, hl, e⟩ := I.lstM hH
  refine call_meets F.slot_list_clear ⟨_, e, rfl⟩ F.entry_list_clear (F.args_list_clear_1 _) (AutoSeq1.list_clear_list_0 l its.toArray n (by rw [List.size_toArray]; omega)) ⟨e, ?_⟩
  exact ⟨.non, _, I.lset (its' := []) (ys := []) hH e rfl .nil (Nat.zero_le _), rfl, q⟩

/-! ### list + list, list += list, list * int -/
def rCat : R2 := fun x y H Q => ∃ l b xs zs, x = .ref l ∧ y = .ref b ∧ H l = some (.lst xs) ∧ H b = some (.lst zs) ∧ xs.length + zs.length ≤ sizeLine ∧ ∀ p, H p = none → Q (.ref p) (upd H p (.lst (xs ++ zs)))
theorem op_cat : OpR X (binaryOp .Add) rCat := by
  intro pins s σ H x y v u Q I rx ry h
  obtain ⟨l, b, xs, zs, rfl, rfl, hH, hB, hz, q⟩ := h
  cases rx
  cases ry
  obtain ⟨z, its, n, r, hl, e⟩ := I.lstM hH
  obtain ⟨z2, its2, n2, r2, hl2, e2⟩ := I.lstM hB
  refine PySem.P.add_list e e2 ?_ (by rw [List.size_toArray, List.size_toArray]; omega)
  have ea : its.toArray ++ its2.toArray = (its ++ its2).toArray := by simp
  rw [ea]
  exact ⟨.ref _, _, I.lnew (t' := s.toks) (r.append r2) (by rw [List.length_append]; omega), rfl, q _ I.fresh⟩
/-- a list times an int (a negative one is nothing) -/
def rRep : R2 := fun x y H Q => ∃ l k xs, x = .ref l ∧ y = .int k ∧ H l = some (.lst xs) ∧ -(2 ^ 63) ≤ k ∧ k < 2 ^ 63 ∧ xs.length * k.toNat ≤ sizeLine ∧
  ∀ p, H p = none → Q (.ref p) (upd H p (.lst (List.replicate k.toNat xs).flatten))
theorem len_rep {α : Type} (xs : List α) (k : Nat) : (List.replicate k xs).flatten.length = k * xs.length := by
  induction k with
  | zero => simp
  | succ k ih => rw [List.replicate_succ, List.flatten_cons, List.length_append, ih, Nat.succ_mul, Nat.add_comm]
theorem op_rep : OpR X (binaryOp .Mult) rRep := by
  intro pins s σ H x y v u Q I rx ry h
  obtain ⟨l, k, xs, rfl, rfl, hH, h1, h2, hz, q⟩ := h
  cases rx
  obtain ⟨t, rfl⟩ := ry
  obtain ⟨z, its, n, r, hl, e⟩ := I.lstM hH
  have hlen : its.toArray.size * k.toNat ≤ sizeLine := by rw [List.size_toArray, ← hl]; exact hz
  have hcap : ¬ its.toArray.size * k.toNat > (2 ^ 63 - 1) / 8 := by
    have : (sizeLine : Nat) ≤ (2 ^ 63 - 1) / 8 := by decide
    omega
  have hfit : ¬ (!Builtin.List.listFitsIndex k) = true := by
    rw [fitsIndex_both h1 h2]
    exact Bool.false_ne_true
  have hlong : ¬ Builtin.List.listTooLong (its.toArray.size * k.toNat) = true := by
    rw [notLongL hlen]
    exact Bool.false_ne_true
  have hnew : List.foldl (fun x1 x2 => x1 ++ x2) #[] (List.replicate (if its.toArray.isEmpty = true then 0 else k.toNat) its.toArray) = (List.replicate k.toNat its).flatten.toArray := by
    have f0 : ∀ m : Nat, List.foldl (fun x1 x2 => x1 ++ x2) #[] (List.replicate m its.toArray) = (List.replicate m its).flatten.toArray := fun m => by
      have := foldl_rep its m []
      rw [List.nil_append] at this
      exact this
    rw [f0]
    cases its with
    | nil => simp
    | cons a r' => rw [if_neg (by simp)]
  refine wpAny_binaryOp_repeat_ref (T := "list") (U := "int") (by decide) ⟨_, e, rfl⟩ (fun s' => typeIs_int s' k t) noFill_list_mul F.fills_int_mul F.slot_int_rmul repeat_list F.slot_int_index.lookup
    (call_meets F.slot_int_rmul (typeIs_int s k t) F.entry_int_rmul (F.args_int_rmul_2 _ _) (int___rmul___int_list k t l its.toArray n)
      ⟨e, rfl, ⟨_, e, rfl⟩, call_meets F.slot_list_mul ⟨_, e, rfl⟩ F.entry_list_mul (F.args_list_mul_2 _ _) (AutoListH.list___mul___list_int_3 l its.toArray n k t hfit hcap hlong) ⟨e, ?_⟩⟩)
  rw [hnew]
  exact ⟨.ref _, _, I.lnew (t' := s.toks) (r.rep k.toNat) (by rw [len_rep, Nat.mul_comm]; exact hz), rfl, q _ I.fresh⟩

/-! ### del xs[i] -/
theorem del_list {pins : List (Addr × Obj)} {s : Shared} {σ : St} {H : Hp} {l : Addr} {xs : List V} {i : Int} {t : Tok} {k : Nat} {Q : Unit → Shared → Prop} (I : Inv X pins σ H s) (hH : H l = some (.lst xs))
    (h1 : -(2 ^ 63) ≤ i) (h2 : i < 2 ^ 63) (hk : seqIndex? i xs.length = some k) (h : ∀ s', Inv X pins σ (upd H l (.lst (xs.eraseIdx k))) s' → Q () s') :
    wpAny (model X.prog X.w) X.A (delItem (.ref l) (.int i t)) Q X.xe s := by
  obtain ⟨z, its, n, r, hl, e⟩ := I.lstM hH
  refine PySem.P.delItem_list (k := k) e (fitsIndex_both h1 h2) (by rw [List.size_toArray, ← hl]; exact hk) (h _ ?_) (by rw [List.size_toArray]; omega)
  refine I.lset (its' := its.eraseIdx k) (t' := s.toks) hH e ?_ (r.eraseIdx k) ?_
  · show its.toArray.eraseIdxIfInBounds k = (its.eraseIdx k).toArray
    rw [List.eraseIdxIfInBounds_toArray]
  · have := len_erase xs k
    omega
end

/-! ### xs[a:b] = ys -/
section
variable {prog : Program} {w : World} {A : Around} {E : Value → Shared → Prop} {s : Shared}
theorem splice_eq (its its2 : List Value) (a c : Nat) : its.toArray.extract 0 a ++ its2.toArray ++ its.toArray.extract c its.toArray.size = (its.take a ++ its2 ++ its.drop c).toArray := by
  apply Array.toList_inj.mp
  first
    | (simp
       exact List.take_of_length_le (by simp))
    | simp [List.take_of_length_le]
    | simp
theorem bounds_run {a c n : Nat} (hac : a ≤ c) (hc : c ≤ n) : sliceBounds (some (a : Int)) (some (c : Int)) none n = ((a : Int), (c : Int), 1) := by
  simp only [sliceBounds, Option.getD_none]
  have h1 : ¬ ((a : Int) < 0) := by omega
  have h2 : ¬ ((c : Int) < 0) := by omega
  simp only [h1, h2, if_false, show (1 : Int) > 0 by decide, if_true]
  congr 1
  · omega
  · congr 1; omega
set_option maxRecDepth 100000 in
/-- list.__setitem__ with a slice of step one and another list -/
theorem setItem_slice {l b sl : Addr} {items new : Array Value} {n n2 : Nat} {vl vu : Value} {a c : Nat} {Q : Unit → Shared → Prop}
    (e : s.heap.get? l = some { cls := .type "list", data := .seq items n }) (e2 : s.heap.get? b = some { cls := .type "list", data := .seq new n2 }) (hne : l ≠ b)
    (hs : s.heap.IsSliceOf sl vl vu .none) (pl : IsPart vl (some (a : Int))) (pu : IsPart vu (some (c : Int))) (hac : a ≤ c) (hc : c ≤ items.size)
    (hsz : items.size + new.size ≤ sizeLine) (h : Q () { s with heap := s.heap.update l (Obj.mapSeq fun xs => xs.extract 0 a ++ new ++ xs.extract c xs.size) }) :
    wpAny (model prog w) A (setItem (.ref l) (.ref sl) (.ref b)) Q E s := by
  have hl : s.heap.IsList l items := PySem.IsL.isList e
  have hb : s.heap.IsList b new := PySem.IsL.isList e2
  obtain ⟨os, hos, hcs, hds⟩ := id hs
  have hTs : s.TypeIs (.ref sl) "slice" := ⟨os, hos, hcs⟩
  have hstep : ¬ ((rawPart none == rawInt 0) = true) := Bool.false_ne_true
  have hsame : Builtin.List.listSameRef (.ref l) (.ref b) = false := by
    unfold Builtin.List.listSameRef
    exact beq_eq_false_iff_ne.mpr hne
  have hmax : (max (a : Int) (c : Int)).toNat = c := by omega
  have hz' : ((fun xs : Array Value => xs.extract 0 a ++ new ++ xs.extract c xs.size) items).size ≤ sizeLine + 1 := by
    simp only [Array.size_append, Array.size_extract]
    omega
  unfold setItem
  try with_reducible refine wpAny_holding ?_
  first | refine wpAny_bind (wpAny_pure ?_) | skip
  refine wpAny_bind (wpAny_sequenceKey hl.typeIs (by decide) ?_)
  refine wpAny_bind (wpAny_callSpecial?_slot (name := Str.ofString "__setitem__") hl.typeIs slot_list_setitem
    (wpAny_call_entry slot_list_setitem hl.typeIs entry_list_setitem ?_ (args_list_setitem _ _ _)))
  show wpAny _ _ (Builtin.List.listSubscript? (.ref sl) >>= _) _ _ s
  refine wpAny_bind ?_
  unfold Builtin.List.listSubscript?
  refine wpAny_bind (wpAny_specialOf hTs slice_no_index ?_)
  simp only [Option.isNone_none, if_true]
  refine wpAny_pure ?_
  show wpAny _ _ (typeOf (.ref sl) >>= _) _ _ s
  refine wpAny_bind (wpAny_typeOf hTs ?_)
  first
    | rw [if_neg (by decide)]
    | refine PySem.W.KFB.if_not (by decide) ?_
  rw [listSliceParts_eq]
  refine wpAny_bind (wpAny_bind (wpAny_field hos hds (x := .none) rfl (wpAny_bind (wpAny_listPart .none ?_))))
  rw [if_neg hstep]
  refine wpAny_bind (wpAny_field hos hds (x := vl) rfl (wpAny_bind (wpAny_listPart pl ?_)))
  refine wpAny_bind (wpAny_field hos hds (x := vu) rfl (wpAny_bind (wpAny_listPart pu (wpAny_pure ?_))))
  first
    | simp only [hsame, Bool.false_eq_true, if_false]
    | refine PySem.W.KFB.if_not hsame ?_
    | (dsimp only
       rw [if_neg (by rw [hsame]; exact Bool.false_ne_true)])
  refine wpAny_bind (m := Builtin.List.listAllItems (.ref b) "must assign iterable to extended slice") ?_
  unfold Builtin.List.listAllItems
  refine wpAny_bind (wpAny_typeOf hb.typeIs ?_)
  first
    | refine PySem.W.KFB.if_so (by decide) ?_
    | rw [if_pos (by decide)]
    | simp only [beq_self_eq_true, Bool.true_or, if_true]
  unfold Builtin.List.listItems
  refine wpAny_bind (wpAny_seqItems e2 rfl (wpAny_pure ?_))
  refine wpAny_bind (wpAny_bind (wpAny_seqItems e rfl (wpAny_pure ?_)))
  refine wpAny_bind (wpAny_of_eq ((sliceIndices_raw (some (a : Int)) (some (c : Int)) none items.size (by simp)).trans (congrArg (pure : Int × Int × Int → Sem (Int × Int × Int)) (bounds_run hac hc))) ?_)
  show wpAny _ _ (if ((1 : Int) == 1) = true then _ else _) _ _ s
  rw [if_pos (by decide)]
  refine wpAny_bind (wpAny_rule ?_)
  first
    | simp only [notLongL hsz, Bool.false_eq_true, if_false]
    | refine PySem.W.KFB.if_not (notLongL hsz) ?_
  first | refine wpAny_bind (wpAny_pure ?_) | skip
  show wpAny _ _ (updateSeq l (fun xs => xs.extract 0 ((a : Int)).toNat ++ new ++ xs.extract (max (a : Int) (c : Int)).toNat xs.size) >>= _) _ _ s
  rw [hmax, Int.toNat_natCast]
  refine wpAny_bind (wpAny_updateSeq (hz := Nat.le_trans (Nat.le_add_right _ _) hsz) (_hz' := hz') e rfl ?_)
  refine wpAny_bind (wpAny_letGo ?_)
  first
    | exact wpAny_bind (wpAny_pure (wpAny_pure ⟨.none, rfl, wpAny_pure h⟩))
    | exact wpAny_pure ⟨.none, rfl, wpAny_pure h⟩
end

section
variable {X : Cx}
/-- xs[a:c] = ys of another list, at the value level: sl is the slice object that was just made -/
theorem set_slice {pins : List (Addr × Obj)} {s : Shared} {σ : St} {H : Hp} {l b sl : Addr} {xs ys : List V} {a c : Int} {vl vu : Value} {Q : Unit → Shared → Prop} (I : Inv X pins σ H s)
    (hH : H l = some (.lst xs)) (hB : H b = some (.lst ys)) (hne : l ≠ b) (hs : s.heap.IsSliceOf sl vl vu .none) (ra : RelV (.int a) vl) (rc : RelV (.int c) vu) (h0 : 0 ≤ a) (hac : a ≤ c) (hc : c ≤ xs.length)
    (hz : xs.length + ys.length ≤ sizeLine) (h : ∀ s', Inv X pins σ (upd H l (.lst (xs.take a.toNat ++ ys ++ xs.drop c.toNat))) s' → Q () s') :
    wpAny (model X.prog X.w) X.A (setItem (.ref l) (.ref sl) (.ref b)) Q X.xe s := by
  obtain ⟨ta, rfl⟩ := ra
  obtain ⟨tc, rfl⟩ := rc
  obtain ⟨z, its, n, r, hl, e⟩ := I.lstM hH
  obtain ⟨z2, its2, n2, r2, hl2, e2⟩ := I.lstM hB
  obtain ⟨a', rfl⟩ := Int.eq_ofNat_of_zero_le h0
  obtain ⟨c', rfl⟩ := Int.eq_ofNat_of_zero_le (Int.le_trans h0 hac)
  simp only [Int.toNat_natCast] at h
  refine setItem_slice (a := a') (c := c') e e2 hne hs (.int _ _) (.int _ _) (by omega) (by rw [List.size_toArray]; omega) (by rw [List.size_toArray, List.size_toArray]; omega) (h _ ?_)
  refine I.lset (its' := its.take a' ++ its2 ++ its.drop c') (t' := s.toks) hH e ?_ (Vals.append (Vals.append (r.take _) r2) (r.drop _)) ?_
  · exact splice_eq its its2 a' c'
  · rw [List.length_append, List.length_append, List.length_take, List.length_drop]
    omega
end
end L2

namespace L2
open PySem PySem.Spec PyProof.Rows

/-! ### lists of pairs as tables -/
section
variable {κ : Type} [DecidableEq κ]
def valV (kvs : List (κ × V)) (k : κ) : Option V := (kvs.find? fun kv => decide (kv.1 = k)).map (·.2)
/-- in its place, or at the end -/
def putK (kvs : List (κ × V)) (k : κ) (v : V) : List (κ × V) :=
  if (kvs.any fun kv => decide (kv.1 = k)) = true then kvs.map (fun kv => if kv.1 = k then (kv.1, v) else kv) else kvs ++ [(k, v)]
def dropK (kvs : List (κ × V)) (k : κ) : List (κ × V) := kvs.filter fun kv => decide (kv.1 ≠ k)

theorem valV_nil {k : κ} : valV ([] : List (κ × V)) k = none := rfl
theorem valV_pos {p : κ × V} {r : List (κ × V)} {k : κ} (e : p.1 = k) : valV (p :: r) k = some p.2 := by simp [valV, List.find?_cons, e]
theorem valV_neg {p : κ × V} {r : List (κ × V)} {k : κ} (e : ¬ p.1 = k) : valV (p :: r) k = valV r k := by simp [valV, List.find?_cons, e]
theorem valV_any (k : κ) : ∀ kvs : List (κ × V), (kvs.any fun kv => decide (kv.1 = k)) = (valV kvs k).isSome
  | [] => rfl
  | p :: r => by
    rw [List.any_cons]
    by_cases e : p.1 = k
    · simp only [valV_pos e, decide_eq_true e, Bool.true_or, Option.isSome_some]
    · rw [valV_neg e, decide_eq_false e, Bool.false_or]; exact valV_any k r
theorem valV_map (k j : κ) (y : V) : ∀ kvs : List (κ × V), valV (kvs.map fun kv => if kv.1 = k then (kv.1, y) else kv) j = (valV kvs j).map fun x => if j = k then y else x
  | [] => rfl
  | p :: r => by
    have ih := valV_map k j y r
    rw [List.map_cons]
    by_cases h : p.1 = k
    · rw [if_pos h]
      by_cases e : p.1 = j
      · rw [valV_pos (p := (p.1, y)) e, valV_pos e, Option.map_some, if_pos (e.symm.trans h)]
      · rw [valV_neg (p := (p.1, y)) e, valV_neg e, ih]
    · rw [if_neg h]
      by_cases e : p.1 = j
      · rw [valV_pos (p := p) e, valV_pos e, Option.map_some, if_neg (fun z => h (e.trans z))]
      · rw [valV_neg (p := p) e, valV_neg e, ih]
theorem valV_snoc (k j : κ) (y : V) : ∀ kvs : List (κ × V), valV kvs k = none → valV (kvs ++ [(k, y)]) j = if j = k then some y else valV kvs j
  | [], _ => by
    by_cases e : k = j
    · rw [if_pos e.symm]; exact valV_pos (p := (k, y)) e
    · rw [if_neg (fun z => e z.symm)]; exact valV_neg (p := (k, y)) e
  | p :: r, hn => by
    rw [List.cons_append]
    have hk : ¬ p.1 = k := fun z => by rw [valV_pos z] at hn; cases hn
    rw [valV_neg hk] at hn
    have ih := valV_snoc k j y r hn
    by_cases e : p.1 = j
    · rw [valV_pos e, valV_pos e, if_neg (fun z => hk (e.trans z))]
    · rw [valV_neg e, valV_neg e, ih]
theorem valV_put (kvs : List (κ × V)) (k j : κ) (y : V) : valV (putK kvs k y) j = if j = k then some y else valV kvs j := by
  unfold putK
  by_cases a : (kvs.any fun kv => decide (kv.1 = k)) = true
  · rw [if_pos a, valV_map]
    rw [valV_any] at a
    by_cases e : j = k
    · obtain ⟨x, hx⟩ := Option.isSome_iff_exists.mp a
      rw [if_pos e, e, hx, Option.map_some, if_pos rfl]
    · rw [if_neg e]
      cases valV kvs j with
      | none => rfl
      | some x => rw [Option.map_some, if_neg e]
  · rw [if_neg a]
    refine valV_snoc k j y kvs ?_
    rw [valV_any] at a
    cases q : valV kvs k with
    | none => rfl
    | some x => rw [q] at a; exact (a rfl).elim
theorem length_putK (kvs : List (κ × V)) (k : κ) (v : V) : (putK kvs k v).length ≤ kvs.length + 1 := by
  unfold putK
  split
  · rw [List.length_map]; omega
  · rw [List.length_append, List.length_cons, List.length_nil]; omega
theorem putK_new {kvs : List (κ × V)} {k : κ} (v : V) (h : valV kvs k = none) : putK kvs k v = kvs ++ [(k, v)] := by
  unfold putK
  rw [valV_any, h]
  exact if_neg (by decide)

theorem RelO.isSome_eq {o : Option V} {u : Option Value} (r : RelO o u) : o.isSome = u.isSome := by
  cases o with
  | none => cases u with
    | none => rfl
    | some _ => exact (show False from r).elim
  | some _ => cases u with
    | none => exact (show False from r).elim
    | some _ => rfl
theorem RelO.getD {o : Option V} {u : Option Value} {d : V} {d' : Value} (r : RelO o u) (rd : RelV d d') : RelV (o.getD d) (u.getD d') := by
  cases o with
  | none => cases u with
    | none => exact rd
    | some _ => exact (show False from r).elim
  | some _ => cases u with
    | none => exact (show False from r).elim
    | some _ => exact r

/-- raw tables of the same keys -/
theorem KV.val {kvs : List (κ × V)} {vs : List (κ × Value)} (r : KV kvs vs) (k : κ) : RelO (valV kvs k) (valueAt vs k) := by
  unfold KV at r
  induction r with
  | nil => exact True.intro
  | @cons p q ps qs h t ih =>
    obtain ⟨h1, h2⟩ := h
    by_cases e : p.1 = k
    · have e' : q.1 = k := h1.symm.trans e
      have b : valueAt (q :: qs) k = some q.2 := by simp [valueAt, List.find?_cons, e']
      rw [valV_pos e, b]; exact h2
    · have e' : ¬ q.1 = k := fun z => e (h1.trans z)
      have b : valueAt (q :: qs) k = valueAt qs k := by simp [valueAt, List.find?_cons, e']
      rw [valV_neg e, b]; exact ih
theorem KV.any {kvs : List (κ × V)} {vs : List (κ × Value)} (r : KV kvs vs) (k : κ) : (kvs.any fun kv => decide (kv.1 = k)) = vs.any fun kv => decide (kv.1 = k) := by
  unfold KV at r
  induction r with
  | nil => rfl
  | cons h t ih => rw [List.any_cons, List.any_cons, ih, h.1]
theorem KV.repl {kvs : List (κ × V)} {vs : List (κ × Value)} (r : KV kvs vs) (k : κ) {y : V} {u : Value} (ry : RelV y u) :
    KV (kvs.map fun kv => if kv.1 = k then (kv.1, y) else kv) (vs.map fun kv => if kv.1 = k then (kv.1, u) else kv) := by
  unfold KV at r ⊢
  induction r with
  | nil => exact .nil
  | @cons p q ps qs h t ih =>
    rw [List.map_cons, List.map_cons]
    refine .cons ?_ ih
    obtain ⟨h1, h2⟩ := h
    by_cases e : p.1 = k
    · rw [if_pos e, if_pos (h1.symm.trans e)]; exact ⟨h1, ry⟩
    · rw [if_neg e, if_neg (fun z => e (h1.trans z))]; exact ⟨h1, h2⟩
theorem KV.put {kvs : List (κ × V)} {vs : List (κ × Value)} (r : KV kvs vs) (k : κ) {y : V} {u : Value} (ry : RelV y u) : KV (putK kvs k y) (stored vs k u) := by
  unfold putK stored
  rw [r.any k]
  by_cases e : (vs.any fun kv => decide (kv.1 = k)) = true
  · rw [if_pos e, if_pos e]; exact r.repl k ry
  · rw [if_neg e, if_neg e]; exact Paired.snoc r ⟨rfl, ry⟩
theorem KV.drop {kvs : List (κ × V)} {vs : List (κ × Value)} (r : KV kvs vs) (k : κ) : KV (dropK kvs k) (without vs k) := by
  unfold KV at r ⊢
  unfold dropK without
  induction r with
  | nil => exact .nil
  | @cons p q ps qs h t ih =>
    obtain ⟨h1, h2⟩ := h
    rw [List.filter_cons, List.filter_cons]
    by_cases e : p.1 = k
    · have a : ¬ decide (p.1 ≠ k) = true := by simp [e]
      have b : ¬ decide (q.1 ≠ k) = true := by simp [h1.symm.trans e]
      rw [if_neg a, if_neg b]; exact ih
    · have e' : ¬ q.1 = k := fun z => e (h1.trans z)
      have a : decide (p.1 ≠ k) = true := by simp [e]
      have b : decide (q.1 ≠ k) = true := by simp [e']
      rw [if_pos a, if_pos b]; exact .cons ⟨h1, h2⟩ ih
theorem KV.keys {kvs : List (κ × V)} {vs : List (κ × Value)} (r : KV kvs vs) : kvs.map (·.1) = vs.map (·.1) := by
  unfold KV at r
  induction r with
  | nil => rfl
  | cons h t ih => rw [List.map_cons, List.map_cons, ih, h.1]
theorem KV.length {kvs : List (κ × V)} {vs : List (κ × Value)} (r : KV kvs vs) : kvs.length = vs.length := Paired.length r
theorem dropK_le (kvs : List (κ × V)) (k : κ) : (dropK kvs k).length ≤ kvs.length := List.length_filter_le _ _
end


/-! ### a tracked dict, its keys ints and texts or tuples of these -/
theorem kV_is {P : Program} {w : World} {k : Key} {u : Value} (r : RelV (kV k) u) : (mixKind P w).is k u = true := by
  cases k with
  | inl i => obtain ⟨t, e⟩ := (show ∃ t, u = Value.int i t from r); subst e; exact mixKind_int P w i t
  | inr x => obtain ⟨t, e⟩ := (show ∃ t, u = Value.str x t from r); subst e; exact mixKind_str P w x t
theorem kV_inj {a b : Key} (e : kV a = kV b) : a = b := by
  cases a with
  | inl i => cases b with
    | inl j => have e' : V.int i = V.int j := e; injection e' with e'; rw [e']
    | inr y => exact nomatch (show V.int i = V.str y from e)
  | inr x => cases b with
    | inl j => exact nomatch (show V.str x = V.int j from e)
    | inr y => have e' : V.str x = V.str y := e; injection e' with e'; rw [e']
theorem kVs_inj : ∀ {a b : List Key}, a.map kV = b.map kV → a = b
  | [], [], _ => rfl
  | [], _ :: _, e => by simp at e
  | _ :: _, [], e => by simp at e
  | x :: xs, y :: ys, e => by
    rw [List.map_cons, List.map_cons] at e
    injection e with e1 e2
    rw [kV_inj e1, kVs_inj e2]
theorem items_are {P : Program} {w : World} : ∀ {ks : List Key} {us : List Value}, Vals (ks.map kV) us → ItemsAre (mixKind P w) ks us
  | [], _, r => by rw [List.map_nil] at r; cases r; exact .nil
  | k :: ks, _, r => by
    rw [List.map_cons] at r
    cases r with
    | cons h t => exact .cons (kV_is h) (items_are t)

/-- raw entries of a dict with tuple keys -/
abbrev KT (H : Hp) : List (List Key × V) → List (List Key × Addr × Value) → Prop := Paired fun p q => p.1 = q.1 ∧ H q.2.1 = some (.tup (p.1.map kV)) ∧ RelV p.2 q.2.2
theorem KT.val {H : Hp} {kvs : List (List Key × V)} {xs : List (List Key × Addr × Value)} (r : KT H kvs xs) (k : List Key) : RelO (valV kvs k) ((atKey xs k).map (·.2)) := by
  induction r with
  | nil => exact True.intro
  | @cons p q ps qs h t ih =>
    obtain ⟨h1, _, h2⟩ := h
    by_cases e : p.1 = k
    · have e' : q.1 = k := h1.symm.trans e
      have b : atKey (q :: qs) k = some q.2 := by simp [atKey, List.find?_cons, e']
      rw [valV_pos e, b]; exact h2
    · have e' : ¬ q.1 = k := fun z => e (h1.trans z)
      have b : atKey (q :: qs) k = atKey qs k := by simp [atKey, List.find?_cons, e']
      rw [valV_neg e, b]; exact ih
theorem KT.repl {H : Hp} {kvs : List (List Key × V)} {xs : List (List Key × Addr × Value)} (r : KT H kvs xs) (k : List Key) {y : V} {u : Value} (ry : RelV y u) :
    KT H (kvs.map fun kv => if kv.1 = k then (kv.1, y) else kv) (xs.map (putAt k u)) := by
  induction r with
  | nil => exact .nil
  | @cons p q ps qs h t ih =>
    rw [List.map_cons, List.map_cons]
    refine .cons ?_ ih
    obtain ⟨h1, h2, h3⟩ := h
    unfold putAt
    by_cases e : p.1 = k
    · rw [if_pos e, if_pos (h1.symm.trans e)]; exact ⟨h1, h2, ry⟩
    · rw [if_neg e, if_neg (fun z => e (h1.trans z))]; exact ⟨h1, h2, h3⟩
theorem KT.put {H : Hp} {kvs : List (List Key × V)} {xs : List (List Key × Addr × Value)} (r : KT H kvs xs) (k : List Key) {b : Addr} {y : V} {u : Value} (hb : H b = some (.tup (k.map kV))) (ry : RelV y u) :
    KT H (putK kvs k y) (storedH xs k b u) := by
  have e : (kvs.any fun kv => decide (kv.1 = k)) = (atKey xs k).isSome := by
    rw [valV_any, (r.val k).isSome_eq, Option.isSome_map]
  unfold putK storedH
  rw [e]
  by_cases q : (atKey xs k).isSome = true
  · rw [if_pos q, if_pos q]; exact r.repl k ry
  · rw [if_neg q, if_neg q]; exact Paired.snoc r ⟨rfl, hb, ry⟩
theorem KT.keeps {H H' : Hp} {kvs : List (List Key × V)} {xs : List (List Key × Addr × Value)} (r : KT H kvs xs) (ht : ∀ b ys, H b = some (.tup ys) → H' b = some (.tup ys)) : KT H' kvs xs :=
  Paired.mapP r fun _ _ z => ⟨z.1, ht _ _ z.2.1, z.2.2⟩

section
variable {P : Program} {w : World} {H : Hp} {h : Heap} {a : Addr}
theorem rd_of {u : HO} (ok : HOk P w H h) (e : Rd H a u) : ObjOk P w H h a u := e.ok ok
theorem dk_rd {kvs : List (Key × V)} (ok : HOk P w H h) (e : Rd H a (.dK kvs)) : kvs.length ≤ sizeLine ∧ (a == sysModules) = false ∧ ∃ vs, KV kvs vs ∧ h.DictOf (mixKind P w) a vs :=
  show ObjOk P w H h a (.dK kvs) from rd_of ok e
theorem dk_of {kvs : List (Key × V)} (ok : HOk P w H h) (e : H a = some (.dK kvs)) : kvs.length ≤ sizeLine ∧ (a == sysModules) = false ∧ ∃ vs, KV kvs vs ∧ h.DictOf (mixKind P w) a vs := dk_rd ok (.inl e)
/-- a tracked tuple of ints and texts is a key -/
theorem key_of {ks : List Key} (ok : HOk P w H h) (e : H a = some (.tup (ks.map kV))) : (tupleKind (mixKind P w)).is h ks a := by
  obtain ⟨_, its, r, o, h1, h2, n, h3⟩ := (show ObjOk P w H h a (.tup (ks.map kV)) from ok a _ e)
  exact ⟨o, its.toArray, n, h1, h2, h3, by simpa using items_are r⟩
theorem dt_rd {kvs : List (List Key × V)} (ok : HOk P w H h) (e : Rd H a (.dT kvs)) : kvs.length ≤ sizeLine ∧ (a == sysModules) = false ∧
    ∃ xs, KT H kvs xs ∧ h.DictOfH (tupleKind (mixKind P w)) a xs := by
  obtain ⟨z, y, xs, r, o, es, ep, h1, h2, h3, h4, h5⟩ := (show ObjOk P w H h a (.dT kvs) from rd_of ok e)
  refine ⟨z, y, xs, r, o, es, ep, h1, h2, h3, h4, fun x hx => ?_, h5⟩
  have all : ∀ {l : List (List Key × V)} {m : List (List Key × Addr × Value)}, KT H l m → ∀ x ∈ m, (tupleKind (mixKind P w)).is h x.1 x.2.1 := by
    intro l m q
    induction q with
    | nil => intro x hx; exact nomatch hx
    | @cons p q ps qs hq t ih =>
      intro x hx
      rcases List.mem_cons.mp hx with e | hx
      · subst e
        exact key_of ok (by rw [← hq.1]; exact hq.2.1)
      · exact ih x hx
  exact all r x hx
theorem dt_of {kvs : List (List Key × V)} (ok : HOk P w H h) (e : H a = some (.dT kvs)) : kvs.length ≤ sizeLine ∧ (a == sysModules) = false ∧
    ∃ xs, KT H kvs xs ∧ h.DictOfH (tupleKind (mixKind P w)) a xs := dt_rd ok (.inl e)
end

/-- what the dict at a holds at the key y -/
def DGet (H : Hp) (a : Addr) (y : V) (r : Option V) : Prop :=
  (∃ kvs k, Rd H a (.dK kvs) ∧ y = kV k ∧ r = valV kvs k) ∨ ∃ kvs k b, Rd H a (.dT kvs) ∧ y = .ref b ∧ H b = some (.tup (k.map kV)) ∧ r = valV kvs k
/-- the heap behind a[y] = v -/
def DPut (H : Hp) (a : Addr) (y v : V) (H' : Hp) : Prop :=
  (∃ kvs k, H a = some (.dK kvs) ∧ y = kV k ∧ kvs.length < sizeLine ∧ H' = upd H a (.dK (putK kvs k v))) ∨
  ∃ kvs k b, H a = some (.dT kvs) ∧ y = .ref b ∧ H b = some (.tup (k.map kV)) ∧ kvs.length < sizeLine ∧ H' = upd H a (.dT (putK kvs k v))
theorem DGet.k {H : Hp} {a : Addr} {kvs : List (Key × V)} {k : Key} (e : H a = some (.dK kvs)) : DGet H a (kV k) (valV kvs k) := .inl ⟨kvs, k, .inl e, rfl, rfl⟩
theorem DGet.t {H : Hp} {a b : Addr} {kvs : List (List Key × V)} {k : List Key} (e : H a = some (.dT kvs)) (eb : H b = some (.tup (k.map kV))) : DGet H a (.ref b) (valV kvs k) := .inr ⟨kvs, k, b, .inl e, rfl, eb, rfl⟩
theorem DPut.k {H : Hp} {a : Addr} {kvs : List (Key × V)} {k : Key} {v : V} (e : H a = some (.dK kvs)) (hl : kvs.length < sizeLine) : DPut H a (kV k) v (upd H a (.dK (putK kvs k v))) := .inl ⟨kvs, k, e, rfl, hl, rfl⟩
theorem DPut.t {H : Hp} {a b : Addr} {kvs : List (List Key × V)} {k : List Key} {v : V} (e : H a = some (.dT kvs)) (eb : H b = some (.tup (k.map kV))) (hl : kvs.length < sizeLine) :
    DPut H a (.ref b) v (upd H a (.dT (putK kvs k v))) := .inr ⟨kvs, k, b, e, rfl, eb, hl, rfl⟩


section
variable {X : Cx} {pins : List (Addr × Obj)} {σ : St} {H : Hp} {s : Shared} {a : Addr} {y v : V} {u r : Value} {o : Option V} {A : Around} {E : Value → Shared → Prop}

theorem Inv.big (I : Inv X pins σ H s) : sysModules < s.heap.objs.size := by
  have h : mainGlobals < s.heap.objs.size := (I.mod.glob.keeps I.bk).lt
  exact Nat.lt_trans (by decide) h

/-- d[y], there -/
theorem d_getItem {Q : Value → Shared → Prop} (hu : A.units + 1 < cLine) (I : Inv X pins σ H s) (g : DGet H a y (some v)) (ry : RelV y u) (h : ∀ w' s', Inv X pins σ H s' → RelV v w' → Q w' s') :
    wpAny (model X.prog X.w) A (getItem (.ref a) u) Q E s := by
  rcases g with ⟨kvs, k, e, ey, l⟩ | ⟨kvs, k, b, e, ey, eb, l⟩
  · subst ey
    obtain ⟨z, hd, vs, rel, dd⟩ := dk_rd I.hok e
    obtain ⟨w', hw, rw'⟩ := RelO.some_of (v := v) (o := valueAt vs k) (by rw [l]; exact rel.val k)
    exact wpAny_getItem_of (kV_is ry) dd.mapOf hw (h w' _ (I.tok _) rw')
  · subst ey
    cases (show u = Value.ref b from ry)
    obtain ⟨z, hd, xs, rel, dd⟩ := dt_rd I.hok e
    obtain ⟨w', hw, rw'⟩ := RelO.some_of (v := v) (o := (atKey xs k).map (·.2)) (by rw [l]; exact rel.val k)
    obtain ⟨p, hp, hp2⟩ := Option.map_eq_some_iff.mp hw
    refine wpAny_getItem_heap (tupleKind_room_in1 hu) (key_of I.hok eb) dd hp ?_
    rw [hp2]
    exact h w' _ (I.tok _) rw'
/-- y in d -/
theorem d_in {Q : Value → Shared → Prop} (hu : A.units + 1 < cLine) (I : Inv X pins σ H s) (g : DGet H a y o) (ry : RelV y u) (h : ∀ s', Inv X pins σ H s' → Q (.bool o.isSome) s') :
    wpAny (model X.prog X.w) A (compareOp .In u (.ref a)) Q E s := by
  rcases g with ⟨kvs, k, e, ey, l⟩ | ⟨kvs, k, b, e, ey, eb, l⟩
  · subst ey
    obtain ⟨z, hd, vs, rel, dd⟩ := dk_rd I.hok e
    refine wpAny_in_of (kV_is ry) hd dd.mapOf ?_
    rw [← (rel.val k).isSome_eq, ← l]
    exact h _ (I.tok _)
  · subst ey
    cases (show u = Value.ref b from ry)
    obtain ⟨z, hd, xs, rel, dd⟩ := dt_rd I.hok e
    refine wpAny_in_heap (tupleKind_room_in1 hu) (key_of I.hok eb) hd dd ?_
    have q := (rel.val k).isSome_eq
    rw [Option.isSome_map] at q
    rw [← q, ← l]
    exact h _ (I.tok _)
theorem d_notIn {Q : Value → Shared → Prop} (hu : A.units + 1 < cLine) (I : Inv X pins σ H s) (g : DGet H a y o) (ry : RelV y u) (h : ∀ s', Inv X pins σ H s' → Q (.bool (!o.isSome)) s') :
    wpAny (model X.prog X.w) A (compareOp .NotIn u (.ref a)) Q E s := by
  rcases g with ⟨kvs, k, e, ey, l⟩ | ⟨kvs, k, b, e, ey, eb, l⟩
  · subst ey
    obtain ⟨z, hd, vs, rel, dd⟩ := dk_rd I.hok e
    refine wpAny_notIn_of (kV_is ry) hd dd.mapOf ?_
    rw [← (rel.val k).isSome_eq, ← l]
    exact h _ (I.tok _)
  · subst ey
    cases (show u = Value.ref b from ry)
    obtain ⟨z, hd, xs, rel, dd⟩ := dt_rd I.hok e
    refine wpAny_notIn_heap (tupleKind_room_in1 hu) (key_of I.hok eb) hd dd ?_
    have q := (rel.val k).isSome_eq
    rw [Option.isSome_map] at q
    rw [← q, ← l]
    exact h _ (I.tok _)
/-- a dict's object is replaced -/
theorem d_write {h' : Heap} {t' : Nat} {ob : HO} (I : Inv X pins σ H s) (mu : Mut (H a)) (hs : Heap.SameBut a s.heap h') (he : ∃ q, h'.get? a = some q) (new : ObjOk X.prog X.w (upd H a ob) h' a ob) :
    Inv X pins σ (upd H a ob) { s with heap := h', toks := t' } :=
  I.write (x := a) (e := a) mu (.inl rfl) (fun b q hb z => (hs.2 b hb).trans z) he new
theorem dk_new {P : Program} {w : World} {H' : Hp} {h' : Heap} {kvs : List (Key × V)} {vs : List (Key × Value)} (z : kvs.length ≤ sizeLine) (hd : (a == sysModules) = false) (rel : KV kvs vs) (dd : h'.DictOf (mixKind P w) a vs) :
    ObjOk P w H' h' a (.dK kvs) := ⟨z, hd, vs, rel, dd⟩
/-- d[y] = v -/
theorem d_setItem {H' : Hp} {Q : Unit → Shared → Prop} (hu : A.units + 1 < cLine) (I : Inv X pins σ H s) (g : DPut H a y v H') (ry : RelV y u) (rv : RelV v r) (h : ∀ s', Inv X pins σ H' s' → Q () s') :
    wpAny (model X.prog X.w) A (setItem (.ref a) u r) Q E s := by
  rcases g with ⟨kvs, k, e, ey, l, eH⟩ | ⟨kvs, k, b, e, ey, eb, l, eH⟩
  · subst ey eH
    obtain ⟨z, hd, vs, rel, dd⟩ := dk_of I.hok e
    have hz : vs.length ≤ sizeLine := by rw [← rel.length]; exact z
    have hl : (putK kvs k v).length ≤ sizeLine := by have := length_putK kvs k v; omega
    refine wpAny_setItem_pairs (hsz := hz) (kV_is ry) dd fun h' dd' hs => h _ ?_
    have he : ∃ q, h'.get? a = some q := let ⟨q, _, _, hq, _⟩ := dd'; ⟨q, hq⟩
    exact d_write I (by rw [e]; exact True.intro) hs he (dk_new hl hd (rel.put k rv) dd')
  · subst ey eH
    cases (show u = Value.ref b from ry)
    obtain ⟨z, hd, xs, rel, dd⟩ := dt_of I.hok e
    have hz : xs.length ≤ sizeLine := by rw [← Paired.length rel]; exact z
    have hl : (putK kvs k v).length ≤ sizeLine := by have := length_putK kvs k v; omega
    refine wpAny_setItem_heap (hsz := hz) (tupleKind_room_in1 hu) (key_of I.hok eb) dd fun h' dd' hs => h _ ?_
    obtain ⟨q, es, ep, hq, h2, h3, h4, _, h5⟩ := dd'
    refine d_write I (by rw [e]; exact True.intro) hs ⟨q, hq⟩ ⟨hl, hd, _, (rel.put k eb rv).keeps fun c ys ec => ?_, q, es, ep, hq, h2, h3, h4, h5⟩
    rw [upd_ne (ne_of ec e (fun z => nomatch z))]
    exact ec
end

section
variable {X : Cx} {pins : List (Addr × Obj)} {σ : St} {H : Hp} {s : Shared} {a : Addr} {kvs : List (Key × V)} {k : Key} {u : Value} {A : Around} {E : Value → Shared → Prop}
/-- del d[k] -/
theorem d_delItem {Q : Unit → Shared → Prop} (I : Inv X pins σ H s) (e : H a = some (.dK kvs)) (ry : RelV (kV k) u) (l : (valV kvs k).isSome = true) (h : ∀ s', Inv X pins σ (upd H a (.dK (dropK kvs k))) s' → Q () s') :
    wpAny (model X.prog X.w) A (delItem (.ref a) u) Q E s := by
  obtain ⟨z, hd, vs, rel, dd⟩ := dk_of I.hok e
  refine wpAny_delItem_slot dd.typeIs (by decide) PySem.F.slot_dict_delitem
    (call_meetsIn PySem.F.slot_dict_delitem dd.typeIs PySem.F.entry_dict_delitem (PySem.F.args_dict_delitem_2 _ _) (meets_dict_delitem_pairs (mixKind X.prog X.w) a (kV_is ry)) ⟨vs, dd, by rw [← rel.length]; exact z, by rw [← (rel.val k).isSome_eq]; exact l, fun h' dd' hs => h _ ?_⟩)
  have he : ∃ q, h'.get? a = some q := let ⟨q, _, _, hq, _⟩ := dd'; ⟨q, hq⟩
  exact d_write I (by rw [e]; exact True.intro) hs he (dk_new (Nat.le_trans (dropK_le kvs k) z) hd (rel.drop k) dd')
/-- d.pop(k[, x]), there -/
theorem d_pop {v : V} {more : List Value} {Q : Value → Shared → Prop} (I : Inv X pins σ H s) (e : H a = some (.dK kvs)) (ry : RelV (kV k) u) (l : valV kvs k = some v) (hm : more = [] ∨ ∃ x, more = [x])
    (h : ∀ w' s', Inv X pins σ (upd H a (.dK (dropK kvs k))) s' → RelV v w' → Q w' s') : wpAny (model X.prog X.w) A (call (.builtin "dict.pop") (.ref a :: u :: more)) Q E s := by
  obtain ⟨z, hd, vs, rel, dd⟩ := dk_of I.hok e
  obtain ⟨w', hw, rw'⟩ := RelO.some_of (v := v) (o := valueAt vs k) (by rw [← l]; exact rel.val k)
  have hp : (keyPart u).isSome = true := by
    cases k with
    | inl i => obtain ⟨t, q⟩ := (show ∃ t, u = Value.int i t from ry); subst q; rfl
    | inr x => obtain ⟨t, q⟩ := (show ∃ t, u = Value.str x t from ry); subst q; rfl
  have ha : argsOk "dict.pop" ⟨.ref a :: u :: more, []⟩ := by
    rcases hm with q | ⟨x, q⟩
    · subst q; exact PySem.F.args_dict_pop_2 _ _
    · subst q; exact PySem.F.args_dict_pop_3 _ _ _
  refine call_meetsIn PySem.F.slot_dict_pop dd.typeIs PySem.F.entry_dict_pop ha (meets_dict_pop_there (mixKind X.prog X.w) a (kV_is ry) more hm hp)
    ⟨vs, w', dd, by rw [← rel.length]; exact z, hw, fun h' dd' hs => h w' _ ?_ rw'⟩
  have he : ∃ q, h'.get? a = some q := let ⟨q, _, _, hq, _⟩ := dd'; ⟨q, hq⟩
  exact d_write I (by rw [e]; exact True.intro) hs he (dk_new (Nat.le_trans (dropK_le kvs k) z) hd (rel.drop k) dd')
/-- d.pop(k, x), not there -/
theorem d_popD {r : Value} {Q : Value → Shared → Prop} (I : Inv X pins σ H s) (e : H a = some (.dK kvs)) (ry : RelV (kV k) u) (l : valV kvs k = none) (h : ∀ s', Inv X pins σ H s' → Q r s') :
    wpAny (model X.prog X.w) A (call (.builtin "dict.pop") [.ref a, u, r]) Q E s := by
  obtain ⟨z, hd, vs, rel, dd⟩ := dk_of I.hok e
  have hn : valueAt vs k = none := RelO.none_of (by rw [← l]; exact rel.val k)
  have hp : (keyPart u).isSome = true := by
    cases k with
    | inl i => obtain ⟨t, q⟩ := (show ∃ t, u = Value.int i t from ry); subst q; rfl
    | inr x => obtain ⟨t, q⟩ := (show ∃ t, u = Value.str x t from ry); subst q; rfl
  exact call_meetsIn PySem.F.slot_dict_pop dd.typeIs PySem.F.entry_dict_pop (PySem.F.args_dict_pop_3 _ _ _) (meets_dict_pop_default (mixKind X.prog X.w) a (kV_is ry) hd hp r) ⟨vs, dd, hn, h _ (I.tok _)⟩
/-- d.clear() -/
theorem d_clear {Q : Value → Shared → Prop} (I : Inv X pins σ H s) (e : H a = some (.dK kvs)) (h : ∀ s', Inv X pins σ (upd H a (.dK [])) s' → Q .none s') : wpAny (model X.prog X.w) A (call (.builtin "dict.clear") [.ref a]) Q E s := by
  obtain ⟨z, hd, vs, rel, dd⟩ := dk_of I.hok e
  refine call_meetsIn PySem.F.slot_dict_clear dd.typeIs PySem.F.entry_dict_clear (PySem.F.args_dict_clear_1 _) (meets_dict_clear (mixKind X.prog X.w) a) ⟨vs, dd, by rw [← rel.length]; exact z, fun h' dd' hs => h _ ?_⟩
  have he : ∃ q, h'.get? a = some q := let ⟨q, _, _, hq, _⟩ := dd'; ⟨q, hq⟩
  exact d_write (t' := s.toks) I (by rw [e]; exact True.intro) hs he (dk_new (Nat.zero_le _) hd .nil dd')
/-- len(d) -/
theorem d_len {Q : Value → Shared → Prop} (I : Inv X pins σ H s) (e : Rd H a (.dK kvs)) (h : ∀ t s', Inv X pins σ H s' → Q (.int kvs.length t) s') : wpAny (model X.prog X.w) A (call (.builtin "len") [.ref a]) Q E s := by
  obtain ⟨z, hd, vs, rel, dd⟩ := dk_rd I.hok e
  refine call_len_dict hd dd (by rw [← rel.length]; rw [sizeLine_eq] at z; omega) ?_
  rw [← rel.length]
  exact h _ _ (I.tok _)
/-- if d -/
theorem d_truth {Q : Bool → Shared → Prop} (I : Inv X pins σ H s) (e : Rd H a (.dK kvs)) (h : ∀ s', Inv X pins σ H s' → Q (!kvs.isEmpty) s') : wpAny (model X.prog X.w) A (truthy (.ref a)) Q E s := by
  obtain ⟨z, hd, vs, rel, dd⟩ := dk_rd I.hok e
  refine wpAny_truthy_dict hd dd (by rw [← rel.length]; rw [sizeLine_eq] at z; omega) ?_
  have q : kvs.isEmpty = vs.isEmpty := by cases rel <;> rfl
  rw [← q]
  exact h _ (I.tok _)
end


/-! ### readings and rules -/
/-- the element of a subscription, not a slice -/
def NoSl (i : Expr) : Prop := ∀ ov iv, subscripted i false ov iv = operate [ov, iv] (getItem ov iv)
theorem subD_of {prog : Program} {w : World} {A : Around} {E : Value → Shared → Prop} {s : Shared} {env : Env} {value slice : Expr} {pos : Pos} {T id : String} {Q : Value → Shared → Prop}
    (hl : typeLookup (.type T) "__getitem__" = pure (some (.builtin id))) (hs : NoSl slice)
    (h : wpAny (model prog w) A (eval value env) (fun o s₁ => wpAny (model prog w) A (eval slice env) (fun i s₂ => s₂.TypeIs o T ∧ wpAny (model prog w) A (getItem o i) Q E s₂) E s₁) E s) :
    wpAny (model prog w) A (eval (.Subscript value slice pos) env) Q E s := by
  refine Subscript_ (wpAny_mono h (fun o s₁ h₁ => wpAny_mono h₁ (fun i s₂ h₂ => ?_) fun _ _ x => x) fun _ _ x => x)
  obtain ⟨hT, h₂⟩ := h₂
  unfold subscriptTail
  refine wpAny_bind ?_
  rw [getitemInPython_of_ne hT.not_modules]
  refine wpAny_bind (wpAny_specialOf hT hl ?_)
  have fin : wpAny (model prog w) A (subscripted slice false o i) (fun r s₃ => wpAny (model prog w) A (letTemporaryGo value o r >>= fun _ => pure r) Q E s₃) E s₂ := by
    rw [hs o i]
    exact wpAny_operating (wpAny_mono h₂ (fun r s₃ h₃ => wpAny_bind (wpAny_letTemporaryGo (wpAny_pure h₃))) fun _ _ x => x)
  first
    | exact wpAny_pure (wpAny_bind fin)
    | exact wpAny_bind (wpAny_pure (wpAny_bind fin))
    | exact wpAny_bind fin

theorem dict_typeIs {X : Cx} {pins : List (Addr × Obj)} {σ : St} {H : Hp} {s : Shared} {a : Addr} {y : V} {o : Option V} (I : Inv X pins σ H s) (g : DGet H a y o) : s.TypeIs (.ref a) "dict" := by
  rcases g with ⟨kvs, k, e, _, _⟩ | ⟨kvs, k, b, e, _, _, _⟩
  · obtain ⟨_, _, vs, _, dd⟩ := dk_rd I.hok e
    exact dd.typeIs
  · obtain ⟨_, _, xs, _, dd⟩ := dt_rd I.hok e
    exact dd.typeIs
theorem dict_noDict {X : Cx} {pins : List (Addr × Obj)} {σ : St} {H : Hp} {s : Shared} {a : Addr} {y : V} {o : Option V} (I : Inv X pins σ H s) (g : DGet H a y o) :
    ∀ b, Value.ref a = .ref b → ∃ ob, s.heap.get? b = some ob ∧ ob.dict = none := fun b q => by
  cases q
  rcases g with ⟨kvs, k, e, _, _⟩ | ⟨kvs, k, b, e, _, _, _⟩
  · obtain ⟨_, _, vs, _, ob, _, _, h1, h2, _⟩ := dk_rd I.hok e
    exact ⟨ob, h1, h2.2.1⟩
  · obtain ⟨_, _, xs, _, ob, _, _, h1, h2, _⟩ := dt_rd I.hok e
    exact ⟨ob, h1, h2.2.1⟩

/-- d[y] -/
def tDGet (td ty : TE) : TE := fun σ H Q => td σ H fun x H1 => ty σ H1 fun y H2 => ∃ a v, x = .ref a ∧ DGet H2 a y (some v) ∧ Q v H2
/-- y in d, y not in d -/
def tDIn (ty td : TE) : TE := fun σ H Q => ty σ H fun y H1 => td σ H1 fun x H2 => ∃ a o, x = .ref a ∧ DGet H2 a y o ∧ Q (.bl o.isSome) H2
def tDNotIn (ty td : TE) : TE := fun σ H Q => ty σ H fun y H1 => td σ H1 fun x H2 => ∃ a o, x = .ref a ∧ DGet H2 a y o ∧ Q (.bl (!o.isSome)) H2
/-- d[y] = v -/
def sDPut (td ty tv : TE) : TS := fun D σ H => tv σ H fun v H1 => td σ H1 fun x H2 => ty σ H2 fun y H3 => ∃ a H4, x = .ref a ∧ DPut H3 a y v H4 ∧ D.nx σ H4
/-- d[y] op= v -/
def sDAug (td ty tv : TE) (rd : V → V → Hp → VK → Prop) : TS := fun D σ H => td σ H fun x H1 => ty σ H1 fun y H2 => ∃ a v, x = .ref a ∧ DGet H2 a y (some v) ∧
  tv σ H2 fun y2 H3 => rd v y2 H3 fun z H4 => ∃ H5, DPut H4 a y z H5 ∧ D.nx σ H5
/-- del d[y] -/
def sDDel (td ty : TE) : TS := fun D σ H => td σ H fun x H1 => ty σ H1 fun y H2 => ∃ a kvs k, x = .ref a ∧ H2 a = some (.dK kvs) ∧ y = kV k ∧ (valV kvs k).isSome = true ∧ D.nx σ (upd H2 a (.dK (dropK kvs k)))

section
variable {X : Cx} {o i e value : Expr} {pos pos' tpos : Pos} {td ty tv : TE}
theorem pe_dget (hu : X.A.units + 1 < cLine) (ho : PE X o td) (hi : PE X i ty) (hs : NoSl i) : PE X (.Subscript o i pos) (tDGet td ty) := by
  intro pins s σ H Q I h
  refine subD_of PySem.F.slot_dict_getitem.lookup hs (thn (ho pins s σ H _ I h) fun u s1 ⟨x, H1, I1, rx, q1⟩ => thn (hi pins s1 σ H1 _ I1 q1) fun iv s2 ⟨y, H2, I2, ry, a, v, ex, g, q2⟩ => ?_)
  subst ex
  obtain rfl : u = Value.ref a := rx
  exact ⟨dict_typeIs I2 g, d_getItem hu I2 g ry fun w' s3 I3 rw' => ⟨v, H2, I3, rw', q2⟩⟩
theorem pc_din (hu : X.A.units + 1 < cLine) (hi : PE X i ty) (ho : PE X o td) : PC X .In i o (tDIn ty td) := by
  intro pins s σ H Q I h
  refine thn (hi pins s σ H _ I h) fun iv s1 ⟨y, H1, I1, ry, q1⟩ => thn (ho pins s1 σ H1 _ I1 q1) fun u s2 ⟨x, H2, I2, rx, a, ov, ex, g, q2⟩ => ?_
  subst ex
  obtain rfl : u = Value.ref a := rx
  exact d_in hu I2 g ry fun s3 I3 => ⟨.bl ov.isSome, H2, I3, rfl, q2⟩
theorem pc_dnotin (hu : X.A.units + 1 < cLine) (hi : PE X i ty) (ho : PE X o td) : PC X .NotIn i o (tDNotIn ty td) := by
  intro pins s σ H Q I h
  refine thn (hi pins s σ H _ I h) fun iv s1 ⟨y, H1, I1, ry, q1⟩ => thn (ho pins s1 σ H1 _ I1 q1) fun u s2 ⟨x, H2, I2, rx, a, ov, ex, g, q2⟩ => ?_
  subst ex
  obtain rfl : u = Value.ref a := rx
  exact d_notIn hu I2 g ry fun s3 I3 => ⟨.bl (!ov.isSome), H2, I3, rfl, q2⟩
theorem ps_dput (hu : X.A.units + 1 < cLine) (ho : PE X o td) (hi : PE X i ty) (hv : PE X value tv) (hs : swapsWith value (some (.Subscript o i pos')) pos.line X.env = pure false) :
    PS X (.Assign [.Subscript o i pos'] value pos) (sDPut td ty tv) := by
  intro pins s σ H D I h
  refine wpAny_Assign_Subscript (thn (hv pins s σ H _ I h) fun r s1 ⟨v, H1, I1, rv, q1⟩ => thn (ho pins s1 σ H1 _ I1 q1) fun u s2 ⟨x, H2, I2, rx, q2⟩ => thn (hi pins s2 σ H2 _ I2 q2) fun iv s3 ⟨y, H3, I3, ry, a, H4, ex, g, q3⟩ => ?_) hs
  subst ex
  obtain rfl : u = Value.ref a := rx
  exact d_setItem hu I3 g ry rv fun s4 I4 => ⟨σ, H4, I4, q3⟩
theorem ps_daug {op : Operator} {rd : V → V → Hp → VK → Prop} (hu : X.A.units + 1 < cLine) (ho : PE X o td) (hi : PE X i ty) (hv : PE X value tv) (hop : InOp X op rd)
    (ha : ∀ ov iv new, augStore i ov iv new = (do holding [new, ov, iv] (setItem ov iv new); release [new, ov, iv] []; pure .next)) : PS X (.AugAssign (.Subscript o i tpos) op value pos) (sDAug td ty tv rd) := by
  intro pins s σ H D I h
  refine wpAny_AugAssign_SubscriptAny (thn (ho pins s σ H _ I h) fun u s1 ⟨x, H1, I1, rx, q1⟩ => thn (hi pins s1 σ H1 _ I1 q1) fun iv s2 ⟨y, H2, I2, ry, a, v, ex, g, q2⟩ => ?_) ha
  subst ex
  obtain rfl : u = Value.ref a := rx
  refine d_getItem hu I2 g ry fun w' s3 I3 rw' => thn (hv pins s3 σ H2 _ I3 q2) fun w2 s4 ⟨y2, H3, I4, ry2, q3⟩ => thn (hop pins s4 σ H3 v y2 w' w2 _ I4 rw' ry2 q3) fun w3 s5 ⟨z, H4, I5, rz, H5, g5, q4⟩ => ?_
  exact d_setItem hu I5 g5 ry rz fun s6 I6 => ⟨σ, H5, I6, q4⟩
theorem ps_ddel (ho : PE X o td) (hi : PE X i ty) : PS X (.Delete [.Subscript o i tpos] pos) (sDDel td ty) := by
  intro pins s σ H D I h
  refine wpAny_Delete (wpAny_deleteEach_cons (wpAny_delete_Subscript (thn (ho pins s σ H _ I h) fun u s1 ⟨x, H1, I1, rx, q1⟩ => thn (hi pins s1 σ H1 _ I1 q1) fun iv s2 ⟨y, H2, I2, ry, a, kvs, k, ex, e, ey, l, q2⟩ => ?_)))
  subst ex ey
  obtain rfl : u = Value.ref a := rx
  exact d_delItem I2 e ry l fun s3 I3 => wpAny_deleteEach_nil ⟨σ, _, I3, q2⟩
end


/-! ### displays -/
theorem dk_empty {P : Program} {w : World} {H : Hp} (h : Heap) (hb : sysModules < h.objs.size) : ObjOk P w H (h.push { cls := .type "dict", data := .dict #[] }) h.objs.size (.dK []) :=
  ⟨Nat.zero_le _, beq_eq_false_iff_ne.mpr (Ne.symm (Nat.ne_of_lt hb)), [], .nil, Heap.DictOf.new h⟩
theorem dt_empty {P : Program} {w : World} {H : Hp} (h : Heap) (hb : sysModules < h.objs.size) : ObjOk P w H (h.push { cls := .type "dict", data := .dict #[] }) h.objs.size (.dT []) :=
  ⟨Nat.zero_le _, beq_eq_false_iff_ne.mpr (Ne.symm (Nat.ne_of_lt hb)), [], .nil, _, #[], 0, Heap.get?_push_size _ rfl, ⟨rfl, rfl, rfl⟩, rfl, rfl, List.nodup_nil⟩
/-- {}, to be a dict of the kind that is wanted -/
def tDNewK : TE := fun _ H Q => ∀ p, H p = none → Q (.ref p) (upd H p (.dK []))
def tDNewT : TE := fun _ H Q => ∀ p, H p = none → Q (.ref p) (upd H p (.dT []))
section
variable {X : Cx} {pos : Pos}
theorem pe_dnewK : PE X (.Dict [] [] pos) tDNewK := fun pins s σ H Q I h =>
  wpAny_Dict_empty ⟨.ref s.heap.objs.size, _, I.laid (a := s.heap.objs.size) (o := .dK []) (t' := s.toks) (fun _ _ q => Heap.get?_push_of_some _ q) (Nat.le_refl _) (dk_empty s.heap I.big), rfl, h _ (I.hok.fresh (Nat.le_refl _))⟩
theorem pe_dnewT : PE X (.Dict [] [] pos) tDNewT := fun pins s σ H Q I h =>
  wpAny_Dict_empty ⟨.ref s.heap.objs.size, _, I.laid (a := s.heap.objs.size) (o := .dT []) (t' := s.toks) (fun _ _ q => Heap.get?_push_of_some _ q) (Nat.le_refl _) (dt_empty s.heap I.big), rfl, h _ (I.hok.fresh (Nat.le_refl _))⟩
end

/-- the pairs of a display, from the left -/
def tPairs : List (TE × TE) → St → Hp → (List (V × V) → Hp → Prop) → Prop
  | [], _, H, Q => Q [] H
  | (tk, tv) :: r, σ, H, Q => tk σ H fun x H1 => tv σ H1 fun y H2 => tPairs r σ H2 fun ps H3 => Q ((x, y) :: ps) H3
abbrev VV : List (V × V) → List (Value × Value) → Prop := Paired fun p q => RelV p.1 q.1 ∧ RelV p.2 q.2
def PPs (X : Cx) (pos : Pos) (keys : List (Option Expr)) (values : List Expr) (trs : List (TE × TE)) : Prop :=
  ∀ (pins : List (Addr × Obj)) (s : Shared) (σ : St) (H : Hp) (Q : List (V × V) → Hp → Prop), Inv X pins σ H s → tPairs trs σ H Q →
    wpAny (model X.prog X.w) X.A (evalPairs (pairTrees keys values X.env pos)) (fun vs s' => ∃ ps H', Inv X pins σ H' s' ∧ VV ps vs ∧ Q ps H') X.xe s
theorem pps_nil {X : Cx} {pos : Pos} : PPs X pos [] [] [] := fun pins s σ H Q I h => pairTrees_nil_walk ⟨[], H, I, .nil, h⟩
theorem pps_cons {X : Cx} {pos : Pos} {k v : Expr} {ks : List (Option Expr)} {vs : List Expr} {tk tv : TE} {trs : List (TE × TE)} (hk : PE X k tk) (hv : PE X v tv) (hr : PPs X pos ks vs trs) :
    PPs X pos (some k :: ks) (v :: vs) ((tk, tv) :: trs) := fun pins s σ H Q I h =>
  pairTrees_cons_walk (thn (hk pins s σ H _ I h) fun u s1 ⟨x, H1, I1, rx, q1⟩ => thn (hv pins s1 σ H1 _ I1 q1) fun w2 s2 ⟨y, H2, I2, ry, q2⟩ =>
    thn (hr pins s2 σ H2 _ I2 q2) fun ws s3 ⟨ps, H3, I3, rel, q3⟩ => ⟨(x, y) :: ps, H3, I3, .cons ⟨rx, ry⟩ rel, q3⟩)

def mergeK (kvs more : List (Key × V)) : List (Key × V) := more.foldl (fun acc kv => putK acc kv.1 kv.2) kvs
theorem KV.merge : ∀ {more : List (Key × V)} {rs : List (Key × Value)} {kvs : List (Key × V)} {vs : List (Key × Value)}, KV more rs → KV kvs vs → KV (mergeK kvs more) (merged vs rs) := by
  intro more rs kvs vs r
  unfold KV at r
  induction r generalizing kvs vs with
  | nil => intro q; exact q
  | @cons p q ps qs h t ih =>
    intro r0
    have e : KV (putK kvs p.1 p.2) (stored vs q.1 q.2) := by
      have := r0.put p.1 h.2
      rw [← h.1]; exact this
    exact ih e
theorem length_mergeK : ∀ (more kvs : List (Key × V)), (mergeK kvs more).length ≤ kvs.length + more.length
  | [], kvs => by show kvs.length ≤ kvs.length + 0; omega
  | p :: r, kvs => by
    have h1 := length_mergeK r (putK kvs p.1 p.2)
    have h2 := length_putK kvs p.1 p.2
    show (mergeK (putK kvs p.1 p.2) r).length ≤ _
    rw [List.length_cons]; omega
theorem carries_of {P : Program} {w : World} : ∀ {kvs : List (Key × V)} {ws : List (Value × Value)}, VV (kvs.map fun kv => (kV kv.1, kv.2)) ws → ∃ rs, Carries (mixKind P w) ws rs ∧ KV kvs rs
  | [], _, r => by rw [List.map_nil] at r; cases r; exact ⟨[], True.intro, .nil⟩
  | p :: kvs, _, r => by
    rw [List.map_cons] at r
    cases r with
    | @cons a b as bs h t =>
      obtain ⟨rs, c, q⟩ := carries_of (P := P) (w := w) t
      obtain ⟨b1, b2⟩ := b
      exact ⟨(p.1, b2) :: rs, ⟨kV_is h.1, rfl, c⟩, .cons ⟨rfl, h.2⟩ q⟩
/-- {k: v, ..} with keys ints and texts; the new dict stands empty while the pairs are made -/
def tDisp (trs : List (TE × TE)) : TE := fun σ H Q => ∀ p, H p = none → tPairs trs σ (upd H p (.dK [])) fun ps H2 => H2 p = some (.dK []) ∧ ∃ kvs : List (Key × V), ps = kvs.map (fun kv => (kV kv.1, kv.2)) ∧ kvs.length ≤ 15 ∧ Q (.ref p) (upd H2 p (.dK (mergeK [] kvs)))
theorem pe_disp {X : Cx} {pos : Pos} {keys : List (Option Expr)} {values : List Expr} {trs : List (TE × TE)} (h : PPs X pos keys values trs) (hall : keys.all (·.isSome) = true) (hl : keys.length = values.length) (h0 : keys ≠ [])
    (h15 : keys.length ≤ 15) : PE X (.Dict keys values pos) (tDisp trs) := by
  intro pins s σ H Q I q
  have hn := I.hok.fresh (Nat.le_refl s.heap.objs.size)
  have I1 := I.laid (a := s.heap.objs.size) (o := .dK []) (h' := s.heap.push { cls := .type "dict", data := .dict #[] }) (t' := s.toks) (fun _ _ q => Heap.get?_push_of_some _ q) (Nat.le_refl _) (dk_empty s.heap I.big)
  refine wpAny_Dict_walk (knd := mixKind X.prog X.w) hall hl h0 h15 (thn (h pins _ σ _ _ I1 (q _ hn)) fun ws s2 ⟨ps, H2, I2, rel, e, kvs, ep, lk, q2⟩ => ?_)
  subst ep
  obtain ⟨rs, c, rk⟩ := carries_of (P := X.prog) (w := X.w) rel
  obtain ⟨z, hd, vs0, r0, dd⟩ := dk_of I2.hok e
  cases r0
  refine ⟨rs, c, dd, fun h' dd' hs => ⟨.ref s.heap.objs.size, _, ?_, rfl, q2⟩⟩
  have hz : (mergeK [] kvs).length ≤ sizeLine := by
    have h1 := length_mergeK kvs []
    rw [List.length_nil] at h1
    rw [sizeLine_eq]; omega
  have he : ∃ q, h'.get? s.heap.objs.size = some q := let ⟨q, _, _, hq, _⟩ := dd'; ⟨q, hq⟩
  exact d_write I2 (by rw [e]; exact True.intro) hs he (dk_new hz hd (rk.merge .nil) dd')


/-! ### methods -/
/-- a method call o.m(e) of a built-in, with one argument: what must be seen of the text -/
structure M1 (X : Cx) (o : Expr) (m : Str) (apos : Pos) (e : Expr) (cpos : Pos) : Prop where
  base : attributeBase o m X.env (eval o X.env) = eval o X.env
  few : ((backTo cpos (starEach [e] X.env)).all (fun x => !x.1) && (backToKw cpos (keywordEach [] X.env)).all (fun x => x.1.isSome)
    && decide (([e] : List Expr).length + ([] : List Keyword).length + (if ([] : List Keyword).isEmpty then 0 else 1) < 30)) = true
  line : (apos.endLine == cpos.line) = true
  trees : backTo cpos (starEach [e] X.env) = [(false, eval e X.env)]
structure M2 (X : Cx) (o : Expr) (m : Str) (apos : Pos) (e f : Expr) (cpos : Pos) : Prop where
  base : attributeBase o m X.env (eval o X.env) = eval o X.env
  few : ((backTo cpos (starEach [e, f] X.env)).all (fun x => !x.1) && (backToKw cpos (keywordEach [] X.env)).all (fun x => x.1.isSome)
    && decide (([e, f] : List Expr).length + ([] : List Keyword).length + (if ([] : List Keyword).isEmpty then 0 else 1) < 30)) = true
  line : (apos.endLine == cpos.line) = true
  trees : backTo cpos (starEach [e, f] X.env) = [(false, eval e X.env), (false, eval f X.env)]

/-- a is a dict, whatever its keys -/
def IsD (H : Hp) (a : Addr) : Prop := (∃ kvs, Rd H a (.dK kvs)) ∨ ∃ kvs, Rd H a (.dT kvs)
theorem isD_at {X : Cx} {pins : List (Addr × Obj)} {σ : St} {H : Hp} {s : Shared} {a : Addr} (I : Inv X pins σ H s) (d : IsD H a) :
    s.TypeIs (.ref a) "dict" ∧ (∀ b, Value.ref a = .ref b → ∃ ob, s.heap.get? b = some ob ∧ ob.dict = none) ∧ (a == sysModules) = false := by
  rcases d with ⟨kvs, e⟩ | ⟨kvs, e⟩
  · obtain ⟨_, hd, vs, _, dd⟩ := dk_rd I.hok e
    refine ⟨dd.typeIs, fun b q => ?_, hd⟩
    cases q
    obtain ⟨ob, _, _, h1, h2, _⟩ := dd
    exact ⟨ob, h1, h2.2.1⟩
  · obtain ⟨_, hd, xs, _, dd⟩ := dt_rd I.hok e
    refine ⟨dd.typeIs, fun b q => ?_, hd⟩
    cases q
    obtain ⟨ob, _, _, h1, h2, _⟩ := dd
    exact ⟨ob, h1, h2.2.1⟩

section
variable {X : Cx} {pins : List (Addr × Obj)} {σ : St} {H : Hp} {s : Shared} {a : Addr} {y d : V} {u r : Value} {o : Option V} {A : Around} {E : Value → Shared → Prop}
/-- d.get(y) -/
theorem d_get1 {Q : Value → Shared → Prop} (hu : A.units + 1 < cLine) (I : Inv X pins σ H s) (g : DGet H a y o) (ry : RelV y u) (h : ∀ w' s', Inv X pins σ H s' → RelV (o.getD .non) w' → Q w' s') :
    wpAny (model X.prog X.w) A (call (.builtin "dict.get") [.ref a, u]) Q E s := by
  rcases g with ⟨kvs, k, e, ey, l⟩ | ⟨kvs, k, b, e, ey, eb, l⟩
  · subst ey
    obtain ⟨z, hd, vs, rel, dd⟩ := dk_rd I.hok e
    refine call_meetsIn PySem.F.slot_dict_get dd.typeIs PySem.F.entry_dict_get (PySem.F.args_dict_get_2 _ _) (meets_dict_get (mixKind X.prog X.w) a (kV_is ry) hd) ⟨_, dd.mapOf, h _ _ (I.tok _) ?_⟩
    rw [l]
    exact (rel.val k).getD rfl
  · subst ey
    cases (show u = Value.ref b from ry)
    obtain ⟨z, hd, xs, rel, dd⟩ := dt_rd I.hok e
    refine call_meetsIn PySem.F.slot_dict_get dd.typeIs PySem.F.entry_dict_get (PySem.F.args_dict_get_2 _ _) (meetsH_dict_get (tupleKind (mixKind X.prog X.w)) a b hd) ⟨tupleKind_room_in1 hu, k, xs, key_of I.hok eb, dd, h _ _ (I.tok _) ?_⟩
    rw [l]
    exact (rel.val k).getD rfl
/-- d.get(y, x) -/
theorem d_get2 {Q : Value → Shared → Prop} (hu : A.units + 1 < cLine) (I : Inv X pins σ H s) (g : DGet H a y o) (ry : RelV y u) (rd : RelV d r) (h : ∀ w' s', Inv X pins σ H s' → RelV (o.getD d) w' → Q w' s') :
    wpAny (model X.prog X.w) A (call (.builtin "dict.get") [.ref a, u, r]) Q E s := by
  rcases g with ⟨kvs, k, e, ey, l⟩ | ⟨kvs, k, b, e, ey, eb, l⟩
  · subst ey
    obtain ⟨z, hd, vs, rel, dd⟩ := dk_rd I.hok e
    refine call_meetsIn PySem.F.slot_dict_get dd.typeIs PySem.F.entry_dict_get (PySem.F.args_dict_get_3 _ _ _) (meets_dict_get_default (mixKind X.prog X.w) a (kV_is ry) hd r) ⟨_, dd.mapOf, h _ _ (I.tok _) ?_⟩
    rw [l]
    exact (rel.val k).getD rd
  · subst ey
    cases (show u = Value.ref b from ry)
    obtain ⟨z, hd, xs, rel, dd⟩ := dt_rd I.hok e
    refine call_meetsIn PySem.F.slot_dict_get dd.typeIs PySem.F.entry_dict_get (PySem.F.args_dict_get_3 _ _ _) (meetsH_dict_get_default (tupleKind (mixKind X.prog X.w)) a b hd r) ⟨tupleKind_room_in1 hu, k, xs, key_of I.hok eb, dd, h _ _ (I.tok _) ?_⟩
    rw [l]
    exact (rel.val k).getD rd
end

def tDGet1 (td ty : TE) : TE := fun σ H Q => td σ H fun x H1 => ∃ a, x = .ref a ∧ IsD H1 a ∧ ty σ H1 fun y H2 => ∃ o, DGet H2 a y o ∧ Q (o.getD .non) H2
def tDGet2 (td ty tx : TE) : TE := fun σ H Q => td σ H fun x H1 => ∃ a, x = .ref a ∧ IsD H1 a ∧ ty σ H1 fun y H2 => tx σ H2 fun z H3 => ∃ o, DGet H3 a y o ∧ Q (o.getD z) H3
/-- d.pop(k): there; d.pop(k, x): there or not -/
def tDPop1 (td ty : TE) : TE := fun σ H Q => td σ H fun x H1 => ∃ a, x = .ref a ∧ IsD H1 a ∧ ty σ H1 fun y H2 => ∃ kvs k v, H2 a = some (.dK kvs) ∧ y = kV k ∧ valV kvs k = some v ∧ Q v (upd H2 a (.dK (dropK kvs k)))
def tDPop2 (td ty tx : TE) : TE := fun σ H Q => td σ H fun x H1 => ∃ a, x = .ref a ∧ IsD H1 a ∧ ty σ H1 fun y H2 => tx σ H2 fun z H3 => ∃ kvs k, H3 a = some (.dK kvs) ∧ y = kV k ∧
  (∀ v, valV kvs k = some v → Q v (upd H3 a (.dK (dropK kvs k)))) ∧ (valV kvs k = none → Q z H3)
section
variable {X : Cx} {o e f : Expr} {apos cpos : Pos} {td ty tx : TE}
theorem pe_dget1 (hu : X.A.units + 1 < cLine) (ho : PE X o td) (he : PE X e ty) (m : M1 X o "get" apos e cpos) : PE X (.Call (.Attribute o "get" apos) [e] [] cpos) (tDGet1 td ty) := by
  intro pins s σ H Q I h
  refine wpAny_Call_method m.base m.few m.line PySem.F.plainAttrs_dict PySem.F.slot_dict_get PySem.F.type_dict_get (thn (ho pins s σ H _ I h) fun u s1 ⟨x, H1, I1, rx, a, ex, d, q1⟩ => ?_)
  subst ex
  obtain rfl : u = Value.ref a := rx
  obtain ⟨t1, t2, _⟩ := isD_at I1 d
  refine ⟨t1, t2, ?_⟩
  rw [m.trees]
  refine Calls.callWith_builtin rfl (Calls.evalArgs_plain (Calls.spliced_cons (thn (he pins s1 σ H1 _ I1 q1) fun iv s2 ⟨y, H2, I2, ry, ov, g, q2⟩ => Calls.spliced_nil ?_)))
  exact d_get1 hu I2 g ry fun w' s3 I3 rw' => ⟨_, H2, I3, rw', q2⟩
theorem pe_dget2 (hu : X.A.units + 1 < cLine) (ho : PE X o td) (he : PE X e ty) (hf : PE X f tx) (m : M2 X o "get" apos e f cpos) : PE X (.Call (.Attribute o "get" apos) [e, f] [] cpos) (tDGet2 td ty tx) := by
  intro pins s σ H Q I h
  refine wpAny_Call_method m.base m.few m.line PySem.F.plainAttrs_dict PySem.F.slot_dict_get PySem.F.type_dict_get (thn (ho pins s σ H _ I h) fun u s1 ⟨x, H1, I1, rx, a, ex, d, q1⟩ => ?_)
  subst ex
  obtain rfl : u = Value.ref a := rx
  obtain ⟨t1, t2, _⟩ := isD_at I1 d
  refine ⟨t1, t2, ?_⟩
  rw [m.trees]
  refine Calls.callWith_builtin rfl (Calls.evalArgs_plain (Calls.spliced_cons (thn (he pins s1 σ H1 _ I1 q1) fun iv s2 ⟨y, H2, I2, ry, q2⟩ =>
    Calls.spliced_cons (thn (hf pins s2 σ H2 _ I2 q2) fun fv s3 ⟨z, H3, I3, rz, ov, g, q3⟩ => Calls.spliced_nil ?_))))
  exact d_get2 hu I3 g ry rz fun w' s4 I4 rw' => ⟨_, H3, I4, rw', q3⟩
theorem pe_dpop1 (ho : PE X o td) (he : PE X e ty) (m : M1 X o "pop" apos e cpos) : PE X (.Call (.Attribute o "pop" apos) [e] [] cpos) (tDPop1 td ty) := by
  intro pins s σ H Q I h
  refine wpAny_Call_method m.base m.few m.line PySem.F.plainAttrs_dict PySem.F.slot_dict_pop PySem.F.type_dict_pop (thn (ho pins s σ H _ I h) fun u s1 ⟨x, H1, I1, rx, a, ex, d, q1⟩ => ?_)
  subst ex
  obtain rfl : u = Value.ref a := rx
  obtain ⟨t1, t2, _⟩ := isD_at I1 d
  refine ⟨t1, t2, ?_⟩
  rw [m.trees]
  refine Calls.callWith_builtin rfl (Calls.evalArgs_plain (Calls.spliced_cons (thn (he pins s1 σ H1 _ I1 q1) fun iv s2 ⟨y, H2, I2, ry, kvs, k, v, ea, ey, l, q2⟩ => Calls.spliced_nil ?_)))
  subst ey
  exact d_pop I2 ea ry l (.inl rfl) fun w' s3 I3 rw' => ⟨v, _, I3, rw', q2⟩
theorem pe_dpop2 (ho : PE X o td) (he : PE X e ty) (hf : PE X f tx) (m : M2 X o "pop" apos e f cpos) : PE X (.Call (.Attribute o "pop" apos) [e, f] [] cpos) (tDPop2 td ty tx) := by
  intro pins s σ H Q I h
  refine wpAny_Call_method m.base m.few m.line PySem.F.plainAttrs_dict PySem.F.slot_dict_pop PySem.F.type_dict_pop (thn (ho pins s σ H _ I h) fun u s1 ⟨x, H1, I1, rx, a, ex, d, q1⟩ => ?_)
  subst ex
  obtain rfl : u = Value.ref a := rx
  obtain ⟨t1, t2, _⟩ := isD_at I1 d
  refine ⟨t1, t2, ?_⟩
  rw [m.trees]
  refine Calls.callWith_builtin rfl (Calls.evalArgs_plain (Calls.spliced_cons (thn (he pins s1 σ H1 _ I1 q1) fun iv s2 ⟨y, H2, I2, ry, q2⟩ =>
    Calls.spliced_cons (thn (hf pins s2 σ H2 _ I2 q2) fun fv s3 ⟨z, H3, I3, rz, kvs, k, ea, ey, q3, q4⟩ => Calls.spliced_nil ?_))))
  subst ey
  cases l : valV kvs k with
  | some v => exact d_pop I3 ea ry l (.inr ⟨fv, rfl⟩) fun w' s4 I4 rw' => ⟨v, _, I4, rw', q3 v l⟩
  | none => exact d_popD I3 ea ry l fun s4 I4 => ⟨z, H3, I4, rz, q4 l⟩
end

/-! ### dict(d): a copy -/
section
variable {X : Cx} {pins : List (Addr × Obj)} {σ : St} {H : Hp} {s : Shared} {a : Addr} {kvs : List (Key × V)} {A : Around} {E : Value → Shared → Prop}
theorem d_copyOf {Q : Value → Shared → Prop} (I : Inv X pins σ H s) (e : Rd H a (.dK kvs)) (h : ∀ p s', H p = none → Inv X pins σ (upd H p (.dK kvs)) s' → Q (.ref p) s') : wpAny (model X.prog X.w) A (call (.type "dict") [.ref a]) Q E s := by
  obtain ⟨z, hd, vs, rel, dd⟩ := dk_rd I.hok e
  refine kt_call_dict hd dd (by rw [← rel.length]; exact z) fun h' dd' hs => ?_
  refine h _ _ (I.hok.fresh (Nat.le_refl _)) (I.laid (a := s.heap.objs.size) (o := .dK kvs) (t' := s.toks) (fun b q hq => ?_) (Nat.le_refl _) (dk_new z (beq_eq_false_iff_ne.mpr (Ne.symm (Nat.ne_of_lt I.big))) rel dd'))
  exact (hs.2 b (Nat.ne_of_lt (Heap.lt_size hq))).trans (Heap.get?_push_of_some _ hq)
end


section
variable {X : Cx} {pins : List (Addr × Obj)} {σ : St} {H : Hp} {s : Shared} {a : Addr} {y : V} {u : Value} {A : Around} {E : Value → Shared → Prop}
/-- d[y], not there: a KeyError -/
theorem d_missing {Q : Value → Shared → Prop} (hu : A.units + 1 < cLine) (hh : A.handled = none) (I : Inv X pins σ H s) (g : DGet H a y none) (ry : RelV y u)
    (h : ∀ h' e t', Heap.NewExc s.heap h' e "KeyError" → E (.ref e) { s with heap := h', toks := t' }) : wpAny (model X.prog X.w) A (getItem (.ref a) u) Q E s := by
  rcases g with ⟨kvs, k, e, ey, l⟩ | ⟨kvs, k, b, e, ey, eb, l⟩
  · subst ey
    obtain ⟨z, hd, vs, rel, dd⟩ := dk_rd I.hok e
    have hn : valueAt vs k = none := RelO.none_of (by rw [l]; exact rel.val k)
    exact wpAny_getItem_missing_of (kV_is ry) hd hh dd.mapOf hn fun h' ex ne => h h' ex _ ne
  · subst ey
    cases (show u = Value.ref b from ry)
    obtain ⟨z, hd, xs, rel, dd⟩ := dt_rd I.hok e
    have hn : (atKey xs k).map (·.2) = none := RelO.none_of (by rw [l]; exact rel.val k)
    exact wpAny_getItem_missing_heap (tupleKind_room_in1 hu) (key_of I.hok eb) hd hh dd (Option.map_eq_none_iff.mp hn) fun h' ex ne => h h' ex _ ne
end
end L2

namespace Att
open PySem PySem.W PySem.Calls PyProof.Rows

/-! ### the script -/
theorem ints_of_wellAll {P : Params} {h : Heap} : ∀ (ns : List Int) (vs : List Value), WellAll P h vs (ns.map WData.int) → IntsAre vs ns := by
  intro ns
  induction ns with
  | nil =>
    intro vs w
    rw [List.map_nil] at w
    cases w
    exact .nil
  | cons n ns ih =>
    intro vs w
    rw [List.map_cons] at w
    cases w with
    | cons a b =>
      cases a
      exact .cons _ _ (ih _ b)

theorem script_of {l : OpenLaw} {n : Nat} (hn : l.most = some n) {P : Params} {h : Heap} {args : List WData} {vals : List Value}
    (hpre : l.row.toRowW.claim.pre args = true) (hwl : WellAll P h vals args) :
    ∃ a vs ns, vals = [Value.ref a] ∧ args = [WData.list (ns.map WData.int)] ∧ h.get? a = some { cls := .type "list", data := .seq vs.toArray } ∧ IntsAre vs ns ∧ ns.length ≤ n := by
  have hsh : WShape.hasAll [] args [.list .int] = true := (pre_splitW hpre).1
  have hc : l.pre.holds [] { args := args } = true := (pre_splitW hpre).2
  obtain ⟨d, r, rfl, h1, h2⟩ := hasAllW_cons hsh
  obtain rfl := hasAllW_nil h2
  obtain ⟨xs, rfl, h3⟩ := hasW_list h1
  obtain ⟨ns, rfl⟩ := items_int h3
  have hlen : ns.length ≤ n := by
    unfold OpenLaw.pre at hc
    have h4 : (WTm.not (.lt (.lit (.int (n : Int))) (.len (.arg 0)))).holds [] { args := [.list (ns.map .int)] } = true := by
      have h4 := (holds_andW hc).1
      rw [hn] at h4
      exact h4
    have h5 := condW_of h4 (w_not (w_lt w_lit (w_len_list (w_arg rfl))))
    rw [List.length_map] at h5
    refine Nat.le_of_not_lt fun q => ?_
    have q' : (n : Int) < ((ns.length : Nat) : Int) := by omega
    first
      | (rw [decide_eq_true q'] at h5; exact absurd h5 (by decide))
      | (simp at h5; omega)
  cases hwl with
  | cons w1 w2 =>
    cases w2
    cases w1 with
    | list ho hall => exact ⟨_, _, ns, rfl, rfl, ho, ints_of_wellAll ns _ hall, hlen⟩

theorem post_true (l : OpenLaw) (args : List WData) : l.row.toRowW.claim.post args (.bool true) args = true :=
  postW_of (r := l.row.toRowW) (X := (true == true))
    (show WShape.has [] (.bool true) .bool = true by first | rfl | decide | simp [WShape.has, WShape.arms, WShape.armsAll])
    (show (WTm.eq .res (.lit (.bool true))).value [] { args := args, res := some (.bool true), after := args } = some (.bool (true == true)) from w_eq_bool (w_res rfl) w_lit) rfl

/-! ### the attachment: holds_open's last premise (the goal 'hc' behind k_head) from a wpAny of the law's body -/
theorem attach {l : OpenLaw} {n : Nat} {q : Program} {loose : List Str} {XP : (Str → Option Value) → Heap → Prop} {YP : World → Heap → Prop} {d : DefRec} {x : Str}
    (hn : l.most = some n) (hdf : d.params.defaults = [])
    (hbind : ∀ pm cd doc v : Value, bindArgs (docDef d.name d.params d.body d.scope pm cd doc) ⟨[v], []⟩ = pure [(x, v)])
    (hx : d.scope.names.lookup x = some .local ∨ d.scope.names.lookup x = some .cell)
    (hk : d.scope.kind = .function) (hco : d.scope.isCoroutine = false) (hgen : d.scope.isGenerator = false)
    (body : ∀ (w : World) (s₀ s₁ s : Shared) (mg mb : Str → Option Value) (fa : Addr) (o : Obj) (pm cd doc : Value) (a : Addr) (vs : List Value) (ns : List Int),
      Ground q loose [] XP w s₀ mg mb s₁.heap → YP w s₁.heap →
      s₁.heap.get? fa = some o → o.data = .func (docDef d.name d.params d.body d.scope pm cd doc) → s₁.heap.CodeRec cd d.name → mg d.name = some (.ref fa) →
      s₁.heap.get? a = some { cls := .type "list", data := .seq vs.toArray } → IntsAre vs ns → ns.length ≤ n →
      s.gens = #[] → s.os = s₁.os →
      Fr s₁.heap s₁.heap.objs.size s.heap (bindL (envOfC d.name d.scope s₁.heap.objs.size fa cd).kindOf [(x, .ref a)] fun _ => none) →
      Cl s₁.heap.objs.size (cellsFrom (s₁.heap.objs.size + 1) d.scope.names []) s.heap (bindC (envOfC d.name d.scope s₁.heap.objs.size fa cd).kindOf [(x, .ref a)] fun _ => none) →
      wpAny (model l.prog w) (callerA.deeper (envOfC d.name d.scope s₁.heap.objs.size fa cd)) (execs d.body (envOfC d.name d.scope s₁.heap.objs.size fa cd))
        (fun f s' => f = .ret (.bool true) ∧ OldK s₁.heap s'.heap ∧ s'.os = s₁.os ∧ AllBare s'.gens) (fun _ _ => False) s) :
    WalkO q loose XP YP l.row.toRowW d [] (fun f vs => PySem.call f vs) := by
  intro w s₀ s₁ mg mb G Y fa o pm cd doc dV kV ho hd hcd hD hmg hg args vals as hpre hlay hrd hwl hlo
  obtain rfl : dV = .none := Dflts.none hD hdf
  obtain rfl : kV = .none := Dflts.noKw hD
  obtain ⟨a, vs, ns, rfl, rfl, hobj, hints, hlen⟩ := script_of hn hpre hwl
  refine enter_call ?_
  refine call_cells_ret (o := o) (by rw [depth_caller]; decide) ho (fd_plain hd) G.T.nolimit hcd (hbind pm cd doc (.ref a)) (fun y hy => ?_) (fun h₁ tk F X => ?_) hco hgen hk
  · obtain rfl : y = (x, Value.ref a) := List.mem_singleton.mp hy
    rcases hx with e | e
    · exact .inl e
    · exact .inr ⟨e, cellsFrom_some _ _ _ (.inl e)⟩
  · refine wpAny_mono (body w s₀ s₁ { s₁ with heap := h₁, toks := tk } mg mb fa o pm cd doc a vs ns G Y ho (fd_plain hd) hcd hmg hobj hints hlen hg rfl F X) (fun f s' hq => ?_) (fun _ _ hq => hq)
    obtain ⟨rfl, h2, h3, h4⟩ := hq
    exact ⟨.inl ⟨.bool true, .bool true, [], rfl, fun _ => rfl, .bool true, post_true l _, fun _ => ⟨List.Pairwise.nil, fun _ hm => (nomatch hm)⟩⟩, h2, h3, h4⟩

/-- the same from a codeAny of the CALL (for a layer whose function contracts speak of calls) -/
theorem attach_call {l : OpenLaw} {n : Nat} {q : Program} {loose : List Str} {XP : (Str → Option Value) → Heap → Prop} {YP : World → Heap → Prop} {d : DefRec}
    (hn : l.most = some n) (hdf : d.params.defaults = [])
    (call : ∀ (w : World) (s₀ s₁ : Shared) (mg mb : Str → Option Value) (fa : Addr) (o : Obj) (pm cd doc : Value) (a : Addr) (vs : List Value) (ns : List Int),
      Ground q loose [] XP w s₀ mg mb s₁.heap → YP w s₁.heap →
      s₁.heap.get? fa = some o → o.data = .func (docDef d.name d.params d.body d.scope pm cd doc) → s₁.heap.CodeRec cd d.name → mg d.name = some (.ref fa) →
      s₁.heap.get? a = some { cls := .type "list", data := .seq vs.toArray } → IntsAre vs ns → ns.length ≤ n → s₁.gens = #[] →
      codeAny (model l.prog w) callerA (.call (.ref fa) ⟨[.ref a], []⟩) (fun r s' => r = .ok (.ret (.bool true)) ∧ OldK s₁.heap s'.heap ∧ s'.os = s₁.os ∧ AllBare s'.gens) s₁) :
    WalkO q loose XP YP l.row.toRowW d [] (fun f vs => PySem.call f vs) := by
  intro w s₀ s₁ mg mb G Y fa o pm cd doc dV kV ho hd hcd hD hmg hg args vals as hpre hlay hrd hwl hlo
  obtain rfl : dV = .none := Dflts.none hD hdf
  obtain rfl : kV = .none := Dflts.noKw hD
  obtain ⟨a, vs, ns, rfl, rfl, hobj, hints, hlen⟩ := script_of hn hpre hwl
  refine enter_call (codeAny_mono (call w s₀ s₁ mg mb fa o pm cd doc a vs ns G Y ho (fd_plain hd) hcd hmg hobj hints hlen hg) fun r s' hq => ?_)
  obtain ⟨rfl, h2, h3, h4⟩ := hq
  exact ⟨.inl ⟨.bool true, .bool true, [], rfl, fun _ => rfl, .bool true, post_true l _, fun _ => ⟨List.Pairwise.nil, fun _ hm => (nomatch hm)⟩⟩, h2, h3, h4⟩

/-- the same where the top left finished generators (o_head chose holds_openN): nothing may have changed at all and no generator may be left -/
theorem attachN {l : OpenLaw} {n : Nat} {q : Program} {loose : List Str} {XP : (Str → Option Value) → Heap → Prop} {YP : World → Heap → Prop} {d : DefRec} {x : Str}
    (hn : l.most = some n) (hdf : d.params.defaults = [])
    (hbind : ∀ pm cd doc v : Value, bindArgs (docDef d.name d.params d.body d.scope pm cd doc) ⟨[v], []⟩ = pure [(x, v)])
    (hx : d.scope.names.lookup x = some .local ∨ d.scope.names.lookup x = some .cell)
    (hk : d.scope.kind = .function) (hco : d.scope.isCoroutine = false) (hgen : d.scope.isGenerator = false)
    (body : ∀ (w : World) (s₀ s₁ s : Shared) (mg mb : Str → Option Value) (fa : Addr) (o : Obj) (pm cd doc : Value) (a : Addr) (vs : List Value) (ns : List Int),
      Ground q loose [] XP w s₀ mg mb s₁.heap → YP w s₁.heap →
      s₁.heap.get? fa = some o → o.data = .func (docDef d.name d.params d.body d.scope pm cd doc) → s₁.heap.CodeRec cd d.name → mg d.name = some (.ref fa) →
      s₁.heap.get? a = some { cls := .type "list", data := .seq vs.toArray } → IntsAre vs ns → ns.length ≤ n →
      s.gens = #[] → s.os = s₁.os →
      Fr s₁.heap s₁.heap.objs.size s.heap (bindL (envOfC d.name d.scope s₁.heap.objs.size fa cd).kindOf [(x, .ref a)] fun _ => none) →
      Cl s₁.heap.objs.size (cellsFrom (s₁.heap.objs.size + 1) d.scope.names []) s.heap (bindC (envOfC d.name d.scope s₁.heap.objs.size fa cd).kindOf [(x, .ref a)] fun _ => none) →
      wpAny (model l.prog w) (callerA.deeper (envOfC d.name d.scope s₁.heap.objs.size fa cd)) (execs d.body (envOfC d.name d.scope s₁.heap.objs.size fa cd))
        (fun f s' => f = .ret (.bool true) ∧ (∀ b o, s₁.heap.get? b = some o → s'.heap.get? b = some o) ∧ s'.os = s₁.os ∧ s'.gens = #[]) (fun _ _ => False) s) :
    WalkN q loose XP YP l.row.toRowW d [] (fun f vs => PySem.call f vs) := by
  intro w s₀ s₁ mg mb G Y fa o pm cd doc dV kV ho hd hcd hD hmg hg args vals as hpre hlay hrd hwl hlo
  obtain rfl : dV = .none := Dflts.none hD hdf
  obtain rfl : kV = .none := Dflts.noKw hD
  obtain ⟨a, vs, ns, rfl, rfl, hobj, hints, hlen⟩ := script_of hn hpre hwl
  refine enter_callW ?_
  refine call_cells_ret (o := o) (by rw [depth_caller]; decide) ho (fd_plain hd) G.T.nolimit hcd (hbind pm cd doc (.ref a)) (fun y hy => ?_) (fun h₁ tk F X => ?_) hco hgen hk
  · obtain rfl : y = (x, Value.ref a) := List.mem_singleton.mp hy
    rcases hx with e | e
    · exact .inl e
    · exact .inr ⟨e, cellsFrom_some _ _ _ (.inl e)⟩
  · refine wpAny_mono (body w s₀ s₁ { s₁ with heap := h₁, toks := tk } mg mb fa o pm cd doc a vs ns G Y ho (fd_plain hd) hcd hmg hobj hints hlen hg rfl F X) (fun f s' hq => ?_) (fun _ _ hq => hq)
    obtain ⟨rfl, h2, h3, h4⟩ := hq
    exact ⟨.inl ⟨.bool true, .bool true, [], rfl, fun _ => rfl, .bool true, post_true l _, fun _ => ⟨List.Pairwise.nil, fun _ hm => (nomatch hm)⟩⟩, h2, h3, h4⟩

/-! ### rules over ANY heap (no ledger) from facts about the written part K: the library's own take a ledger (News) for what they write -/
section
variable {prog : Program} {w : World} {A : Around} {E : Value → Shared → Prop} {s : Shared} {K : Frag}

/-- a def of the module, or a method (qual 'C.m'), entered: the frame is the next address; cells behind it -/
theorem call_fn {R : Result → Shared → Prop} {name qual : Str} {params : Arguments} {body : List Stmt} {scope : Scope} {dV kV doc pm cdv ct oc : Value} {an od : Option Addr} {osl : Array (Option Value)} {f : Addr} {args : Args} {binds : List (Str × Value)}
    (X : K.In s.heap) (hlim : s.heap.NoLimit) (ho : K.lookup f = some ⟨oc, od, .func (fnOf name qual params body scope dV kV doc pm an cdv ct), osl⟩) (hcd : codeIn K cdv qual = true) (hroom : A.depth < recursionLimit)
    (hbind : BindsTo s (fnOf name qual params body scope dV kV doc pm an cdv ct) args binds)
    (hkind : (binds.all fun y => scope.names.lookup y.1 == some .local || scope.names.lookup y.1 == some .cell) = true)
    (h : ∀ s₁, InCallC s s.heap.objs.size (bindL (envOfC qual scope s.heap.objs.size f cdv).kindOf binds fun _ => none) (cellsFrom (s.heap.objs.size + 1) scope.names [])
        (bindC (envOfC qual scope s.heap.objs.size f cdv).kindOf binds fun _ => none) s₁ →
      wpAny (model prog w) (A.deeper (envOfC qual scope s.heap.objs.size f cdv)) (execs body (envOfC qual scope s.heap.objs.size f cdv))
        (fun fl s' => R (.ok (.ret (match fl with | .ret v => v | _ => .none))) s')
        (fun e s' => wpAny (model prog w) (A.deeper (envOfC qual scope s.heap.objs.size f cdv)) (leaving (envOfC qual scope s.heap.objs.size f cdv) e) (fun _ s'' => R (.error e) s'') (fun e' s'' => R (.error e') s'') s') s₁)
    (hco : scope.isCoroutine = false) (hgen : scope.isGenerator = false) (hk : scope.kind = .function) : codeAny (model prog w) A (.call (.ref f) args) R s := by
  refine codeAny_call_function hroom (X _ _ ho) rfl hco hgen rfl (codeRec_of X hcd) (hbind _ _ _ _ ?_)
  refine wpAny_newFunctionEnv_cells hk (kindsX hkind _) fun env he s₁ x => ?_
  subst he
  exact ⟨hlim.keeps x.toInCall.keep, codeAny_func (h s₁ x)⟩

/-- C(..): dict at size, instance at size + 1, then __init__ -/
theorem make_obj {R : Result → Shared → Prop} {C fI : Addr} {rest : List Value} {kw : List (Str × Value)}
    (X : K.In s.heap) (hm : makesIn K C = true) (hi : findIn K (.ref C) "__init__" = some (some (.ref fI))) (hf : isFn K (.ref fI) = true)
    (h : codeAny (model prog w) (A.under (.builtin "type.__call__" ⟨.ref C :: rest, kw⟩)) (.call (.ref fI) ⟨.ref (s.heap.objs.size + 1) :: rest, kw⟩) (InitBack (s.heap.objs.size + 1) R)
      { s with heap := (s.heap.push emptyDict).push (instObj C s.heap.objs.size) }) : codeAny (model prog w) A (.call (.ref C) ⟨rest, kw⟩) R s := by
  obtain ⟨hh, g, d, t, os⟩ := s
  exact make_core (makes_of X hm) (looks_findIn X hi) (fun self => bind_fn X self (beq_iff_eq.mp hf)) (.inl rfl) h

/-- x.name where the instance's dict holds the name and the class does not -/
theorem get_field {x C : Addr} {ox : Obj} {es : List DictEntry} {n : Nat} {name : Str} {expr : Bool} {v : Value} {Q : Value → Shared → Prop}
    (X : K.In s.heap) (I : PySem.W.InstAt s.heap x ox C (some (dictOf es n))) (hg : plainGet K C name = true) (hh : hasDictIn K C = true) (ha : findIn K (.ref C) name = some none)
    (hl : getL name es = some (some v)) (hv : handedIn v = true) (h : Q v { s with toks := s.toks + 1 }) : wpAny (model prog w) A (getAttr (.ref x) name expr) Q E s :=
  get_value X I (plainGet_of hg).1 (findObj_own hh ha rfl hl) hv h

/-- x.m(..): the method found in the class -/
theorem get_method {x C f : Addr} {ox : Obj} {es : List DictEntry} {n : Nat} {name : Str} {pl : Sem Bool} {Q : Value × List Value → Shared → Prop}
    (X : K.In s.heap) (I : PySem.W.InstAt s.heap x ox C (some (dictOf es n))) (hg : plainGet K C name = true) (hf : findIn K (.ref C) name = some (some (.ref f))) (ht : isFn K (.ref f) = true)
    (hl : getL name es = some none) (h : Q (.ref f, [.ref x]) s) : wpAny (model prog w) A (getMethod (.ref x) name pl) Q E s :=
  method_fn X I (plainGet_of hg).1 (plainGet_of hg).2 hf (beq_iff_eq.mp ht) (by show (lookIn name (dictOf es n)).map _ = _; rw [lookIn_dict, hl]; rfl) h

/-! the whole heap as the ledger: makes every rule that writes through a ledger a rule over any heap -/
def noObjs (h : Heap) : Heap := { h with objs := #[] }
theorem noObjs_get (h : Heap) (b : Addr) : (noObjs h).get? b = none := by
  cases e : (noObjs h).get? b with
  | none => rfl
  | some o => exact absurd (Heap.lt_size e) (Nat.not_lt_zero _)
def ledger (h : Heap) (L d : Addr) : List (Addr × Obj) := (List.range h.objs.size).filterMap fun a => if a = L ∨ a = d then none else (h.get? a).map fun o => (a, o)
theorem mem_ledger {h : Heap} {L d a : Addr} {o : Obj} : (a, o) ∈ ledger h L d ↔ a ≠ L ∧ a ≠ d ∧ h.get? a = some o := by
  unfold ledger
  rw [List.mem_filterMap]
  constructor
  · rintro ⟨b, _, e⟩
    split at e
    · cases e
    · rename_i hb
      obtain ⟨o', ho, e'⟩ := Option.map_eq_some_iff.mp e
      cases e'
      exact ⟨fun q => hb (.inl q), fun q => hb (.inr q), ho⟩
  · rintro ⟨n1, n2, ho⟩
    refine ⟨a, List.mem_range.mpr (Heap.lt_size ho), ?_⟩
    rw [if_neg (show ¬ (a = L ∨ a = d) from fun q => q.elim n1 n2), ho] <;> rfl
theorem news_ledger {h : Heap} {L d : Addr} {od : Obj} (hne : d ≠ L) (ho : h.get? d = some od) : News (noObjs h) L h ([] ++ (d, od) :: ledger h L d) := by
  rintro ⟨a, o⟩ hp
  rcases List.mem_cons.mp hp with e | hp
  · cases e
    exact ⟨ho, hne, noObjs_get _ _⟩
  · obtain ⟨n1, n2, e⟩ := mem_ledger.mp hp
    exact ⟨e, n1, noObjs_get _ _⟩
theorem fr_all {h : Heap} {L : Addr} {m : Str → Option Value} (n : h.Ns L m) : Fr (noObjs h) L h m :=
  ⟨n, fun b o e => (by rw [noObjs_get] at e; cases e), Nat.zero_le _⟩
/-- Upd of the head entry (for append_K, setItem_K ..) -/
theorem upd_ledger {h : Heap} {L d : Addr} {o o' : Obj} : Upd d o o' ((d, o) :: ledger h L d) ((d, o') :: ledger h L d) :=
  .head fun ⟨_, _⟩ hp => (mem_ledger.mp hp).2.1

/-- x.name = v over any heap: L is any namespace of the heap (the frame's, say): its map stays, its object is not told; all else but the dict stays -/
theorem set_field {x C dx L : Addr} {ox : Obj} {m : Str → Option Value} {es es' : List DictEntry} {n n' : Nat} {name : Str} {v : Value} {Q : Unit → Shared → Prop}
    (X : K.In s.heap) (I : PySem.W.InstAt s.heap x ox C (some (dictOf es n))) (hd : ox.dict = some dx) (hL : s.heap.Ns L m) (hne : dx ≠ L)
    (hs : findIn K (.ref C) "__setattr__" = some (some (.builtin "object.__setattr__"))) (hp : plainOver K C = true) (ht : takerIn K C name = some none) (hh : hasDictIn K C = true) (hl : (getL name es).isSome = true)
    (e : (putL name (PyData.keyHash w.params name) (.str name (s.toks + 1)) v es, putN name es n) = (es', n')) (hz : es'.length ≤ 1000)
    (h : ∀ h' : Heap, h'.Ns L m → h'.get? dx = some (dictOf es' n') → (∀ b o, b ≠ dx → b ≠ L → s.heap.get? b = some o → h'.get? b = some o) → Q () { s with heap := h', toks := s.toks + 2 }) :
    wpAny (model prog w) A (setAttr (.ref x) name v) Q E s := by
  obtain ⟨e1, e2⟩ := Prod.mk.inj e
  have hdx : s.heap.get? dx = some (dictOf es n) := by
    have := I.dict
    rw [hd] at this
    exact this
  refine set_plain X I hs (osa_dict (s := { s with toks := s.toks + 1 }) (h₀ := noObjs s.heap) (L := L) (m := m) (od := dictOf es n) (od' := dictOf es' n') (es := es') (n := n') (pre := []) (post := ledger s.heap L dx)
    (fr_all hL) (news_ledger hne hdx) X I hd hp ht hh hl (fun _ q => nomatch q) (fun ⟨_, _⟩ q => (mem_ledger.mp q).2.1) (by rw [putName_dict, e1, e2]) rfl hz fun h' F' N' => ?_)
  exact h h' F'.ns (N'.get (List.Mem.head _)) fun b o n1 n2 ho => N'.get (List.Mem.tail _ (mem_ledger.mpr ⟨n2, n1, ho⟩))
end
end Att

namespace L2
open PySem PySem.Spec PyProof.Rows

theorem vals_ints : ∀ {vs : List Value} {ns : List Int}, IntsAre vs ns → Vals (ns.map V.int) vs
  | _, _, .nil => .nil
  | _, _, .cons n t h => .cons ⟨t, rfl⟩ (vals_ints h)

/-- nothing is tracked but the script, known to the object (or it is an object of the module) -/
def Only (H : Hp) : Prop := ∀ b, H b = none ∨ ∃ o xs, H b = some (.frz o (.lst xs))

/-- THE HEAD: the law's promise, at the heap behind the top. F, the promise of the law's def, may use that base is part of the heap (so K.In base, base.Ns mainGlobals mg stand in Mod) -/
theorem law_call {P : Program} {w : World} {K : PySem.W.Frag} {mg mb : Str → Option Value} {CX : CXT} {k : Nat} {fa a : Addr} {fd : FuncData} {x : Str} {sp : Sp} {s₁ : Shared} {vs : List Value} {ns : List Int}
    (KX : K.In s₁.heap) (hns : s₁.heap.Ns mainGlobals mg) (hb : s₁.heap.Ns builtinsNs mb) (hbb : ∀ x : Str, x ≠ "__name__" → mb x = bootBuiltins x) (hlim : s₁.heap.NoLimit) (hg : s₁.gens = #[])
    (ha : s₁.heap.get? a = some { cls := .type "list", data := .seq vs.toArray }) (hi : IntsAre vs ns) (hl : ns.length ≤ sizeLine) (hr : Room k callerA)
    (F : ∀ base : Heap, K.In base → base.Ns mainGlobals mg → FnOk P w K mg base CX k fa fd [x] sp) (hbind : ∀ (s : Shared) (u : Value), BindsTo s fd ⟨[u], []⟩ [(x, u)])
    (hsp : ∀ H : Hp, Only H → SqL K H a (ns.map V.int) → sp [.ref a] H (fun v _ => v = .bl true) fun _ _ _ => False)
    (hCX : ∀ H e s', CX [] H s₁ (fun _ _ _ => False) e s' → False) :
    codeAny (model P w) callerA (.call (.ref fa) ⟨[.ref a], []⟩) (fun r s' => r = .ok (.ret (.bool true)) ∧ OldK s₁.heap s'.heap ∧ s'.os = s₁.os ∧ AllBare s'.gens) s₁ := by
  have rv := vals_ints hi
  have lenV := hi.length
  -- from an abstract heap in which nothing but the script may be tracked
  have core : ∀ H : Hp, Only H → SqL K H a (ns.map V.int) → HOk P w H s₁.heap → (∀ b, H b ≠ none → b = a) → (H a ≠ none → K.lookup a = none) →
      codeAny (model P w) callerA (.call (.ref fa) ⟨[.ref a], []⟩) (fun r s' => r = .ok (.ret (.bool true)) ∧ OldK s₁.heap s'.heap ∧ s'.os = s₁.os ∧ AllBare s'.gens) s₁ := by
    intro H hO hS hok hA hK
    have base_of : ∀ {b : Addr} {o : Obj}, s₁.heap.get? b = some o → H b = none → (hidT s₁.heap H).get? b = some o := fun e n => hidT_get e n
    have noA : ∀ {b : Addr} {o : Obj} {es : Array DictEntry} {ep : Nat}, s₁.heap.get? b = some o → o.data = .dict es ep → H b = none := fun {b o es ep} e d => by
      cases q : H b with
      | none => rfl
      | some u =>
        have e' : b = a := hA b (by rw [q]; simp)
        subst e'
        rw [ha] at e; cases e
        have d' : Data.seq vs.toArray _ = Data.dict es ep := d
        cases d'
    have nsK : ∀ {b : Addr} {m : Str → Option Value}, s₁.heap.Ns b m → (hidT s₁.heap H).Ns b m := fun {b m} ⟨o, es, ep, e, d, r⟩ => ⟨o, es, ep, base_of e (noA e d), d, r⟩
    have hKb : K.In (hidT s₁.heap H) := fun b o e => base_of (KX b o e) (by
      cases q : H b with
      | none => rfl
      | some u =>
        have e' : b = a := hA b (by rw [q]; simp)
        subst e'
        rw [hK (by rw [q]; simp)] at e; cases e)
    have hM : Mod K mg (hidT s₁.heap H) := ⟨hKb, nsK hns, ⟨mb, nsK hb, hbb⟩, let ⟨mc, h1, h2⟩ := hlim; ⟨mc, nsK h1, h2⟩⟩
    have e0 : Env0 P w K mg (hidT s₁.heap H) callerA [] s₁ H := ⟨rfl, hM, fun b o e => of_hidT e, Nat.le_of_eq (hidT_size _ _), trivial, fun b hb => absurd (show b ∈ ([] : List Addr) from hb) (by simp), hok, .of_eq hg⟩
    refine codeAny_mono ((F _ hKb (nsK hns)).run callerA [] s₁ H ⟨[.ref a], []⟩ [.ref a] [.ref a] _ _ hr e0 (hbind s₁ (.ref a)) (.cons rfl .nil) (hsp H hO hS)) fun r s' h => ?_
    cases r with
    | error e => exact (hCX H e s' h).elim
    | ok fl =>
      cases fl with
      | next => exact False.elim h
      | brk => exact False.elim h
      | cont => exact False.elim h
      | ret u =>
        obtain ⟨v, H', os, bare, un, hok', r', q⟩ := h
        have q' : v = .bl true := q
        subst q'
        obtain rfl : u = Value.bool true := r'
        refine ⟨rfl, OldK.of_keep fun b o e => ?_, os, bare⟩
        cases q : H b with
        | none => exact un.keep b o e q (by intro z; exact absurd (show b ∈ ([] : List Addr) from z) (by simp)) (by simp)
        | some u =>
          rcases hO b with z | ⟨ob, xs, z⟩
          · rw [q] at z; cases z
          · have z2 := un.frzs b ob _ z
            obtain ⟨e1, _⟩ := hok b _ z
            obtain ⟨e2, _⟩ := hok' b _ z2
            rw [e] at e1; cases e1
            exact e2
  cases hk : K.lookup a with
  | some o =>
    -- the script is one of the module's own objects
    have e := KX a o hk
    rw [ha] at e
    cases e
    refine core (fun _ => none) (fun _ => .inl rfl) (.inr ⟨_, vs.toArray, _, hk, rfl, rfl, rfl, by rw [List.size_toArray, lenV]; exact hl, by simpa using rv⟩) (fun b u z => by have z' : (none : Option HO) = some u := z; cases z') (fun b z => absurd rfl z) fun z => absurd rfl z
  | none =>
    refine core (fun b => if b = a then some (.frz { cls := .type "list", data := .seq vs.toArray } (.lst (ns.map V.int))) else none) (fun b => ?_) (.inl (.inr ⟨{ cls := .type "list", data := .seq vs.toArray }, if_pos rfl⟩)) (fun b u z => ?_) (fun b z => ?_) fun _ => hk
    · by_cases hb : b = a
      · exact .inr ⟨_, _, if_pos hb⟩
      · exact .inl (if_neg hb)
    · by_cases hb : b = a
      · have z' := (if_pos hb).symm.trans z
        cases z'
        subst hb
        exact ⟨ha, by rw [List.length_map]; exact hl, vs, _, rv, ha⟩
      · have z' := (if_neg hb).symm.trans z
        cases z'
    · by_cases hb : b = a
      · exact hb
      · exact absurd (if_neg hb) z
end L2

namespace L2
open PySem PySem.Spec PyProof.Rows

abbrev KOf {K : PySem.W.Frag} {h : Heap} (_ : K.In h) : PySem.W.Frag := K

/-- the goal that k_head leaves (case hc), from the law's promise. F gives the function object fd (K's own) once, then the promise over every base -/
theorem walk_of {l : PySem.W.OpenLaw} {n k : Nat} {q : Program} {loose : List Str} {XP : (Str → Option Value) → Heap → Prop} {YP : World → Heap → Prop} {d : DefRec} {K : Params → PySem.W.Frag} {CX : World → CXT} {sp : World → Sp} {x : Str}
    (hn : l.most = some n) (hn2 : n ≤ sizeLine) (hdf : d.params.defaults = []) (hr : Room k callerA)
    (hY : ∀ (w : World) (h : Heap), YP w h → (K w.params).In h)
    (F : ∀ (w : World) (mg : Str → Option Value) (fa : Addr) (h : Heap), (K w.params).In h → h.Ns mainGlobals mg → mg d.name = some (.ref fa) →
      ∃ fd : FuncData, (∀ (s : Shared) (u : Value), BindsTo s fd ⟨[u], []⟩ [(x, u)]) ∧
        ∀ base : Heap, (K w.params).In base → base.Ns mainGlobals mg → FnOk l.prog w (K w.params) mg base (CX w) k fa fd [x] (sp w))
    (hsp : ∀ (w : World) (H : Hp) (a : Addr) (ns : List Int), ns.length ≤ n → Only H → SqL (K w.params) H a (ns.map V.int) → sp w [.ref a] H (fun v _ => v = .bl true) fun _ _ _ => False)
    (hCX : ∀ (w : World) (H : Hp) (s : Shared) (e : Value) (s' : Shared), CX w [] H s (fun _ _ _ => False) e s' → False) :
    PySem.W.WalkO q loose XP YP l.row.toRowW d [] (fun f vs => PySem.call f vs) := by
  refine Att.attach_call hn hdf fun w s₀ s₁ mg mb fa o pm cd doc a vs ns G Y ho hd hcd hmg hobj hints hlen hg => ?_
  have KX := hY w _ Y
  obtain ⟨fd, hb, hF⟩ := F w mg fa _ KX G.T.g hmg
  exact law_call KX G.T.g G.T.b G.T.builtins G.T.nolimit hg hobj hints (Nat.le_trans hlen hn2) hr hF hb (fun H hO hS => hsp w H a ns hlen hO hS) fun H e s' => hCX w H s₁ e s'
/-- the same where the promise hangs on the written part alone: (sp := My.sp_law), no hole under a binder -/
theorem walk_ofK {l : PySem.W.OpenLaw} {n k : Nat} {q : Program} {loose : List Str} {XP : (Str → Option Value) → Heap → Prop} {YP : World → Heap → Prop} {d : DefRec} {K : Params → PySem.W.Frag} {CX : CXT} {sp : PySem.W.Frag → Sp} {x : Str}
    (hn : l.most = some n) (hn2 : n ≤ sizeLine) (hdf : d.params.defaults = []) (hr : Room k callerA)
    (hY : ∀ (w : World) (h : Heap), YP w h → (K w.params).In h)
    (F : ∀ (w : World) (mg : Str → Option Value) (fa : Addr) (h : Heap), (K w.params).In h → h.Ns mainGlobals mg → mg d.name = some (.ref fa) →
      ∃ fd : FuncData, (∀ (s : Shared) (u : Value), BindsTo s fd ⟨[u], []⟩ [(x, u)]) ∧
        ∀ base : Heap, (K w.params).In base → base.Ns mainGlobals mg → FnOk l.prog w (K w.params) mg base CX k fa fd [x] (sp (K w.params)))
    (hsp : ∀ (K : PySem.W.Frag) (H : Hp) (a : Addr) (ns : List Int), ns.length ≤ n → Only H → SqL K H a (ns.map V.int) → sp K [.ref a] H (fun v _ => v = .bl true) fun _ _ _ => False)
    (hCX : ∀ (H : Hp) (s : Shared) (e : Value) (s' : Shared), CX [] H s (fun _ _ _ => False) e s' → False) :
    PySem.W.WalkO q loose XP YP l.row.toRowW d [] (fun f vs => PySem.call f vs) :=
  walk_of (K := K) (CX := fun _ => CX) (sp := fun w => sp (K w.params)) hn hn2 hdf hr hY F (fun w H a ns h1 h2 h3 => hsp (K w.params) H a ns h1 h2 h3) fun _ H s e s' => hCX H s e s'
end L2

/- THE LAST THEOREM (shape; LID, My.* are yours):
   My.Adr: a structure of the addresses that your layer names (classes, functions); My.Txt K t: a structure (Prop) of the equations over K;
   My.txt_mk : {K} {implicit addresses ..} (e1 : nsIn K mainGlobals "law" = some (some (.ref f))) (e2 : K.lookup f = some ⟨oc, od, .func (fnOf "law" "law" params body scope dV kV doc pm an cdv ct), sl⟩) (e3 : codeIn K cdv "law" = true) .. : ∃ t, My.Txt K t

set_option maxRecDepth 100000 in
set_option maxHeartbeats 0 in
theorem PySem.Challenge.cw_LID_holds : PySem.Challenge.rw_LID.Holds := by
  w_on; o_law; k_head; (case hw => w_witness2)
  k_fill
  refine L2.walk_of (l := PySem.Challenge.rw_LID) (n := 63) (k := 40) (x := "script") (CX := fun w => ..) (sp := fun _ => My.sp_law) rfl (by decide) rfl ⟨rfl, by decide, by decide⟩ (fun w h Y => PySem.W.kIn_of Y) ?F ?S ?C
  case F =>
    intro w mg fa h KX G hmg
    have T : ∃ t, My.Txt (L2.KOf KX) t := by
      dsimp only [L2.KOf]                          -- K must stand as «<heap const> w.params» for k_is
      refine' My.txt_mk ?e1 ?e2 ?e3 ..
      (case e1 => PySem.W.k_is)                    -- in the order: a name -> its address -> its object -> its parts
      (case e2 => PySem.W.k_is)
      ..
    obtain ⟨t, T⟩ := T
    have e0 := hmg.symm.trans (PySem.W.mg_of KX G T.law)
    cases e0                                       -- fa is the law's own address
    exact ⟨_, fun s u => .of_eq rfl, fun base kb nb => My.law_fn T kb nb⟩     -- if «.of_eq rfl» comes too early: refine' ⟨_, ?b, fun base kb nb => My.law_fn T kb nb⟩; exact fun s u => .of_eq rfl
  case S => exact fun w H a ns hl hO hS => ..
  case C => exact ..
(the tactic k_is has no namespace: write k_is) -/

/-! SHORT WORDS over the layer: a def of the text, its body, what a loop and a test want. -/
namespace L2
open PySem PySem.Spec PyProof.Rows

/-! ### the text by places -/
/-- the j-th statement of a class's body -/
def inClass (s : Stmt) (j : Nat) : Stmt := match s with
  | .ClassDef _ _ _ body _ _ _ _ _ _ _ => body.getD j (.Pass ⟨0, 0, 0, 0⟩)
  | _ => .Pass ⟨0, 0, 0, 0⟩
def defArgs (s : Stmt) : Arguments := match s with
  | .FunctionDef _ a _ _ _ _ _ _ _ _ => a
  | _ => { posonlyargs := [], args := [], vararg := none, kwonlyargs := [], kw_defaults := [], kwarg := none, defaults := [] }
def defBody (s : Stmt) : List Stmt := match s with
  | .FunctionDef _ _ b _ _ _ _ _ _ _ => b
  | _ => []
def defScope (s : Stmt) : Scope := match s with
  | .FunctionDef _ _ _ _ _ _ sc _ _ _ => sc
  | _ => { kind := .function, names := [], isGenerator := false, isCoroutine := false }

/-! ### no exception leaves a def -/
abbrev CX0 : CXT := fun _ _ _ _ _ _ => False
abbrev E0 : XK := fun _ _ _ => False
theorem pass0 {X : Cx} : Passes CX0 X E0 := fun _ _ _ _ _ _ _ h => h.elim

/-! ### a def (or method) of the text as it stands behind the top -/
structure Fun (K : PySem.W.Frag) (x qual : Str) (st : Stmt) (f : Addr) (fd : FuncData) : Prop where
  ex : ∃ (oc : Value) (od : Option Addr) (kV doc pm : Value) (an : Option Addr) (cdv ct : Value) (osl : Array (Option Value)),
    fd = PySem.W.fnOf x qual (defArgs st) (defBody st) (defScope st) .none kV doc pm an cdv ct ∧ K.lookup f = some ⟨oc, od, .func fd, osl⟩ ∧ PySem.W.codeIn K cdv qual = true
  kp : PySem.W.keepIn K (.ref f) = true
section
variable {P : Program} {w : World} {K : PySem.W.Frag} {mg : Str → Option Value} {base : Heap}
/-- THE RULE for a def: its body as a term of rules, and the reading of that term -/
theorem Fun.ok {x qual : Str} {st : Stmt} {f : Addr} {fd : FuncData} {N ps : List Str} {k : Nat} {sp : Sp} (F : Fun K x qual st f fd) (S : FnScope N ps (defScope st)) (len : ∀ vs H Q E, sp vs H Q E → vs.length = ps.length)
    (hbody : ∀ (cdv : Value) (A : Around) (outer : List Env) (s : Shared) (H : Hp) (vs : List V) (Q : VK) (E : XK), Room k (A.deeper (envOfC qual (defScope st) s.heap.objs.size f cdv)) → sp vs H Q E →
      ∃ t, PSs (cxOf CX0 P w K mg base N qual (defScope st) f cdv A outer s H E).nox (defBody st) t ∧ t { nx := fun _ H' => Q .non H', rt := Q } (start N vs) H) : FnOk P w K mg base CX0 (k + 1) f fd ps sp := by
  obtain ⟨oc, od, kV, doc, pm, an, cdv, ct, osl, rfl, lk, hcd⟩ := F.ex
  refine fn_of lk hcd S len fun A outer s H vs Q E hr hsp => ?_
  obtain ⟨t, h, q⟩ := hbody cdv A outer s H vs Q E hr hsp
  exact ⟨t, h.nox, q⟩
/-- how its arguments bind (no defaults): h is «fun _ _ _ _ _ _ us hl => match us, hl with | [_, _], _ => rfl», one _ a parameter -/
theorem Fun.binds {x qual : Str} {st : Stmt} {f : Addr} {fd : FuncData} {ps : List Str} (F : Fun K x qual st f fd)
    (h : ∀ (kV doc pm : Value) (an : Option Addr) (cdv ct : Value) (us : List Value), us.length = ps.length → bindArgs (PySem.W.fnOf x qual (defArgs st) (defBody st) (defScope st) .none kV doc pm an cdv ct) ⟨us, []⟩ = pure (ps.zip us)) : Binds K fd ps [] := by
  obtain ⟨oc, od, kV, doc, pm, an, cdv, ct, osl, rfl, lk, hcd⟩ := F.ex
  exact .all (h kV doc pm an cdv ct)
theorem fun_mk {x qual : Str} {st : Stmt} {f : Addr} {oc : Value} {od an : Option Addr} {osl : Array (Option Value)} {kV doc pm cdv ct : Value} (l : K.lookup f = some ⟨oc, od, .func (PySem.W.fnOf x qual (defArgs st) (defBody st) (defScope st) .none kV doc pm an cdv ct), osl⟩)
    (c : PySem.W.codeIn K cdv qual = true) (k : PySem.W.keepIn K (.ref f) = true) : Fun K x qual st f (PySem.W.fnOf x qual (defArgs st) (defBody st) (defScope st) .none kV doc pm an cdv ct) := ⟨⟨oc, od, kV, doc, pm, an, cdv, ct, osl, rfl, l, c⟩, k⟩
end
theorem hu_of {A : Around} {k : Nat} (hr : Room k A) : A.units + 1 < cLine := Nat.lt_of_le_of_lt (Nat.add_le_add_left (by decide : 1 ≤ 64) _) hr.units
theorem small1000 {n : Nat} (h : n ≤ 1000) : n < sizeLine := Nat.lt_of_le_of_lt h (by decide)

/-! ### expressions in short: the name that stands in the i-th slot -/
section
variable {X : Cx}
theorem pv (i : Nat) {x : Str} {pos : Pos} (hN : X.N[i]? = some x := by rfl) (hv : Vis X.env.scope x := by first | exact Or.inl rfl | exact Or.inr (Or.inl rfl) | exact Or.inr (Or.inr rfl)) (hd : (x == ("__debug__" : Str)) = false := by decide)
    (hcd : (x == ("__classdict__" : Str)) = false := by decide) : PE X (.Name x pos) (tVar i) := pe_var hN hv hd hcd
/-- len of a dict -/
theorem call_lenD : CallR X (.builtin "len") (fun xs H Q => ∃ a kvs, xs = [V.ref a] ∧ H a = some (.dK kvs) ∧ Q (.int kvs.length) H) := by
  intro pins s σ H xs us Q I r h
  obtain ⟨a, kvs, rfl, ha, q⟩ := h
  obtain ⟨u, rfl, ru⟩ := vals1 r
  cases ru
  exact d_len I (.inl ha) fun t s' I' => ⟨.int kvs.length, H, I', ⟨t, rfl⟩, q⟩
end

/-! ### tests -/
theorem iteF {A B : Prop} (h : B) : if false = true then A else B := by
  rw [if_neg Bool.false_ne_true]
  exact h
theorem iteT {A B : Prop} (h : A) : if true = true then A else B := by
  rw [if_pos rfl]
  exact h
theorem ite2 {c A B : Prop} [Decidable c] (h1 : c → A) (h2 : ¬ c → B) : if c then A else B := by
  by_cases h : c
  · rw [if_pos h]
    exact h1 h
  · rw [if_neg h]
    exact h2 h
theorem iteNS {c A B : Prop} [Decidable c] (hc : c) (h : B) : if (!decide c) = true then A else B := by
  rw [decide_eq_true hc]
  exact iteF h

/-! ### heaps -/
/-- all that was tracked is as it was -/
def Same (H H' : Hp) : Prop := ∀ b o, H b = some o → H' b = some o
theorem Same.refl (H : Hp) : Same H H := fun _ _ h => h
theorem Same.trans {H H1 H2 : Hp} (a : Same H H1) (b : Same H1 H2) : Same H H2 := fun c o h => b c o (a c o h)
theorem Same.free {H H' : Hp} (e : Same H H') {l : Addr} (h : H' l = Option.none) : H l = Option.none := by
  cases q : H l with
  | none => rfl
  | some o =>
    rw [e l o q] at h
    cases h
theorem Same.seq {K : PySem.W.Frag} {H H' : Hp} {a : Addr} {xs : List V} (e : Same H H') (h : SqL K H a xs) : SqL K H' a xs := by
  rcases h with (h | ⟨o, h⟩) | h
  · exact .inl (.inl (e _ _ h))
  · exact .inl (.inr ⟨o, e _ _ h⟩)
  · exact .inr h

/-! ### a dict's pairs: keys that differ -/
section
variable {κ : Type} [DecidableEq κ]
theorem valV_not {kvs : List (κ × V)} {k : κ} (h : valV kvs k = none) : ¬ k ∈ kvs.map (·.1) := by
  intro m
  obtain ⟨p, hp, e⟩ := List.mem_map.mp m
  have q : (kvs.any fun kv => decide (kv.1 = k)) = true := List.any_eq_true.mpr ⟨p, hp, decide_eq_true e⟩
  rw [valV_any, h] at q
  exact absurd q (by simp)
theorem valV_in {kvs : List (κ × V)} {k : κ} {v : V} (h : valV kvs k = some v) : k ∈ kvs.map (·.1) := by
  have q : (kvs.any fun kv => decide (kv.1 = k)) = true := by
    rw [valV_any, h]
    all_goals rfl
  obtain ⟨p, hp, e⟩ := List.any_eq_true.mp q
  exact List.mem_map.mpr ⟨p, hp, of_decide_eq_true e⟩
theorem nd_snoc : ∀ {l : List κ} {k : κ}, l.Nodup → ¬ k ∈ l → (l ++ [k]).Nodup
  | [], k, _, _ => by simp
  | a :: r, k, h, hk => by
    obtain ⟨h1, h2⟩ := List.nodup_cons.mp h
    show (a :: (r ++ [k])).Nodup
    refine List.nodup_cons.mpr ⟨fun m => ?_, nd_snoc h2 fun m => hk (List.mem_cons.mpr (Or.inr m))⟩
    rcases List.mem_append.mp m with q | q
    · exact h1 q
    · exact hk (List.mem_cons.mpr (Or.inl (List.mem_singleton.mp q).symm))
theorem nd_putK {kvs : List (κ × V)} {k : κ} (v : V) (hn : (kvs.map (·.1)).Nodup) (h : valV kvs k = none) : ((putK kvs k v).map (·.1)).Nodup := by
  rw [putK_new v h, List.map_append]
  exact nd_snoc hn (valV_not h)
theorem dropK_pos {p : κ × V} {r : List (κ × V)} {k : κ} (e : p.1 = k) : dropK (p :: r) k = dropK r k := by
  unfold dropK
  rw [List.filter_cons, if_neg (by simp [e])]
theorem dropK_neg {p : κ × V} {r : List (κ × V)} {k : κ} (e : ¬ p.1 = k) : dropK (p :: r) k = p :: dropK r k := by
  unfold dropK
  rw [List.filter_cons, if_pos (by simp [e])]
theorem dropK_no : ∀ {kvs : List (κ × V)} {k : κ}, ¬ k ∈ kvs.map (·.1) → dropK kvs k = kvs
  | [], _, _ => rfl
  | p :: r, k, h => by
    have h' : ¬ k ∈ r.map (·.1) := fun m => by
      obtain ⟨q, hq, e⟩ := List.mem_map.mp m
      exact h (List.mem_map.mpr ⟨q, List.mem_cons.mpr (Or.inr hq), e⟩)
    rw [dropK_neg fun e => h (List.mem_map.mpr ⟨p, List.mem_cons.mpr (Or.inl rfl), e⟩), dropK_no h']
theorem dropK_mem {kvs : List (κ × V)} {k : κ} {p : κ × V} (h : p ∈ dropK kvs k) : p ∈ kvs := (List.mem_filter.mp h).1
theorem nd_dropK : ∀ {kvs : List (κ × V)} {k : κ}, (kvs.map (·.1)).Nodup → ((dropK kvs k).map (·.1)).Nodup
  | [], _, _ => List.nodup_nil
  | p :: r, k, h => by
    have h : (p.1 :: r.map (·.1)).Nodup := h
    obtain ⟨h1, h2⟩ := List.nodup_cons.mp h
    by_cases e : p.1 = k
    · rw [dropK_pos e]
      exact nd_dropK h2
    · rw [dropK_neg e]
      show (p.1 :: (dropK r k).map (·.1)).Nodup
      refine List.nodup_cons.mpr ⟨fun m => h1 ?_, nd_dropK h2⟩
      obtain ⟨q, hq, eq⟩ := List.mem_map.mp m
      exact List.mem_map.mpr ⟨q, dropK_mem hq, eq⟩
theorem dropK_len : ∀ {kvs : List (κ × V)} {k : κ}, (kvs.map (·.1)).Nodup → k ∈ kvs.map (·.1) → (dropK kvs k).length + 1 = kvs.length
  | [], _, _, m => by simp at m
  | p :: r, k, h, m => by
    have h : (p.1 :: r.map (·.1)).Nodup := h
    have m : k = p.1 ∨ k ∈ r.map (·.1) := List.mem_cons.mp m
    obtain ⟨h1, h2⟩ := List.nodup_cons.mp h
    by_cases e : p.1 = k
    · subst e
      rw [dropK_pos rfl, dropK_no h1]
      all_goals rfl
    · have m' : k ∈ r.map (·.1) := m.resolve_left fun z => e z.symm
      have q := dropK_len h2 m'
      rw [dropK_neg e, List.length_cons, List.length_cons]
      omega
end
end L2
end

section
set_option Elab.async false
set_option linter.all false
set_option maxRecDepth 100000
namespace L3
open PySem
/-- an index among n; an item; a slice's bound -/
def ixN (n : Nat) (i : Int) : Option Nat := if 0 ≤ i then (if i < n then some i.toNat else none) else if -(n : Int) ≤ i then some (i + n).toNat else none
def atI {α : Type} (xs : List α) (i : Int) : Option α := (ixN xs.length i).bind fun j => xs[j]?
def sIx (n d : Nat) : Option Int → Nat
  | none => d
  | some v => if v < 0 then (v + (n : Int)).toNat else min v.toNat n
/-- plain data, without the heap -/
inductive D where
  | non | bl (b : Bool) | int (i : Int) | str (x : Str) | tup (xs : List D) | lst (xs : List D) | obj (c : String) (ns : List Str) (xs : List D) | exc (c : String)

/-- what an evaluation comes to: a value, an exception of a class of the text, nothing promised -/
inductive Res (α : Type) where
  | ok (a : α) | err (c : String) | bad
def Res.bnd {α β : Type} (r : Res α) (f : α → Res β) : Res β := match r with
  | .ok a => f a
  | .err c => .err c
  | .bad => .bad
@[simp] theorem Res.bnd_ok {α β : Type} (a : α) (f : α → Res β) : (Res.ok a).bnd f = f a := (rfl)
@[simp] theorem Res.bnd_err {α β : Type} (c : String) (f : α → Res β) : (Res.err c : Res α).bnd f = .err c := (rfl)
@[simp] theorem Res.bnd_bad {α β : Type} (f : α → Res β) : (Res.bad : Res α).bnd f = .bad := (rfl)

/-- what a name holds: nothing known, data, a list of the def's own that may still change -/
inductive Slot where
  | no | val (d : D) | ml (ds : List D)
abbrev Sg := List Slot
/-- statements -/
inductive Out where
  | nx (Γ : Sg) | bk (Γ : Sg) | ct (Γ : Sg) | rt (d : D) | rtl (ds : List D) | err (c : String) (Γ : Sg) | bad
def dVar (i : Nat) : Sg → Res D := fun Γ => match Γ[i]? with
  | some (.val d) => .ok d
  | _ => .bad
def dC (d : D) : Sg → Res D := fun _ => .ok d
def dOp (r : D → D → Res D) (f g : Sg → Res D) : Sg → Res D := fun Γ => (f Γ).bnd fun x => (g Γ).bnd fun y => r x y
def tst : D → Res Bool
  | .bl b => .ok b
  | _ => .bad
def dT (f : Sg → Res D) : Sg → Res Bool := fun Γ => (f Γ).bnd tst
/-- the truth of any value -/
def tru : D → Res Bool
  | .non => .ok false
  | .bl b => .ok b
  | .int i => .ok (i != 0)
  | .str x => if x.length ≤ sizeLine then .ok ((x.length : Int) != 0) else .bad
  | .lst ds => .ok (!ds.isEmpty)
  | .tup ds => .ok (!ds.isEmpty)
  | _ => .bad
def dTru (f : Sg → Res D) : Sg → Res Bool := fun Γ => (f Γ).bnd tru
def cAnd (f g : Sg → Res Bool) : Sg → Res Bool := fun Γ => (f Γ).bnd fun c => if c = true then g Γ else .ok false
def cOr (f g : Sg → Res Bool) : Sg → Res Bool := fun Γ => (f Γ).bnd fun c => if c = true then .ok true else g Γ
def cNot (f : Sg → Res Bool) : Sg → Res Bool := fun Γ => (f Γ).bnd fun c => .ok (!c)
/-- as values -/
def dAnd (f g : Sg → Res D) : Sg → Res D := fun Γ => (f Γ).bnd fun x => (tst x).bnd fun c => if c = true then g Γ else .ok (.bl false)
def dOr (f g : Sg → Res D) : Sg → Res D := fun Γ => (f Γ).bnd fun x => (tst x).bnd fun c => if c = true then .ok (.bl true) else g Γ
def dNot (f : Sg → Res D) : Sg → Res D := fun Γ => (f Γ).bnd fun x => (tst x).bnd fun c => .ok (.bl (!c))
def dIf (p : Sg → Res Bool) (f g : Sg → Res D) : Sg → Res D := fun Γ => (p Γ).bnd fun c => if c = true then f Γ else g Γ
def dNil : Sg → Res (List D) := fun _ => .ok []
def dCons (f : Sg → Res D) (r : Sg → Res (List D)) : Sg → Res (List D) := fun Γ => (f Γ).bnd fun x => (r Γ).bnd fun xs => .ok (x :: xs)
def dTup (r : Sg → Res (List D)) : Sg → Res D := fun Γ => (r Γ).bnd fun xs => if xs.length ≤ 1000 then .ok (.tup xs) else .bad
def dLst (r : Sg → Res (List D)) : Sg → Res (List D) := fun Γ => (r Γ).bnd fun xs => if xs.length ≤ 1000 then .ok xs else .bad
/-- a new list is frozen at once -/
def dFz (f : Sg → Res (List D)) : Sg → Res D := fun Γ => (f Γ).bnd fun ds => .ok (.lst ds)
/-- what is wanted of a statement, from what is wanted of its expression -/
def oE {α : Type} (r : Res α) (Γ : Sg) (k : α → Out) : Out := match r with
  | .ok d => k d
  | .err c => .err c Γ
  | .bad => .bad
@[simp] theorem oE_ok {α : Type} (d : α) (Γ : Sg) (k : α → Out) : oE (.ok d) Γ k = k d := (rfl)
@[simp] theorem oE_err {α : Type} (c : String) (Γ : Sg) (k : α → Out) : oE (.err c) Γ k = .err c Γ := (rfl)
@[simp] theorem oE_bad {α : Type} (Γ : Sg) (k : α → Out) : oE .bad Γ k = .bad := (rfl)
def sNext : Sg → Out := fun Γ => .nx Γ
def sSeq (F G : Sg → Out) : Sg → Out := fun Γ => match F Γ with
  | .nx Γ' => G Γ'
  | o => o
def sDrop (f : Sg → Res D) : Sg → Out := fun Γ => oE (f Γ) Γ fun _ => .nx Γ
def sRet (f : Sg → Res D) : Sg → Out := fun Γ => oE (f Γ) Γ fun d => .rt d
def sRetL (f : Sg → Res (List D)) : Sg → Out := fun Γ => oE (f Γ) Γ fun d => .rtl d
def sRetN : Sg → Out := fun _ => .rt .non
/-- return xs, xs a list of the def's own -/
def sRetM (i : Nat) : Sg → Out := fun Γ => match Γ[i]? with
  | some (.ml ds) => .rtl ds
  | some (.val d) => .rt d
  | _ => .bad
def sIf (p : Sg → Res Bool) (F G : Sg → Out) : Sg → Out := fun Γ => oE (p Γ) Γ fun c => if c = true then F Γ else G Γ
/-- name = value -/
def sSet (i : Nat) (f : Sg → Res D) : Sg → Out := fun Γ => oE (f Γ) Γ fun d => .nx (Γ.set i (.val d))
def sSetL (i : Nat) (f : Sg → Res (List D)) : Sg → Out := fun Γ => oE (f Γ) Γ fun d => .nx (Γ.set i (.ml d))
abbrev Tg := D → Sg → Option Sg
abbrev Tgs := List D → Sg → Option Sg
def tgName (i : Nat) : Tg := fun d Γ => some (Γ.set i (.val d))
def tgNil : Tgs := fun ds Γ => match ds with
  | [] => some Γ
  | _ => none
def tgCons (t : Tg) (u : Tgs) : Tgs := fun ds Γ => match ds with
  | d :: r => (t d Γ).bind fun Γ' => u r Γ'
  | [] => none
def tgTup (n : Nat) (t : Tgs) : Tg := fun d Γ => match d with
  | .tup ds => if ds.length = n then t ds Γ else none
  | _ => none
/-- target = value -/
def sAsg (f : Sg → Res D) (t : Tg) : Sg → Out := fun Γ => oE (f Γ) Γ fun d => match t d Γ with
  | some Γ' => .nx Γ'
  | none => .bad
/-- a, b = x, y of plain local names -/
def sPar (i k : Nat) (r : Sg → Res (List D)) : Sg → Out := fun Γ => oE (r Γ) Γ fun ds => match ds with
  | [x, y] => .nx ((Γ.set i (.val x)).set k (.val y))
  | _ => .bad
def forD (t : Tg) (B : Sg → Out) : List D → Sg → Out
  | [], Γ => .nx Γ
  | x :: xs, Γ => match t x Γ with
    | none => .bad
    | some Γ1 => match B Γ1 with
      | .nx Γ' => forD t B xs Γ'
      | .ct Γ' => forD t B xs Γ'
      | .bk Γ' => .nx Γ'
      | o => o
def whileD (p : Sg → Res Bool) (B : Sg → Out) : Nat → Sg → Out
  | 0, _ => .bad
  | n + 1, Γ => oE (p Γ) Γ fun c => if c = true then (match B Γ with
      | .nx Γ' => whileD p B n Γ'
      | .ct Γ' => whileD p B n Γ'
      | .bk Γ' => .nx Γ'
      | o => o) else .nx Γ
def sFor (f : Sg → Res D) (t : Tg) (B : Sg → Out) : Sg → Out := fun Γ => oE (f Γ) Γ fun d => match d with
  | .lst xs => forD t B xs Γ
  | .tup xs => forD t B xs Γ
  | _ => .bad
theorem drop_one {α : Type} {xs : List α} {i : Nat} {d : α} (h : xs[i]? = some d) : xs.drop i = d :: xs.drop (i + 1) := by
  obtain ⟨hi, e⟩ := List.getElem?_eq_some_iff.mp h
  rw [List.drop_eq_getElem_cons hi, e]
/-- the ints from lo on, n of them -/
def intsD (lo : Int) (n : Nat) : List D := (List.range n).map fun (k : Nat) => D.int (lo + k)
theorem intsD_get {lo : Int} {n i : Nat} (h : i < n) : (intsD lo n)[i]? = some (.int (lo + i)) := by
  unfold intsD
  rw [List.getElem?_map, List.getElem?_range h]
  rfl
theorem intsD_len {lo : Int} {n : Nat} : (intsD lo n).length = n := by simp [intsD]
def rng1 (ds : List D) : Res (List D) := match ds with
  | [.int j] => if -(2 ^ 62) ≤ j ∧ j < 2 ^ 62 then .ok (intsD 0 j.toNat) else .bad
  | _ => .bad
def sForR1 (r : Sg → Res (List D)) (t : Tg) (B : Sg → Out) : Sg → Out := fun Γ => oE ((r Γ).bnd rng1) Γ fun xs => forD t B xs Γ
theorem rng1_ok {ds : List D} {xs : List D} (h : rng1 ds = .ok xs) : ∃ j, ds = [.int j] ∧ -(2 ^ 62) ≤ j ∧ j < 2 ^ 62 ∧ xs = intsD 0 j.toNat := by
  unfold rng1 at h
  split at h
  · split at h
    · rename_i j hj; cases h; exact ⟨j, rfl, hj.1, hj.2, rfl⟩
    · cases h
  · cases h
theorem rng1_ne (ds : List D) (c : String) : rng1 ds ≠ .err c := by
  unfold rng1
  split
  · split <;> exact fun z => nomatch z
  · exact fun z => nomatch z
def rng2 (ds : List D) : Res (List D) := match ds with
  | [.int i, .int j] => if -(2 ^ 62) ≤ i ∧ i < 2 ^ 62 ∧ -(2 ^ 62) ≤ j ∧ j < 2 ^ 62 then .ok (intsD i (j - i).toNat) else .bad
  | _ => .bad
def sForR2 (r : Sg → Res (List D)) (t : Tg) (B : Sg → Out) : Sg → Out := fun Γ => oE ((r Γ).bnd rng2) Γ fun xs => forD t B xs Γ
theorem rng2_ok {ds : List D} {xs : List D} (h : rng2 ds = .ok xs) : ∃ i j, ds = [.int i, .int j] ∧ (-(2 ^ 62) ≤ i ∧ i < 2 ^ 62 ∧ -(2 ^ 62) ≤ j ∧ j < 2 ^ 62) ∧ xs = intsD i (j - i).toNat := by
  unfold rng2 at h
  split at h
  · split at h
    · rename_i i j hj; cases h; exact ⟨i, j, rfl, hj, rfl⟩
    · cases h
  · cases h
theorem rng2_ne (ds : List D) (c : String) : rng2 ds ≠ .err c := by
  unfold rng2
  split
  · split <;> exact fun z => nomatch z
  · exact fun z => nomatch z
inductive Ans where
  | ok (d : D) | new (ds : List D) | err (c : String) | bad
/-- what a body comes to -/
def ans : Out → Ans
  | .nx _ => .ok .non
  | .rt d => .ok d
  | .rtl ds => .new ds
  | .err c _ => .err c
  | _ => .bad
/-- of a call's reading: data (a new list is frozen), or a new list -/
def dAns : Ans → Res D
  | .ok d => .ok d
  | .new ds => .ok (.lst ds)
  | .err c => .err c
  | .bad => .bad
def lAns : Ans → Res (List D)
  | .new ds => .ok ds
  | .err c => .err c
  | _ => .bad
def dCall (n : Nat) (F : List D → Ans) (fa : Sg → Res (List D)) : Sg → Res D := fun Γ => (fa Γ).bnd fun ds => if ds.length = n then dAns (F ds) else .bad
def lCall (n : Nat) (F : List D → Ans) (fa : Sg → Res (List D)) : Sg → Res (List D) := fun Γ => (fa Γ).bnd fun ds => if ds.length = n then lAns (F ds) else .bad
def st0 (N : List Str) (ds : List D) : Sg := ds.map Slot.val ++ List.replicate (N.length - ds.length) Slot.no
def intD (C : Int → Int → Bool) (g : Int → Int → D) : D → D → Res D
  | .int i, .int j => if C i j = true then .ok (g i j) else .bad
  | _, _ => .bad
@[simp] theorem intD_int (C : Int → Int → Bool) (g : Int → Int → D) (i j : Int) : intD C g (.int i) (.int j) = if C i j = true then .ok (g i j) else .bad := (rfl)
abbrev yes : Int → Int → Bool := fun _ _ => true
def addI : D → D → Res D := intD yes fun i j => .int (i + j)
def subI : D → D → Res D := intD yes fun i j => .int (i - j)
/-- a product has room: one factor is small, or both are below 2^(2^20) -/
def mulOk (i j : Int) : Bool := decide (Builtin.Int.intBits i ≤ 64) || decide (Builtin.Int.intBits j ≤ 64) || (decide (Builtin.Int.intBits i ≤ 2 ^ 20) && decide (Builtin.Int.intBits j ≤ 2 ^ 20))
def mulI : D → D → Res D := intD mulOk fun i j => .int (i * j)
def divOk (_ j : Int) : Bool := decide (j ≠ 0) && decide (j.natAbs.log2 < 9000)
def fdivI : D → D → Res D := intD divOk fun i j => .int (i.fdiv j)
def modI : D → D → Res D := intD (fun _ j => decide (j ≠ 0)) fun i j => .int (i.fmod j)
def powOk (i j : Int) : Bool := decide (0 ≤ j) && decide (j ≤ 1000000) && decide (i.natAbs < 2 ^ 64)
def powI : D → D → Res D := intD powOk fun i j => .int (i ^ j.toNat)
def xorI : D → D → Res D := intD yes fun i j => .int (Builtin.bitXor i j)
def andI : D → D → Res D := intD yes fun i j => .int (Builtin.bitAnd i j)
def orI : D → D → Res D := intD yes fun i j => .int (Builtin.bitOr i j)
def ltI : D → D → Res D := intD yes fun i j => .bl (decide (i < j))
def leI : D → D → Res D := intD yes fun i j => .bl (decide (i ≤ j))
def gtI : D → D → Res D := intD yes fun i j => .bl (decide (j < i))
def geI : D → D → Res D := intD yes fun i j => .bl (decide (j ≤ i))
def negI : D → Res D
  | .int i => .ok (.int (-i))
  | _ => .bad
def dUn (r : D → Res D) (f : Sg → Res D) : Sg → Res D := fun Γ => (f Γ).bnd r
/-- a built-in function of data -/
def dCB (r : List D → Res D) (fa : Sg → Res (List D)) : Sg → Res D := fun Γ => (fa Γ).bnd r
def absD : List D → Res D
  | [.int i] => .ok (.int (if i < 0 then -i else i))
  | _ => .bad
def lenD : List D → Res D
  | [.lst ds] => .ok (.int ds.length)
  | [.tup ds] => .ok (.int ds.length)
  | [.str x] => if x.length ≤ sizeLine then .ok (.int x.length) else .bad
  | _ => .bad
mutual
def py : D → PyData
  | .non => .none
  | .bl b => .bool b
  | .int i => .int i
  | .str x => .str x
  | .tup ds => .tuple (pys ds)
  | .lst ds => .list (pys ds)
  | .obj _ _ _ => .none
  | .exc _ => .none
def pys : List D → List PyData
  | [] => []
  | d :: ds => py d :: pys ds
end
/-- plain data, n deep at most -/
def okq : Nat → D → Bool
  | _, .non => true
  | _, .bl _ => true
  | _, .int _ => true
  | _, .str x => PyData.strOk x
  | n + 1, .tup ds => ds.all (okq n)
  | n + 1, .lst ds => ds.all (okq n)
  | _, _ => false
/-- two data, alike -/
def deq (x y : D) : Bool := (py x).eqv (py y)
def eqD (x y : D) : Res D := if okq 12 x = true ∧ okq 12 y = true then .ok (.bl (deq x y)) else .bad
def neD (x y : D) : Res D := if okq 12 x = true ∧ okq 12 y = true then .ok (.bl (!deq x y)) else .bad
theorem beq_dec (i j : Int) : (i == j) = decide (i = j) := by
  by_cases h : i = j
  · subst h; simp
  · simp [h]
@[simp] theorem eqD_int (i j : Int) : eqD (.int i) (.int j) = .ok (.bl (decide (i = j))) := by simp [eqD, okq, deq, py, PyData.eqv, beq_dec]
@[simp] theorem neD_int (i j : Int) : neD (.int i) (.int j) = .ok (.bl (!decide (i = j))) := by simp [neD, okq, deq, py, PyData.eqv, beq_dec]

def ixD : D → D → Res D
  | .lst ds, .int i => match atI ds i with
    | some d => .ok d
    | none => .bad
  | .tup ds, .int i => match atI ds i with
    | some d => .ok d
    | none => .bad
  | .str x, .int i => if x.length ≤ sizeLine then (match atI x.cps.toList i with
    | some c => .ok (.str ⟨#[c]⟩)
    | none => .bad) else .bad
  | _, _ => .bad
def addD : D → D → Res D
  | .int i, .int j => .ok (.int (i + j))
  | .str x, .str y => if x.length + y.length ≤ sizeLine then .ok (.str (x ++ y)) else .bad
  | _, _ => .bad
@[simp] theorem addD_int (i j : Int) : addD (.int i) (.int j) = .ok (.int (i + j)) := (rfl)
/-- a list and a list -/
def catD : D → D → Res (List D)
  | .lst xs, .lst ys => if xs.length + ys.length ≤ sizeLine then .ok (xs ++ ys) else .bad
  | _, _ => .bad
def lOp (r : D → D → Res (List D)) (f g : Sg → Res D) : Sg → Res (List D) := fun Γ => (f Γ).bnd fun x => (g Γ).bnd fun y => r x y
def cutL {α : Type} (xs : List α) (lo hi : Option Int) : List α := (xs.drop (sIx xs.length 0 lo)).take (sIx xs.length xs.length hi - sIx xs.length 0 lo)
def dNoP : Sg → Res (Option Int) := fun _ => .ok none
def dP (f : Sg → Res D) : Sg → Res (Option Int) := fun Γ => (f Γ).bnd fun d => match d with
  | .int i => .ok (some i)
  | _ => .bad
def lCut (f : Sg → Res D) (l u : Sg → Res (Option Int)) : Sg → Res (List D) := fun Γ => (f Γ).bnd fun d => (l Γ).bnd fun lo => (u Γ).bnd fun hi => match d with
  | .lst xs => .ok (cutL xs lo hi)
  | _ => .bad
def sAppend (i : Nat) (f : Sg → Res D) : Sg → Out := fun Γ => match Γ[i]? with
  | some (.ml ds) => oE (f Γ) Γ fun d => if ds.length < 1000000 then .nx (Γ.set i (.ml (ds ++ [d]))) else .bad
  | _ => .bad
def sClear (i : Nat) : Sg → Out := fun Γ => match Γ[i]? with
  | some (.ml _) => .nx (Γ.set i (.ml []))
  | _ => .bad
/-- ahead of a statement a list of the def's own is frozen -/
def frzS (i : Nat) (Γ : Sg) : Sg := match Γ[i]? with
  | some (.ml ds) => Γ.set i (.val (.lst ds))
  | _ => Γ
def seqD : D → Res (List D)
  | .lst xs => .ok xs
  | .tup xs => .ok xs
  | _ => .bad
def iSeq (f : Sg → Res D) : Sg → Res (List D) := fun Γ => (f Γ).bnd seqD
def iRng1 (r : Sg → Res (List D)) : Sg → Res (List D) := fun Γ => (r Γ).bnd rng1
def iRng2 (r : Sg → Res (List D)) : Sg → Res (List D) := fun Γ => (r Γ).bnd rng2
def blkS : Slot → Slot
  | .val d => .val d
  | _ => .no
def blk (k : Nat) (caps : List Nat) (Γ : Sg) : Sg := List.replicate k .no ++ caps.map fun i => blkS ((Γ[i]?).getD .no)
theorem blk_get {k : Nat} {caps : List Nat} {Γ : Sg} {i : Nat} {sl : Slot} (h : (blk k caps Γ)[i]? = some sl) : sl = .no ∨ ∃ c d, caps[i - k]? = some c ∧ k ≤ i ∧ Γ[c]? = some (.val d) ∧ sl = .val d := by
  unfold blk at h
  by_cases hi : i < k
  · rw [List.getElem?_append_left (by simpa using hi), List.getElem?_replicate, if_pos hi] at h
    cases h; exact .inl rfl
  · rw [List.getElem?_append_right (by simpa using hi), List.length_replicate, List.getElem?_map] at h
    cases q : caps[i - k]? with
    | none => rw [q] at h; cases h
    | some c =>
      rw [q] at h
      simp only [Option.map_some, Option.some.injEq] at h
      subst h
      cases q2 : Γ[c]? with
      | none => exact .inl rfl
      | some sl =>
        cases sl with
        | val d => exact .inr ⟨c, d, rfl, Nat.le_of_not_lt hi, q2, rfl⟩
        | _ => exact .inl rfl
def elD (t : Tg) (p : Sg → Res Bool) (fe : Sg → Res D) (Γ0 : Sg) (x : D) : Res (Option D) := match t x Γ0 with
  | none => .bad
  | some Γ1 => match p Γ1 with
    | .ok true => (match fe Γ1 with
      | .ok d => .ok (some d)
      | _ => .bad)
    | .ok false => .ok none
    | _ => .bad
def compD (e : D → Res (Option D)) : List D → Res (List D)
  | [] => .ok []
  | x :: xs => (e x).bnd fun o => (compD e xs).bnd fun r => .ok (match o with
    | some d => d :: r
    | none => r)
def lComp (fi : Sg → Res (List D)) (k : Nat) (caps : List Nat) (t : Tg) (p : Sg → Res Bool) (fe : Sg → Res D) : Sg → Res (List D) := fun Γ => (fi Γ).bnd fun xs => if xs.length < 1000000 then compD (elD t p fe (blk k caps Γ)) xs else .bad
theorem elD_ne {t : Tg} {p : Sg → Res Bool} {fe : Sg → Res D} {Γ0 : Sg} {x : D} {c : String} : elD t p fe Γ0 x ≠ .err c := by
  unfold elD
  split
  · exact fun z => nomatch z
  · split
    · split <;> exact fun z => nomatch z
    · exact fun z => nomatch z
    · exact fun z => nomatch z
theorem compD_ne {e : D → Res (Option D)} (he : ∀ x c, e x ≠ .err c) : ∀ xs c, compD e xs ≠ .err c
  | [], c => fun z => nomatch z
  | x :: xs, c => by
    simp only [compD]
    cases q : e x with
    | ok o =>
      cases q2 : compD e xs with
      | ok r => exact fun z => nomatch z
      | err c' => exact absurd q2 (compD_ne he xs c')
      | bad => exact fun z => nomatch z
    | err c' => exact absurd q (he x c')
    | bad => exact fun z => nomatch z
theorem compD_cons {e : D → Res (Option D)} {x : D} {xs r : List D} (h : compD e (x :: xs) = .ok r) : ∃ o r', e x = .ok o ∧ compD e xs = .ok r' ∧ r = (match o with | some d => d :: r' | none => r') := by
  simp only [compD] at h
  cases q : e x with
  | ok o =>
    cases q2 : compD e xs with
    | ok r' => rw [q, q2] at h; cases h; exact ⟨o, r', rfl, rfl, rfl⟩
    | err c' => rw [q, q2] at h; cases h
    | bad => rw [q, q2] at h; cases h
  | err c' => rw [q] at h; cases h
  | bad => rw [q] at h; cases h
def cYes : Sg → Res Bool := fun _ => .ok true
/-- no list of its own among the names -/
def noML (Γ : Sg) : Prop := ∀ (i : Nat) (ds : List D), Γ[i]? ≠ some (.ml ds)
/-- raise C(..) -/
def sRaise (c : String) (fa : Sg → Res (List D)) : Sg → Out := fun Γ => oE (fa Γ) Γ fun ds => if ds.length ≤ 1000 then .err c Γ else .bad
/-- try: F, except: G (hit: whether a class is caught) -/
def tryD (hit : String → Option Bool) (F : Sg → Out) (G : String → Sg → Out) : Sg → Out := fun Γ => match F Γ with
  | .err c Γ1 => (match hit c with
    | some true => G c Γ1
    | _ => .bad)
  | o => o
def offS (i : Nat) : Out → Out
  | .nx Γ => .nx (Γ.set i .no)
  | .bk Γ => .bk (Γ.set i .no)
  | .ct Γ => .ct (Γ.set i .no)
  | .err _ _ => .bad
  | o => o
def hitOf (mt : List (String × List String)) (T : String) : String → Option Bool := fun c => (mt.lookup c).map (·.contains T)
def noErr : Out → Out
  | .err _ _ => .bad
  | o => o
def sTryAs (i : Nat) (hit : String → Option Bool) (F G : Sg → Out) : Sg → Out := tryD hit F fun c Γ1 => offS i (G (Γ1.set i (.val (.exc c))))
def sTry (hit : String → Option Bool) (F G : Sg → Out) : Sg → Out := tryD hit F fun _ Γ1 => noErr (G Γ1)
/-- the classes that a thing is of (mt: those of the text's own classes) -/
def kinds (mt : List (String × List String)) : D → Option (List String)
  | .non => some ["NoneType"]
  | .bl _ => some ["bool", "int"]
  | .int _ => some ["int"]
  | .str _ => some ["str"]
  | .tup _ => some ["tuple"]
  | .lst _ => some ["list"]
  | .obj _ _ _ => none
  | .exc c => mt.lookup c
def isiD (mt : List (String × List String)) (cs : List String) (d : D) : Res D := match kinds mt d with
  | some ks => .ok (.bl (cs.any fun c => ks.contains c))
  | none => .bad
def dIsi (mt : List (String × List String)) (cs : List String) (f : Sg → Res D) : Sg → Res D := fun Γ => (f Γ).bnd (isiD mt cs)
def bools : List D → Option (List Bool)
  | [] => some []
  | .bl b :: r => (bools r).map (b :: ·)
  | _ :: _ => none
def allD : List D → Res D
  | [.lst ds] => match bools ds with
    | some bs => .ok (.bl (bs.all id))
    | none => .bad
  | _ => .bad
def anyD : List D → Res D
  | [.lst ds] => match bools ds with
    | some bs => .ok (.bl (bs.any id))
    | none => .bad
  | _ => .bad
/-- is None, is True, is False -/
def isI : D → D → Res D
  | x, .non => .ok (.bl (match x with
    | .non => true
    | _ => false))
  | x, .bl b => .ok (.bl (match x with
    | .bl c => c == b
    | _ => false))
  | _, _ => .bad
def isntI : D → D → Res D
  | x, .non => .ok (.bl (match x with
    | .non => false
    | _ => true))
  | x, .bl b => .ok (.bl (match x with
    | .bl c => !(c == b)
    | _ => true))
  | _, _ => .bad
end L3
end

section
set_option Elab.async false
set_option linter.all false
set_option maxRecDepth 100000
set_option exponentiation.threshold 10000
/-! how the readings are reckoned -/
namespace L3
open PySem
/-- what follows, by what came -/
def oSeq (o : Out) (G : Sg → Out) : Out := match o with
  | .nx Γ' => G Γ'
  | o => o
def oTry (i : Nat) (h : String → Option Bool) (o : Out) (G : Sg → Out) : Out := match o with
  | .err c Γ1 => (match h c with
    | some true => offS i (G (Γ1.set i (.val (.exc c))))
    | _ => .bad)
  | o => o
def oIte (r : Res Bool) (F G : Sg → Out) (Γ : Sg) : Out := oE r Γ fun c => if c = true then F Γ else G Γ
def rAnd (r : Res Bool) (q : Sg → Res Bool) (Γ : Sg) : Res Bool := r.bnd fun c => if c = true then q Γ else .ok false
def rOr (r : Res Bool) (q : Sg → Res Bool) (Γ : Sg) : Res Bool := r.bnd fun c => if c = true then .ok true else q Γ
def vAnd (r : Res Bool) (q : Sg → Res D) (Γ : Sg) : Res D := r.bnd fun c => if c = true then q Γ else .ok (.bl false)
def vOr (r : Res Bool) (q : Sg → Res D) (Γ : Sg) : Res D := r.bnd fun c => if c = true then .ok (.bl true) else q Γ
def vIte (r : Res Bool) (f g : Sg → Res D) (Γ : Sg) : Res D := r.bnd fun c => if c = true then f Γ else g Γ
section
variable (Γ : Sg) (f g : Sg → Res D) (p q : Sg → Res Bool) (F G : Sg → Out) (fa : Sg → Res (List D))
@[simp] theorem sSeq_app : sSeq F G Γ = oSeq (F Γ) G := (rfl)
@[simp] theorem oSeq_nx : oSeq (.nx Γ) G = G Γ := (rfl)
@[simp] theorem oSeq_bk : oSeq (.bk Γ) G = .bk Γ := (rfl)
@[simp] theorem oSeq_ct : oSeq (.ct Γ) G = .ct Γ := (rfl)
@[simp] theorem oSeq_rt (d : D) : oSeq (.rt d) G = .rt d := (rfl)
@[simp] theorem oSeq_rtl (d : List D) : oSeq (.rtl d) G = .rtl d := (rfl)
@[simp] theorem oSeq_err (c : String) : oSeq (.err c Γ) G = .err c Γ := (rfl)
@[simp] theorem oSeq_bad : oSeq .bad G = .bad := (rfl)
@[simp] theorem sNext_app : sNext Γ = .nx Γ := (rfl)
@[simp] theorem sIf_app : sIf p F G Γ = oIte (p Γ) F G Γ := (rfl)
@[simp] theorem oIte_tt : oIte (.ok true) F G Γ = F Γ := (rfl)
@[simp] theorem oIte_ff : oIte (.ok false) F G Γ = G Γ := (rfl)
@[simp] theorem oIte_err (c : String) : oIte (.err c) F G Γ = .err c Γ := (rfl)
@[simp] theorem rAnd_tt : rAnd (.ok true) q Γ = q Γ := (rfl)
@[simp] theorem rAnd_ff : rAnd (.ok false) q Γ = .ok false := (rfl)
@[simp] theorem rOr_tt : rOr (.ok true) q Γ = .ok true := (rfl)
@[simp] theorem rOr_ff : rOr (.ok false) q Γ = q Γ := (rfl)
@[simp] theorem vAnd_tt : vAnd (.ok true) f Γ = f Γ := (rfl)
@[simp] theorem vAnd_ff : vAnd (.ok false) f Γ = .ok (.bl false) := (rfl)
@[simp] theorem vOr_tt : vOr (.ok true) f Γ = .ok (.bl true) := (rfl)
@[simp] theorem vOr_ff : vOr (.ok false) f Γ = f Γ := (rfl)
@[simp] theorem vIte_tt : vIte (.ok true) f g Γ = f Γ := (rfl)
@[simp] theorem vIte_ff : vIte (.ok false) f g Γ = g Γ := (rfl)
@[simp] theorem sRet_app : sRet f Γ = oE (f Γ) Γ fun d => .rt d := (rfl)
@[simp] theorem sRetL_app : sRetL fa Γ = oE (fa Γ) Γ fun d => .rtl d := (rfl)
@[simp] theorem sRetN_app : sRetN Γ = .rt .non := (rfl)
@[simp] theorem sDrop_app : sDrop f Γ = oE (f Γ) Γ fun _ => .nx Γ := (rfl)
@[simp] theorem sSet_app (i : Nat) : sSet i f Γ = oE (f Γ) Γ fun d => .nx (Γ.set i (.val d)) := (rfl)
@[simp] theorem sSetL_app (i : Nat) : sSetL i fa Γ = oE (fa Γ) Γ fun d => .nx (Γ.set i (.ml d)) := (rfl)
@[simp] theorem sPar_app (i k : Nat) : sPar i k fa Γ = oE (fa Γ) Γ fun ds => match ds with
  | [x, y] => .nx ((Γ.set i (.val x)).set k (.val y))
  | _ => .bad := (rfl)
@[simp] theorem sAsg_app (t : Tg) : sAsg f t Γ = oE (f Γ) Γ fun d => match t d Γ with
  | some Γ' => .nx Γ'
  | none => .bad := (rfl)
@[simp] theorem sRaise_app (c : String) : sRaise c fa Γ = oE (fa Γ) Γ fun ds => if ds.length ≤ 1000 then .err c Γ else .bad := (rfl)
@[simp] theorem sTryAs_app (i : Nat) (h : String → Option Bool) : sTryAs i h F G Γ = oTry i h (F Γ) G := (rfl)
@[simp] theorem oTry_nx (i : Nat) (h : String → Option Bool) : oTry i h (.nx Γ) G = .nx Γ := (rfl)
@[simp] theorem oTry_rt (i : Nat) (h : String → Option Bool) (d : D) : oTry i h (.rt d) G = .rt d := (rfl)
theorem oTry_err (i : Nat) (h : String → Option Bool) (c : String) (e : h c = some true) : oTry i h (.err c Γ) G = offS i (G (Γ.set i (.val (.exc c)))) := by simp only [oTry, e]
@[simp] theorem offS_nx (i : Nat) : offS i (.nx Γ) = .nx (Γ.set i .no) := (rfl)
@[simp] theorem offS_rt (i : Nat) (d : D) : offS i (.rt d) = .rt d := (rfl)
@[simp] theorem dVar_app (i : Nat) : dVar i Γ = match Γ[i]? with
  | some (.val d) => .ok d
  | _ => .bad := (rfl)
@[simp] theorem dC_app (d : D) : dC d Γ = .ok d := (rfl)
@[simp] theorem dOp_app (r : D → D → Res D) : dOp r f g Γ = (f Γ).bnd fun x => (g Γ).bnd fun y => r x y := (rfl)
@[simp] theorem lOp_app (r : D → D → Res (List D)) : lOp r f g Γ = (f Γ).bnd fun x => (g Γ).bnd fun y => r x y := (rfl)
@[simp] theorem dT_app : dT f Γ = (f Γ).bnd tst := (rfl)
@[simp] theorem tst_bl (b : Bool) : tst (.bl b) = .ok b := (rfl)
@[simp] theorem dTru_app : dTru f Γ = (f Γ).bnd tru := (rfl)
@[simp] theorem cAnd_app : cAnd p q Γ = rAnd (p Γ) q Γ := (rfl)
@[simp] theorem cOr_app : cOr p q Γ = rOr (p Γ) q Γ := (rfl)
@[simp] theorem cNot_app : cNot p Γ = (p Γ).bnd fun c => .ok (!c) := (rfl)
@[simp] theorem dAnd_app : dAnd f g Γ = vAnd ((f Γ).bnd tst) g Γ := by cases h : f Γ <;> simp only [dAnd, vAnd, h, Res.bnd_ok, Res.bnd_err, Res.bnd_bad]
@[simp] theorem dOr_app : dOr f g Γ = vOr ((f Γ).bnd tst) g Γ := by cases h : f Γ <;> simp only [dOr, vOr, h, Res.bnd_ok, Res.bnd_err, Res.bnd_bad]
@[simp] theorem dNot_app : dNot f Γ = (f Γ).bnd fun x => (tst x).bnd fun c => .ok (.bl (!c)) := (rfl)
@[simp] theorem dIf_app : dIf p f g Γ = vIte (p Γ) f g Γ := (rfl)
@[simp] theorem dNil_app : dNil Γ = .ok [] := (rfl)
@[simp] theorem dCons_app : dCons f fa Γ = (f Γ).bnd fun x => (fa Γ).bnd fun xs => .ok (x :: xs) := (rfl)
@[simp] theorem dTup_app : dTup fa Γ = (fa Γ).bnd fun xs => if xs.length ≤ 1000 then .ok (.tup xs) else .bad := (rfl)
@[simp] theorem dLst_app : dLst fa Γ = (fa Γ).bnd fun xs => if xs.length ≤ 1000 then .ok xs else .bad := (rfl)
@[simp] theorem dFz_app : dFz fa Γ = (fa Γ).bnd fun ds => .ok (.lst ds) := (rfl)
@[simp] theorem dUn_app (r : D → Res D) : dUn r f Γ = (f Γ).bnd r := (rfl)
@[simp] theorem negI_int (i : Int) : negI (.int i) = .ok (.int (-i)) := (rfl)
@[simp] theorem dCB_app (r : List D → Res D) : dCB r fa Γ = (fa Γ).bnd r := (rfl)
@[simp] theorem dCall_app (n : Nat) (K : List D → Ans) : dCall n K fa Γ = (fa Γ).bnd fun ds => if ds.length = n then dAns (K ds) else .bad := (rfl)
@[simp] theorem lCall_app (n : Nat) (K : List D → Ans) : lCall n K fa Γ = (fa Γ).bnd fun ds => if ds.length = n then lAns (K ds) else .bad := (rfl)
@[simp] theorem dIsi_app (mt : List (String × List String)) (cs : List String) : dIsi mt cs f Γ = (f Γ).bnd (isiD mt cs) := (rfl)
@[simp] theorem dNoP_app : dNoP Γ = .ok none := (rfl)
@[simp] theorem dP_app : dP f Γ = (f Γ).bnd fun d => match d with
  | .int i => .ok (some i)
  | _ => .bad := (rfl)
@[simp] theorem iSeq_app : iSeq f Γ = (f Γ).bnd seqD := (rfl)
@[simp] theorem seqD_lst (xs : List D) : seqD (.lst xs) = .ok xs := (rfl)
@[simp] theorem seqD_tup (xs : List D) : seqD (.tup xs) = .ok xs := (rfl)
@[simp] theorem cYes_app : cYes Γ = .ok true := (rfl)
@[simp] theorem tgName_app (i : Nat) (d : D) : tgName i d Γ = some (Γ.set i (.val d)) := (rfl)
@[simp] theorem tgNil_app : tgNil [] Γ = some Γ := (rfl)
@[simp] theorem tgCons_app (t : Tg) (u : Tgs) (d : D) (r : List D) : tgCons t u (d :: r) Γ = (t d Γ).bind fun Γ' => u r Γ' := (rfl)
@[simp] theorem tgTup_app (n : Nat) (t : Tgs) (ds : List D) : tgTup n t (.tup ds) Γ = if ds.length = n then t ds Γ else none := (rfl)
end
@[simp] theorem dAns_ok (d : D) : dAns (.ok d) = .ok d := (rfl)
@[simp] theorem dAns_new (d : List D) : dAns (.new d) = .ok (.lst d) := (rfl)
@[simp] theorem dAns_err (c : String) : dAns (.err c) = .err c := (rfl)
@[simp] theorem lAns_new (d : List D) : lAns (.new d) = .ok d := (rfl)
@[simp] theorem lAns_err (c : String) : lAns (.err c) = .err c := (rfl)
@[simp] theorem ans_nx (Γ : Sg) : ans (.nx Γ) = .ok .non := (rfl)
@[simp] theorem ans_rt (d : D) : ans (.rt d) = .ok d := (rfl)
@[simp] theorem ans_rtl (d : List D) : ans (.rtl d) = .new d := (rfl)
@[simp] theorem ans_err (c : String) (Γ : Sg) : ans (.err c Γ) = .err c := (rfl)
@[simp] theorem addI_int (i j : Int) : addI (.int i) (.int j) = .ok (.int (i + j)) := (rfl)
@[simp] theorem subI_int (i j : Int) : subI (.int i) (.int j) = .ok (.int (i - j)) := (rfl)
@[simp] theorem ltI_int (i j : Int) : ltI (.int i) (.int j) = .ok (.bl (decide (i < j))) := (rfl)
@[simp] theorem leI_int (i j : Int) : leI (.int i) (.int j) = .ok (.bl (decide (i ≤ j))) := (rfl)
@[simp] theorem gtI_int (i j : Int) : gtI (.int i) (.int j) = .ok (.bl (decide (j < i))) := (rfl)
@[simp] theorem geI_int (i j : Int) : geI (.int i) (.int j) = .ok (.bl (decide (j ≤ i))) := (rfl)
theorem mulI_int (i j : Int) (h : mulOk i j = true) : mulI (.int i) (.int j) = .ok (.int (i * j)) := by simp [mulI, h]
theorem fdivI_int (i j : Int) (h : divOk i j = true) : fdivI (.int i) (.int j) = .ok (.int (i.fdiv j)) := by simp [fdivI, h]
theorem modI_int (i j : Int) (h : j ≠ 0) : modI (.int i) (.int j) = .ok (.int (i.fmod j)) := by simp [modI, h]
@[simp] theorem kinds_int (mt : List (String × List String)) (i : Int) : kinds mt (.int i) = some ["int"] := (rfl)
@[simp] theorem kinds_bl (mt : List (String × List String)) (i : Bool) : kinds mt (.bl i) = some ["bool", "int"] := (rfl)
@[simp] theorem kinds_tup (mt : List (String × List String)) (i : List D) : kinds mt (.tup i) = some ["tuple"] := (rfl)
@[simp] theorem kinds_lst (mt : List (String × List String)) (i : List D) : kinds mt (.lst i) = some ["list"] := (rfl)
@[simp] theorem kinds_str (mt : List (String × List String)) (i : Str) : kinds mt (.str i) = some ["str"] := (rfl)
@[simp] theorem kinds_non (mt : List (String × List String)) : kinds mt .non = some ["NoneType"] := (rfl)
@[simp] theorem kinds_exc (mt : List (String × List String)) (c : String) : kinds mt (.exc c) = mt.lookup c := (rfl)
theorem isiD_def (mt : List (String × List String)) (cs : List String) (d : D) : isiD mt cs d = match kinds mt d with
  | some ks => .ok (.bl (cs.any fun c => ks.contains c))
  | none => .bad := (rfl)
@[simp] theorem eqD_pair (a b c d : Int) : eqD (.tup [.int a, .int b]) (.tup [.int c, .int d]) = .ok (.bl (decide (a = c) && decide (b = d))) := by
  simp [eqD, okq, deq, py, pys, PyData.eqv, PyData.eqvAll, beq_dec]
@[simp] theorem neD_pair (a b c d : Int) : neD (.tup [.int a, .int b]) (.tup [.int c, .int d]) = .ok (.bl (!(decide (a = c) && decide (b = d)))) := by
  simp [neD, okq, deq, py, pys, PyData.eqv, PyData.eqvAll, beq_dec]
@[simp] theorem eqD_bl (a b : Bool) : eqD (.bl a) (.bl b) = .ok (.bl (a == b)) := by
  simp [eqD, okq, deq, py, pys, PyData.eqv]
/-! sizes -/
theorem bits_le {i : Int} {n : Nat} (h : i.natAbs < 2 ^ n) : Builtin.Int.intBits i ≤ n := by
  unfold Builtin.Int.intBits
  split
  · exact Nat.zero_le _
  · rename_i hz
    have : i.natAbs ≠ 0 := by simpa using hz
    exact Nat.succ_le_of_lt ((Nat.log2_lt this).mpr h)
theorem mulOk_right {i j : Int} (h : j.natAbs < 2 ^ 64) : mulOk i j = true := by
  simp [mulOk, bits_le h]
theorem mulOk_left {i j : Int} (h : i.natAbs < 2 ^ 64) : mulOk i j = true := by
  simp [mulOk, bits_le h]
theorem mulOk_both {i j : Int} {a b : Nat} (hi : i.natAbs < 2 ^ a) (hj : j.natAbs < 2 ^ b) (ha : a ≤ 2 ^ 20) (hb : b ≤ 2 ^ 20) : mulOk i j = true := by
  have h1 := Nat.le_trans (bits_le hi) ha
  have h2 := Nat.le_trans (bits_le hj) hb
  simp only [mulOk, Bool.or_eq_true, Bool.and_eq_true, decide_eq_true_eq]
  exact .inr ⟨h1, h2⟩
theorem divOk_of {i j : Int} (h0 : j ≠ 0) (h : j.natAbs < 2 ^ 9000) : divOk i j = true := by
  have : j.natAbs ≠ 0 := by simpa using h0
  simp only [divOk, Bool.and_eq_true, decide_eq_true_eq]
  exact ⟨h0, (Nat.log2_lt this).mpr h⟩
@[simp] theorem modI_lit (i j : Int) (h : j ≠ 0) : modI (.int i) (.int j) = .ok (.int (i.fmod j)) := modI_int i j h
@[simp] theorem mulI_lit (i j : Int) (h : j.natAbs < 18446744073709551616) : mulI (.int i) (.int j) = .ok (.int (i * j)) := mulI_int i j (mulOk_right h)
@[simp] theorem mulI_litL (i j : Int) (h : i.natAbs < 18446744073709551616) : mulI (.int i) (.int j) = .ok (.int (i * j)) := mulI_int i j (mulOk_left h)
@[simp] theorem fdivI_lit (i j : Int) (h : j ≠ 0) (h2 : j.natAbs < 18446744073709551616) : fdivI (.int i) (.int j) = .ok (.int (i.fdiv j)) :=
  fdivI_int i j (divOk_of h (Nat.lt_of_lt_of_le h2 (show 2 ^ 64 ≤ 2 ^ 9000 from Nat.pow_le_pow_right (by decide) (by decide))))
@[simp] theorem powI_lit (i j : Int) (h0 : 0 ≤ j) (h1 : j ≤ 1000000) (h2 : i.natAbs < 18446744073709551616) : powI (.int i) (.int j) = .ok (.int (i ^ j.toNat)) := by
  have : powOk i j = true := by simp [powOk, h0, h1]; omega
  simp [powI, this]
/-! loops -/
def oFor (r : Res D) (t : Tg) (B : Sg → Out) (Γ : Sg) : Out := oE r Γ fun d => match d with
  | .lst xs => forD t B xs Γ
  | .tup xs => forD t B xs Γ
  | _ => .bad
def oForR (r : Res (List D)) (t : Tg) (B : Sg → Out) (Γ : Sg) : Out := oE r Γ fun xs => forD t B xs Γ
section
variable (f : Sg → Res D) (r : Sg → Res (List D)) (t : Tg) (B : Sg → Out) (Γ : Sg) (xs : List D)
@[simp] theorem sFor_app : sFor f t B Γ = oFor (f Γ) t B Γ := (rfl)
@[simp] theorem oFor_lst : oFor (.ok (.lst xs)) t B Γ = forD t B xs Γ := (rfl)
@[simp] theorem oFor_tup : oFor (.ok (.tup xs)) t B Γ = forD t B xs Γ := (rfl)
@[simp] theorem sForR1_app : sForR1 r t B Γ = oForR ((r Γ).bnd rng1) t B Γ := (rfl)
@[simp] theorem sForR2_app : sForR2 r t B Γ = oForR ((r Γ).bnd rng2) t B Γ := (rfl)
@[simp] theorem oForR_ok : oForR (.ok xs) t B Γ = forD t B xs Γ := (rfl)
end
@[simp] theorem forD_nil (t : Tg) (B : Sg → Out) (Γ : Sg) : forD t B [] Γ = .nx Γ := (rfl)
/-- a loop whose every turn goes on and leaves what is known -/
theorem forD_all {t : Tg} {B : Sg → Out} (I : Sg → Prop) : ∀ (xs : List D) (Γ : Sg), I Γ → (∀ x ∈ xs, ∀ Γ, I Γ → ∃ Γ1 Γ2, t x Γ = some Γ1 ∧ (B Γ1 = .nx Γ2 ∨ B Γ1 = .ct Γ2) ∧ I Γ2) → ∃ Γ', forD t B xs Γ = .nx Γ' ∧ I Γ'
  | [], Γ, h, _ => ⟨Γ, rfl, h⟩
  | x :: r, Γ, h, k => by
    obtain ⟨Γ1, Γ2, h1, h2, h3⟩ := k x (.head _) Γ h
    obtain ⟨Γ', h4, h5⟩ := forD_all I r Γ2 h3 fun y hy => k y (.tail _ hy)
    refine ⟨Γ', ?_, h5⟩
    rcases h2 with h2 | h2 <;> simp only [forD, h1, h2, h4]
/-- a loop whose every turn goes on, by an invariant -/
theorem forD_inv {t : Tg} {B : Sg → Out} (I : List D → Sg → Prop) : ∀ (xs : List D) (Γ : Sg), I xs Γ → (∀ x r Γ, I (x :: r) Γ → ∃ Γ1 Γ2, t x Γ = some Γ1 ∧ (B Γ1 = .nx Γ2 ∨ B Γ1 = .ct Γ2) ∧ I r Γ2) → ∃ Γ', forD t B xs Γ = .nx Γ' ∧ I [] Γ'
  | [], Γ, h, _ => ⟨Γ, rfl, h⟩
  | x :: r, Γ, h, k => by
    obtain ⟨Γ1, Γ2, h1, h2, h3⟩ := k x r Γ h
    obtain ⟨Γ', h4, h5⟩ := forD_inv I r Γ2 h3 k
    refine ⟨Γ', ?_, h5⟩
    rcases h2 with h2 | h2 <;> simp only [forD, h1, h2, h4]
theorem atI_nat {α : Type} (xs : List α) (k : Nat) : atI xs (k : Int) = xs[k]? := by
  unfold atI ixN
  rw [if_pos (by omega)]
  by_cases h : k < xs.length
  · rw [if_pos (by omega)]; simp
  · rw [if_neg (by omega)]; simp; omega
theorem ixD_map {α : Type} (f : α → D) (xs : List α) (k : Nat) (x : α) (h : xs[k]? = some x) : ixD (.lst (xs.map f)) (.int (k : Int)) = .ok (f x) := by
  simp [ixD, atI_nat, h]
theorem intsD_mem {lo : Int} {n : Nat} {x : D} (h : x ∈ intsD lo n) : ∃ k : Nat, k < n ∧ x = .int (lo + k) := by
  unfold intsD at h
  obtain ⟨k, hk, rfl⟩ := List.mem_map.mp h
  exact ⟨k, List.mem_range.mp hk, rfl⟩
theorem rng1_nat (n : Nat) (h : n < 2 ^ 62) : rng1 [.int n] = .ok (intsD 0 n) := by
  unfold rng1
  simp only
  rw [if_pos ⟨by omega, by omega⟩]
  simp
end L3
end

section
set_option Elab.async false
set_option linter.all false
/-! fractions in lowest terms -/
namespace L3
open PySem
/-- top over bottom in lowest terms, as the program reckons it -/
def frD (b : Int) (g : Nat) : Int := if b < 0 then -(g : Int) else (g : Int)
def frT (t b : Int) : Int := t.fdiv (frD b (Int.gcd t b))
def frB (t b : Int) : Int := b.fdiv (frD b (Int.gcd t b))
theorem gcd_pos {t b : Int} (h : b ≠ 0) : 0 < Int.gcd t b := Int.gcd_pos_of_ne_zero_right t h
theorem frD_ne {t b : Int} (h : b ≠ 0) : frD b (Int.gcd t b) ≠ 0 := by
  have := gcd_pos (t := t) h
  unfold frD
  split <;> omega
theorem frD_dvd_left (t b : Int) : frD b (Int.gcd t b) ∣ t := by
  unfold frD
  split
  · exact Int.neg_dvd.mpr (Int.gcd_dvd_left _ _)
  · exact Int.gcd_dvd_left _ _
theorem frD_dvd_right (t b : Int) : frD b (Int.gcd t b) ∣ b := by
  unfold frD
  split
  · exact Int.neg_dvd.mpr (Int.gcd_dvd_right _ _)
  · exact Int.gcd_dvd_right _ _
theorem fdiv_mul_of_dvd {a d : Int} (h : d ∣ a) : a.fdiv d * d = a := by
  rw [Int.fdiv_eq_ediv_of_dvd h]
  exact Int.ediv_mul_cancel h
theorem frT_mul (t b : Int) : frT t b * frD b (Int.gcd t b) = t := fdiv_mul_of_dvd (frD_dvd_left t b)
theorem frB_mul (t b : Int) : frB t b * frD b (Int.gcd t b) = b := fdiv_mul_of_dvd (frD_dvd_right t b)
/-- crosswise alike -/
theorem fr_cross (t b : Int) : frT t b * b = t * frB t b := by
  have h1 := frT_mul t b
  have h2 := frB_mul t b
  generalize hd : frD b (Int.gcd t b) = d at h1 h2
  calc frT t b * b = frT t b * (frB t b * d) := by rw [h2]
    _ = (frT t b * d) * frB t b := by rw [Int.mul_comm (frB t b) d, Int.mul_assoc]
    _ = t * frB t b := by rw [h1]
/-- the bottom is above 0 -/
theorem frB_pos {t b : Int} (h : b ≠ 0) : 1 ≤ frB t b := by
  have g := gcd_pos (t := t) h
  have h2 := frB_mul t b
  unfold frD at h2
  by_cases hb : b < 0
  · rw [if_pos hb] at h2
    by_cases hp : 1 ≤ frB t b
    · exact hp
    · exfalso
      have h3 : frB t b ≤ 0 := by omega
      have h4 : 0 ≤ frB t b * -(Int.gcd t b : Int) := Int.mul_nonneg_of_nonpos_of_nonpos h3 (by omega)
      omega
  · rw [if_neg hb] at h2
    by_cases hp : 1 ≤ frB t b
    · exact hp
    · exfalso
      have h3 : frB t b ≤ 0 := by omega
      have h4 : frB t b * (Int.gcd t b : Int) ≤ 0 := Int.mul_nonpos_of_nonpos_of_nonneg h3 (by omega)
      omega
/-- nothing above 1 divides both -/
theorem fr_gcd {t b : Int} (h : b ≠ 0) : Int.gcd (frT t b) (frB t b) = 1 := by
  have g := gcd_pos (t := t) h
  have e : Int.gcd (frT t b * frD b (Int.gcd t b)) (frB t b * frD b (Int.gcd t b)) = Int.gcd t b := by rw [frT_mul, frB_mul]
  rw [Int.gcd_mul_right] at e
  have en : (frD b (Int.gcd t b)).natAbs = Int.gcd t b := by
    unfold frD
    split <;> simp
  rw [en] at e
  exact Nat.eq_of_mul_eq_mul_right g (by rw [e, Nat.one_mul])
theorem dvd_cop {q p b : Int} (h : q ∣ p * b) (g : Int.gcd p q = 1) : q ∣ b := by
  have h1 : q.natAbs ∣ p.natAbs * b.natAbs := by rw [← Int.natAbs_mul]; exact Int.natAbs_dvd_natAbs.mpr h
  have h2 : Nat.Coprime q.natAbs p.natAbs := by
    have : Nat.gcd p.natAbs q.natAbs = 1 := g
    rw [Nat.Coprime, Nat.gcd_comm]; exact this
  exact Int.natAbs_dvd_natAbs.mp (h2.dvd_of_dvd_mul_left h1)
/-- there is but one -/
theorem low_unique {p q a b : Int} (h1 : Int.gcd p q = 1) (hq : 1 ≤ q) (h2 : Int.gcd a b = 1) (hb : 1 ≤ b) (h : p * b = a * q) : p = a ∧ q = b := by
  have d1 : q ∣ b := by
    have : q ∣ p * b := ⟨a, by rw [h, Int.mul_comm]⟩
    exact dvd_cop this h1
  have d2 : b ∣ q := by
    have : b ∣ a * q := ⟨p, by rw [← h, Int.mul_comm]⟩
    exact dvd_cop this h2
  have e : q = b := Int.le_antisymm (Int.le_of_dvd (by omega) d1) (Int.le_of_dvd (by omega) d2)
  subst e
  exact ⟨Int.eq_of_mul_eq_mul_right (by omega) h, rfl⟩
theorem fr_of {t u a b : Int} (hu : u ≠ 0) (h2 : Int.gcd a b = 1) (hb : 1 ≤ b) (h : t * b = a * u) : frT t u = a ∧ frB t u = b := by
  refine low_unique (fr_gcd hu) (frB_pos hu) h2 hb ?_
  have c := fr_cross t u
  refine Int.eq_of_mul_eq_mul_right hu ?_
  calc frT t u * b * u = (frT t u * u) * b := by rw [Int.mul_assoc, Int.mul_comm b u, ← Int.mul_assoc]
    _ = t * frB t u * b := by rw [c]
    _ = t * b * frB t u := by rw [Int.mul_assoc, Int.mul_comm (frB t u) b, ← Int.mul_assoc]
    _ = a * u * frB t u := by rw [h]
    _ = a * frB t u * u := by rw [Int.mul_assoc, Int.mul_comm u, ← Int.mul_assoc]
theorem frD_bound {t b : Int} {n : Nat} (h : b ≠ 0) (hb : b.natAbs < 2 ^ n) : (frD b (Int.gcd t b)).natAbs < 2 ^ n := by
  have e : (frD b (Int.gcd t b)).natAbs = Int.gcd t b := by
    unfold frD
    split <;> simp
  rw [e]
  exact Nat.lt_of_le_of_lt (Nat.le_of_dvd (by omega) (Int.natAbs_dvd_natAbs.mpr (Int.gcd_dvd_right t b))) hb
theorem frB_le {t b : Int} (h : b ≠ 0) : (frB t b).natAbs ≤ b.natAbs := by
  have : frB t b ∣ b := ⟨frD b (Int.gcd t b), (frB_mul t b).symm⟩
  exact Nat.le_of_dvd (by omega) (Int.natAbs_dvd_natAbs.mpr this)
theorem frT_le {t b : Int} (h : b ≠ 0) : (frT t b).natAbs ≤ t.natAbs := by
  by_cases ht : t = 0
  · have := frT_mul t b
    rw [ht] at this ⊢
    rcases Int.mul_eq_zero.mp this with z | z
    · rw [z]; simp
    · exact absurd z (by have := frD_ne (t := 0) h; exact this)
  · have : frT t b ∣ t := ⟨frD b (Int.gcd t b), (frT_mul t b).symm⟩
    exact Nat.le_of_dvd (by omega) (Int.natAbs_dvd_natAbs.mpr this)
theorem pow9 {n : Nat} (h : n < 2 ^ 64) : n < 2 ^ 9000 := Nat.lt_of_lt_of_le h (Nat.pow_le_pow_right (by decide) (by decide))
/-! the loop of the greatest divisor -/
theorem gcd_step (l s : Nat) (h : s ≠ 0) : Nat.gcd l s = Nat.gcd s (l % s) := by
  rw [Nat.gcd_comm l s, Nat.gcd_rec, Nat.gcd_comm]
theorem fmod_nat (l s : Nat) : Int.fmod (l : Int) (s : Int) = ((l % s : Nat) : Int) := by
  rw [Int.fmod_eq_emod_of_nonneg _ (by omega)]
  rfl
end L3
end

section
set_option Elab.async false
set_option linter.all false
set_option maxRecDepth 100000
namespace L3
open PySem PySem.Spec PyProof.Rows L2

abbrev St := L2.St
/-- the classes of the text by name -/
abbrev Ct := String → Option Addr
/-- an exception of the class at C stands at a -/
def IsExc (a C : Addr) : Heap → Prop := fun h => ∃ o, h.get? a = some o ∧ o.cls = .ref C

/-- a list that nobody changes -/
def FzL (K : PySem.W.Frag) (H : Hp) (a : Addr) (vs : List V) : Prop := (∃ o, H a = some (.frz o (.lst vs))) ∨
  ∃ (o : Obj) (its : Array Value) (n : Nat), K.lookup a = some o ∧ o.cls = .type "list" ∧ o.dict = none ∧ o.data = .seq its n ∧ its.size ≤ sizeLine ∧ Vals vs its.toList
theorem FzL.sq {K : PySem.W.Frag} {H : Hp} {a : Addr} {vs : List V} (h : FzL K H a vs) : SqL K H a vs := by
  rcases h with ⟨o, h⟩ | h
  · exact .inl (.inr ⟨o, h⟩)
  · exact .inr h

mutual
def Tl (K : PySem.W.Frag) (ct : Ct) (H : Hp) : D → V → Prop
  | .non, v => v = .non
  | .bl b, v => v = .bl b
  | .int i, v => v = .int i
  | .str x, v => v = .str x
  | .tup ds, v => ∃ a vs, v = .ref a ∧ SqT K H a vs ∧ Tls K ct H ds vs
  | .lst ds, v => ∃ a vs, v = .ref a ∧ FzL K H a vs ∧ Tls K ct H ds vs
  | .obj c ns ds, v => ∃ a C dx vs, v = .ref a ∧ ct c = some C ∧ H a = some (.ins C dx (ns.zip vs)) ∧ Tls K ct H ds vs
  | .exc c, v => ∃ a C, v = .ref a ∧ ct c = some C ∧ H a = some (.ext (IsExc a C))
def Tls (K : PySem.W.Frag) (ct : Ct) (H : Hp) : List D → List V → Prop
  | [], vs => vs = []
  | d :: ds, vs => ∃ v r, vs = v :: r ∧ Tl K ct H d v ∧ Tls K ct H ds r
end

/-- what never changes is kept -/
def Stab : HO → Prop
  | .tup _ => True
  | .frz _ _ => True
  | .ins _ _ _ => True
  | .ext _ => True
  | _ => False
def Keep (H H' : Hp) : Prop := ∀ b o, H b = some o → Stab o → H' b = some o
theorem Same.keep {H H' : Hp} (e : Same H H') : Keep H H' := fun b o h _ => e b o h
theorem Keep.refl (H : Hp) : Keep H H := fun _ _ h _ => h
theorem Keep.trans {H H1 H2 : Hp} (a : Keep H H1) (b : Keep H1 H2) : Keep H H2 := fun c o h s => b c o (a c o h s) s
theorem Keep.sqT {K : PySem.W.Frag} {H H' : Hp} {a : Addr} {xs : List V} (e : Keep H H') (h : SqT K H a xs) : SqT K H' a xs := by
  rcases h with (h | ⟨o, h⟩) | h
  · exact .inl (.inl (e _ _ h trivial))
  · exact .inl (.inr ⟨o, e _ _ h trivial⟩)
  · exact .inr h
theorem Keep.fzL {K : PySem.W.Frag} {H H' : Hp} {a : Addr} {xs : List V} (e : Keep H H') (h : FzL K H a xs) : FzL K H' a xs := by
  rcases h with ⟨o, h⟩ | h
  · exact .inl ⟨o, e _ _ h trivial⟩
  · exact .inr h
mutual
theorem Tl.keep {K : PySem.W.Frag} {ct : Ct} {H H' : Hp} (e : Keep H H') : ∀ {d : D} {v : V}, Tl K ct H d v → Tl K ct H' d v
  | .non, _, h => by simpa [Tl] using h
  | .bl b, _, h => by simpa [Tl] using h
  | .int i, _, h => by simpa [Tl] using h
  | .str x, _, h => by simpa [Tl] using h
  | .tup ds, v, h => by
    simp only [Tl] at h ⊢
    obtain ⟨a, vs, h1, h2, h3⟩ := h
    exact ⟨a, vs, h1, e.sqT h2, Tls.keep e h3⟩
  | .lst ds, v, h => by
    simp only [Tl] at h ⊢
    obtain ⟨a, vs, h1, h2, h3⟩ := h
    exact ⟨a, vs, h1, e.fzL h2, Tls.keep e h3⟩
  | .obj c ns ds, v, h => by
    simp only [Tl] at h ⊢
    obtain ⟨a, C, dx, vs, h1, h2, h3, h4⟩ := h
    exact ⟨a, C, dx, vs, h1, h2, e _ _ h3 trivial, Tls.keep e h4⟩
  | .exc c, v, h => by
    simp only [Tl] at h ⊢
    obtain ⟨a, C, h1, h2, h3⟩ := h
    exact ⟨a, C, h1, h2, e _ _ h3 trivial⟩
theorem Tls.keep {K : PySem.W.Frag} {ct : Ct} {H H' : Hp} (e : Keep H H') : ∀ {ds : List D} {vs : List V}, Tls K ct H ds vs → Tls K ct H' ds vs
  | [], _, h => by simpa [Tls] using h
  | d :: ds, _, h => by
    simp only [Tls] at h ⊢
    obtain ⟨v, r, h1, h2, h3⟩ := h
    exact ⟨v, r, h1, Tl.keep e h2, Tls.keep e h3⟩
end
theorem Tls.length {K : PySem.W.Frag} {ct : Ct} {H : Hp} : ∀ {ds : List D} {vs : List V}, Tls K ct H ds vs → ds.length = vs.length
  | [], _, h => by simp only [Tls] at h; rw [h]; rfl
  | d :: ds, _, h => by
    simp only [Tls] at h
    obtain ⟨v, r, rfl, _, h⟩ := h
    simp [Tls.length h]
theorem Tls.get {K : PySem.W.Frag} {ct : Ct} {H : Hp} : ∀ {ds : List D} {vs : List V} {i : Nat} {d : D}, Tls K ct H ds vs → ds[i]? = some d → ∃ v, vs[i]? = some v ∧ Tl K ct H d v
  | [], _, _, _, _, e => by simp at e
  | d :: ds, _, i, d', h, e => by
    simp only [Tls] at h
    obtain ⟨v, r, rfl, h1, h2⟩ := h
    cases i with
    | zero => simp at e; subst e; exact ⟨v, rfl, h1⟩
    | succ i => exact Tls.get (i := i) h2 (by simpa using e)
theorem Tls.get' {K : PySem.W.Frag} {ct : Ct} {H : Hp} : ∀ {ds : List D} {vs : List V} {i : Nat} {v : V}, Tls K ct H ds vs → vs[i]? = some v → ∃ d, ds[i]? = some d ∧ Tl K ct H d v
  | [], _, _, _, h, e => by simp only [Tls] at h; subst h; simp at e
  | d :: ds, _, i, v', h, e => by
    simp only [Tls] at h
    obtain ⟨v, r, rfl, h1, h2⟩ := h
    cases i with
    | zero => simp at e; subst e; exact ⟨d, rfl, h1⟩
    | succ i => exact Tls.get' (i := i) h2 (by simpa using e)
theorem Tls.nil {K : PySem.W.Frag} {ct : Ct} {H : Hp} : Tls K ct H [] [] := by simp [Tls]
theorem Tls.cons {K : PySem.W.Frag} {ct : Ct} {H : Hp} {d : D} {v : V} {ds : List D} {vs : List V} (h : Tl K ct H d v) (t : Tls K ct H ds vs) : Tls K ct H (d :: ds) (v :: vs) := by
  simp only [Tls]; exact ⟨v, vs, rfl, h, t⟩
theorem Tls.append {K : PySem.W.Frag} {ct : Ct} {H : Hp} : ∀ {ds es : List D} {vs us : List V}, Tls K ct H ds vs → Tls K ct H es us → Tls K ct H (ds ++ es) (vs ++ us)
  | [], _, _, _, h, t => by simp only [Tls] at h; subst h; simpa using t
  | d :: ds, _, _, _, h, t => by
    simp only [Tls] at h
    obtain ⟨v, r, rfl, h1, h2⟩ := h
    exact Tls.cons h1 (Tls.append h2 t)
theorem Tls.take {K : PySem.W.Frag} {ct : Ct} {H : Hp} : ∀ {ds : List D} {vs : List V} (n : Nat), Tls K ct H ds vs → Tls K ct H (ds.take n) (vs.take n)
  | [], _, n, h => by simp only [Tls] at h; subst h; simp [Tls]
  | d :: ds, _, 0, _ => by simp [Tls]
  | d :: ds, _, n + 1, h => by
    simp only [Tls] at h
    obtain ⟨v, r, rfl, h1, h2⟩ := h
    exact Tls.cons h1 (Tls.take n h2)
theorem Tls.drop {K : PySem.W.Frag} {ct : Ct} {H : Hp} : ∀ {ds : List D} {vs : List V} (n : Nat), Tls K ct H ds vs → Tls K ct H (ds.drop n) (vs.drop n)
  | [], _, n, h => by simp only [Tls] at h; subst h; simp [Tls]
  | d :: ds, _, 0, h => h
  | d :: ds, _, n + 1, h => by
    simp only [Tls] at h
    obtain ⟨v, r, rfl, h1, h2⟩ := h
    exact Tls.drop n h2
theorem Tls.set {K : PySem.W.Frag} {ct : Ct} {H : Hp} {d : D} {v : V} (q : Tl K ct H d v) : ∀ {ds : List D} {vs : List V} (n : Nat), Tls K ct H ds vs → Tls K ct H (ds.set n d) (vs.set n v)
  | [], _, n, h => by simp only [Tls] at h; subst h; simp [Tls]
  | _ :: ds, _, 0, h => by
    simp only [Tls] at h
    obtain ⟨w, r, rfl, _, h2⟩ := h
    exact Tls.cons q h2
  | _ :: ds, _, n + 1, h => by
    simp only [Tls] at h
    obtain ⟨w, r, rfl, h1, h2⟩ := h
    exact Tls.cons h1 (Tls.set q n h2)

def SlotOk (K : PySem.W.Frag) (ct : Ct) (H₀ H : Hp) : Slot → Option V → Prop
  | .no, _ => True
  | .val d, ov => ∃ v, ov = some v ∧ Tl K ct H d v
  | .ml ds, ov => ∃ a vs, ov = some (.ref a) ∧ H a = some (.lst vs) ∧ H₀ a = none ∧ Tls K ct H ds vs
structure J (K : PySem.W.Frag) (ct : Ct) (H₀ : Hp) (Γ : Sg) (σ : St) (H : Hp) : Prop where
  same : Same H₀ H
  len : Γ.length = σ.length
  at' : ∀ (i : Nat) (sl : Slot) (ov : Option V), Γ[i]? = some sl → σ[i]? = some ov → SlotOk K ct H₀ H sl ov
  sep : ∀ (i j : Nat) (ds es : List D) (a : Addr), i ≠ j → Γ[i]? = some (.ml ds) → Γ[j]? = some (.ml es) → σ[i]? = some (some (.ref a)) → ¬ σ[j]? = some (some (.ref a))
theorem SlotOk.same {K : PySem.W.Frag} {ct : Ct} {H₀ H H' : Hp} {sl : Slot} {ov : Option V} (h : SlotOk K ct H₀ H sl ov) (e : Same H H') : SlotOk K ct H₀ H' sl ov := by
  cases sl with
  | no => trivial
  | val d => obtain ⟨v, h1, h2⟩ := h; exact ⟨v, h1, h2.keep (Same.keep e)⟩
  | ml ds => obtain ⟨a, vs, h1, h2, h3, h4⟩ := h; exact ⟨a, vs, h1, e _ _ h2, h3, h4.keep (Same.keep e)⟩
theorem J.mono {K : PySem.W.Frag} {ct : Ct} {H₀ H H' : Hp} {Γ : Sg} {σ : St} (j : J K ct H₀ Γ σ H) (e : Same H H') : J K ct H₀ Γ σ H' :=
  ⟨j.same.trans e, j.len, fun i sl ov h1 h2 => (j.at' i sl ov h1 h2).same e, j.sep⟩
theorem J.val {K : PySem.W.Frag} {ct : Ct} {H₀ H : Hp} {Γ : Sg} {σ : St} {i : Nat} {d : D} (j : J K ct H₀ Γ σ H) (h : Γ[i]? = some (.val d)) : ∃ v, σ[i]? = some (some v) ∧ Tl K ct H d v := by
  have hi : i < σ.length := by rw [← j.len]; exact (List.getElem?_eq_some_iff.mp h).1
  obtain ⟨v, h1, h2⟩ := j.at' i _ σ[i] h (List.getElem?_eq_getElem hi)
  exact ⟨v, by rw [List.getElem?_eq_getElem hi, h1], h2⟩
theorem J.ml {K : PySem.W.Frag} {ct : Ct} {H₀ H : Hp} {Γ : Sg} {σ : St} {i : Nat} {ds : List D} (j : J K ct H₀ Γ σ H) (h : Γ[i]? = some (.ml ds)) : ∃ a vs, σ[i]? = some (some (.ref a)) ∧ H a = some (.lst vs) ∧ H₀ a = none ∧ Tls K ct H ds vs := by
  have hi : i < σ.length := by rw [← j.len]; exact (List.getElem?_eq_some_iff.mp h).1
  obtain ⟨a, vs, h1, h2⟩ := j.at' i _ σ[i] h (List.getElem?_eq_getElem hi)
  exact ⟨a, vs, by rw [List.getElem?_eq_getElem hi, h1], h2⟩
/-- a name is given data -/
theorem J.set {K : PySem.W.Frag} {ct : Ct} {H₀ H : Hp} {Γ : Sg} {σ : St} {i : Nat} {d : D} {v : V} (j : J K ct H₀ Γ σ H) (h : Tl K ct H d v) : J K ct H₀ (Γ.set i (.val d)) (σ.set i (some v)) H := by
  refine ⟨j.same, by simp [j.len], fun k sl ov h1 h2 => ?_, fun k l ds es a hkl h1 h2 h3 => ?_⟩
  · by_cases e : i = k
    · subst e
      by_cases hi : i < σ.length
      · rw [List.getElem?_set_self (by rw [j.len]; exact hi)] at h1
        rw [List.getElem?_set_self hi] at h2
        cases h1; cases h2
        exact ⟨v, rfl, h⟩
      · rw [List.getElem?_eq_none (by rw [List.length_set]; omega)] at h2
        cases h2
    · rw [List.getElem?_set_ne e] at h1 h2
      exact j.at' k sl ov h1 h2
  · by_cases e : i = k
    · subst e
      by_cases hi : i < Γ.length
      · rw [List.getElem?_set_self hi] at h1; cases h1
      · rw [List.getElem?_eq_none (by rw [List.length_set]; omega)] at h1; cases h1
    · by_cases e2 : i = l
      · subst e2
        by_cases hi : i < Γ.length
        · rw [List.getElem?_set_self hi] at h2; cases h2
        · rw [List.getElem?_eq_none (by rw [List.length_set]; omega)] at h2; cases h2
      · rw [List.getElem?_set_ne e] at h1 h3
        rw [List.getElem?_set_ne e2] at h2 ⊢
        exact j.sep k l ds es a hkl h1 h2 h3
/-- a name is given a new list -/
theorem J.setL {K : PySem.W.Frag} {ct : Ct} {H₀ H : Hp} {Γ : Sg} {σ : St} {i : Nat} {ds : List D} {a : Addr} {vs : List V} (j : J K ct H₀ Γ σ H) (h1 : H a = some (.lst vs)) (h2 : H₀ a = none) (h3 : Tls K ct H ds vs)
    (h4 : ∀ (k : Nat) (es : List D), Γ[k]? = some (.ml es) → ¬ σ[k]? = some (some (.ref a))) : J K ct H₀ (Γ.set i (.ml ds)) (σ.set i (some (.ref a))) H := by
  refine ⟨j.same, by simp [j.len], fun k sl ov g1 g2 => ?_, fun k l es fs b hkl g1 g2 g3 => ?_⟩
  · by_cases e : i = k
    · subst e
      by_cases hi : i < σ.length
      · rw [List.getElem?_set_self (by rw [j.len]; exact hi)] at g1
        rw [List.getElem?_set_self hi] at g2
        cases g1; cases g2
        exact ⟨a, vs, rfl, h1, h2, h3⟩
      · rw [List.getElem?_eq_none (by rw [List.length_set]; omega)] at g2
        cases g2
    · rw [List.getElem?_set_ne e] at g1 g2
      exact j.at' k sl ov g1 g2
  · by_cases e : i = k
    · subst e
      have e2 : ¬ i = l := hkl
      by_cases hi : i < σ.length
      · rw [List.getElem?_set_self hi] at g3
        cases g3
        rw [List.getElem?_set_ne e2] at g2 ⊢
        exact h4 l fs g2
      · rw [List.getElem?_eq_none (by rw [List.length_set]; omega)] at g3; cases g3
    · by_cases e2 : i = l
      · subst e2
        rw [List.getElem?_set_ne e] at g1 g3
        intro g4
        by_cases hi : i < σ.length
        · rw [List.getElem?_set_self hi] at g4
          cases g4
          exact h4 k es g1 g3
        · rw [List.getElem?_eq_none (by rw [List.length_set]; omega)] at g4; cases g4
      · rw [List.getElem?_set_ne e] at g1 g3
        rw [List.getElem?_set_ne e2] at g2 ⊢
        exact j.sep k l es fs b hkl g1 g2 g3
/-- a list of the def's own is changed -/
theorem J.upd {K : PySem.W.Frag} {ct : Ct} {H₀ H : Hp} {Γ : Sg} {σ : St} {i : Nat} {ds es : List D} {a : Addr} {vs ws : List V} (j : J K ct H₀ Γ σ H) (hi : Γ[i]? = some (.ml ds)) (hs : σ[i]? = some (some (.ref a))) (ha : H a = some (.lst vs))
    (h0 : H₀ a = none) (hw : Tls K ct H es ws) : J K ct H₀ (Γ.set i (.ml es)) σ (L2.upd H a (.lst ws)) := by
  have kp : Keep H (L2.upd H a (.lst ws)) := fun b o hb st => by
    have : b ≠ a := by rintro rfl; rw [ha] at hb; cases hb; exact st
    rw [upd_ne this]; exact hb
  refine ⟨fun b o hb => ?_, by simp [j.len], fun k sl ov g1 g2 => ?_, fun k l es' fs b hkl g1 g2 g3 => ?_⟩
  · have : b ≠ a := by rintro rfl; rw [h0] at hb; cases hb
    rw [upd_ne this]; exact j.same b o hb
  · by_cases e : i = k
    · subst e
      rw [List.getElem?_set_self (by rw [j.len]; exact (List.getElem?_eq_some_iff.mp hs).1)] at g1
      rw [hs] at g2
      cases g1; cases g2
      exact ⟨a, ws, rfl, upd_same, h0, hw.keep kp⟩
    · rw [List.getElem?_set_ne e] at g1
      have q := j.at' k sl ov g1 g2
      cases sl with
      | no => trivial
      | val d => obtain ⟨v, q1, q2⟩ := q; exact ⟨v, q1, q2.keep kp⟩
      | ml fs =>
        obtain ⟨b, us, q1, q2, q3, q4⟩ := q
        have : b ≠ a := by
          rintro rfl
          rw [q1] at g2
          exact j.sep i k ds fs b e hi g1 hs g2
        exact ⟨b, us, q1, by rw [upd_ne this]; exact q2, q3, q4.keep kp⟩
  · have f1 : ∃ es'', Γ[k]? = some (.ml es'') := by
      by_cases e : i = k
      · subst e; exact ⟨ds, hi⟩
      · rw [List.getElem?_set_ne e] at g1; exact ⟨_, g1⟩
    have f2 : ∃ fs'', Γ[l]? = some (.ml fs'') := by
      by_cases e : i = l
      · subst e; exact ⟨ds, hi⟩
      · rw [List.getElem?_set_ne e] at g2; exact ⟨_, g2⟩
    obtain ⟨_, f1⟩ := f1
    obtain ⟨_, f2⟩ := f2
    exact j.sep k l _ _ b hkl f1 f2 g3
end L3
end

section
set_option Elab.async false
set_option linter.all false
set_option maxRecDepth 100000
namespace L3
open PySem PySem.Spec PyProof.Rows L2

/-! ### exceptions: how one lies behind a call; in flight through this frame -/
/-- an exception of the class at C flies through the frames l; whatever keeps what it keeps is the heap H' -/
def CX1 (P : Program) (w : World) : CXT := fun outer H s E e s' => ∃ (a C : Addr) (H' : Hp) (B : Heap) (a0 : Value), e = .ref a ∧ E (.ref C) none H' ∧ s'.os = s.os ∧ AllBare s'.gens ∧ Heap.FlyingW B outer a (.ref C) a0 s'.heap ∧
  H' a = none ∧ s.heap.get? a = none ∧ ∀ h' : Heap, B.StaysIn h' → s'.heap.UpToSlots h' → Un (frs outer) [] H H' s.heap h' ∧ HOk P w H' h'
/-- raised here, or come out of a call -/
def RaisedAt (X : Cx) (ct : Ct) (σ : St) (H : Hp) (c : String) (e : Value) (s' : Shared) : Prop :=
  ∃ (pins : List (Addr × Obj)) (H1 : Hp) (s1 : Shared) (C : Addr), Inv X pins σ H1 s1 ∧ Same H H1 ∧ ct c = some C ∧
    ((∃ (a : Addr) (args : List Value) (h' : Heap), e = .ref a ∧ s' = { s1 with heap := h' } ∧ Heap.MadeExcOf s1.heap h' a (.ref C) args) ∨
     CX1 X.prog X.w X.stack H1 s1 (fun cls od H' => cls = .ref C ∧ od = none ∧ Same H1 H') e s')
theorem RaisedAt.mono {X : Cx} {ct : Ct} {σ : St} {H H2 : Hp} {c : String} {e : Value} {s' : Shared} (s : Same H H2) (h : RaisedAt X ct σ H2 c e s') : RaisedAt X ct σ H c e s' := by
  obtain ⟨pins, H1, s1, C, h1, h2, h3⟩ := h
  exact ⟨pins, H1, s1, C, h1, s.trans h2, h3⟩

/-! ### what is wanted of an outcome -/
/-- W: what is wanted of a value told; an exception must be as the body wants it -/
def Ok {α : Type} (X : Cx) (ct : Ct) (σ : St) (H : Hp) (r : Res α) (W : α → Prop) : Prop := match r with
  | .ok d => W d
  | .err c => ∀ e s', RaisedAt X ct σ H c e s' → X.xe e s'
  | .bad => False
theorem Ok.mono {α : Type} {X : Cx} {ct : Ct} {σ : St} {H H2 : Hp} {r : Res α} {W W' : α → Prop} (s : Same H H2) (h : Ok X ct σ H r W) (k : ∀ d, W d → W' d) : Ok X ct σ H2 r W' := by
  cases r with
  | ok d => exact k d h
  | err c => exact fun e s' q => h e s' (q.mono s)
  | bad => exact h
theorem Ok.bnd {α β : Type} {X : Cx} {ct : Ct} {σ : St} {H : Hp} {r : Res α} {f : α → Res β} {W : β → Prop} {W' : α → Prop} (h : Ok X ct σ H (r.bnd f) W) (k : ∀ d, r = .ok d → Ok X ct σ H (f d) W → W' d) : Ok X ct σ H r W' := by
  cases r with
  | ok d => exact k d rfl h
  | err c => exact h
  | bad => exact h
/-- the value v at H' tells d, and H is kept -/
def Wd (X : Cx) (ct : Ct) (H : Hp) (Q : VK) (d : D) : Prop := ∀ v H', Same H H' → Tl X.K ct H' d v → Q v H'
def Wl (X : Cx) (ct : Ct) (H : Hp) (Q : VK) (ds : List D) : Prop := ∀ a vs H', Same H H' → H a = none → H' a = some (.lst vs) → Tls X.K ct H' ds vs → Q (.ref a) H'
def Wt (H : Hp) (Q : Bool → Hp → Prop) (b : Bool) : Prop := ∀ H', Same H H' → Q b H'
def Wa (X : Cx) (ct : Ct) (H : Hp) (Q : List V → Hp → Prop) (ds : List D) : Prop := ∀ vs H', Same H H' → Tls X.K ct H' ds vs → Q vs H'
/-- the names that the readings see -/
abbrev Jx (X : Cx) (ct : Ct) (Γ : Sg) (σ : St) (H : Hp) : Prop := J X.K ct X.H₀ Γ σ H
/-- readings -/
def eOf (X : Cx) (ct : Ct) (f : Sg → Res D) : TE := fun σ H Q => ∃ Γ, Jx X ct Γ σ H ∧ Ok X ct σ H (f Γ) (Wd X ct H Q)
def lOf (X : Cx) (ct : Ct) (f : Sg → Res (List D)) : TE := fun σ H Q => ∃ Γ, Jx X ct Γ σ H ∧ Ok X ct σ H (f Γ) (Wl X ct H Q)
def cOf (X : Cx) (ct : Ct) (f : Sg → Res Bool) : TT := fun σ H Q => ∃ Γ, Jx X ct Γ σ H ∧ Ok X ct σ H (f Γ) (Wt H Q)
def aOf (X : Cx) (ct : Ct) (f : Sg → Res (List D)) : TA := fun σ H Q => ∃ Γ, Jx X ct Γ σ H ∧ Ok X ct σ H (f Γ) (Wa X ct H Q)
abbrev PD (X : Cx) (ct : Ct) (e : Expr) (f : Sg → Res D) : Prop := PE X e (eOf X ct f)
abbrev PL (X : Cx) (ct : Ct) (e : Expr) (f : Sg → Res (List D)) : Prop := PE X e (lOf X ct f)
abbrev PDT (X : Cx) (ct : Ct) (e : Expr) (f : Sg → Res Bool) : Prop := PT X e (cOf X ct f)
abbrev PDW (X : Cx) (ct : Ct) (e : Expr) (f : Sg → Res Bool) : Prop := PW X e (cOf X ct f)
abbrev PDA (X : Cx) (ct : Ct) (es : List Expr) (f : Sg → Res (List D)) : Prop := PA X es (aOf X ct f)
def Fn (X : Cx) (ct : Ct) (H : Hp) (o : Out) (E : Ends) : Prop := match o with
  | .nx Γ => ∀ σ' H', Keep H H' → Jx X ct Γ σ' H' → E.nx σ' H'
  | .bk Γ => ∀ σ' H', Keep H H' → Jx X ct Γ σ' H' → E.bk σ' H'
  | .ct Γ => ∀ σ' H', Keep H H' → Jx X ct Γ σ' H' → E.ct σ' H'
  | .rt d => ∀ v H', Same X.H₀ H' → Tl X.K ct H' d v → E.rt v H'
  | .rtl ds => ∀ a vs H', Same X.H₀ H' → X.H₀ a = none → H' a = some (.lst vs) → Tls X.K ct H' ds vs → E.rt (.ref a) H'
  | .err c Γ => ∀ σ' H' e s', Keep H H' → Jx X ct Γ σ' H' → RaisedAt X ct σ' H' c e s' → X.xe e s'
  | .bad => False
theorem Fn.mono {X : Cx} {ct : Ct} {H H2 : Hp} {o : Out} {E : Ends} (k : Keep H H2) (h : Fn X ct H o E) : Fn X ct H2 o E := by
  cases o with
  | nx Γ => exact fun σ' H' e => h σ' H' (k.trans e)
  | bk Γ => exact fun σ' H' e => h σ' H' (k.trans e)
  | ct Γ => exact fun σ' H' e => h σ' H' (k.trans e)
  | rt d => exact h
  | rtl ds => exact h
  | err c Γ => exact fun σ' H' e s' q => h σ' H' e s' (k.trans q)
  | bad => exact h
def sOf (X : Cx) (ct : Ct) (F : Sg → Out) : TS := fun E σ H => ∃ Γ, Jx X ct Γ σ H ∧ Fn X ct H (F Γ) E
abbrev PDS (X : Cx) (ct : Ct) (st : Stmt) (F : Sg → Out) : Prop := PS X st (sOf X ct F)
abbrev PDSs (X : Cx) (ct : Ct) (sts : List Stmt) (F : Sg → Out) : Prop := PSs X sts (sOf X ct F)

section
variable {X : Cx} {ct : Ct} {a b e : Expr} {f g : Sg → Res D} {H : Hp} {Γ : Sg} {σ : St} {pos : Pos}
theorem PE.imp {t u : TE} (h : PE X e t) (k : ∀ σ H Q, u σ H Q → t σ H Q) : PE X e u := fun pins s σ H Q I q => h pins s σ H Q I (k σ H Q q)
theorem PT.imp {t u : TT} (h : PT X e t) (k : ∀ σ H Q, u σ H Q → t σ H Q) : PT X e u := fun pins s σ H Q I q => h pins s σ H Q I (k σ H Q q)
theorem PW.imp {t u : TT} (h : PW X e t) (k : ∀ σ H Q, u σ H Q → t σ H Q) : PW X e u := fun wh pins s σ H Q I q => h wh pins s σ H Q I (k σ H Q q)
theorem PA.imp {es : List Expr} {t u : TA} (h : PA X es t) (k : ∀ σ H Q, u σ H Q → t σ H Q) : PA X es u := fun pos pins s σ H Q I q => h pos pins s σ H Q I (k σ H Q q)
theorem PS.imp {st : Stmt} {t u : TS} (h : PS X st t) (k : ∀ E σ H, u E σ H → t E σ H) : PS X st u := fun pins s σ H E I q => h pins s σ H E I (k E σ H q)
theorem PSs.imp {st : List Stmt} {t u : TS} (h : PSs X st t) (k : ∀ E σ H, u E σ H → t E σ H) : PSs X st u := fun pins s σ H E I q => h pins s σ H E I (k E σ H q)
/-- a part's value, then what follows -/
theorem eOf.bnd {β : Type} {r : D → Res β} {W : β → Prop} {Q : VK} (j : Jx X ct Γ σ H) (h : Ok X ct σ H ((f Γ).bnd r) W)
    (k : ∀ d v H', Same H H' → Tl X.K ct H' d v → Jx X ct Γ σ H' → Ok X ct σ H (r d) W → Q v H') : eOf X ct f σ H Q :=
  ⟨Γ, j, h.bnd fun d _ q v H' s t => k d v H' s t (j.mono s) q⟩
theorem aOf.bnd {fa : Sg → Res (List D)} {β : Type} {r : List D → Res β} {W : β → Prop} {Q : List V → Hp → Prop} (j : Jx X ct Γ σ H) (h : Ok X ct σ H ((fa Γ).bnd r) W)
    (k : ∀ d v H', Same H H' → Tls X.K ct H' d v → Jx X ct Γ σ H' → Ok X ct σ H (r d) W → Q v H') : aOf X ct fa σ H Q :=
  ⟨Γ, j, h.bnd fun d _ q v H' s t => k d v H' s t (j.mono s) q⟩
theorem cOf.bnd {fa : Sg → Res Bool} {β : Type} {r : Bool → Res β} {W : β → Prop} {Q : Bool → Hp → Prop} (j : Jx X ct Γ σ H) (h : Ok X ct σ H ((fa Γ).bnd r) W)
    (k : ∀ d H', Same H H' → Jx X ct Γ σ H' → Ok X ct σ H (r d) W → Q d H') : cOf X ct fa σ H Q :=
  ⟨Γ, j, h.bnd fun d _ q H' s => k d H' s (j.mono s) q⟩
theorem Wd.mono {H2 : Hp} {Q : VK} {d : D} (s : Same H H2) (h : Wd X ct H Q d) : Wd X ct H2 Q d := fun v H' e t => h v H' (s.trans e) t
theorem Wl.mono {H2 : Hp} {Q : VK} {d : List D} (s : Same H H2) (h : Wl X ct H Q d) : Wl X ct H2 Q d := fun a vs H' e n t => h a vs H' (s.trans e) (s.free n) t
theorem Wa.mono {H2 : Hp} {Q : List V → Hp → Prop} {d : List D} (s : Same H H2) (h : Wa X ct H Q d) : Wa X ct H2 Q d := fun v H' e t => h v H' (s.trans e) t
theorem Wt.mono {H2 : Hp} {Q : Bool → Hp → Prop} {d : Bool} (s : Same H H2) (h : Wt H Q d) : Wt H2 Q d := fun H' e => h H' (s.trans e)

/-! ### names and constants -/
theorem pd_var (i : Nat) {x : Str} {pos : Pos} (hN : X.N[i]? = some x := by rfl) (hv : Vis X.env.scope x := by first | exact Or.inl rfl | exact Or.inr (Or.inl rfl) | exact Or.inr (Or.inr rfl)) (hd : (x == ("__debug__" : Str)) = false := by decide)
    (hcd : (x == ("__classdict__" : Str)) = false := by decide) : PD X ct (.Name x pos) (dVar i) := by
  refine PE.imp (pe_var hN hv hd hcd) fun σ H Q ⟨Γ, j, h⟩ => ?_
  unfold dVar at h
  split at h
  · rename_i d hd'
    obtain ⟨v, h1, h2⟩ := j.val hd'
    exact ⟨v, h1, h v H (Same.refl H) h2⟩
  · exact h.elim
theorem pd_int {i k pos} : PD X ct (.Constant (.int i) k pos) (dC (.int i)) := PE.imp pe_int fun σ H Q ⟨Γ, j, h⟩ => h _ H (Same.refl H) (by simp [Tl])
theorem pd_bl {b k pos} : PD X ct (.Constant (.bool b) k pos) (dC (.bl b)) := PE.imp pe_bl fun σ H Q ⟨Γ, j, h⟩ => h _ H (Same.refl H) (by simp [Tl])
theorem pd_non {k pos} : PD X ct (.Constant .none k pos) (dC .non) := PE.imp pe_non fun σ H Q ⟨Γ, j, h⟩ => h _ H (Same.refl H) (by simp [Tl])
theorem pd_str {x k pos} : PD X ct (.Constant (.str x) k pos) (dC (.str x)) := PE.imp pe_str fun σ H Q ⟨Γ, j, h⟩ => h _ H (Same.refl H) (by simp [Tl])
/-- a constant of the module -/
theorem pd_glob {x : Str} {d : D} {v : V} {u : Value} {pos : Pos} (hg : Gl X x) (hm : X.mg x = some u) (r : RelV v u) (t : ∀ H, Tl X.K ct H d v) (hd : (x == ("__debug__" : Str)) = false := by decide) : PD X ct (.Name x pos) (dC d) :=
  PE.imp (pe_glob hg hm r hd) fun σ H Q ⟨Γ, j, h⟩ => h _ H (Same.refl H) (t H)

/-! ### operators -/
/-- two values told -/
def Op2 (X : Cx) (ct : Ct) (r2 : R2) (r : D → D → Res D) : Prop :=
  ∀ (σ : St) (H : Hp) (x y : V) (d1 d2 : D) (Q : VK), Same X.H₀ H → Tl X.K ct H d1 x → Tl X.K ct H d2 y → Ok X ct σ H (r d1 d2) (Wd X ct H Q) → r2 x y H Q
theorem op2_of {r2 : R2} {r : D → D → Res D} (ho : Op2 X ct r2 r) : ∀ σ H Q, eOf X ct (dOp r f g) σ H Q → tOp r2 (eOf X ct f) (eOf X ct g) σ H Q := by
  rintro σ H Q ⟨Γ, j, h⟩
  refine eOf.bnd j h fun d1 v H1 s1 t1 j1 h1 => ?_
  refine eOf.bnd (W := Wd X ct H Q) j1 (Ok.mono s1 h1 fun _ z => z) fun d2 u H2 s2 t2 j2 h2 => ?_
  exact ho σ H2 v u d1 d2 Q j2.same (t1.keep (Same.keep s2)) t2 (Ok.mono s2 h2 fun d q => q.mono (s1.trans s2))
theorem pd_op {op : Operator} {r2 : R2} {r : D → D → Res D} (hr : OpR X (binaryOp op) r2) (ho : Op2 X ct r2 r) (ha : PD X ct a f) (hb : PD X ct b g) : PD X ct (.BinOp a op b pos) (dOp r f g) :=
  PE.imp (pe_op hr ha hb) (op2_of ho)
theorem pd_cmp {op : CmpOp} {r2 : R2} {r : D → D → Res D} (hr : OpR X (compareOp op) r2) (ho : Op2 X ct r2 r) (ha : PD X ct a f) (hb : PD X ct b g) (hm : behindInMarks op b = false) : PD X ct (.Compare a [op] [b] pos) (dOp r f g) :=
  PE.imp (pe_cmpR hr ha hb hm) (op2_of ho)
theorem tst_of {t : TE} (k : ∀ σ H Q, eOf X ct f σ H Q → t σ H Q) : ∀ σ H Q, cOf X ct (dT f) σ H Q → tTest t σ H Q := by
  rintro σ H Q ⟨Γ, j, h⟩
  refine k σ H _ (eOf.bnd j h fun d v H' s t j' h' => ?_)
  cases d with
  | bl b => simp only [Tl] at t; exact ⟨b, t, h' H' s⟩
  | _ => exact h'.elim
theorem pdt_cmp {op : CmpOp} {r2 : R2} {r : D → D → Res D} (hr : OpR X (compareOp op) r2) (ho : Op2 X ct r2 r) (ha : PD X ct a f) (hb : PD X ct b g) (hm : behindInMarks op b = false) : PDT X ct (.Compare a [op] [b] pos) (dT (dOp r f g)) :=
  PT.imp (pt_cmpR hr ha hb hm) (tst_of (op2_of ho))
/-- a value that is a bool, as a test -/
theorem pdt_val (ha : PD X ct e f) (he : ∀ whole, isTrue e X.env whole = (do let v ← whole; standAt e.pos; holding [v] (truthy v)) := by intro _; rfl) : PDT X ct e (dT f) := PT.imp (pt_val ha he) (tst_of fun _ _ _ z => z)
theorem Tls.isEmpty {K : PySem.W.Frag} {ds : List D} {vs : List V} (h : Tls K ct H ds vs) : ds.isEmpty = vs.isEmpty := by
  have := h.length
  cases ds <;> cases vs <;> simp_all
theorem pdt_tru (ha : PD X ct e f) (he : ∀ whole, isTrue e X.env whole = (do let v ← whole; standAt e.pos; holding [v] (truthy v)) := by intro _; rfl) : PDT X ct e (dTru f) := by
  refine PT.imp (pt_truth ha he) fun σ H Q ⟨Γ, j, h⟩ => ?_
  refine eOf.bnd j h fun d v H' s t j' h' => ?_
  cases d with
  | non => simp only [Tl] at t; subst t; exact ⟨false, rfl, h' H' s⟩
  | bl b => simp only [Tl] at t; subst t; exact ⟨b, rfl, h' H' s⟩
  | int i => simp only [Tl] at t; subst t; exact ⟨_, rfl, h' H' s⟩
  | str x =>
    simp only [Tl] at t; subst t
    simp only [tru] at h'
    split at h'
    · rename_i hx; exact ⟨_, ⟨hx, rfl⟩, h' H' s⟩
    · exact h'.elim
  | lst ds =>
    simp only [Tl] at t
    obtain ⟨a, vs, rfl, t1, t2⟩ := t
    exact ⟨_, .inl ⟨vs, t1.sq, by rw [← t2.isEmpty]⟩, h' H' s⟩
  | tup ds =>
    simp only [Tl] at t
    obtain ⟨a, vs, rfl, t1, t2⟩ := t
    exact ⟨_, .inr (.inl ⟨vs, t1, by rw [← t2.isEmpty]⟩), h' H' s⟩
  | _ => exact h'.elim
/-! ### and, or, not -/
variable {p q : Sg → Res Bool} {rest : List Expr}
theorem pdw_and1 (ha : PDT X ct a p) : PDW X ct (.BoolOp .And [a] pos) p := pw_and1 ha
theorem pdw_or1 (ha : PDT X ct a p) : PDW X ct (.BoolOp .Or [a] pos) p := pw_or1 ha
theorem pdw_and (ha : PDT X ct a p) (hb : PDW X ct (.BoolOp .And (b :: rest) pos) q) : PDW X ct (.BoolOp .And (a :: b :: rest) pos) (cAnd p q) := by
  refine PW.imp (pw_and ha hb) fun σ H Q ⟨Γ, j, h⟩ => ?_
  refine cOf.bnd j h fun c H' s j' h' => ?_
  cases c with
  | true => exact iteT ⟨Γ, j', Ok.mono s h' fun d z => z.mono s⟩
  | false => exact iteF (h' H' s)
theorem pdw_or (ha : PDT X ct a p) (hb : PDW X ct (.BoolOp .Or (b :: rest) pos) q) : PDW X ct (.BoolOp .Or (a :: b :: rest) pos) (cOr p q) := by
  refine PW.imp (pw_or ha hb) fun σ H Q ⟨Γ, j, h⟩ => ?_
  refine cOf.bnd j h fun c H' s j' h' => ?_
  cases c with
  | true => exact iteT (h' H' s)
  | false => exact iteF ⟨Γ, j', Ok.mono s h' fun d z => z.mono s⟩
theorem pdt_w {e : Expr} (h : PDW X ct e p) : PDT X ct e p := h.pt
theorem pdt_not (ha : PDT X ct a p) : PDT X ct (.UnaryOp .Not a pos) (cNot p) := by
  refine PT.imp (pt_not ha) fun σ H Q ⟨Γ, j, h⟩ => ?_
  exact cOf.bnd j h fun c H' s j' h' => h' H' s
theorem pd_one {op} (h : PD X ct a f) : PD X ct (.BoolOp op [a] pos) f := pe_one h
theorem pd_and (ha : PD X ct a f) (hb : PD X ct (.BoolOp .And (b :: rest) pos) g) : PD X ct (.BoolOp .And (a :: b :: rest) pos) (dAnd f g) := by
  refine PE.imp (pe_and ha hb) fun σ H Q ⟨Γ, j, h⟩ => ?_
  refine eOf.bnd j h fun d v H' s t j' h' => ?_
  cases d with
  | bl c =>
    simp only [Tl] at t
    refine ⟨c, t, ?_⟩
    cases c with
    | true => exact iteT ⟨Γ, j', Ok.mono s h' fun d z => z.mono s⟩
    | false => exact iteF (h' _ H' s (by simp [Tl]))
  | _ => exact h'.elim
theorem pd_or (ha : PD X ct a f) (hb : PD X ct (.BoolOp .Or (b :: rest) pos) g) : PD X ct (.BoolOp .Or (a :: b :: rest) pos) (dOr f g) := by
  refine PE.imp (pe_or ha hb) fun σ H Q ⟨Γ, j, h⟩ => ?_
  refine eOf.bnd j h fun d v H' s t j' h' => ?_
  cases d with
  | bl c =>
    simp only [Tl] at t
    refine ⟨c, t, ?_⟩
    cases c with
    | true => exact iteT (h' _ H' s (by simp [Tl]))
    | false => exact iteF ⟨Γ, j', Ok.mono s h' fun d z => z.mono s⟩
  | _ => exact h'.elim
theorem pd_not (ha : PD X ct a f) : PD X ct (.UnaryOp .Not a pos) (dNot f) := by
  refine PE.imp (pe_not ha) fun σ H Q ⟨Γ, j, h⟩ => ?_
  refine eOf.bnd j h fun d v H' s t j' h' => ?_
  cases d with
  | bl c => simp only [Tl] at t; exact ⟨c, t, h' _ H' s (by simp [Tl])⟩
  | _ => exact h'.elim
theorem pd_ifExp {c : Expr} (hc : PDT X ct c p) (ha : PD X ct a f) (hb : PD X ct b g) : PD X ct (.IfExp c a b pos) (dIf p f g) := by
  refine PE.imp (pe_ifExp hc ha hb) fun σ H Q ⟨Γ, j, h⟩ => ?_
  refine cOf.bnd j h fun c H' s j' h' => ?_
  cases c with
  | true => exact iteT ⟨Γ, j', Ok.mono s h' fun d z => z.mono s⟩
  | false => exact iteF ⟨Γ, j', Ok.mono s h' fun d z => z.mono s⟩

/-! ### argument lists, tuples, lists -/
theorem pda_nil : PDA X ct [] dNil := PA.imp pa_nil fun σ H Q ⟨Γ, j, h⟩ => h [] H (Same.refl H) Tls.nil
theorem pda_cons {es : List Expr} {r : Sg → Res (List D)} (ha : PD X ct e f) (hr : PDA X ct es r) (hs : starEach (e :: es) X.env = (false, eval e X.env) :: starEach es X.env := by rfl) : PDA X ct (e :: es) (dCons f r) := by
  refine PA.imp (pa_cons ha hr hs) fun σ H Q ⟨Γ, j, h⟩ => ?_
  refine eOf.bnd j h fun d v H1 s1 t1 j1 h1 => ?_
  refine aOf.bnd (W := Wa X ct H Q) j1 (Ok.mono s1 h1 fun _ z => z) fun ds vs H2 s2 t2 j2 h2 => ?_
  exact h2 _ H2 (s1.trans s2) (Tls.cons (t1.keep (Same.keep s2)) t2)
theorem same_new {H : Hp} {p : Addr} (h : H p = none) (o : HO) : Same H (upd H p o) := fun b u q => by rw [upd_ne (ne_of_none q h)]; exact q
theorem pd_tup {es : List Expr} {r : Sg → Res (List D)} {x1} (h : PDA X ct es r) : PD X ct (.Tuple es x1 pos) (dTup r) := by
  refine PE.imp (pe_tup h) fun σ H Q ⟨Γ, j, h⟩ => ?_
  refine aOf.bnd j h fun ds vs H1 s1 t1 j1 h1 => ?_
  split at h1
  · rename_i hl
    refine ⟨Nat.le_of_lt (small1000 (by rw [← t1.length]; exact hl)), fun p hp => ?_⟩
    have s2 := same_new hp (.tup vs)
    refine h1 _ _ (s1.trans s2) ?_
    simp only [Tl]
    exact ⟨p, vs, rfl, .inl (.inl upd_same), t1.keep (Same.keep s2)⟩
  · exact h1.elim
theorem pl_lst {es : List Expr} {r : Sg → Res (List D)} (h : PDA X ct es r) : PL X ct (.List es pos) (dLst r) := by
  refine PE.imp (pe_lst h) fun σ H Q ⟨Γ, j, h⟩ => ?_
  refine aOf.bnd j h fun ds vs H1 s1 t1 j1 h1 => ?_
  split at h1
  · rename_i hl
    refine ⟨Nat.le_of_lt (small1000 (by rw [← t1.length]; exact hl)), fun p hp => ?_⟩
    have s2 := same_new hp (.lst vs)
    exact h1 p vs _ (s1.trans s2) (s1.free hp) upd_same (t1.keep (Same.keep s2))
  · exact h1.elim
end
end L3
end

section
set_option Elab.async false
set_option linter.all false
set_option maxRecDepth 100000
namespace L3
open PySem PySem.Spec PyProof.Rows L2

/-! ### the same heap told otherwise: a list is frozen, a frozen one of the def's own is let go -/
section
variable {X : Cx} {ct : Ct} {pins : List (Addr × Obj)} {σ : St} {H : Hp} {s : Shared} {a : Addr} {o o' : HO} {vs : List V}
theorem Inv.redesc (I : Inv X pins σ H s) (ha : H a = some o) (h0 : X.H₀ a = none) (nt : ∀ xs, o ≠ .tup xs) (no : ∀ y, o ≠ .own y) (new : ObjOk X.prog X.w (upd H a o') s.heap a o') : Inv X pins σ (upd H a o') s := by
  have ne : ∀ b, H b = none → b ≠ a := fun b hb z => by subst z; rw [ha] at hb; cases hb
  have ne0 : ∀ b u, X.H₀ b = some u → b ≠ a := fun b u hb z => by subst z; rw [h0] at hb; cases hb
  refine ⟨I.ok, I.os, I.bare, ⟨I.base.keep, I.base.slot, fun b u q n hx => ?_, I.base.there, fun b xs q => ?_, fun b u v q => ?_, fun b ps q => ?_⟩, I.loc, I.cell, ?_, fun x c h => ?_, fun p hp => ?_, fun b u e => ?_, I.len⟩
  · have := I.base.free b u q n hx
    rw [upd_ne (ne b this)]; exact this
  · rw [upd_ne (ne0 b _ q)]; exact I.base.tups b xs q
  · rw [upd_ne (ne0 b _ q)]; exact I.base.frzs b u v q
  · rw [upd_ne (ne0 b _ q)]; exact I.base.tbls b ps q
  · rw [upd_ne (ne _ I.free)]; exact I.free
  · rw [upd_ne (ne _ (I.freeC x c h))]; exact I.freeC x c h
  · obtain ⟨h1, h2, h3, h4, h5⟩ := I.pin p hp
    exact ⟨h1, by rw [upd_ne (ne _ h2)]; exact h2, h3, h4, h5⟩
  · by_cases hb : b = a
    · subst hb; rw [upd_same] at e; cases e; exact new
    · rw [upd_ne hb] at e
      refine (I.hok b u e).stay (fun c v _ q => q) (fun c q => ?_) (fun c xs q => ?_)
      · have : c ≠ a := by rintro rfl; rw [ha] at q; exact no _ (Option.some.inj q)
        rw [upd_ne this]; exact q
      · have : c ≠ a := by rintro rfl; rw [ha] at q; exact nt _ (Option.some.inj q)
        rw [upd_ne this]; exact q
theorem Inv.freeze (I : Inv X pins σ H s) (ha : H a = some (.lst vs)) (h0 : X.H₀ a = none) : ∃ ob, Inv X pins σ (upd H a (.frz ob (.lst vs))) s := by
  obtain ⟨z, its, n, r, e⟩ := I.hok a _ ha
  refine ⟨_, Inv.redesc I ha h0 (fun _ q => nomatch q) (fun _ q => nomatch q) ⟨e, z, its, n, r, e⟩⟩
theorem Inv.thaw {ob : Obj} (I : Inv X pins σ H s) (ha : H a = some (.frz ob (.lst vs))) (h0 : X.H₀ a = none) : Inv X pins σ (upd H a (.lst vs)) s := by
  obtain ⟨_, z, its, n, r, e⟩ := I.hok a _ ha
  exact Inv.redesc I ha h0 (fun _ q => nomatch q) (fun _ q => nomatch q) ⟨z, its, n, r, e⟩
theorem pd_of_pl {e : Expr} {f : Sg → Res (List D)} (h : PL X ct e f) : PD X ct e (dFz f) := by
  intro pins s σ H Q I ⟨Γ, j, q⟩
  have t : lOf X ct f σ H (fun v H' => ∃ a vs ds, v = .ref a ∧ Same H H' ∧ H a = none ∧ H' a = some (.lst vs) ∧ Tls X.K ct H' ds vs ∧ Wd X ct H Q (.lst ds)) :=
    ⟨Γ, j, q.bnd fun ds _ w a vs H' s n k tl => ⟨a, vs, ds, rfl, s, n, k, tl, w⟩⟩
  refine thn (h pins s σ H _ I t) fun v s1 ⟨x, H1, I1, r1, a, vs, ds, ex, e1, n, ha, tl, w⟩ => ?_
  obtain ⟨ob, I2⟩ := Inv.freeze I1 ha (j.same.free n)
  have s2 : Same H (upd H1 a (.frz ob (.lst vs))) := fun b o hb => by rw [upd_ne (ne_of_none hb n)]; exact e1 b o hb
  have k2 : Keep H1 (upd H1 a (.frz ob (.lst vs))) := fun b o hb st => by
    have : b ≠ a := by rintro rfl; rw [ha] at hb; cases hb; exact st
    rw [upd_ne this]; exact hb
  refine ⟨x, _, I2, r1, w x _ s2 ?_⟩
  subst ex
  simp only [Tl]
  exact ⟨a, vs, rfl, .inl ⟨ob, upd_same⟩, tl.keep k2⟩
end

/-! ### statements -/
section
variable {X : Cx} {ct : Ct} {st : Stmt} {rest : List Stmt} {F G : Sg → Out} {e : Expr} {f : Sg → Res D} {fl : Sg → Res (List D)} {p : Sg → Res Bool} {pos : Pos} {H : Hp} {Γ : Sg} {σ : St}
theorem Fn.ok {α : Type} {r : Res α} {k : α → Out} {E : Ends} {W : α → Prop} (j : Jx X ct Γ σ H) (h : Fn X ct H (oE r Γ k) E) (w : ∀ d, r = .ok d → Fn X ct H (k d) E → W d) : Ok X ct σ H r W := by
  cases r with
  | ok d => exact w d rfl h
  | err c => exact fun e s' q => h σ H e s' (Keep.refl H) j q
  | bad => exact h.elim
theorem pdss_nil : PDSs X ct [] sNext := PSs.imp pss_nil fun E σ H ⟨Γ, j, h⟩ => h σ H (Keep.refl H) j
theorem pdss_cons (h1 : PDS X ct st F) (h2 : PDSs X ct rest G) : PDSs X ct (st :: rest) (sSeq F G) := by
  refine PSs.imp (pss_cons h1 h2) fun E σ H ⟨Γ, j, h⟩ => ⟨Γ, j, ?_⟩
  unfold sSeq at h
  cases q : F Γ with
  | nx Γ' =>
    rw [q] at h
    exact fun σ' H' k j' => ⟨Γ', j', h.mono k⟩
  | bk Γ' => rw [q] at h; exact h
  | ct Γ' => rw [q] at h; exact h
  | rt d => rw [q] at h; exact h
  | rtl ds => rw [q] at h; exact h
  | err c Γ' => rw [q] at h; exact h
  | bad => rw [q] at h; exact h
theorem pdss_one (h1 : PDS X ct st F) : PDSs X ct [st] F := pss_one h1
theorem pds_pass : PDS X ct (.Pass pos) sNext := PS.imp ps_pass fun E σ H ⟨Γ, j, h⟩ => h σ H (Keep.refl H) j
theorem pds_break : PDS X ct (.Break pos) (fun Γ => .bk Γ) := PS.imp ps_break fun E σ H ⟨Γ, j, h⟩ => h σ H (Keep.refl H) j
theorem pds_cont : PDS X ct (.Continue pos) (fun Γ => .ct Γ) := PS.imp ps_continue fun E σ H ⟨Γ, j, h⟩ => h σ H (Keep.refl H) j
theorem pds_doc {x k pos'} : PDS X ct (.Expr (.Constant (.str x) k pos) pos') sNext := PS.imp ps_doc fun E σ H ⟨Γ, j, h⟩ => h σ H (Keep.refl H) j
theorem pds_expr (he : PD X ct e f) (hs : swapsWith e none pos.line X.env = pure false := by rfl) : PDS X ct (.Expr e pos) (sDrop f) :=
  PS.imp (ps_expr he hs) fun E σ H ⟨Γ, j, h⟩ => ⟨Γ, j, h.ok j fun d _ q v H' s t => q σ H' (Same.keep s) (j.mono s)⟩
theorem pds_ret (he : PD X ct e f) : PDS X ct (.Return (some e) pos) (sRet f) :=
  PS.imp (ps_ret he) fun E σ H ⟨Γ, j, h⟩ => ⟨Γ, j, h.ok j fun d _ q v H' s t => q v H' (j.same.trans s) t⟩
theorem pds_retL (he : PL X ct e fl) : PDS X ct (.Return (some e) pos) (sRetL fl) :=
  PS.imp (ps_ret he) fun E σ H ⟨Γ, j, h⟩ => ⟨Γ, j, h.ok j fun d _ q a vs H' s n t1 t2 => q a vs H' (j.same.trans s) (j.same.free n) t1 t2⟩
theorem pds_retN : PDS X ct (.Return none pos) sRetN := PS.imp ps_retN fun E σ H ⟨Γ, j, h⟩ => h .non H j.same (by simp [Tl])
theorem pds_retM (i : Nat) {x : Str} {pos' : Pos} (hN : X.N[i]? = some x := by rfl) (hv : Vis X.env.scope x := by first | exact Or.inl rfl | exact Or.inr (Or.inl rfl) | exact Or.inr (Or.inr rfl)) (hd : (x == ("__debug__" : Str)) = false := by decide)
    (hcd : (x == ("__classdict__" : Str)) = false := by decide) : PDS X ct (.Return (some (.Name x pos')) pos) (sRetM i) := by
  refine PS.imp (ps_ret (pe_var hN hv hd hcd)) fun E σ H ⟨Γ, j, h⟩ => ?_
  unfold sRetM at h
  split at h
  · rename_i ds hi
    obtain ⟨a, vs, h1, h2, h3, h4⟩ := j.ml hi
    exact ⟨_, h1, h a vs H j.same h3 h2 h4⟩
  · rename_i d hi
    obtain ⟨v, h1, h2⟩ := j.val hi
    exact ⟨_, h1, h v H j.same h2⟩
  · exact h.elim
theorem pds_if {c : Expr} {a b : List Stmt} (hc : PDT X ct c p) (ha : PDSs X ct a F) (hb : PDSs X ct b G) : PDS X ct (.If c a b pos) (sIf p F G) := by
  refine PS.imp (ps_if hc ha hb) fun E σ H ⟨Γ, j, h⟩ => ⟨Γ, j, h.ok j fun c _ q H' s => ?_⟩
  cases c with
  | true => exact iteT ⟨Γ, j.mono s, Fn.mono (Same.keep s) q⟩
  | false => exact iteF ⟨Γ, j.mono s, Fn.mono (Same.keep s) q⟩
theorem pds_set (i : Nat) {x : Str} {pos' : Pos} (hN : X.N.Nodup) (he : PD X ct e f) (hi : X.N[i]? = some x := by rfl) (hx : Loc X.env.scope x := by first | exact Or.inl rfl | exact Or.inr rfl) (hs : swapsWith e (some (.Name x pos')) pos.line X.env = pure false := by rfl)
    (hf : X.fn x = true ∨ X.env.scope.names.lookup x = some .local := by first | exact .inl rfl | exact .inr rfl) : PDS X ct (.Assign [.Name x pos'] e pos) (sSet i f) :=
  PS.imp (ps_set hN hi hx he hs hf) fun E σ H ⟨Γ, j, h⟩ => ⟨Γ, j, h.ok j fun d _ q v H' s t => q _ H' (Same.keep s) ((j.mono s).set t)⟩
theorem pds_setL (i : Nat) {x : Str} {pos' : Pos} (hN : X.N.Nodup) (he : PL X ct e fl) (hi : X.N[i]? = some x := by rfl) (hx : Loc X.env.scope x := by first | exact Or.inl rfl | exact Or.inr rfl) (hs : swapsWith e (some (.Name x pos')) pos.line X.env = pure false := by rfl)
    (hf : X.fn x = true ∨ X.env.scope.names.lookup x = some .local := by first | exact .inl rfl | exact .inr rfl) : PDS X ct (.Assign [.Name x pos'] e pos) (sSetL i fl) :=
  PS.imp (ps_set hN hi hx he hs hf) fun E σ H ⟨Γ, j, h⟩ => ⟨Γ, j, h.ok j fun d _ q a vs H' s n t1 t2 => q _ H' (Same.keep s) ((j.mono s).setL t1 (j.same.free n) t2 fun k es g1 g2 => by
    obtain ⟨b, us, g3, g4, _⟩ := j.ml g1
    rw [g3] at g2; cases g2
    rw [n] at g4; cases g4)⟩
end
end L3
end

section
set_option Elab.async false
set_option linter.all false
set_option maxRecDepth 100000
namespace L3
open PySem PySem.Spec PyProof.Rows L2

/-! ### targets -/
section
variable {X : Cx} {ct : Ct} {tg : Expr} {H : Hp} {Γ : Sg} {σ : St} {pos : Pos}
def gOf (X : Cx) (ct : Ct) (t : Tg) : TG := fun v σ H Q => ∃ Γ d Γ', Jx X ct Γ σ H ∧ Tl X.K ct H d v ∧ t d Γ = some Γ' ∧ ∀ σ', Jx X ct Γ' σ' H → Q σ' H
def gsOf (X : Cx) (ct : Ct) (t : Tgs) : TGs := fun vs σ H Q => ∃ Γ ds Γ', Jx X ct Γ σ H ∧ Tls X.K ct H ds vs ∧ t ds Γ = some Γ' ∧ ∀ σ', Jx X ct Γ' σ' H → Q σ' H
theorem PG.imp {t u : TG} (h : PG X tg t) (k : ∀ v σ H Q, u v σ H Q → t v σ H Q) : PG X tg u := fun pins s σ H v w Q I r q => h pins s σ H v w Q I r (k v σ H Q q)
theorem PGs.imp {es : List Expr} {t u : TGs} (h : PGs X es t) (k : ∀ v σ H Q, u v σ H Q → t v σ H Q) : PGs X es u := fun pins s σ H v w Q I r q => h pins s σ H v w Q I r (k v σ H Q q)
abbrev PGD (X : Cx) (ct : Ct) (tg : Expr) (t : Tg) : Prop := PG X tg (gOf X ct t)
abbrev PGDs (X : Cx) (ct : Ct) (tg : List Expr) (t : Tgs) : Prop := PGs X tg (gsOf X ct t)
theorem pgd_name (i : Nat) {x : Str} (hN : X.N.Nodup) (hi : X.N[i]? = some x := by rfl) (hx : Loc X.env.scope x := by first | exact Or.inl rfl | exact Or.inr rfl) (hf : X.fn x = true ∨ X.env.scope.names.lookup x = some .local := by first | exact .inl rfl | exact .inr rfl) :
    PGD X ct (.Name x pos) (tgName i) := by
  refine PG.imp (pg_name hN hi hx hf) ?_
  rintro v σ H Q ⟨Γ, d, Γ', j, t, e, q⟩
  cases e
  exact q _ (j.set t)
theorem pgds_nil : PGDs X ct [] tgNil := by
  refine PGs.imp pgs_nil ?_
  rintro vs σ H Q ⟨Γ, ds, Γ', j, t, e, q⟩
  cases ds with
  | nil => simp only [Tls] at t; cases e; exact ⟨t, q _ j⟩
  | cons d r => cases e
theorem pgds_cons {e : Expr} {es : List Expr} {t : Tg} {u : Tgs} (h1 : PGD X ct e t) (h2 : PGDs X ct es u)
    (hs : (assignEach (e :: es) X.env).map (·.2) = assign e X.env :: (assignEach es X.env).map (·.2) := by rfl) : PGDs X ct (e :: es) (tgCons t u) := by
  refine PGs.imp (pgs_cons h1 h2 hs) ?_
  rintro vs σ H Q ⟨Γ, ds, Γ', j, tl, e, q⟩
  cases ds with
  | nil => cases e
  | cons d r =>
    simp only [Tls] at tl
    obtain ⟨v, vr, rfl, t1, t2⟩ := tl
    simp only [tgCons, Option.bind_eq_some_iff] at e
    obtain ⟨Γ1, e1, e2⟩ := e
    exact ⟨v, vr, rfl, Γ, d, Γ1, j, t1, e1, fun σ' j' => ⟨Γ1, r, Γ', j', t2, e2, q⟩⟩
theorem pgd_tup {es : List Expr} {k : Nat} {t : Tgs} {n : Nat} (hc : X.calm = true) (h : PGDs X ct es t)
    (hn : (assignEach es X.env).length = n := by rfl) (hst : (assignEach es X.env).findIdx? (·.1) = none := by rfl) : PGD X ct (.Tuple es k pos) (tgTup n t) := by
  refine PG.imp (pg_tup hc h hn hst) ?_
  rintro v σ H Q ⟨Γ, d, Γ', j, tl, e, q⟩
  cases d with
  | tup ds =>
    simp only [Tl] at tl
    obtain ⟨a, vs, rfl, h1, h2⟩ := tl
    simp only [tgTup] at e
    split at e
    · rename_i hl
      exact ⟨a, vs, rfl, h1, by rw [← h2.length]; exact hl, Γ, ds, Γ', j, h2, e, q⟩
    · cases e
  | _ => cases e
theorem pds_asg {e : Expr} {f : Sg → Res D} {t : Tg} (he : PD X ct e f) (hg : PGD X ct tg t) (hs : swapsWithSole [tg] e pos.line X.env = pure false := by rfl) (hw : swappedStores [tg] e X.env = pure none := by rfl)
    (h1 : (assignEach [tg] X.env).map (·.2) = [assign tg X.env] := by rfl) : PDS X ct (.Assign [tg] e pos) (sAsg f t) := by
  refine PS.imp (ps_asg he hg hs hw h1) fun E σ H ⟨Γ, j, h⟩ => ⟨Γ, j, h.ok j fun d _ q v H' s tl => ?_⟩
  cases e : t d Γ with
  | some Γ' => rw [e] at q; exact ⟨Γ, d, Γ', j.mono s, tl, e, fun σ' j' => q σ' H' (Same.keep s) j'⟩
  | none => rw [e] at q; exact q.elim
theorem pds_par (i j : Nat) {x y : Str} {a b : Expr} {r : Sg → Res (List D)} {px py pt : Pos} {kt k2 pt2} (hc : X.calm = true) (hN : X.N.Nodup) (ha : PDA X ct [a, b] r) (hi : X.N[i]? = some x := by rfl) (hj : X.N[j]? = some y := by rfl) (hij : i ≠ j := by decide)
    (hx : X.env.scope.names.lookup x = some .local := by rfl) (hy : X.env.scope.names.lookup y = some .local := by rfl)
    (hw : swappedStores [.Tuple [.Name x px, .Name y py] kt pt] (.Tuple [a, b] k2 pt2) X.env = pure (some [x, y]) := by rfl)
    (hs : swapsWithSole [.Tuple [.Name x px, .Name y py] kt pt] (.Tuple [a, b] k2 pt2) pos.line X.env = pure false := by rfl) :
    PDS X ct (.Assign [.Tuple [.Name x px, .Name y py] kt pt] (.Tuple [a, b] k2 pt2) pos) (sPar i j r) := by
  refine PS.imp (ps_par hc hN hi hj hij hx hy ha hw hs) fun E σ H ⟨Γ, j, h⟩ => ⟨Γ, j, h.ok j fun ds _ q vs H' s tl => ?_⟩
  match ds, q, tl with
  | [d1, d2], q, tl =>
    simp only [Tls] at tl
    obtain ⟨v1, r1, rfl, t1, v2, r2, rfl, t2, rfl⟩ := tl
    exact ⟨v1, v2, rfl, q _ H' (Same.keep s) (((j.mono s).set t1).set t2)⟩
  | [], q, _ => exact q.elim
  | [_], q, _ => exact q.elim
  | _ :: _ :: _ :: _, q, _ => exact q.elim
end

/-! ### loops -/
/-- what a body must do for loops -/
structure Good (X : Cx) : Prop where
  po : PassesOwn (model X.prog X.w) X.A X.env X.xe
  calm : X.calm = true
  nd : X.N.Nodup
  own : X.stack = X.env :: X.outer ∧ X.env.frame = some X.env.locals
section
variable {X : Cx} {ct : Ct} {tg iter : Expr} {f : Sg → Res D} {t : Tg} {B : Sg → Out} {body : List Stmt} {pos : Pos}
/-- one turn, then the rest -/
theorem turn_ok {H' H1 : Hp} {Γ1 Γ2 : Sg} {xs : List D} {d : D} {E : Ends} {o : Out} {Pn : St → Hp → Prop} (k1 : Keep H' H1) (e1 : t d Γ1 = some Γ2) (hx : forD t B (d :: xs) Γ1 = o) (h : Fn X ct H' o E)
    (hn : ∀ Γ3 σ3 H3, Keep H' H3 → Jx X ct Γ3 σ3 H3 → forD t B xs Γ3 = o → Pn σ3 H3) : Fn X ct H1 (B Γ2) { E with nx := Pn, ct := Pn, bk := E.nx } := by
  simp only [forD, e1] at hx
  cases q : B Γ2 with
  | nx Γ3 => rw [q] at hx; exact fun σ3 H3 k3 j3 => hn Γ3 σ3 H3 (k1.trans k3) j3 hx
  | ct Γ3 => rw [q] at hx; exact fun σ3 H3 k3 j3 => hn Γ3 σ3 H3 (k1.trans k3) j3 hx
  | bk Γ3 => rw [q] at hx; subst hx; exact fun σ3 H3 k3 j3 => h σ3 H3 (k1.trans k3) j3
  | rt d => rw [q] at hx; subst hx; exact h
  | rtl d => rw [q] at hx; subst hx; exact h
  | err c Γ3 => rw [q] at hx; subst hx; exact fun σ3 H3 e s' k3 j3 r => h σ3 H3 e s' (k1.trans k3) j3 r
  | bad => rw [q] at hx; subst hx; exact h
theorem no_turn {Γ1 : Sg} {xs : List D} {d : D} {H' : Hp} {E : Ends} {o : Out} (e : t d Γ1 = none) (hx : forD t B (d :: xs) Γ1 = o) (h : Fn X ct H' o E) : False := by
  simp only [forD, e] at hx
  subst hx
  exact h
theorem pds_for (g : Good X) (he : PD X ct iter f) (hg : PGD X ct tg t) (hb : PDSs X ct body B) (hs : ∀ x, foldedSetIterable iter X.env x = pure x := by intro _; rfl) : PDS X ct (.For tg iter body [] pos) (sFor f t B) := by
  intro pins s σ H E I ⟨Γ, j, h⟩
  cases q : f Γ with
  | bad => simp only [sFor, q, oE_bad] at h; exact h.elim
  | err c =>
    simp only [sFor, q, oE_err] at h
    exact ps_for g.po g.calm (pi_list he) hg hb hs pins s σ H E I ⟨Γ, j, by rw [q]; exact fun e s' r => h σ H e s' (Keep.refl H) j r⟩
  | ok d =>
    simp only [sFor, q, oE_ok] at h
    cases d with
    | lst xs =>
      replace h : Fn X ct H (forD t B xs Γ) E := h
      refine ps_for g.po g.calm (pi_list he) hg hb hs pins s σ H E I ⟨Γ, j, ?_⟩
      rw [q]
      intro v H' sm tl
      simp only [Tl] at tl
      obtain ⟨a, vs, rfl, fz, tl⟩ := tl
      refine ⟨a, rfl, ⟨vs, fz.sq⟩, for_list (K := X.K) (a := a) (xs := vs) (fun i σ1 H1 => ∃ Γ1, Jx X ct Γ1 σ1 H1 ∧ Keep H' H1 ∧ forD t B (xs.drop i) Γ1 = forD t B xs Γ) ⟨Γ, j.mono sm, Keep.refl H', rfl⟩
        (fun i σ1 H1 _ ⟨Γ1, _, k1, _⟩ => (k1.fzL fz).sq) ?_ ?_⟩
      · rintro i x σ1 H1 hi ⟨Γ1, j1, k1, e1⟩
        obtain ⟨d, hd, td⟩ := tl.get' hi
        rw [drop_one hd] at e1
        have h' := h.mono (Same.keep sm)
        cases e2 : t d Γ1 with
        | none => exact (no_turn e2 e1 h').elim
        | some Γ2 =>
          refine ⟨Γ1, d, Γ2, j1, td.keep k1, e2, fun σ2 j2 => ⟨Γ2, j2, turn_ok k1 e2 e1 h' fun Γ3 σ3 H3 k3 j3 e3 => ⟨Γ3, j3, k3, e3⟩⟩⟩
      · rintro σ1 H1 ⟨Γ1, j1, k1, e1⟩
        have e0 : xs.drop vs.length = [] := List.drop_eq_nil_of_le (by rw [tl.length]; exact Nat.le_refl _)
        rw [e0] at e1
        rw [← e1] at h
        exact h σ1 H1 ((Same.keep sm).trans k1) j1
    | tup xs =>
      replace h : Fn X ct H (forD t B xs Γ) E := h
      refine ps_for g.po g.calm (pi_tup he) hg hb hs pins s σ H E I ⟨Γ, j, ?_⟩
      rw [q]
      intro v H' sm tl
      simp only [Tl] at tl
      obtain ⟨a, vs, rfl, fz, tl⟩ := tl
      refine ⟨a, rfl, ⟨vs, fz⟩, for_tup (K := X.K) (a := a) (xs := vs) (fun i σ1 H1 => ∃ Γ1, Jx X ct Γ1 σ1 H1 ∧ Keep H' H1 ∧ forD t B (xs.drop i) Γ1 = forD t B xs Γ) ⟨Γ, j.mono sm, Keep.refl H', rfl⟩
        (fun i σ1 H1 _ ⟨Γ1, _, k1, _⟩ => k1.sqT fz) ?_ ?_⟩
      · rintro i x σ1 H1 hi ⟨Γ1, j1, k1, e1⟩
        obtain ⟨d, hd, td⟩ := tl.get' hi
        rw [drop_one hd] at e1
        have h' := h.mono (Same.keep sm)
        cases e2 : t d Γ1 with
        | none => exact (no_turn e2 e1 h').elim
        | some Γ2 =>
          refine ⟨Γ1, d, Γ2, j1, td.keep k1, e2, fun σ2 j2 => ⟨Γ2, j2, turn_ok k1 e2 e1 h' fun Γ3 σ3 H3 k3 j3 e3 => ⟨Γ3, j3, k3, e3⟩⟩⟩
      · rintro σ1 H1 ⟨Γ1, j1, k1, e1⟩
        have e0 : xs.drop vs.length = [] := List.drop_eq_nil_of_le (by rw [tl.length]; exact Nat.le_refl _)
        rw [e0] at e1
        rw [← e1] at h
        exact h σ1 H1 ((Same.keep sm).trans k1) j1
    | _ => exact h.elim
theorem for_ints {E : Ends} {σ : St} {H' : Hp} {Γ : Sg} {lo : Int} {n : Nat} (j : Jx X ct Γ σ H') (h : Fn X ct H' (forD t B (intsD lo n) Γ) E) :
    ∃ W : Nat → Nat → St → Hp → Prop, (∃ m, W 0 m σ H') ∧ ∀ i m σ H, W i m σ H →
      ((Itr lo n).stop i H ∧ E.nx σ H) ∨ ((Itr lo n).go i H ∧ ∃ N : St → Hp → Prop, (∀ σ' H', N σ' H' → ∃ m', m' < m ∧ W (i + 1) m' σ' H') ∧ ∀ x H', (Itr lo n).yld i H x H' → gOf X ct t x σ H' fun σ2 H2 => sOf X ct B { E with nx := N, ct := N, bk := E.nx } σ2 H2) := by
  refine for_range (lo := lo) (n := n) (fun i σ1 H1 => ∃ Γ1, Jx X ct Γ1 σ1 H1 ∧ Keep H' H1 ∧ forD t B ((intsD lo n).drop i) Γ1 = forD t B (intsD lo n) Γ) ⟨Γ, j, Keep.refl H', rfl⟩ ?_ ?_
  · rintro i σ1 H1 hi ⟨Γ1, j1, k1, e1⟩
    rw [drop_one (intsD_get hi)] at e1
    cases e2 : t (.int (lo + i)) Γ1 with
    | none => exact (no_turn e2 e1 h).elim
    | some Γ2 =>
      refine ⟨Γ1, _, Γ2, j1, by simp [Tl], e2, fun σ2 j2 => ⟨Γ2, j2, turn_ok k1 e2 e1 h fun Γ3 σ3 H3 k3 j3 e3 => ⟨Γ3, j3, k3, e3⟩⟩⟩
  · rintro σ1 H1 ⟨Γ1, j1, k1, e1⟩
    have e0 : (intsD lo n).drop n = [] := List.drop_eq_nil_of_le (by rw [intsD_len]; exact Nat.le_refl _)
    rw [e0] at e1
    rw [← e1] at h
    exact h σ1 H1 k1 j1
theorem Fn.ok2 {α β : Type} {H : Hp} {Γ : Sg} {σ : St} {r : Res α} {f : α → Res β} {k : β → Out} {E : Ends} {W : α → Prop} (j : Jx X ct Γ σ H) (h : Fn X ct H (oE (r.bnd f) Γ k) E) (hf : ∀ a c, f a ≠ .err c) (w : ∀ a b, f a = .ok b → Fn X ct H (k b) E → W a) : Ok X ct σ H r W := by
  cases r with
  | ok d =>
    cases q : f d with
    | ok b => simp only [Res.bnd_ok, q, oE_ok] at h; exact w d b q h
    | err c => exact (hf d c q).elim
    | bad => simp only [Res.bnd_ok, q, oE_bad] at h; exact h.elim
  | err c => exact fun e s' q => h σ H e s' (Keep.refl H) j q
  | bad => exact h.elim
theorem pds_forR1 {a : Expr} {r : Sg → Res (List D)} {p pos' : Pos} (g : Good X) (hm : X.mg "range" = none) (ha : PDA X ct [a] r) (hg : PGD X ct tg t) (hb : PDSs X ct body B) (hgl : Gl X "range" := by rfl) (hs : starEach [a] X.env = [(false, eval a X.env)] := by rfl)
    (hf : ∀ x, foldedSetIterable (.Call (.Name "range" p) [a] [] pos') X.env x = pure x := by intro _; rfl) : PDS X ct (.For tg (.Call (.Name "range" p) [a] [] pos') body [] pos) (sForR1 r t B) := by
  refine PS.imp (ps_for g.po g.calm (pi_range1 hgl hm ha hs) hg hb hf) fun E σ H ⟨Γ, j, h⟩ => ⟨Γ, j, Fn.ok2 j h rng1_ne fun ds xs ex q vs H' s tl => ?_⟩
  obtain ⟨i, rfl, h1, h2, rfl⟩ := rng1_ok ex
  simp only [Tls, Tl] at tl
  obtain ⟨v, r, rfl, rfl, rfl⟩ := tl
  exact ⟨i, rfl, h1, h2, for_ints (j.mono s) (Fn.mono (Same.keep s) q)⟩
theorem pds_forR2 {a b : Expr} {r : Sg → Res (List D)} {p pos' : Pos} (g : Good X) (hm : X.mg "range" = none) (ha : PDA X ct [a, b] r) (hg : PGD X ct tg t) (hb : PDSs X ct body B) (hgl : Gl X "range" := by rfl)
    (hs : starEach [a, b] X.env = [(false, eval a X.env), (false, eval b X.env)] := by rfl) (hs2 : starEach [b] X.env = [(false, eval b X.env)] := by rfl)
    (hf : ∀ x, foldedSetIterable (.Call (.Name "range" p) [a, b] [] pos') X.env x = pure x := by intro _; rfl) : PDS X ct (.For tg (.Call (.Name "range" p) [a, b] [] pos') body [] pos) (sForR2 r t B) := by
  refine PS.imp (ps_for g.po g.calm (pi_range2 hgl hm ha hs hs2) hg hb hf) fun E σ H ⟨Γ, j, h⟩ => ⟨Γ, j, Fn.ok2 j h rng2_ne fun ds xs ex q vs H' s tl => ?_⟩
  obtain ⟨i, i2, rfl, h1, rfl⟩ := rng2_ok ex
  simp only [Tls, Tl] at tl
  obtain ⟨v, r, rfl, rfl, v2, r2, rfl, rfl, rfl⟩ := tl
  exact ⟨i, i2, rfl, h1, for_ints (j.mono s) (Fn.mono (Same.keep s) q)⟩
/-- while, n turns at most -/
theorem pds_while (n : Nat) {c : Expr} {p : Sg → Res Bool} (g : Good X) (hc : PDT X ct c p) (hb : PDSs X ct body B) : PDS X ct (.While c body [] pos) (whileD p B n) := by
  refine PS.imp (ps_while g.po hc hb) fun E σ H ⟨Γ, j, h⟩ => ?_
  refine ⟨fun m σ1 H1 => ∃ Γ1, Jx X ct Γ1 σ1 H1 ∧ Keep H H1 ∧ whileD p B m Γ1 = whileD p B n Γ, ⟨n, Γ, j, Keep.refl H, rfl⟩, ?_⟩
  rintro m σ1 H1 ⟨Γ1, j1, k1, e1⟩
  cases m with
  | zero => rw [← e1] at h; exact h.elim
  | succ m =>
    refine ⟨Γ1, j1, ?_⟩
    rw [← e1] at h
    have h2 := h.mono k1
    simp only [whileD] at h2
    refine h2.ok j1 fun c ec q H2 s2 => ?_
    cases c with
    | false => exact iteF (q σ1 H2 (Same.keep s2) (j1.mono s2))
    | true =>
      refine iteT ⟨fun σ3 H3 => ∃ Γ3, Jx X ct Γ3 σ3 H3 ∧ Keep H H3 ∧ whileD p B m Γ3 = whileD p B n Γ, fun σ3 H3 z => ⟨m, Nat.lt_succ_self m, z⟩, Γ1, j1.mono s2, ?_⟩
      simp only [if_true] at q
      simp only [whileD, ec, oE_ok, if_true] at e1
      have k2 : Keep H H2 := k1.trans (Same.keep s2)
      cases eb : B Γ1 with
      | nx Γ3 => rw [eb] at e1; exact fun σ3 H3 k3 j3 => ⟨Γ3, j3, k2.trans k3, e1⟩
      | ct Γ3 => rw [eb] at e1; exact fun σ3 H3 k3 j3 => ⟨Γ3, j3, k2.trans k3, e1⟩
      | bk Γ3 => rw [eb] at q; exact fun σ3 H3 k3 j3 => q σ3 H3 ((Same.keep s2).trans k3) j3
      | rt d => rw [eb] at q; exact q
      | rtl d => rw [eb] at q; exact q
      | err c Γ3 => rw [eb] at q; exact fun σ3 H3 e s' k3 j3 r => q σ3 H3 e s' ((Same.keep s2).trans k3) j3 r
      | bad => rw [eb] at q; exact q
end
end L3
end

section
set_option Elab.async false
set_option linter.all false
set_option maxRecDepth 100000
namespace L3
open PySem PySem.Spec PyProof.Rows L2

/-! ### what a def promises, told by data -/
def spD (K : PySem.W.Frag) (ct : Ct) (n : Nat) (F : List D → Ans) : Sp := fun vs H Q E => vs.length = n ∧ ∃ ds, Tls K ct H ds vs ∧ match F ds with
  | .ok d => ∀ v H', Same H H' → Tl K ct H' d v → Q v H'
  | .new es => ∀ a us H', Same H H' → H a = none → H' a = some (.lst us) → Tls K ct H' es us → Q (.ref a) H'
  | .err c => ∀ C H', ct c = some C → Same H H' → E (.ref C) none H'
  | .bad => False
/-- a def of the text keeps F -/
abbrev FnD (P : Program) (w : World) (K : PySem.W.Frag) (mg : Str → Option Value) (base : Heap) (ct : Ct) (k : Nat) (f : Addr) (fd : FuncData) (ps : List Str) (F : List D → Ans) : Prop :=
  FnOk P w K mg base (CX1 P w) k f fd ps (spD K ct ps.length F)

section
variable {X : Cx} {ct : Ct} {k : Nat} {f C : Addr} {fd : FuncData} {ps : List Str} {F : List D → Ans} {x : Str} {p pos apos : Pos} {e o : Expr} {es : List Expr} {fa : Sg → Res (List D)}
def AnsOk (X : Cx) (ct : Ct) (σ : St) (H : Hp) (a : Ans) (Q : VK) : Prop := match a with
  | .ok d => Wd X ct H Q d
  | .new ds => Wl X ct H Q ds
  | .err c => ∀ e s', RaisedAt X ct σ H c e s' → X.xe e s'
  | .bad => False
theorem run_fnD {pins : List (Addr × Obj)} {σ : St} {H : Hp} {s : Shared} {Q : VK} {us : List Value} {vs : List V} {ds : List D} (G : FnD X.prog X.w X.K X.mg X.base ct k f fd ps F) (hr : Room k X.A) (hb : Binds X.K fd ps [])
    (I : Inv X pins σ H s) (r : Vals vs us) (t : Tls X.K ct H ds vs) (hn : vs.length = ps.length) (h : AnsOk X ct σ H (F ds) Q) : wpAny (model X.prog X.w) X.A (call (.ref f) us) (EP X pins σ Q) X.xe s := by
  have hl : us.length = ps.length := by rw [← r.length]; exact hn
  have hb' := hb s us I.kIn (by rw [List.append_nil]; exact hl)
  rw [List.append_nil] at hb'
  let E : XK := fun cls od H' => ∃ c C, F ds = .err c ∧ ct c = some C ∧ cls = .ref C ∧ od = none ∧ Same H H'
  have hsp : spD X.K ct ps.length F vs H Q E := by
    refine ⟨hn, ds, t, ?_⟩
    cases q : F ds with
    | ok d => rw [q] at h; exact h
    | new es => rw [q] at h; exact fun a us H' e n k t => h a us H' e n k t
    | err c => exact fun C H' e s => ⟨c, C, q, e, rfl, rfl, s⟩
    | bad => rw [q] at h; exact h
  refine wpAny_call (codeAny_mono (G.run X.A X.stack s H ⟨us, []⟩ us vs Q E hr I.env0 hb' r hsp) fun r s' hq => ?_)
  cases r with
  | error e =>
    obtain ⟨a, C, H', B, a0, h1, ⟨c, C', q1, q2, q3, q4, q5⟩, h3, h4, h5, h6, h6', h7⟩ := hq
    rw [q1] at h
    cases q3
    exact h e s' ⟨pins, H, s, C, I, Same.refl H, q2, .inr ⟨a, C, H', B, a0, h1, ⟨rfl, rfl, q5⟩, h3, h4, h5, h6, h6', h7⟩⟩
  | ok fl =>
    cases fl with
    | ret u => exact I.after hq
    | next => exact False.elim hq
    | brk => exact False.elim hq
    | cont => exact False.elim hq
/-- a call's reading -/
def kOf (X : Cx) (ct : Ct) (n : Nat) (F : List D → Ans) (fa : Sg → Res (List D)) : TE := fun σ H Q => ∃ Γ, Jx X ct Γ σ H ∧ Ok X ct σ H (fa Γ) fun ds => ds.length = n ∧ ∀ H', Same H H' → AnsOk X ct σ H' (F ds) Q
theorem pe_callD (G : FnD X.prog X.w X.K X.mg X.base ct k f fd ps F) (hr : Room k X.A) (hm : X.mg x = some (.ref f)) (hk : PySem.W.keepIn X.K (.ref f) = true) (hb : Binds X.K fd ps []) (ha : PDA X ct (e :: es) fa) (hg : Gl X x := by rfl)
    (hdb : (x == ("__debug__" : Str)) = false := by decide) (he : starEach (e :: es) X.env = (false, eval e X.env) :: starEach es X.env := by rfl) (hpl : (backTo pos (starEach es X.env)).any (·.1) = false := by rfl) :
    PE X (.Call (.Name x p) (e :: es) [] pos) (kOf X ct ps.length F fa) := by
  intro pins s σ H Q I ⟨Γ, j, h⟩
  refine wpAny_Call_Name_kw (ld_glob I hg hm ?_ hdb)
  have h' : aOf X ct fa σ H (fun vs H1 => ∃ ds, Same H H1 ∧ Tls X.K ct H1 ds vs ∧ ds.length = ps.length ∧ AnsOk X ct σ H1 (F ds) Q) :=
    ⟨Γ, j, Ok.mono (Same.refl H) h fun ds q vs H1 s1 t1 => ⟨ds, s1, t1, q.1, q.2 H1 s1⟩⟩
  refine PySem.W.callWith_K (h₀ := X.base) I.ok.mod.kin hk (thn (ha pos pins s σ H _ I h') fun us s1 ⟨vs, H1, I1, r, ds, _, t1, hl, q⟩ => ⟨I1.kIn, ?_⟩) he hpl
  exact run_fnD G hr hb I1 r t1 (by rw [← t1.length]; exact hl) q
theorem pe_callD0 (G : FnD X.prog X.w X.K X.mg X.base ct k f fd ps F) (hr : Room k X.A) (hm : X.mg x = some (.ref f)) (hk : PySem.W.keepIn X.K (.ref f) = true) (hb : Binds X.K fd ps []) (hg : Gl X x := by rfl)
    (hdb : (x == ("__debug__" : Str)) = false := by decide) : PE X (.Call (.Name x p) [] [] pos) (kOf X ct ps.length F dNil) := by
  intro pins s σ H Q I ⟨Γ, j, h⟩
  refine wpAny_Call_Name_kw (ld_glob I hg hm ?_ hdb)
  exact PySem.W.callWith_K0 I.kIn hk (run_fnD (us := []) G hr hb I .nil Tls.nil h.1 (h.2 H (Same.refl H)))
theorem pl_call {n : Nat} (h : PE X e (kOf X ct n F fa)) : PL X ct e (lCall n F fa) := by
  refine PE.imp h fun σ H Q ⟨Γ, j, q⟩ => ⟨Γ, j, q.bnd fun ds _ q => ?_⟩
  split at q
  · rename_i hl
    refine ⟨hl, fun H' s => ?_⟩
    cases z : F ds with
    | ok d => rw [z] at q; exact q.elim
    | new es => rw [z] at q; exact Wl.mono s q
    | err c => rw [z] at q; exact fun e s' r => q e s' (r.mono s)
    | bad => rw [z] at q; exact q.elim
  · exact q.elim
theorem pd_call {n : Nat} (h : PE X e (kOf X ct n F fa)) : PD X ct e (dCall n F fa) := by
  intro pins s σ H Q I ⟨Γ, j, q⟩
  have h' : kOf X ct n F fa σ H (fun v H' => Q v H' ∨ ∃ a vs ds, v = .ref a ∧ Same H H' ∧ H a = none ∧ H' a = some (.lst vs) ∧ Tls X.K ct H' ds vs ∧ Wd X ct H Q (.lst ds)) := by
    refine ⟨Γ, j, q.bnd fun ds _ q => ?_⟩
    split at q
    · rename_i hl
      refine ⟨hl, fun H' s => ?_⟩
      cases z : F ds with
      | ok d => rw [z] at q; exact fun v H2 e t => .inl (q v H2 (s.trans e) t)
      | new es => rw [z] at q; exact fun a vs H2 e n k t => .inr ⟨a, vs, es, rfl, s.trans e, s.free n, k, t, q⟩
      | err c => rw [z] at q; exact fun e s' r => q e s' (r.mono s)
      | bad => rw [z] at q; exact q.elim
    · exact q.elim
  refine thn (h pins s σ H _ I h') fun v s1 ⟨y, H1, I1, r1, q1⟩ => ?_
  rcases q1 with q1 | ⟨a, vs, ds, ex, e1, nn, ha, tl, w⟩
  · exact ⟨y, H1, I1, r1, q1⟩
  · obtain ⟨ob, I2⟩ := Inv.freeze I1 ha (j.same.free nn)
    have s2 : Same H (upd H1 a (.frz ob (.lst vs))) := fun b o hb => by rw [upd_ne (ne_of_none hb nn)]; exact e1 b o hb
    have k2 : Keep H1 (upd H1 a (.frz ob (.lst vs))) := fun b o hb st => by
      have : b ≠ a := by rintro rfl; rw [ha] at hb; cases hb; exact st
      rw [upd_ne this]; exact hb
    refine ⟨y, _, I2, r1, w y _ s2 ?_⟩
    subst ex
    simp only [Tl]
    exact ⟨a, vs, rfl, .inl ⟨ob, upd_same⟩, tl.keep k2⟩
end

/-! ### an exception leaves the def -/
section
variable {P : Program} {w : World} {K : PySem.W.Frag} {mg : Str → Option Value} {base : Heap} {ct : Ct}
theorem objOk_there {H : Hp} {h : Heap} {a : Addr} {o : HO} (x : ObjOk P w H h a o) : ∃ ob, h.get? a = some ob := by
  cases o with
  | lst xs => obtain ⟨_, _, _, _, e⟩ := x; exact ⟨_, e⟩
  | tup xs => obtain ⟨_, _, _, ob, e, _⟩ := x; exact ⟨_, e⟩
  | dK kvs => obtain ⟨_, _, _, _, o, _, _, e, _⟩ := x; exact ⟨_, e⟩
  | dT kvs => obtain ⟨_, _, _, _, o, _, _, e, _⟩ := x; exact ⟨_, e⟩
  | set S n => obtain ⟨o, _, _, _, e, _⟩ := x; exact ⟨_, e⟩
  | ins C dx fs => obtain ⟨_, _, _, e, _⟩ := x; exact ⟨_, e⟩
  | own y => obtain ⟨_, e⟩ := x; exact ⟨_, e⟩
  | xd fs => obtain ⟨_, ⟨_, _, _, e, _⟩, _⟩ := x; exact ⟨_, e⟩
  | rng lo hi => obtain ⟨_, _, _, e⟩ := x; exact ⟨_, e⟩
  | frz ob u => obtain ⟨e, _⟩ := x; exact ⟨_, e⟩
  | tbl ps => exact ⟨_, (show h.get? a = some _ from x)⟩
  | met f y => exact ⟨_, (show h.get? a = some _ from x)⟩
  | ext φ => obtain ⟨_, ⟨_, e⟩, _⟩ := x; exact ⟨_, e⟩
theorem upTo_trans {h1 h2 h3 : Heap} (a : h1.UpToSlots h2) (b : h2.UpToSlots h3) : h1.UpToSlots h3 := a.trans b
theorem leave_ok {N : List Str} {qual : Str} {scope : Scope} {f : Addr} {cd : Value} {A : Around} {outer : List Env} {s : Shared} {H : Hp} {E : XK} {σ' : St} {H' : Hp} {c : String} {e : Value} {s' : Shared}
    (same : Same H H') (r : RaisedAt (cxOf (CX1 P w) P w K mg base N qual scope f cd A outer s H E) ct σ' H' c e s') (he : ∀ C H2, ct c = some C → Same H H2 → E (.ref C) none H2) :
    (cxOf (CX1 P w) P w K mg base N qual scope f cd A outer s H E).xe e s' := by
  obtain ⟨pins, H1, s1, C, I1, sm, hc, r⟩ := r
  have hfr := I1.ok.frames
  have back : ∀ a, s1.heap.get? a = none → s.heap.get? a = none := fun a q => by
    cases z : s.heap.get? a with
    | none => rfl
    | some o => obtain ⟨o', w'⟩ := I1.base.there a o z (by simp [cxOf]); rw [q] at w'; cases w'
  rcases r with ⟨a, args, h', rfl, rfl, hx⟩ | ⟨a, C', H2, B, a0, rfl, ⟨q1, q2, q3⟩, q4, q5, fl, na, nw, cl⟩
  · -- made here
    let X := cxOf (CX1 P w) P w K mg base N qual scope f cd A outer s H E
    have hst : s1.heap.FunFrames X.base X.stack := I1.stack
    have hin : ∀ env ∈ X.stack, ∀ b, env.frame = some b → b ∈ frs X.stack := fun env he b hb => List.mem_filterMap.mpr ⟨env, he, hb⟩
    have hkb : (PySem.W.hideAll s1.heap (frs X.stack)).StaysIn s1.heap := fun b o q => PySem.W.of_hideAll _ q
    refine wpAny_leaves_madeW (s := { s1 with heap := h' }) (L := s.heap.objs.size) hfr rfl hkb (PySem.W.funFrames_hide hst hin) hx fun h2 t fl tu tn up => ?_
    have na : H1 a = none := by
      cases z : H1 a with
      | none => rfl
      | some o =>
        obtain ⟨ob, hb⟩ := objOk_there (I1.hok a o z)
        rw [hx.new] at hb; cases hb
    refine ⟨a, C, H1, PySem.W.hideAll s1.heap (frs X.stack), .ref t, rfl, he C H1 hc (same.trans sm), I1.os, I1.bare, fl, na, back a hx.new, fun h3 st3 up3 => ?_⟩
    have keep : ∀ b o, s1.heap.get? b = some o → b ∉ frs X.stack → h3.get? b = some o := fun b o q nb => st3 b o (PySem.W.hideAll_get _ q nb)
    have slot : ∀ b o, s1.heap.get? b = some o → b ∈ frs X.stack → ∃ sl, h3.get? b = some { o with slots := sl } := fun b o q hb => by
      obtain ⟨_, o', ho', hd⟩ := hst.mem hb
      rw [q] at ho'; cases ho'
      exact (up.trans up3) b o (hx.keeps b o q) hd
    have un : Un (frs X.stack) [] H1 H1 s1.heap h3 := ⟨fun b o q n nb _ => keep b o q nb, fun b o q n hb _ => slot b o q hb, fun b o q n _ => n, fun b o q _ => by
      by_cases hb : b ∈ frs X.stack
      · obtain ⟨sl, z⟩ := slot b o q hb; exact ⟨_, z⟩
      · exact ⟨o, keep b o q hb⟩, fun b xs q => q, fun b o u q => q, fun b ps q => ⟨#[], by rw [q]; simp⟩⟩
    have hok : HOk P w H1 h3 := fun b o q => (I1.hok b o q).stay (fun b' u hb' e' => by
      have tr : H1 b' ≠ none := by
        rcases hb' with rfl | hb'
        · rw [q]; exact fun z => nomatch z
        · rw [hb']; exact fun z => nomatch z
      exact keep b' u e' fun z => tr (I1.stkFree b' z)) (fun _ q => q) fun _ _ q => q
    have I3 := I1.call' (s' := { s1 with heap := h3 }) (ch := []) rfl un hok I1.bare (fun b z => absurd z (by simp))
    exact ⟨I3.base, hok⟩
  · -- out of a call
    cases q1
    refine wpAny_leaves_onW (L := s.heap.objs.size) hfr rfl fl fun h2 fl2 up => ?_
    refine ⟨a, C, H2, B, a0, rfl, he C H2 hc ((same.trans sm).trans q3), q4.trans I1.os, q5, fl2, na, back a nw, fun h3 st3 up3 => ?_⟩
    obtain ⟨un, hok⟩ := cl h3 st3 (up.trans up3)
    have I3 := I1.call' (s' := { s' with heap := h3 }) (ch := []) q4 un hok q5 (fun b z => absurd z (by simp))
    exact ⟨I3.base, hok⟩

/-! ### THE RULE for a def -/
theorem j_start {N : List Str} {ds : List D} {vs : List V} {H : Hp} (t : Tls K ct H ds vs) : J K ct H (st0 N ds) (L2.start N vs) H := by
  have hl := t.length
  refine ⟨Same.refl H, by simp [st0, L2.start, hl], fun i sl ov h1 h2 => ?_, fun i j ds' es a _ h1 => ?_⟩
  · by_cases hi : i < ds.length
    · rw [st0, List.getElem?_append_left (by simpa using hi), List.getElem?_map] at h1
      rw [L2.start, List.getElem?_append_left (by simpa [← hl] using hi), List.getElem?_map] at h2
      rw [List.getElem?_eq_getElem hi] at h1
      obtain ⟨v, e1, e2⟩ := t.get (List.getElem?_eq_getElem hi)
      rw [e1] at h2
      cases h1; cases h2
      exact ⟨v, rfl, e2⟩
    · rw [st0, List.getElem?_append_right (by simpa using hi), List.getElem?_replicate] at h1
      split at h1
      · cases h1; trivial
      · cases h1
  · by_cases hi : i < ds.length
    · rw [st0, List.getElem?_append_left (by simpa using hi), List.getElem?_map, List.getElem?_eq_getElem hi] at h1
      cases h1
    · rw [st0, List.getElem?_append_right (by simpa using hi), List.getElem?_replicate] at h1
      split at h1 <;> cases h1
/-- the body's reading B n (n: how many turns its whiles may take); what it comes to is F -/
theorem fn_okD {x qual : Str} {st : Stmt} {f : Addr} {fd : FuncData} {N ps : List Str} {k : Nat} {F : List D → Ans} {B : Nat → Sg → Out} (Fn' : Fun K x qual st f fd) (S : FnScope N ps (defScope st))
    (hbody : ∀ (cdv : Value) (A : Around) (outer : List Env) (s : Shared) (H : Hp) (E : XK), Room k (A.deeper (envOfC qual (defScope st) s.heap.objs.size f cdv)) →
      Good (cxOf (CX1 P w) P w K mg base N qual (defScope st) f cdv A outer s H E) → ∀ n, PDSs (cxOf (CX1 P w) P w K mg base N qual (defScope st) f cdv A outer s H E) ct (defBody st) (B n))
    (hF : ∀ ds, ds.length = ps.length → F ds ≠ .bad → ∃ n, ans (B n (st0 N ds)) = F ds) : FnD P w K mg base ct (k + 1) f fd ps F := by
  obtain ⟨oc, od, kV, doc, pm, an, cdv, ct', osl, rfl, lk, hcd⟩ := Fn'.ex
  refine fn_of lk hcd S (fun vs H Q E h => h.1) fun A outer s H vs Q E hr hsp => ?_
  obtain ⟨hn, ds, t, h⟩ := hsp
  have hb : F ds ≠ .bad := fun z => by rw [z] at h; exact h
  obtain ⟨n, hF⟩ := hF ds (by rw [t.length]; exact hn) hb
  refine ⟨_, hbody cdv A outer s H E hr ⟨PassesOwn.leaving, rfl, S.nd, rfl, rfl⟩ n, st0 N ds, j_start t, ?_⟩
  rw [← hF] at h
  cases q : B n (st0 N ds) with
  | nx Γ => rw [q] at h; exact fun σ' H' _ j => h .non H' j.same (by simp [Tl])
  | bk Γ => rw [q] at h; exact h.elim
  | ct Γ => rw [q] at h; exact h.elim
  | rt d => rw [q] at h; exact h
  | rtl es => rw [q] at h; exact h
  | err c Γ => rw [q] at h; exact fun σ' H' e s' _ j r => leave_ok j.same r h
  | bad => rw [q] at h; exact h.elim
end
end L3
end

section
set_option Elab.async false
set_option linter.all false
set_option maxRecDepth 100000
namespace L3
open PySem PySem.Spec PyProof.Rows L2

/-! ### ints -/
section
variable {X : Cx} {ct : Ct} {a b e : Expr} {f g : Sg → Res D} {pos : Pos}
theorem op2_int {C' : Int → Int → Prop} {C : Int → Int → Bool} {gv : Int → Int → V} {gd : Int → Int → D} (hc : ∀ i j, C i j = true → C' i j) (ht : ∀ i j K ct H, Tl K ct H (gd i j) (gv i j)) : Op2 X ct (rI C' gv) (intD C gd) := by
  intro σ H x y d1 d2 Q _ t1 t2 h
  cases d1 with
  | int i =>
    cases d2 with
    | int j =>
      simp only [Tl] at t1 t2
      subst t1 t2
      rw [intD_int] at h
      split at h
      · rename_i hij
        exact ⟨i, j, rfl, rfl, hc i j hij, h _ H (Same.refl H) (ht i j _ _ _)⟩
      · exact h.elim
    | _ => exact h.elim
  | _ => cases d2 <;> exact h.elim
theorem opR_c {F : Value → Value → Sem Value} {gv : Int → Int → V} (h : OpR X F (rI0 gv)) : OpR X F (rI (fun _ _ => True) gv) := fun pins s σ H x y v u Q I rx ry ⟨i, j, h1, h2, _, q⟩ => h pins s σ H x y v u Q I rx ry ⟨i, j, h1, h2, q⟩
theorem mulOk_ok {i j : Int} (h : mulOk i j = true) : IntMulOk i j := by
  simp only [mulOk, Bool.or_eq_true, Bool.and_eq_true, decide_eq_true_eq] at h
  rcases h with (h | h) | h
  · exact .of_left h
  · exact .of_right h
  · exact .of_bits h.1 h.2
theorem op_mulG : OpR X (binaryOp .Mult) (rI (fun i j => mulOk i j = true) fun i j => .int (i * j)) := opI fun _ _ _ _ _ _ _ hc q => mul_int q (mulOk_ok hc)
theorem op_fdivG : OpR X (binaryOp .FloorDiv) (rI (fun i j => divOk i j = true) fun i j => .int (i.fdiv j)) := opI fun _ _ _ _ _ _ _ hc q => by
  simp only [divOk, Bool.and_eq_true, decide_eq_true_eq] at hc
  exact floordiv_int hc.1 q (.inl (PyProof.noPylong_of_log2 hc.2))
theorem pd_sub (ha : PD X ct a f) (hb : PD X ct b g) : PD X ct (.BinOp a .Sub b pos) (dOp subI f g) := pd_op (opR_c op_sub) (op2_int (fun _ _ _ => trivial) fun _ _ _ _ _ => by simp [Tl]) ha hb
theorem pd_mul (ha : PD X ct a f) (hb : PD X ct b g) : PD X ct (.BinOp a .Mult b pos) (dOp mulI f g) := pd_op op_mulG (op2_int (fun _ _ h => h) fun _ _ _ _ _ => by simp [Tl]) ha hb
theorem pd_fdiv (ha : PD X ct a f) (hb : PD X ct b g) : PD X ct (.BinOp a .FloorDiv b pos) (dOp fdivI f g) := pd_op op_fdivG (op2_int (fun _ _ h => h) fun _ _ _ _ _ => by simp [Tl]) ha hb
theorem pd_mod (ha : PD X ct a f) (hb : PD X ct b g) : PD X ct (.BinOp a .Mod b pos) (dOp modI f g) := pd_op op_modN (op2_int (fun _ _ h => of_decide_eq_true h) fun _ _ _ _ _ => by simp [Tl]) ha hb
theorem pd_pow (ha : PD X ct a f) (hb : PD X ct b g) : PD X ct (.BinOp a .Pow b pos) (dOp powI f g) := pd_op op_pow (op2_int (fun _ _ h => by
  simp only [powOk, Bool.and_eq_true, decide_eq_true_eq] at h
  exact ⟨h.1.1, h.1.2, h.2⟩) fun _ _ _ _ _ => by simp [Tl]) ha hb
theorem pd_xor (ha : PD X ct a f) (hb : PD X ct b g) : PD X ct (.BinOp a .BitXor b pos) (dOp xorI f g) := pd_op (opR_c op_xor) (op2_int (fun _ _ _ => trivial) fun _ _ _ _ _ => by simp [Tl]) ha hb
theorem pd_bitand (ha : PD X ct a f) (hb : PD X ct b g) : PD X ct (.BinOp a .BitAnd b pos) (dOp andI f g) := pd_op (opR_c op_and) (op2_int (fun _ _ _ => trivial) fun _ _ _ _ _ => by simp [Tl]) ha hb
theorem pd_lt (ha : PD X ct a f) (hb : PD X ct b g) : PD X ct (.Compare a [.Lt] [b] pos) (dOp ltI f g) := pd_cmp (opR_c op_lt) (op2_int (fun _ _ _ => trivial) fun _ _ _ _ _ => by simp [Tl]) ha hb (nomark _)
theorem pd_le (ha : PD X ct a f) (hb : PD X ct b g) : PD X ct (.Compare a [.LtE] [b] pos) (dOp leI f g) := pd_cmp (opR_c op_le) (op2_int (fun _ _ _ => trivial) fun _ _ _ _ _ => by simp [Tl]) ha hb (nomark _)
theorem pd_gt (ha : PD X ct a f) (hb : PD X ct b g) : PD X ct (.Compare a [.Gt] [b] pos) (dOp gtI f g) := pd_cmp (opR_c op_gt) (op2_int (fun _ _ _ => trivial) fun _ _ _ _ _ => by simp [Tl]) ha hb (nomark _)
theorem pd_ge (ha : PD X ct a f) (hb : PD X ct b g) : PD X ct (.Compare a [.GtE] [b] pos) (dOp geI f g) := pd_cmp (opR_c op_ge) (op2_int (fun _ _ _ => trivial) fun _ _ _ _ _ => by simp [Tl]) ha hb (nomark _)
theorem pdt_lt (ha : PD X ct a f) (hb : PD X ct b g) : PDT X ct (.Compare a [.Lt] [b] pos) (dT (dOp ltI f g)) := pdt_cmp (opR_c op_lt) (op2_int (fun _ _ _ => trivial) fun _ _ _ _ _ => by simp [Tl]) ha hb (nomark _)
theorem pdt_le (ha : PD X ct a f) (hb : PD X ct b g) : PDT X ct (.Compare a [.LtE] [b] pos) (dT (dOp leI f g)) := pdt_cmp (opR_c op_le) (op2_int (fun _ _ _ => trivial) fun _ _ _ _ _ => by simp [Tl]) ha hb (nomark _)
theorem pdt_gt (ha : PD X ct a f) (hb : PD X ct b g) : PDT X ct (.Compare a [.Gt] [b] pos) (dT (dOp gtI f g)) := pdt_cmp (opR_c op_gt) (op2_int (fun _ _ _ => trivial) fun _ _ _ _ _ => by simp [Tl]) ha hb (nomark _)
theorem pdt_ge (ha : PD X ct a f) (hb : PD X ct b g) : PDT X ct (.Compare a [.GtE] [b] pos) (dT (dOp geI f g)) := pdt_cmp (opR_c op_ge) (op2_int (fun _ _ _ => trivial) fun _ _ _ _ _ => by simp [Tl]) ha hb (nomark _)
theorem pd_neg (ha : PD X ct a f) : PD X ct (.UnaryOp .USub a pos) (dUn negI f) := by
  refine PE.imp (pe_un un_neg ha) fun σ H Q ⟨Γ, j, h⟩ => ?_
  refine eOf.bnd j h fun d v H' s t j' h' => ?_
  cases d with
  | int i => simp only [Tl] at t; exact ⟨i, t, h' _ H' s (by simp [Tl])⟩
  | _ => exact h'.elim
/-! ### built-ins of values -/
theorem cb_of {r2 : List V → Hp → VK → Prop} {r : List D → Res D} {fa : Sg → Res (List D)} (k : ∀ (σ : St) (H : Hp) (vs : List V) (ds : List D) (Q : VK), Tls X.K ct H ds vs → Ok X ct σ H (r ds) (Wd X ct H Q) → r2 vs H Q) :
    ∀ σ H Q, eOf X ct (dCB r fa) σ H Q → tCB r2 (aOf X ct fa) σ H Q := by
  rintro σ H Q ⟨Γ, j, h⟩
  exact aOf.bnd j h fun ds vs H' s t j' h' => k σ H' vs ds Q t (Ok.mono s h' fun d q => q.mono s)
theorem tls1 {K : PySem.W.Frag} {H : Hp} {d : D} {vs : List V} (h : Tls K ct H [d] vs) : ∃ v, vs = [v] ∧ Tl K ct H d v := by
  simp only [Tls] at h
  obtain ⟨v, r, rfl, t, rfl⟩ := h
  exact ⟨v, rfl, t⟩
theorem tls2 {K : PySem.W.Frag} {H : Hp} {d d' : D} {vs : List V} (h : Tls K ct H [d, d'] vs) : ∃ v v', vs = [v, v'] ∧ Tl K ct H d v ∧ Tl K ct H d' v' := by
  simp only [Tls] at h
  obtain ⟨v, r, rfl, t, v', r', rfl, t', rfl⟩ := h
  exact ⟨v, v', rfl, t, t'⟩
theorem pd_abs {p : Pos} {fa : Sg → Res (List D)} {es : List Expr} (hm : X.mg "abs" = none) (ha : PDA X ct (e :: es) fa) (hg : Gl X "abs" := by rfl) (he : starEach (e :: es) X.env = (false, eval e X.env) :: starEach es X.env := by rfl)
    (hpl : (backTo pos (starEach es X.env)).any (·.1) = false := by rfl) : PD X ct (.Call (.Name "abs" p) (e :: es) [] pos) (dCB absD fa) := by
  refine PE.imp (pe_callB call_abs hg hm PyProof.Rows.boot_abs ha (by decide) (by decide) he hpl) (cb_of fun σ H vs ds Q t h => ?_)
  unfold absD at h
  split at h
  · rename_i i
    obtain ⟨v, rfl, tv⟩ := tls1 t
    simp only [Tl] at tv
    subst tv
    exact ⟨i, rfl, h _ H (Same.refl H) (by simp [Tl])⟩
  · exact h.elim
theorem pd_len {p : Pos} {fa : Sg → Res (List D)} {es : List Expr} (hm : X.mg "len" = none) (ha : PDA X ct (e :: es) fa) (hg : Gl X "len" := by rfl) (he : starEach (e :: es) X.env = (false, eval e X.env) :: starEach es X.env := by rfl)
    (hpl : (backTo pos (starEach es X.env)).any (·.1) = false := by rfl) : PD X ct (.Call (.Name "len" p) (e :: es) [] pos) (dCB lenD fa) := by
  refine PE.imp (pe_callB call_len hg hm PySem.boot_len ha (by decide) (by decide) he hpl) (cb_of fun σ H vs ds Q t h => ?_)
  unfold lenD at h
  split at h
  · rename_i es
    obtain ⟨v, rfl, tv⟩ := tls1 t
    simp only [Tl] at tv
    obtain ⟨a, us, rfl, h1, h2⟩ := tv
    refine ⟨_, us.length, rfl, ?_, h _ H (Same.refl H) (by rw [h2.length]; simp [Tl])⟩
    exact .inl ⟨us, h1.sq, rfl⟩
  · rename_i es
    obtain ⟨v, rfl, tv⟩ := tls1 t
    simp only [Tl] at tv
    obtain ⟨a, us, rfl, h1, h2⟩ := tv
    refine ⟨_, us.length, rfl, ?_, h _ H (Same.refl H) (by rw [h2.length]; simp [Tl])⟩
    exact .inr ⟨us, h1, rfl⟩
  · rename_i x
    split at h
    · rename_i hx
      obtain ⟨v, rfl, tv⟩ := tls1 t
      simp only [Tl] at tv
      subst tv
      exact ⟨_, x.length, rfl, ⟨hx, rfl⟩, h _ H (Same.refl H) (by simp [Tl])⟩
    · exact h.elim
  · exact h.elim
end
end L3
end

section
set_option Elab.async false
set_option linter.all false
set_option maxRecDepth 100000
namespace L3
open PySem PySem.Spec PyProof.Rows L2

/-! ### == of data -/
theorem canLayAll_pys : ∀ (ds : List D), (∀ d ∈ ds, (py d).canLay0 = true) → PyData.canLayAll0 (pys ds) = true
  | [], _ => by simp [pys, PyData.canLayAll0]
  | d :: ds, h => by
    simp only [pys, PyData.canLayAll0, Bool.and_eq_true]
    exact ⟨h d (.head _), canLayAll_pys ds fun x hx => h x (.tail _ hx)⟩
theorem depthAll_pys {n : Nat} : ∀ (ds : List D), (∀ d ∈ ds, (py d).depth ≤ n) → PyData.depthAll (pys ds) ≤ n
  | [], _ => by simp [pys, PyData.depthAll]
  | d :: ds, h => by
    simp only [pys, PyData.depthAll]
    exact Nat.max_le.mpr ⟨h d (.head _), depthAll_pys ds fun x hx => h x (.tail _ hx)⟩
theorem okq_lay : ∀ (n : Nat) (d : D), okq n d = true → (py d).canLay0 = true ∧ (py d).depth ≤ n
  | n, .non, _ => by simp [py, PyData.canLay0, PyData.depth]
  | n, .bl b, _ => by simp [py, PyData.canLay0, PyData.depth]
  | n, .int b, _ => by simp [py, PyData.canLay0, PyData.depth]
  | n, .str b, h => by cases n <;> simp_all [py, PyData.canLay0, PyData.depth, okq]
  | 0, .tup ds, h => by simp [okq] at h
  | 0, .lst ds, h => by simp [okq] at h
  | n + 1, .tup ds, h => by
    simp only [okq, List.all_eq_true] at h
    simp only [py, PyData.canLay0, PyData.depth]
    exact ⟨canLayAll_pys ds fun d hd => (okq_lay n d (h d hd)).1, Nat.succ_le_succ (depthAll_pys ds fun d hd => (okq_lay n d (h d hd)).2)⟩
  | n + 1, .lst ds, h => by
    simp only [okq, List.all_eq_true] at h
    simp only [py, PyData.canLay0, PyData.depth]
    exact ⟨canLayAll_pys ds fun d hd => (okq_lay n d (h d hd)).1, Nat.succ_le_succ (depthAll_pys ds fun d hd => (okq_lay n d (h d hd)).2)⟩
  | 0, .obj _ _ _, h => by simp [okq] at h
  | 0, .exc _, h => by simp [okq] at h
  | n + 1, .obj _ _ _, h => by simp [okq] at h
  | n + 1, .exc _, h => by simp [okq] at h
theorem okq_shaped {d : D} (h : okq 12 d = true) : SeqAt.shaped (py d) = true := by
  obtain ⟨h1, h2⟩ := okq_lay 12 d h
  unfold SeqAt.shaped
  rw [h1, Bool.true_and]
  exact decide_eq_true (Nat.le_trans h2 (by decide))
section
variable {X : Cx} {ct : Ct} {pins : List (Addr × Obj)} {σ : St} {H : Hp} {s : Shared}
theorem readsAll_of {f : D → Prop} (hf : ∀ d v u, f d → Tl X.K ct H d v → RelV v u → ∃ as, Reads s.heap u (py d) as) : ∀ (ds : List D) (vs : List V) (us : List Value), (∀ d ∈ ds, f d) → Tls X.K ct H ds vs → Vals vs us → ∃ as, ReadsAll s.heap us (pys ds) as
  | [], vs, us, _, h, r => by
    simp only [Tls] at h; subst h
    cases r
    exact ⟨[], .nil⟩
  | d :: ds, vs, us, hd, h, r => by
    simp only [Tls] at h
    obtain ⟨v, w, rfl, t1, t2⟩ := h
    cases r with
    | cons r1 r2 =>
      obtain ⟨as, h1⟩ := hf d v _ (hd d (.head _)) t1 r1
      obtain ⟨bs, h2⟩ := readsAll_of hf ds w _ (fun x hx => hd x (.tail _ hx)) t2 r2
      exact ⟨as ++ bs, .cons h1 h2⟩
theorem reads_of (I : Inv X pins σ H s) : ∀ (n : Nat) (d : D) (v : V) (u : Value), okq n d = true → Tl X.K ct H d v → RelV v u → ∃ as, Reads s.heap u (py d) as
  | n, .non, v, u, _, t, r => by simp only [Tl] at t; subst t; cases r; exact ⟨[], .none⟩
  | n, .bl b, v, u, _, t, r => by simp only [Tl] at t; subst t; cases r; exact ⟨[], .bool b⟩
  | n, .int i, v, u, _, t, r => by simp only [Tl] at t; subst t; obtain ⟨k, rfl⟩ := r; exact ⟨[], .int i k⟩
  | n, .str x, v, u, _, t, r => by simp only [Tl] at t; subst t; obtain ⟨k, rfl⟩ := r; exact ⟨[], .str x k⟩
  | 0, .tup ds, v, u, h, _, _ => by simp [okq] at h
  | 0, .lst ds, v, u, h, _, _ => by simp [okq] at h
  | n + 1, .tup ds, v, u, h, t, r => by
    simp only [Tl] at t
    obtain ⟨a, vs, rfl, t1, t2⟩ := t
    cases r
    simp only [okq, List.all_eq_true] at h
    obtain ⟨its, rv, ⟨o, h1, h2, m, h3⟩, _⟩ := I.tuple t1
    obtain ⟨as, q⟩ := readsAll_of (f := fun d => okq n d = true) (fun d v u h t r => reads_of I n d v u h t r) ds vs its h t2 rv
    exact ⟨as, reads_tuple_at h1 h2 h3 (by simpa using q)⟩
  | n + 1, .lst ds, v, u, h, t, r => by
    simp only [Tl] at t
    obtain ⟨a, vs, rfl, t1, t2⟩ := t
    cases r
    simp only [okq, List.all_eq_true] at h
    obtain ⟨its, rv, ⟨o, m, h1, h2, _, h3⟩, _⟩ := I.list t1.sq
    obtain ⟨as, q⟩ := readsAll_of (f := fun d => okq n d = true) (fun d v u h t r => reads_of I n d v u h t r) ds vs its h t2 rv
    exact ⟨a :: as, reads_list_at h1 h2 h3 (by simpa using q)⟩
  | 0, .obj _ _ _, v, u, h, _, _ => by simp [okq] at h
  | 0, .exc _, v, u, h, _, _ => by simp [okq] at h
  | n + 1, .obj _ _ _, v, u, h, _, _ => by simp [okq] at h
  | n + 1, .exc _, v, u, h, _, _ => by simp [okq] at h
end
section
variable {X : Cx} {ct : Ct} {a b e : Expr} {f g : Sg → Res D} {pos : Pos}
def rDeq (K : PySem.W.Frag) (ct : Ct) (neg : Bool) : R2 := fun x y H Q => ∃ d1 d2, Tl K ct H d1 x ∧ Tl K ct H d2 y ∧ okq 12 d1 = true ∧ okq 12 d2 = true ∧ Q (.bl (if neg then !deq d1 d2 else deq d1 d2)) H
theorem op_deq (hu : X.A.units + 64 < cLine) : OpR X (compareOp .Eq) (rDeq X.K ct false) := by
  intro pins s σ H x y v u Q I rx ry ⟨d1, d2, t1, t2, o1, o2, q⟩
  obtain ⟨as, r1⟩ := reads_of I 12 d1 x v o1 t1 rx
  obtain ⟨bs, r2⟩ := reads_of I 12 d2 y u o2 t2 ry
  exact eq_dataH r1 r2 (okq_shaped o1) (okq_shaped o2) hu ⟨.bl _, H, I, rfl, q⟩
theorem op_dne (hu : X.A.units + 64 < cLine) : OpR X (compareOp .NotEq) (rDeq X.K ct true) := by
  intro pins s σ H x y v u Q I rx ry ⟨d1, d2, t1, t2, o1, o2, q⟩
  obtain ⟨as, r1⟩ := reads_of I 12 d1 x v o1 t1 rx
  obtain ⟨bs, r2⟩ := reads_of I 12 d2 y u o2 t2 ry
  exact ne_dataH r1 r2 (okq_shaped o1) (okq_shaped o2) hu ⟨.bl _, H, I, rfl, q⟩
theorem op2_eq : Op2 X ct (rDeq X.K ct false) eqD := by
  intro σ H x y d1 d2 Q _ t1 t2 h
  unfold eqD at h
  split at h
  · rename_i ho
    exact ⟨d1, d2, t1, t2, ho.1, ho.2, h _ H (Same.refl H) (by simp [Tl])⟩
  · exact h.elim
theorem op2_ne : Op2 X ct (rDeq X.K ct true) neD := by
  intro σ H x y d1 d2 Q _ t1 t2 h
  unfold neD at h
  split at h
  · rename_i ho
    exact ⟨d1, d2, t1, t2, ho.1, ho.2, h _ H (Same.refl H) (by simp [Tl])⟩
  · exact h.elim
theorem pd_eq (hu : X.A.units + 64 < cLine) (ha : PD X ct a f) (hb : PD X ct b g) : PD X ct (.Compare a [.Eq] [b] pos) (dOp eqD f g) := pd_cmp (op_deq hu) op2_eq ha hb (nomark _)
theorem pd_ne (hu : X.A.units + 64 < cLine) (ha : PD X ct a f) (hb : PD X ct b g) : PD X ct (.Compare a [.NotEq] [b] pos) (dOp neD f g) := pd_cmp (op_dne hu) op2_ne ha hb (nomark _)
theorem pdt_eq (hu : X.A.units + 64 < cLine) (ha : PD X ct a f) (hb : PD X ct b g) : PDT X ct (.Compare a [.Eq] [b] pos) (dT (dOp eqD f g)) := pdt_cmp (op_deq hu) op2_eq ha hb (nomark _)
theorem pdt_ne (hu : X.A.units + 64 < cLine) (ha : PD X ct a f) (hb : PD X ct b g) : PDT X ct (.Compare a [.NotEq] [b] pos) (dT (dOp neD f g)) := pdt_cmp (op_dne hu) op2_ne ha hb (nomark _)
/-! ### items -/
theorem atI_tls {K : PySem.W.Frag} {H : Hp} {ds : List D} {vs : List V} {i : Int} {d : D} (t : Tls K ct H ds vs) (h : atI ds i = some d) : ∃ v, atI vs i = some v ∧ Tl K ct H d v := by
  unfold atI at h ⊢
  rw [← t.length]
  cases q : ixN ds.length i with
  | none => rw [q] at h; cases h
  | some k => rw [q] at h; exact t.get h
theorem op2_ix : Op2 X ct (rIx X.K) ixD := by
  intro σ H x y d1 d2 Q _ t1 t2 h
  unfold ixD at h
  split at h
  · rename_i ds i
    split at h
    · rename_i d hd
      simp only [Tl] at t1 t2
      obtain ⟨a, vs, rfl, h1, h2⟩ := t1
      subst t2
      obtain ⟨v, hv, tv⟩ := atI_tls h2 hd
      exact .inl ⟨a, vs, i, v, rfl, rfl, h1.sq, hv, h v H (Same.refl H) tv⟩
    · exact h.elim
  · rename_i ds i
    split at h
    · rename_i d hd
      simp only [Tl] at t1 t2
      obtain ⟨a, vs, rfl, h1, h2⟩ := t1
      subst t2
      obtain ⟨v, hv, tv⟩ := atI_tls h2 hd
      exact .inr (.inl ⟨a, vs, i, v, rfl, rfl, h1, hv, h v H (Same.refl H) tv⟩)
    · exact h.elim
  · rename_i z i
    split at h
    · rename_i hz
      split at h
      · rename_i c hc
        simp only [Tl] at t1 t2
        subst t1 t2
        exact .inr (.inr ⟨z, i, c, rfl, rfl, hz, hc, h _ H (Same.refl H) (by simp [Tl])⟩)
      · exact h.elim
    · exact h.elim
  · exact h.elim
theorem pd_ix (ha : PD X ct a f) (hb : PD X ct b g) (hs : PlainIx b := by exact fun _ _ => rfl) : PD X ct (.Subscript a b pos) (dOp ixD f g) := PE.imp (pe_ix ix_seq ha hb hs) (op2_of op2_ix)

/-! ### + : ints, texts; lists by pl_cat -/
theorem pd_add (ha : PD X ct a f) (hb : PD X ct b g) : PD X ct (.BinOp a .Add b pos) (dOp addD f g) := by
  refine pd_op (OpR.or op_add op_add_str) (fun σ H x y d1 d2 Q _ t1 t2 h => ?_) ha hb
  unfold addD at h
  split at h
  · simp only [Tl] at t1 t2
    subst t1 t2
    exact .inl ⟨_, _, rfl, rfl, h _ H (Same.refl H) (by simp [Tl])⟩
  · split at h
    · rename_i hl
      simp only [Tl] at t1 t2
      subst t1 t2
      exact .inr ⟨_, _, rfl, rfl, hl, h _ H (Same.refl H) (by simp [Tl])⟩
    · exact h.elim
  · exact h.elim
def rCatF (K : PySem.W.Frag) : R2 := fun x y H Q => ∃ l b xs zs, x = .ref l ∧ y = .ref b ∧ SqL K H l xs ∧ SqL K H b zs ∧ xs.length + zs.length ≤ sizeLine ∧ ∀ p, H p = none → Q (.ref p) (upd H p (.lst (xs ++ zs)))
theorem op_catF : OpR X (binaryOp .Add) (rCatF X.K) := by
  intro pins s σ H x y v u Q I rx ry h
  obtain ⟨l, b, xs, zs, rfl, rfl, hH, hB, hz, q⟩ := h
  cases rx
  cases ry
  obtain ⟨its, r, ⟨⟨oc, od, odt, osl⟩, n, e, hc, _, hd⟩, _⟩ := I.list hH
  obtain ⟨its2, r2, ⟨⟨oc2, od2, odt2, osl2⟩, n2, e2, hc2, _, hd2⟩, _⟩ := I.list hB
  simp only at hc hd hc2 hd2
  subst hc hd hc2 hd2
  have hl := r.length
  have hl2 := r2.length
  have ea : its.toArray ++ its2.toArray = (its ++ its2).toArray := by simp
  refine concat_meets ⟨_, e, rfl⟩ ⟨_, e2, rfl⟩ noFill_list_add seq_list_add PySem.F.slot_list_add PySem.F.entry_list_add
    (PySem.F.args_list_add_2 _ _) (list_addW l b its.toArray its2.toArray n n2 od od2 osl osl2 (by simp only [List.size_toArray]; omega)) ⟨e, e2, ?_⟩
  rw [ea]
  exact ⟨.ref _, _, I.lnew (t' := s.toks) (r.append r2) (by rw [List.length_append]; omega), rfl, q _ I.fresh⟩
theorem pl_cat (ha : PD X ct a f) (hb : PD X ct b g) : PL X ct (.BinOp a .Add b pos) (lOp catD f g) := by
  refine PE.imp (pe_op op_catF ha hb) ?_
  rintro σ H Q ⟨Γ, j, h⟩
  refine eOf.bnd j h fun d1 v H1 s1 t1 j1 h1 => ?_
  refine eOf.bnd (W := Wl X ct H Q) j1 (Ok.mono s1 h1 fun _ z => z) fun d2 u H2 s2 t2 j2 h2 => ?_
  have t1 := t1.keep (Same.keep s2)
  unfold catD at h2
  split at h2
  · split at h2
    · rename_i hl
      simp only [Tl] at t1 t2
      obtain ⟨a, vs, rfl, q1, q2⟩ := t1
      obtain ⟨b, us, rfl, q3, q4⟩ := t2
      refine ⟨a, b, vs, us, rfl, rfl, q1.sq, q3.sq, by rw [← q2.length, ← q4.length]; exact hl, fun p hp => ?_⟩
      have s3 := same_new hp (.lst (vs ++ us))
      exact h2 p _ _ ((s1.trans s2).trans s3) ((s1.trans s2).free hp) upd_same ((q2.append q4).keep (Same.keep s3))
    · exact h2.elim
  · exact h2.elim
/-! ### a part of a list -/
def oOf (X : Cx) (ct : Ct) (f : Sg → Res (Option Int)) : TO := fun σ H Q => ∃ Γ, Jx X ct Γ σ H ∧ Ok X ct σ H (f Γ) fun i => ∀ H', Same H H' → Q i H'
abbrev PDO (X : Cx) (ct : Ct) (e : Option Expr) (f : Sg → Res (Option Int)) : Prop := PO X e (oOf X ct f)
theorem PO.imp {e : Option Expr} {t u : TO} (h : PO X e t) (k : ∀ σ H Q, u σ H Q → t σ H Q) : PO X e u := fun pins s σ H Q I q => h pins s σ H Q I (k σ H Q q)
theorem pdo_none : PDO X ct none dNoP := PO.imp po_none fun σ H Q ⟨Γ, j, h⟩ => h H (Same.refl H)
theorem pdo_some (he : PD X ct e f) : PDO X ct (some e) (dP f) := by
  refine PO.imp (po_some he) fun σ H Q ⟨Γ, j, h⟩ => ?_
  refine eOf.bnd j h fun d v H' s t j' h' => ?_
  cases d with
  | int i => simp only [Tl] at t; exact ⟨i, t, h' H' s⟩
  | _ => exact h'.elim
theorem cutL_tls {K : PySem.W.Frag} {H : Hp} {ds : List D} {vs : List V} (t : Tls K ct H ds vs) (lo hi : Option Int) : Tls K ct H (cutL ds lo hi) (cutV vs lo hi) := by
  unfold cutL cutV
  rw [t.length]
  exact (t.drop _).take _
theorem pl_cut {lo hi : Option Expr} {l u : Sg → Res (Option Int)} {p2 : Pos} (he : PD X ct e f) (hl : PDO X ct lo l) (hu : PDO X ct hi u) : PL X ct (.Subscript e (.Slice lo hi none p2) pos) (lCut f l u) := by
  refine PE.imp (pe_slice sl_list he hl hu) fun σ H Q ⟨Γ, j, h⟩ => ?_
  refine eOf.bnd j h fun d v H1 s1 t1 j1 h1 => ?_
  refine ⟨Γ, j1, (Ok.mono s1 h1 fun _ z => z).bnd (W := Wl X ct H Q) fun lo _ h2 H2 s2 => ?_⟩
  refine ⟨Γ, j1.mono s2, (Ok.mono s2 h2 fun _ z => z).bnd (W := Wl X ct H Q) fun hi _ h3 H3 s3 => ?_⟩
  have t3 := t1.keep (Same.keep (s2.trans s3))
  cases d with
  | lst xs =>
    simp only [Tl] at t3
    obtain ⟨a, vs, rfl, fz, tl⟩ := t3
    refine ⟨a, vs, rfl, fz.sq, fun p hp => ?_⟩
    have s4 := same_new hp (.lst (cutV vs lo hi))
    exact h3 p _ _ (((s1.trans s2).trans s3).trans s4) (((s1.trans s2).trans s3).free hp) upd_same ((cutL_tls tl lo hi).keep (Same.keep s4))
  | _ => exact h3.elim
end
end L3
end

section
set_option Elab.async false
set_option linter.all false
set_option maxRecDepth 100000
namespace L3
open PySem PySem.Spec PyProof.Rows L2

section
variable {X : Cx} {ct : Ct} {e : Expr} {f : Sg → Res D} {pos : Pos} {st : Stmt} {F : Sg → Out}
/-! ### lists of the def's own -/
theorem sizeLine_big : 1000000 < sizeLine := by rw [sizeLine_eq]; decide
theorem pds_append (i : Nat) {x : Str} {p1 ap cp : Pos} (he : PD X ct e f) (hN : X.N[i]? = some x := by rfl) (hv : Vis X.env.scope x := by first | exact Or.inl rfl | exact Or.inr (Or.inl rfl) | exact Or.inr (Or.inr rfl)) (hd : (x == ("__debug__" : Str)) = false := by decide)
    (hcd : (x == ("__classdict__" : Str)) = false := by decide)
    (hbase : attributeBase (.Name x p1) "append" X.env (eval (.Name x p1) X.env) = eval (.Name x p1) X.env := by rfl)
    (hfew : ((backTo cp (starEach [e] X.env)).all (fun x => !x.1) && (backToKw cp (keywordEach [] X.env)).all (fun x => x.1.isSome)
      && decide ([e].length + ([] : List Keyword).length + (if ([] : List Keyword).isEmpty then 0 else 1) < 30)) = true := by rfl)
    (hline : (ap.endLine == cp.line) = true := by rfl) (hs : starEach [e] X.env = (false, eval e X.env) :: starEach [] X.env := by rfl) (hplain : (backTo cp (starEach [] X.env)).any (·.1) = false := by rfl)
    (hw : swapsWith (.Call (.Attribute (.Name x p1) "append" ap) [e] [] cp) none pos.line X.env = pure false := by rfl) :
    PDS X ct (.Expr (.Call (.Attribute (.Name x p1) "append" ap) [e] [] cp) pos) (sAppend i f) := by
  refine PS.imp (ps_expr (pe_bm PySem.F.plainAttrs_list PySem.F.slot_list_append PySem.F.type_list_append mt_append (pe_var hN hv hd hcd) (pa_cons he pa_nil hs) hbase hfew hline hs hplain) hw) fun E σ H ⟨Γ, j, h⟩ => ?_
  unfold sAppend at h
  split at h
  · rename_i ds hi
    obtain ⟨a, vs, h1, h2, h3, h4⟩ := j.ml hi
    refine ⟨.ref a, h1, .inl ⟨rfl, vs, SqL.of h2⟩, Γ, j, h.ok j fun d _ q v H' s t => ?_⟩
    split at q
    · rename_i hl
      have h2' := s _ _ h2
      have hlen := h4.length
      refine ⟨a, vs, v, rfl, rfl, h2', Nat.lt_trans (by omega) sizeLine_big, ?_⟩
      have kp : Keep H' (L2.upd H' a (.lst (vs ++ [v]))) := fun b o hb st => by
        have : b ≠ a := by rintro rfl; rw [h2'] at hb; cases hb; exact st
        rw [upd_ne this]; exact hb
      exact q σ _ ((Same.keep s).trans kp) ((j.mono s).upd hi h1 h2' h3 ((h4.keep (Same.keep s)).append (Tls.cons t Tls.nil)))
    · exact q.elim
  · exact h.elim
theorem pds_clear (i : Nat) {x : Str} {p1 ap cp : Pos} (hN : X.N[i]? = some x := by rfl) (hv : Vis X.env.scope x := by first | exact Or.inl rfl | exact Or.inr (Or.inl rfl) | exact Or.inr (Or.inr rfl)) (hd : (x == ("__debug__" : Str)) = false := by decide)
    (hcd : (x == ("__classdict__" : Str)) = false := by decide)
    (hbase : attributeBase (.Name x p1) "clear" X.env (eval (.Name x p1) X.env) = eval (.Name x p1) X.env := by rfl) (hline : (ap.endLine == cp.line) = true := by rfl)
    (hw : swapsWith (.Call (.Attribute (.Name x p1) "clear" ap) [] [] cp) none pos.line X.env = pure false := by rfl) :
    PDS X ct (.Expr (.Call (.Attribute (.Name x p1) "clear" ap) [] [] cp) pos) (sClear i) := by
  refine PS.imp (ps_expr (pe_bm0 PySem.F.plainAttrs_list PySem.F.slot_list_clear PySem.F.type_list_clear mt_clear (pe_var hN hv hd hcd) hbase hline) hw) fun E σ H ⟨Γ, j, h⟩ => ?_
  unfold sClear at h
  split at h
  · rename_i ds hi
    obtain ⟨a, vs, h1, h2, h3, h4⟩ := j.ml hi
    refine ⟨.ref a, h1, .inl ⟨rfl, vs, SqL.of h2⟩, a, vs, rfl, rfl, h2, ?_⟩
    have kp : Keep H (L2.upd H a (.lst [])) := fun b o hb st => by
      have : b ≠ a := by rintro rfl; rw [h2] at hb; cases hb; exact st
      rw [upd_ne this]; exact hb
    exact h σ _ kp (j.upd hi h1 h2 h3 Tls.nil)
  · exact h.elim
theorem J.frz {K : PySem.W.Frag} {H₀ H : Hp} {Γ : Sg} {σ : St} {i : Nat} {ds : List D} {a : Addr} {vs : List V} {ob : Obj} (j : J K ct H₀ Γ σ H) (hi : Γ[i]? = some (.ml ds)) (hs : σ[i]? = some (some (.ref a))) (ha : H a = some (.lst vs)) (h0 : H₀ a = none)
    (ht : Tls K ct H ds vs) : J K ct H₀ (Γ.set i (.val (.lst ds))) σ (L2.upd H a (.frz ob (.lst vs))) := by
  have kp : Keep H (L2.upd H a (.frz ob (.lst vs))) := fun b o hb st => by
    have : b ≠ a := by rintro rfl; rw [ha] at hb; cases hb; exact st
    rw [upd_ne this]; exact hb
  have hil : i < Γ.length := (List.getElem?_eq_some_iff.mp hi).1
  refine ⟨fun b o hb => ?_, by simp [j.len], fun k sl ov g1 g2 => ?_, fun k l es fs b hkl g1 g2 g3 => ?_⟩
  · have : b ≠ a := by rintro rfl; rw [h0] at hb; cases hb
    rw [upd_ne this]; exact j.same b o hb
  · by_cases e : i = k
    · subst e
      rw [List.getElem?_set_self hil] at g1
      rw [hs] at g2
      cases g1; cases g2
      refine ⟨_, rfl, ?_⟩
      simp only [Tl]
      exact ⟨a, vs, rfl, .inl ⟨ob, upd_same⟩, ht.keep kp⟩
    · rw [List.getElem?_set_ne e] at g1
      have q := j.at' k sl ov g1 g2
      cases sl with
      | no => trivial
      | val d => obtain ⟨v, q1, q2⟩ := q; exact ⟨v, q1, q2.keep kp⟩
      | ml fs =>
        obtain ⟨b, us, q1, q2, q3, q4⟩ := q
        have : b ≠ a := by
          rintro rfl
          rw [q1] at g2
          exact j.sep i k ds fs b e hi g1 hs g2
        exact ⟨b, us, q1, by rw [upd_ne this]; exact q2, q3, q4.keep kp⟩
  · have ne1 : ¬ i = k := by
      rintro rfl; rw [List.getElem?_set_self hil] at g1; cases g1
    have ne2 : ¬ i = l := by
      rintro rfl; rw [List.getElem?_set_self hil] at g2; cases g2
    rw [List.getElem?_set_ne ne1] at g1
    rw [List.getElem?_set_ne ne2] at g2
    exact j.sep k l es fs b hkl g1 g2 g3
theorem pds_frz (i : Nat) (h : PDS X ct st F) : PDS X ct st (fun Γ => F (frzS i Γ)) := by
  intro pins s σ H E I ⟨Γ, j, q⟩
  replace q : Fn X ct H (F (frzS i Γ)) E := q
  unfold frzS at q
  split at q
  · rename_i ds hi
    obtain ⟨a, vs, h1, h2, h3, h4⟩ := j.ml hi
    obtain ⟨ob, I2⟩ := Inv.freeze I h2 h3
    have kp : Keep H (L2.upd H a (.frz ob (.lst vs))) := fun b o hb st => by
      have : b ≠ a := by rintro rfl; rw [h2] at hb; cases hb; exact st
      rw [upd_ne this]; exact hb
    exact h pins s σ _ E I2 ⟨_, j.frz hi h1 h2 h3 h4, q.mono kp⟩
  · exact h pins s σ H E I ⟨Γ, j, q⟩
end
end L3
end

section
set_option Elab.async false
set_option linter.all false
set_option maxRecDepth 100000
namespace L3
open PySem PySem.Spec PyProof.Rows L2

/-! ### what is walked, by its data -/
/-- the iterator J yields the data xs at H and ever after -/
def ItD (K : PySem.W.Frag) (ct : Ct) (J : It) (xs : List D) (H : Hp) : Prop :=
  ∃ P : Hp → Prop, P H ∧ (∀ H1 H2, P H1 → Keep H1 H2 → P H2) ∧ (∀ i d H1, P H1 → xs[i]? = some d → J.go i H1 ∧ ∀ x H2, J.yld i H1 x H2 → H2 = H1 ∧ Tl K ct H1 d x) ∧ ∀ i H1, P H1 → xs.length ≤ i → J.stop i H1
section
variable {X : Cx} {ct : Ct} {tg iter e : Expr} {f : Sg → Res D} {pos : Pos}
theorem itD_list {K : PySem.W.Frag} {H : Hp} {a : Addr} {vs : List V} {xs : List D} (fz : FzL K H a vs) (t : Tls K ct H xs vs) : ItD K ct (Itl K a) xs H := by
  refine ⟨fun H1 => Keep H H1, Keep.refl H, fun H1 H2 k1 k2 => k1.trans k2, fun i d H1 k1 hd => ?_, fun i H1 k1 hi => ⟨vs, (k1.fzL fz).sq, by rw [← t.length]; exact hi⟩⟩
  obtain ⟨v, hv, tv⟩ := t.get hd
  refine ⟨⟨vs, v, (k1.fzL fz).sq, hv⟩, fun x H2 ⟨e, y⟩ => ⟨e, ?_⟩⟩
  have := y vs (k1.fzL fz).sq
  rw [hv] at this; cases this
  exact tv.keep k1
theorem itD_tup {K : PySem.W.Frag} {H : Hp} {a : Addr} {vs : List V} {xs : List D} (fz : SqT K H a vs) (t : Tls K ct H xs vs) : ItD K ct (Itt K a) xs H := by
  refine ⟨fun H1 => Keep H H1, Keep.refl H, fun H1 H2 k1 k2 => k1.trans k2, fun i d H1 k1 hd => ?_, fun i H1 k1 hi => ⟨vs, k1.sqT fz, by rw [← t.length]; exact hi⟩⟩
  obtain ⟨v, hv, tv⟩ := t.get hd
  refine ⟨⟨vs, v, k1.sqT fz, hv⟩, fun x H2 ⟨e, y⟩ => ⟨e, ?_⟩⟩
  have := y vs (k1.sqT fz)
  rw [hv] at this; cases this
  exact tv.keep k1
theorem itD_rng {K : PySem.W.Frag} {H : Hp} {lo : Int} {n : Nat} : ItD K ct (Itr lo n) (intsD lo n) H := by
  refine ⟨fun _ => True, trivial, fun _ _ _ _ => trivial, fun i d H1 _ hd => ?_, fun i H1 _ hi => by rw [intsD_len] at hi; exact hi⟩
  have hi : i < n := by
    have := (List.getElem?_eq_some_iff.mp hd).1
    rwa [intsD_len] at this
  rw [intsD_get hi] at hd
  cases hd
  exact ⟨hi, fun x H2 ⟨e, y⟩ => ⟨e, by simp [Tl, y]⟩⟩
def iOf (X : Cx) (ct : Ct) (f : Sg → Res (List D)) : TI := fun σ H R => ∃ Γ, Jx X ct Γ σ H ∧ Ok X ct σ H (f Γ) fun xs => ∀ J H', Same H H' → ItD X.K ct J xs H' → R J H'
abbrev PID (X : Cx) (ct : Ct) (tg iter : Expr) (f : Sg → Res (List D)) : Prop := PI X tg iter (iOf X ct f)
theorem pid_seq (he : PD X ct iter f) : PID X ct tg iter (iSeq f) := by
  intro pins s σ H R I ⟨Γ, j, h⟩
  cases q : f Γ with
  | bad => simp only [iSeq, q, Res.bnd_bad] at h; exact h.elim
  | err c =>
    simp only [iSeq, q, Res.bnd_err] at h
    exact pi_list he pins s σ H R I ⟨Γ, j, by rw [q]; exact h⟩
  | ok d =>
    simp only [iSeq, q, Res.bnd_ok] at h
    cases d with
    | lst xs =>
      replace h : ∀ J H', Same H H' → ItD X.K ct J xs H' → R J H' := h
      refine pi_list he pins s σ H R I ⟨Γ, j, ?_⟩
      rw [q]
      intro v H' sm tl
      simp only [Tl] at tl
      obtain ⟨a, vs, rfl, fz, tl⟩ := tl
      exact ⟨a, rfl, ⟨vs, fz.sq⟩, h _ H' sm (itD_list fz tl)⟩
    | tup xs =>
      replace h : ∀ J H', Same H H' → ItD X.K ct J xs H' → R J H' := h
      refine pi_tup he pins s σ H R I ⟨Γ, j, ?_⟩
      rw [q]
      intro v H' sm tl
      simp only [Tl] at tl
      obtain ⟨a, vs, rfl, fz, tl⟩ := tl
      exact ⟨a, rfl, ⟨vs, fz⟩, h _ H' sm (itD_tup fz tl)⟩
    | _ => exact h.elim
theorem pid_rng1 {a : Expr} {r : Sg → Res (List D)} {p pos' : Pos} (hm : X.mg "range" = none) (ha : PDA X ct [a] r) (hgl : Gl X "range" := by rfl) (hs : starEach [a] X.env = [(false, eval a X.env)] := by rfl) :
    PID X ct tg (.Call (.Name "range" p) [a] [] pos') (iRng1 r) := by
  intro pins s σ H R I ⟨Γ, j, h⟩
  refine pi_range1 hgl hm ha hs pins s σ H R I ⟨Γ, j, h.bnd fun ds _ q vs H' s tl => ?_⟩
  cases ex : rng1 ds with
  | bad => rw [ex] at q; exact q.elim
  | err c => exact (rng1_ne ds c ex).elim
  | ok xs =>
    rw [ex] at q
    obtain ⟨i, rfl, h1, h2, rfl⟩ := rng1_ok ex
    simp only [Tls, Tl] at tl
    obtain ⟨v, r, rfl, rfl, rfl⟩ := tl
    exact ⟨i, rfl, h1, h2, q _ H' s itD_rng⟩
theorem pid_rng2 {a b : Expr} {r : Sg → Res (List D)} {p pos' : Pos} (hm : X.mg "range" = none) (ha : PDA X ct [a, b] r) (hgl : Gl X "range" := by rfl) (hs : starEach [a, b] X.env = [(false, eval a X.env), (false, eval b X.env)] := by rfl)
    (hs2 : starEach [b] X.env = [(false, eval b X.env)] := by rfl) : PID X ct tg (.Call (.Name "range" p) [a, b] [] pos') (iRng2 r) := by
  intro pins s σ H R I ⟨Γ, j, h⟩
  refine pi_range2 hgl hm ha hs hs2 pins s σ H R I ⟨Γ, j, h.bnd fun ds _ q vs H' s tl => ?_⟩
  cases ex : rng2 ds with
  | bad => rw [ex] at q; exact q.elim
  | err c => exact (rng2_ne ds c ex).elim
  | ok xs =>
    rw [ex] at q
    obtain ⟨i, i2, rfl, h1, rfl⟩ := rng2_ok ex
    simp only [Tls, Tl] at tl
    obtain ⟨v, r, rfl, rfl, v2, r2, rfl, rfl, rfl⟩ := tl
    exact ⟨i, i2, rfl, h1, q _ H' s itD_rng⟩
end

/-! ### the cells that a comprehension's block sees -/
def clOf (cells : List (Str × Addr)) : List (Str × NameKind) → List (Str × Addr) → Option (List (Str × Addr))
  | [], acc => some acc
  | (n, k) :: r, acc => if k == .free then (match cells.lookup n with
      | some c => clOf cells r ((n, c) :: acc)
      | none => none) else clOf cells r acc
theorem clOf_sub {cells : List (Str × Addr)} : ∀ {names : List (Str × NameKind)} {acc cl : List (Str × Addr)}, clOf cells names acc = some cl → (∀ y c, acc.lookup y = some c → cells.lookup y = some c) → ∀ y c, cl.lookup y = some c → cells.lookup y = some c
  | [], acc, cl, h, ha => by cases h; exact ha
  | (n, k) :: r, acc, cl, h, ha => by
    unfold clOf at h
    split at h
    · split at h
      · rename_i c hc
        refine clOf_sub h fun y c' hy => ?_
        rw [List.lookup_cons] at hy
        split at hy
        · rename_i e
          cases hy
          rw [eq_of_beq e]; exact hc
        · exact ha y c' hy
      · cases h
    · exact clOf_sub h ha
theorem closure_of {env : Env} {scope : Scope} {cl : List (Str × Addr)} (h : clOf env.cells scope.names [] = some cl) : closureFor scope env = pure cl := by
  unfold closureFor
  generalize scope.names = names at h ⊢
  generalize ([] : List (Str × Addr)) = acc at h ⊢
  dsimp only
  induction names generalizing acc with
  | nil => cases h; rfl
  | cons p r ih =>
    obtain ⟨n, k⟩ := p
    unfold clOf at h
    rw [List.forIn_cons]
    by_cases hk : (k == NameKind.free) = true
    · rw [if_pos hk] at h
      split at h
      · rename_i c hc
        have e : cellOf env n = pure c := by unfold cellOf; rw [hc]
        simp only [hk, if_true, e, pure_bind]
        exact ih _ h
      · cases h
    · rw [if_neg hk] at h
      simp only [hk, Bool.false_eq_true, if_false, pure_bind]
      exact ih _ h

/-! ### the context of a comprehension's block -/
def cxB (X : Cx) (scope : Scope) (cl : List (Str × Addr)) (C : Addr) (s₀ : Shared) (H₀ : Hp) (ex : List Addr) (N' : List Str) : Cx where
  prog := X.prog
  w := X.w
  K := X.K
  mg := X.mg
  base := X.base
  A := X.A
  N := N'
  s₀ := s₀
  H₀ := H₀
  env := compEnvC scope cl C X.env
  outer := X.stack
  stack := X.stack
  ex := ex
  fn := fun _ => false
  calm := X.calm
  pn := []
  xe := fun _ _ => False
/-- the names at the block's entry: the targets (k of them) unset, then those that it sees -/
def blkV (k : Nat) (caps : List Nat) (σ : St) : St := List.replicate k none ++ caps.map fun i => (σ[i]?).join
theorem j_blk {X : Cx} {ct : Ct} {k : Nat} {caps : List Nat} {Γ : Sg} {σ : St} {H : Hp} (j : Jx X ct Γ σ H) : J X.K ct H (blk k caps Γ) (blkV k caps σ) H := by
  refine ⟨Same.refl H, by simp [blk, blkV], fun i sl ov h1 h2 => ?_, fun i l ds es a _ h1 => ?_⟩
  · rcases blk_get h1 with rfl | ⟨c, d, hc, hk, hd, rfl⟩
    · trivial
    · obtain ⟨v, g1, g2⟩ := j.val hd
      unfold blkV at h2
      rw [List.getElem?_append_right (by simpa using hk), List.length_replicate, List.getElem?_map, hc] at h2
      simp only [Option.map_some, Option.some.injEq] at h2
      rw [g1] at h2
      exact ⟨v, h2.symm, g2⟩
  · rcases blk_get h1 with e | ⟨c, d, hc, hk, hd, e⟩ <;> cases e
end L3
end

section
set_option Elab.async false
set_option linter.all false
set_option maxRecDepth 100000
namespace L3
open PySem PySem.Spec PyProof.Rows L2

theorem clOf_mono {cells : List (Str × Addr)} : ∀ {names : List (Str × NameKind)} {acc cl : List (Str × Addr)}, clOf cells names acc = some cl → ∀ y, (acc.lookup y).isSome = true → (cl.lookup y).isSome = true
  | [], acc, cl, h => by cases h; exact fun _ z => z
  | (n, k) :: r, acc, cl, h => by
    unfold clOf at h
    split at h
    · split at h
      · rename_i c hc
        intro y hy
        refine clOf_mono h y ?_
        rw [List.lookup_cons]
        split
        · rfl
        · exact hy
      · cases h
    · exact clOf_mono h
theorem clOf_has {cells : List (Str × Addr)} : ∀ {names : List (Str × NameKind)} {acc cl : List (Str × Addr)}, clOf cells names acc = some cl → ∀ y, (y, NameKind.free) ∈ names → (cl.lookup y).isSome = true
  | [], acc, cl, h => fun y hy => by cases hy
  | (n, k) :: r, acc, cl, h => by
    unfold clOf at h
    intro y hy
    split at h
    · split at h
      · rename_i c hc
        rcases List.mem_cons.mp hy with e | hy
        · cases e
          exact clOf_mono h _ (by simp [List.lookup_cons])
        · exact clOf_has h y hy
      · cases h
    · rename_i hk
      rcases List.mem_cons.mp hy with e | hy
      · cases e; exact absurd rfl hk
      · exact clOf_has h y hy
theorem relabel_kind {env : Env} : ∀ {names : List (Str × NameKind)} {y : Str}, (∀ z ∈ names, z.2 ≠ .cell) →
    ((names.map fun (n, k) => if (k == NameKind.free && env.scope.kind == .function && env.kindOf n == some .cell) then (n, NameKind.cell) else (n, k)).lookup y = some .cell ∨
     (names.map fun (n, k) => if (k == NameKind.free && env.scope.kind == .function && env.kindOf n == some .cell) then (n, NameKind.cell) else (n, k)).lookup y = some .free) → (y, NameKind.free) ∈ names
  | [], y, _, h => by simp at h
  | (n, k) :: r, y, hc, h => by
    have ih := @relabel_kind env r y fun z hz => hc z (.tail _ hz)
    have hk : k ≠ .cell := hc (n, k) (.head _)
    have e1 : (((n, k) :: r).map fun (n, k) => if (k == NameKind.free && env.scope.kind == .function && env.kindOf n == some .cell) then (n, NameKind.cell) else (n, k)) =
      (if (k == NameKind.free && env.scope.kind == .function && env.kindOf n == some .cell) = true then (n, NameKind.cell) else (n, k)) :: (r.map fun (n, k) => if (k == NameKind.free && env.scope.kind == .function && env.kindOf n == some .cell) then (n, NameKind.cell) else (n, k)) := rfl
    rw [e1] at h
    by_cases hcnd : (k == NameKind.free && env.scope.kind == .function && env.kindOf n == some .cell) = true
    · rw [if_pos hcnd] at h
      have hkf : k = .free := by
        have := (Bool.and_eq_true_iff.mp (Bool.and_eq_true_iff.mp hcnd).1).1
        exact eq_of_beq this
      simp only [List.lookup_cons] at h
      split at h
      · rename_i e
        rw [eq_of_beq e, hkf]; exact .head _
      · exact .tail _ (ih h)
    · rw [if_neg hcnd] at h
      simp only [List.lookup_cons] at h
      split at h
      · rename_i e
        rcases h with h | h
        · exact absurd (Option.some.inj h) hk
        · rw [eq_of_beq e, Option.some.inj h]; exact .head _
      · exact .tail _ (ih h)

/-- one turn of a comprehension's loop: next, the pair let go, the target, the tests, the item, append -/
theorem compLoop_any {prog : Program} {w : World} {A : Around} {R : Result → Shared → Prop} {s : Shared} {elt target iter : Expr} {ifs : List Expr} {scope : Scope} {pos : Pos} {it acc : Value} {env : Env} (I : Nat → Shared → Prop)
    (turn : ∀ n s, I n s → wpAny (model prog w) A (pyNext it) (fun r s₁ => match r with
      | none => R (.ok .next) s₁
      | some v => wpAny (model prog w) A (letOwnedTupleGo target it v) (fun _ s₁' => wpAny (model prog w) A (assign target env v) (fun _ s₂ =>
          wpAny (model prog w) A (forIn ifs true fun c r => if r = true then do let ok ← isTrue c env (eval c env); pure (ForInStep.yield ok) else pure (ForInStep.yield r)) (fun ok s₃ =>
            if ok = true then wpAny (model prog w) A (eval elt env) (fun x s₄ =>
              wpAny (model prog w) A (call (.builtin "list.append") [acc, x]) (fun _ s₅ => ∃ m, m < n ∧ I m s₅) (fun _ _ => False) s₄) (fun _ _ => False) s₃
            else ∃ m, m < n ∧ I m s₃) (fun _ _ => False) s₂) (fun _ _ => False) s₁') (fun _ _ => False) s₁) (fun _ _ => False) s)
    (n : Nat) (h : I n s) :
    codeAny (model prog w) A (.compLoop (.ListComp elt [⟨target, iter, ifs, 0⟩] scope pos) 0 it acc env) R s := by
  refine codeAny_loop rfl I (fun n s hI => ?_) n h
  show wpAny _ A ((compTurn (.ListComp elt [⟨target, iter, ifs, 0⟩] scope pos) 0 it acc env).onRaise (fun x => do noteFrame x env; theTreesLotGoes x)) _ _ s
  refine wpAny_noted ?_
  rw [compTurn_list]
  refine wpAny_bind (wpAny_standAt (wpAny_bind (wpAny_mono (turn n s hI) (fun r s₁ h₁ => ?_) fun _ _ h' => h'.elim)))
  cases r with
  | none => exact wpAny_pure h₁
  | some v =>
    refine wpAny_bind (wpAny_mono h₁ (fun _ s₁' h₁' => ?_) fun _ _ h' => h'.elim)
    refine wpAny_bind (wpAny_mono h₁' (fun _ s₂ h₂ => wpAny_bind (wpAny_mono h₂ (fun ok s₃ h₃ => ?_) fun _ _ h' => h'.elim)) fun _ _ h' => h'.elim)
    cases ok with
    | false => exact wpAny_pure ⟨rfl, h₃⟩
    | true =>
      exact wpAny_bind (wpAny_bind (wpAny_mono h₃ (fun x s₄ h₄ => wpAny_bind (wpAny_mono h₄ (fun _ s₅ h₅ => wpAny_pure (wpAny_pure ⟨rfl, h₅⟩)) fun _ _ h' => h'.elim)) fun _ _ h' => h'.elim))

/-! ### the reading -/
/-- the tests of a comprehension -/
def PTs (X : Cx) (ct : Ct) (ifs : List Expr) (p : Sg → Res Bool) : Prop :=
  ∀ (pins : List (Addr × Obj)) (s : Shared) (σ : St) (H : Hp) (Q : Bool → Hp → Prop), Inv X pins σ H s → cOf X ct p σ H Q →
    wpAny (model X.prog X.w) X.A (forIn ifs true fun c r => if r = true then do let ok ← isTrue c X.env (eval c X.env); pure (ForInStep.yield ok) else pure (ForInStep.yield r)) (TP X pins σ Q) X.xe s
theorem pts_nil {X : Cx} {ct : Ct} : PTs X ct [] cYes := fun pins s σ H Q I ⟨Γ, j, h⟩ => wpAny_tests_nil ⟨H, I, h H (Same.refl H)⟩
theorem pts_one {X : Cx} {ct : Ct} {c : Expr} {p : Sg → Res Bool} (h : PDT X ct c p) : PTs X ct [c] p := fun pins s σ H Q I q => wpAny_tests_one (h pins s σ H Q I q)
theorem J.touch {K : PySem.W.Frag} {ct : Ct} {H₀ H H' : Hp} {Γ : Sg} {σ : St} (j : J K ct H₀ Γ σ H) (n : noML Γ) (k : Keep H H') (s : Same H₀ H') : J K ct H₀ Γ σ H' := by
  refine ⟨s, j.len, fun i sl ov h1 h2 => ?_, fun i l ds es a _ h1 => absurd h1 (n i ds)⟩
  have q := j.at' i sl ov h1 h2
  cases sl with
  | no => trivial
  | val d => obtain ⟨v, q1, q2⟩ := q; exact ⟨v, q1, q2.keep k⟩
  | ml ds => exact absurd h1 (n i ds)
theorem blk_noML {k : Nat} {caps : List Nat} {Γ : Sg} : noML (blk k caps Γ) := fun i ds h => by
  rcases blk_get h with e | ⟨c, d, _, _, _, e⟩ <;> cases e
end L3
end

section
set_option Elab.async false
set_option linter.all false
set_option maxRecDepth 100000
namespace L3
open PySem PySem.Spec PyProof.Rows L2

/-- what of the text a comprehension must have: its scope's names, what it sees -/
structure CompOk (X : Cx) (scope : Scope) (cl : List (Str × Addr)) (k : Nat) (caps : List Nat) (N' : List Str) : Prop where
  clos : clOf X.env.cells scope.names [] = some cl
  cell : ∀ y ∈ scope.names, y.2 ≠ .cell
  kind : scope.kind = .function
  names : ∀ y ∈ scope.names, y.2 = .local → scope.names.lookup y.1 = some .local
  len : N'.length = k + caps.length
  cap : ∀ (i c : Nat) (y : Str), caps[i]? = some c → N'[k + i]? = some y → X.N[c]? = some y ∧ Vis X.env.scope y ∧ X.env.kindOf y ≠ some .local ∧ (y, NameKind.free) ∈ scope.names
theorem relabel_free {env : Env} : ∀ {names : List (Str × NameKind)} {y : Str}, (∀ z ∈ names, z.1 = y → z.2 = .free) → (y, NameKind.free) ∈ names →
    ((names.map fun (n, k) => if (k == NameKind.free && env.scope.kind == .function && env.kindOf n == some .cell) then (n, NameKind.cell) else (n, k)).lookup y = some .cell ∨
     (names.map fun (n, k) => if (k == NameKind.free && env.scope.kind == .function && env.kindOf n == some .cell) then (n, NameKind.cell) else (n, k)).lookup y = some .free)
  | [], y, _, h => by cases h
  | (n, k) :: r, y, hu, h => by
    have e1 : (((n, k) :: r).map fun (n, k) => if (k == NameKind.free && env.scope.kind == .function && env.kindOf n == some .cell) then (n, NameKind.cell) else (n, k)) =
      (if (k == NameKind.free && env.scope.kind == .function && env.kindOf n == some .cell) = true then (n, NameKind.cell) else (n, k)) :: (r.map fun (n, k) => if (k == NameKind.free && env.scope.kind == .function && env.kindOf n == some .cell) then (n, NameKind.cell) else (n, k)) := rfl
    rw [e1]
    by_cases hy : y = n
    · subst hy
      have hk : k = .free := hu (y, k) (.head _) rfl
      subst hk
      by_cases hcnd : (NameKind.free == NameKind.free && env.scope.kind == .function && env.kindOf y == some .cell) = true
      · rw [if_pos hcnd]; left; simp [List.lookup_cons]
      · rw [if_neg hcnd]; right; simp [List.lookup_cons]
    · have hb : (y == n) = false := by simpa using hy
      have hm : (y, NameKind.free) ∈ r := by
        rcases List.mem_cons.mp h with e | h
        · cases e; exact absurd rfl hy
        · exact h
      have ih := @relabel_free env r y (fun z hz => hu z (.tail _ hz)) hm
      by_cases hcnd : (k == NameKind.free && env.scope.kind == .function && env.kindOf n == some .cell) = true
      · rw [if_pos hcnd]; simp only [List.lookup_cons, hb]; exact ih
      · rw [if_neg hcnd]; simp only [List.lookup_cons, hb]; exact ih

section
variable {X : Cx} {ct : Ct} {elt iter tg : Expr} {ifs : List Expr} {scope : Scope} {cl : List (Str × Addr)} {pos : Pos} {k : Nat} {caps : List Nat} {N' : List Str} {fi : Sg → Res (List D)} {t : Tg} {p : Sg → Res Bool} {fe : Sg → Res D}
theorem inv_blk {pins : List (Addr × Obj)} {σ : St} {H : Hp} {s : Shared} {fp : List Addr} {h₁ : Heap} {tk : Nat} (I : Inv X pins σ H s) (co : CompOk X scope cl k caps N') (hfr : ∀ z ∈ scope.names, ∀ y, (y, NameKind.free) ∈ scope.names → z.1 = y → z.2 = .free)
    (hfp : ∀ b ∈ fp, FpOk X pins H b) (hfo : ∀ b ∈ fp, ∃ o, s.heap.get? b = some o)
    (hns : h₁.Ns (s.heap.objs.size + 1) (fun x => (([] : List (Str × Value)).reverse).lookup x))
    (hk : ∀ b o, s.heap.get? b = some o → h₁.get? b = some o) (hD : h₁.get? s.heap.objs.size = some { cls := .type "list", data := .seq #[] }) :
    Inv (cxB X scope cl (s.heap.objs.size + 1) s H fp N') [] (blkV k caps σ) (upd H s.heap.objs.size (.lst [])) { s with heap := h₁, toks := tk } := by
  have hsub := clOf_sub co.clos (by simp)
  have hfree : H s.heap.objs.size = none := I.hok.fresh (Nat.le_refl _)
  have cless : ∀ x c, cl.lookup x = some c → c < s.heap.objs.size := fun x c e => by
    obtain ⟨v, o, ho, _⟩ := I.cell x c (hsub x c e)
    exact Heap.lt_size ho
  refine ⟨⟨I.ok.mod, co.kind, I.ok.glob, I.ok.blt, Nat.le_succ _, fun x y c e1 e2 => I.ok.inj x y c (hsub x c e1) (hsub y c e2), fun x hx => ?_, fun x c hf => absurd hf (by exact Bool.false_ne_true), I.ok.hd, I.ok.frames, .inl rfl, fun b hb => ?_, I.bs, Nat.le_trans I.ok.bsz I.sz, fun b o e hb => ?_, fun b hb hs => ?_, I.stack, I.stkFree⟩,
    rfl, I.bare, Un.laid hk (Nat.le_refl _) hfree, ⟨_, hns, fun i y v h1 h2 h3 => ?_⟩, fun x c e => ?_, ?_, fun x c e => ?_, fun p hp => absurd (show p ∈ ([] : List (Addr × Obj)) ++ [] from hp) (by simp), I.hok.laid hk (Nat.le_refl _) ⟨Nat.zero_le _, [], 0, .nil, hD⟩, ?_⟩
  · exact Option.isSome_iff_exists.mp (clOf_has co.clos x (relabel_kind co.cell hx))
  · obtain ⟨o, ho⟩ := hfo b hb
    refine ⟨Nat.ne_of_lt (Nat.lt_succ_of_lt (Heap.lt_size ho)), fun x c e => (hfp b hb).2.2.2.2.1 x c (hsub x c e)⟩
  · rcases (hfp b hb).2.2.2.1 with z | z
    · exact I.ok.noex b o e z
    · exact absurd (Heap.lt_size (I.ok.bs b o e).1) (Nat.not_lt.mpr z)
  · rcases List.mem_cons.mp (I.stkSub b hs) with z | z
    · exact (hfp b hb).2.1 z
    · exact (hfp b hb).2.2.1 z
  · -- what it sees
    by_cases hi : i < k
    · unfold blkV at h2
      rw [List.getElem?_append_left (by simpa using hi), List.getElem?_replicate, if_pos hi] at h2
      cases h2
    · unfold blkV at h2
      rw [List.getElem?_append_right (by simpa using hi), List.length_replicate, List.getElem?_map] at h2
      cases q : caps[i - k]? with
      | none => rw [q] at h2; cases h2
      | some c =>
        rw [q] at h2
        simp only [Option.map_some, Option.some.injEq] at h2
        obtain ⟨g1, g2, g3, g4⟩ := co.cap (i - k) c y q (by rw [Nat.add_sub_cancel' (Nat.le_of_not_lt hi)]; exact h1)
        obtain ⟨m, hn, hl⟩ := I.loc
        have hσ : σ[c]? = some (some v) := by
          cases z : σ[c]? with
          | none => rw [z] at h2; cases h2
          | some w => rw [z] at h2; simp only [Option.join_some] at h2; rw [h2]
        obtain ⟨u, r, lk⟩ := hl c y v g1 hσ g2
        refine ⟨u, r, .inr ⟨relabel_free (fun z hz e => hfr z hz y g4 e) g4, ?_⟩⟩
        rcases lk with ⟨z, _⟩ | ⟨_, c', e, hc⟩
        · exact absurd z g3
        · obtain ⟨c2, e2⟩ := Option.isSome_iff_exists.mp (clOf_has co.clos y g4)
          have : c2 = c' := by
            have := hsub y c2 e2
            rw [e] at this; exact (Option.some.inj this).symm
          subst this
          obtain ⟨o, ho, hd⟩ := hc
          exact ⟨c2, e2, o, hk _ _ ho, hd⟩
  · obtain ⟨v, o, ho, hd⟩ := I.cell x c (hsub x c e)
    exact ⟨v, o, hk _ _ ho, hd⟩
  · show upd H s.heap.objs.size (.lst []) (s.heap.objs.size + 1) = none
    rw [upd_ne (Nat.succ_ne_self _)]
    exact I.hok.fresh (Nat.le_succ _)
  · rw [upd_ne (Nat.ne_of_lt (cless x c e))]
    exact I.freeC x c (hsub x c e)
  · simp [blkV, cxB, co.len]

theorem comp_core {pins : List (Addr × Obj)} {σ : St} {H : Hp} {s : Shared} {Γ : Sg} {cp : Pos} {use : Option (Value → Sem Unit)} {Q' : Value → Shared → Prop} {Wk : List D → Prop} (hc : X.calm = true) (hi : PID X ct tg iter fi) (co : CompOk X scope cl k caps N') (hfr : ∀ z ∈ scope.names, ∀ y, (y, NameKind.free) ∈ scope.names → z.1 = y → z.2 = .free)
    (hg : ∀ C s₀ H₀ ex, PGD (cxB X scope cl C s₀ H₀ ex N') ct tg t) (hp : ∀ C s₀ H₀ ex, PTs (cxB X scope cl C s₀ H₀ ex N') ct ifs p) (he : ∀ C s₀ H₀ ex, PD (cxB X scope cl C s₀ H₀ ex N') ct elt fe)
    (hf : ∀ Γ x Γ1 σ H H₀, t x (blk k caps Γ) = some Γ1 → J X.K ct H₀ Γ1 σ H → J X.K ct H₀ (blk k caps Γ) σ H) (hs : ∀ x, foldedSetIterable iter X.env x = pure x)
    (I : Inv X pins σ H s) (j : Jx X ct Γ σ H) (h : Ok X ct σ H (lComp fi k caps t p fe Γ) Wk)
    (fin : ∀ (acc C : Addr) (av : List V) (ys : List D) (H1 : Hp) (s4 : Shared) (m : Str → Option Value), Inv X pins σ H1 s4 → Same H H1 → H acc = none → H1 acc = some (.lst av) → Tls X.K ct H1 ys av → Wk ys → s4.heap.Ns C m → H1 C = none → C ≠ X.env.locals → X.s₀.heap.objs.size ≤ C →
      (∀ x c, X.env.cells.lookup x = some c → c ≠ C) → (∀ p ∈ X.pn ++ pins, p.1 ≠ C) → compPost (model X.prog X.w) X.A X.xe use Q' (.ref acc) C (.ok .next) s4) :
    wpAny (model X.prog X.w) X.A (comprehension (.ListComp elt [⟨tg, iter, ifs, 0⟩] scope pos) scope X.env cp (newList []) false (eval iter X.env) use) Q' X.xe s := by
  refine wpAny_comprehension_free (use := use) rfl hs (closure_of co.clos) co.kind co.names ?_
  have hw : iOf X ct fi σ H (fun J H2 => ∃ xs ys, Same H H2 ∧ ItD X.K ct J xs H2 ∧ xs.length < 1000000 ∧ compD (elD t p fe (blk k caps Γ)) xs = .ok ys ∧ Wk ys) := by
    refine ⟨Γ, j, h.bnd fun xs _ q J H2 s2 it => ?_⟩
    split at q
    · rename_i hl
      cases z : compD (elD t p fe (blk k caps Γ)) xs with
      | ok ys => rw [z] at q; exact ⟨xs, ys, s2, it, hl, z, q⟩
      | err c => exact (compD_ne (fun _ _ => elD_ne) xs c z).elim
      | bad => rw [z] at q; exact q.elim
    · exact q.elim
  refine wpAny_mono (hi pins s σ H _ I hw) (fun v s1 h1 => wpAny_mono h1 (fun itv s2 h2 => ?_) fun _ _ e => e) fun _ _ e => e
  obtain ⟨it, fp, tn, J, H2, rfl, I2, T, st, fok, xs, ys, sm, ⟨Pd, pd0, pdk, pdgo, pdst⟩, hlx, hys, W⟩ := h2
  refine wpAny_newObj_type (wpAny_newFunctionEnv co.cell (by intro y hy; simp at hy) (fun h₁ hns₁ hsb₁ => ?_) co.kind)
  dsimp only at hns₁ hsb₁ ⊢
  have hC : (s2.heap.push { cls := .type "list", dict := none, data := .seq ([] : List Value).toArray }).objs.size = s2.heap.objs.size + 1 := Heap.size_push ..
  rw [hC] at hns₁ hsb₁ ⊢
  have hk : ∀ b o, s2.heap.get? b = some o → h₁.get? b = some o := fun b o e =>
    hsb₁.extBut b o (Nat.ne_of_lt (Nat.lt_succ_of_lt (Heap.lt_size e))) (Heap.get?_push_of_some _ (Heap.get?_push_of_some _ e))
  have hD : h₁.get? s2.heap.objs.size = some { cls := .type "list", data := .seq #[] } :=
    hsb₁.extBut _ _ (Nat.ne_of_lt (Nat.lt_succ_self _)) (Heap.get?_push_of_some _ (Heap.get?_push_size _ rfl))
  have hfo : ∀ b ∈ fp, ∃ o, s2.heap.get? b = some o := fun b hb => let ⟨o, ho, _⟩ := T.obj 0 _ st b hb; ⟨o, ho⟩
  have I4 := inv_blk (tk := s2.toks + ([] : List (Str × Value)).length) I2 co hfr fok hfo hns₁ hk hD
  have j2 := j.mono sm
  let Xb := cxB X scope cl (s2.heap.objs.size + 1) s2 H2 fp N'
  have fresh2 : H2 s2.heap.objs.size = none := I2.hok.fresh (Nat.le_refl _)
  have keep4 : Keep H2 (upd H2 s2.heap.objs.size (.lst [])) := Same.keep (same_new fresh2 _)
  have st4 : tn 0 h₁ := T.keep 0 _ _ st fun b hb o e => hk b o e
  have fpne : ∀ b ∈ fp, b ≠ s2.heap.objs.size := fun b hb => let ⟨o, ho⟩ := hfo b hb; Nat.ne_of_lt (Heap.lt_size ho)
  have fpb : ∀ {H' : Hp}, (∀ b ∈ fp, H' b = none) → ∀ b ∈ fp, FpOk Xb [] H' b := fun hn b hb => by
    obtain ⟨o, ho⟩ := hfo b hb
    refine ⟨hn b hb, Nat.ne_of_lt (Nat.lt_succ_of_lt (Heap.lt_size ho)), I4.ok.exfs b hb, .inl hb, fun x c e => (I4.ok.exf b hb).2 x c e, fun p hp => absurd (show p ∈ ([] : List (Addr × Obj)) ++ [] from hp) (by simp)⟩
  have loop : codeAny (model X.prog X.w) X.A (.compLoop (.ListComp elt [⟨tg, iter, ifs, 0⟩] scope pos) 0 (.ref it) (.ref s2.heap.objs.size) (compEnvC scope cl (s2.heap.objs.size + 1) X.env))
      (compPost (model X.prog X.w) X.A X.xe use Q' (.ref s2.heap.objs.size) (s2.heap.objs.size + 1)) { s2 with heap := h₁, toks := s2.toks + ([] : List (Str × Value)).length } := by
    refine compLoop_any (fun n s' => ∃ (i : Nat) (σ1 : St) (H1 : Hp) (av : List V) (ad rest : List D), n = xs.length - i ∧ i ≤ xs.length ∧ Inv Xb [] σ1 H1 s' ∧ L3.J X.K ct H2 (blk k caps Γ) σ1 H1 ∧ tn i s'.heap ∧ (∀ b ∈ fp, H1 b = none) ∧ Keep H2 H1 ∧
      H1 s2.heap.objs.size = some (.lst av) ∧ Tls X.K ct H1 ad av ∧ av.length ≤ i ∧ compD (elD t p fe (blk k caps Γ)) (xs.drop i) = .ok rest ∧ ad ++ rest = ys) ?_ xs.length
      ⟨0, _, _, [], [], ys, rfl, Nat.zero_le _, I4, (j_blk j2).touch blk_noML keep4 (same_new fresh2 _), st4, fun b hb => by rw [upd_ne (fpne b hb)]; exact (fok b hb).1, keep4, upd_same, Tls.nil, Nat.le_refl _, hys, rfl⟩
    rintro n s3 ⟨i, σ1, H1, av, ad, rest, hn, hil, I3, j3, st3, fr3, k3, hacc, tacc, hal, hrest, hall⟩
    have pd1 := pdk _ _ pd0 k3
    by_cases hlt : i < xs.length
    · -- one more item
      have hd : xs[i]? = some xs[i] := List.getElem?_eq_getElem hlt
      obtain ⟨go, yld⟩ := pdgo i _ H1 pd1 hd
      rw [drop_one hd] at hrest
      obtain ⟨o, rest', ho, hr', hro⟩ := compD_cons hrest
      refine wpAny_mono (T.item Xb rfl rfl rfl hc i [] s3 σ1 H1 (fun _ _ => False) I3 (fpb fr3) st3 go) (fun r s4 ⟨u, hr, h4⟩ => ?_) fun _ _ e => e
      subst hr
      refine wpAny_mono h4 (fun _ s5 ⟨x, H5, I5, r5, y5, st5, fr5⟩ => ?_) fun _ _ e => e
      obtain ⟨rfl, tx⟩ := yld x H5 y5
      have I5' := I5.pinned (fpb fr5) (T.obj _ _ st5)
      unfold elD at ho
      cases e1 : t xs[i] (blk k caps Γ) with
      | none => rw [e1] at ho; cases ho
      | some Γ1 =>
        rw [e1] at ho
        dsimp only at ho
        refine wpAny_mono (hg _ s2 H2 fp _ s5 σ1 H5 x u (fun σ2 H' => H' = H5 ∧ L3.J X.K ct H2 Γ1 σ2 H5) I5' r5 ⟨_, _, Γ1, j3, tx, e1, fun σ2 j6 => ⟨rfl, j6⟩⟩) (fun _ s6 ⟨σ2, H6, I6, e6, j6⟩ => ?_) fun _ _ e => e
        subst e6
        have tnk : ∀ {σ7 : St} {H7 : Hp} {s7 : Shared}, Inv Xb ([] ++ pinsAt fp s5.heap) σ7 H7 s7 → tn (i + 1) s7.heap ∧ ∀ b ∈ fp, H7 b = none := fun {σ7 H7 s7} I7 => by
          refine ⟨T.keep _ _ _ st5 fun b hb o e => (I7.pin (b, o) (List.mem_append_right _ (List.mem_append_right _ (mem_pinsAt hb e)))).1, fun b hb => ?_⟩
          obtain ⟨o, e, d⟩ := T.obj _ _ st5 b hb
          exact (I7.pin (b, o) (List.mem_append_right _ (List.mem_append_right _ (mem_pinsAt hb e)))).2.1
        cases ep : p Γ1 with
        | bad => rw [ep] at ho; cases ho
        | err c => rw [ep] at ho; cases ho
        | ok c =>
          refine wpAny_mono (hp _ s2 H2 fp _ s6 σ2 H6 (fun b H' => b = c ∧ Same H6 H') I6 ⟨Γ1, j6, by rw [ep]; exact fun H' s => ⟨rfl, s⟩⟩) (fun b s7 ⟨H7, I7, eb, s7'⟩ => ?_) fun _ _ e => e
          subst eb
          have j7 := j6.mono s7'
          cases b with
          | false =>
            rw [ep] at ho
            dsimp only at ho
            cases ho
            have hro' : rest = rest' := hro
            rw [hro'] at hall
            obtain ⟨tn7, fr7⟩ := tnk I7
            rw [if_neg Bool.false_ne_true]
            exact ⟨xs.length - (i + 1), by omega, i + 1, σ2, H7, av, ad, rest', rfl, hlt, I7.unpinned, hf Γ _ Γ1 σ2 H7 H2 e1 j7, tn7, fr7, k3.trans (Same.keep s7'), s7' _ _ hacc, tacc.keep (Same.keep s7'), Nat.le_succ_of_le hal, hr', hall⟩
          | true =>
            rw [ep] at ho
            dsimp only at ho
            rw [if_pos rfl]
            cases ee : fe Γ1 with
            | bad => rw [ee] at ho; cases ho
            | err c => rw [ee] at ho; cases ho
            | ok d =>
              rw [ee] at ho
              dsimp only at ho
              cases ho
              subst hro
              refine wpAny_mono (he _ s2 H2 fp _ s7 σ2 H7 (fun v H' => Same H7 H' ∧ Tl X.K ct H' d v) I7 ⟨Γ1, j7, by rw [ee]; exact fun v H' s t => ⟨s, t⟩⟩) (fun yv s8 ⟨y, H8, I8, r8, s8', t8⟩ => ?_) fun _ _ e => e
              have hacc8 : H8 s2.heap.objs.size = some (.lst av) := s8' _ _ (s7' _ _ hacc)
              refine wpAny_mono (mt_append (X := Xb) _ s8 σ2 H8 (.ref s2.heap.objs.size) [y] (.ref s2.heap.objs.size) [yv] (fun _ H' => H' = upd H8 s2.heap.objs.size (.lst (av ++ [y]))) I8 rfl (.cons r8 .nil) ⟨_, av, y, rfl, rfl, hacc8, Nat.lt_trans (by omega) sizeLine_big, rfl⟩) (fun _ s9 ⟨_, H9, I9, _, e9⟩ => ?_) fun _ _ e => e
              subst e9
              obtain ⟨tn9, fr9⟩ := tnk I9
              have kp : Keep H8 (upd H8 s2.heap.objs.size (.lst (av ++ [y]))) := fun b o hb st => by
                have : b ≠ s2.heap.objs.size := by rintro rfl; rw [hacc8] at hb; cases hb; exact st
                rw [upd_ne this]; exact hb
              have k8 : Keep H2 H8 := (k3.trans (Same.keep s7')).trans (Same.keep s8')
              have j8 := hf Γ _ Γ1 σ2 H8 H2 e1 (j7.mono s8')
              have sm9 : Same H2 (upd H8 s2.heap.objs.size (.lst (av ++ [y]))) := fun b o hb => by
                have : b ≠ s2.heap.objs.size := ne_of_none hb fresh2
                rw [upd_ne this]; exact j8.same b o hb
              refine ⟨xs.length - (i + 1), by omega, i + 1, σ2, _, av ++ [y], ad ++ [d], rest', rfl, hlt, I9.unpinned, j8.touch blk_noML kp sm9, tn9, fr9, k8.trans kp, upd_same, ?_, ?_, hr', ?_⟩
              · exact ((tacc.keep ((Same.keep s7').trans (Same.keep s8'))).append (Tls.cons t8 Tls.nil)).keep kp
              · rw [List.length_append, List.length_singleton]; omega
              · rw [← hall]; simp
    · -- through
      have hie : xs.length ≤ i := Nat.le_of_not_lt hlt
      refine wpAny_mono (T.done Xb rfl rfl rfl hc i [] s3 σ1 H1 (fun _ _ => False) I3 (fpb fr3) st3 (pdst i H1 pd1 hie)) (fun r s4 ⟨hr, I4'⟩ => ?_) fun _ _ e => e
      subst hr
      rw [List.drop_eq_nil_of_le hie] at hrest
      cases hrest
      rw [List.append_nil] at hall
      subst hall
      obtain ⟨m, hm, _⟩ := I4'.loc
      have nC : H1 (s2.heap.objs.size + 1) = none := I4'.free
      have un : Un (frs X.stack) fp H2 H1 s2.heap s4.heap := by
        have u := I4'.base
        exact ⟨u.keep, u.slot, u.free, u.there, u.tups, u.frzs, u.tbls⟩
      have IE : Inv X pins σ H1 s4 := I2.call' (s' := s4) (ch := fp) I4'.os un I4'.hok I4'.bare fun b hb => ⟨(fok b hb).2.2.2.1, (fok b hb).2.1, (fok b hb).2.2.2.2.1, (fok b hb).2.2.2.2.2⟩
      have old : ∀ {b : Addr} {o : Obj}, s2.heap.get? b = some o → b ≠ s2.heap.objs.size + 1 := fun e => Nat.ne_of_lt (Nat.lt_succ_of_lt (Heap.lt_size e))
      refine fin _ _ av _ H1 s4 m IE (sm.trans j3.same) (sm.free fresh2) hacc tacc W hm nC (Ne.symm (Nat.ne_of_lt (Nat.lt_succ_of_lt I2.lt))) (Nat.le_succ_of_le I2.sz) (fun x c e => ?_) fun p hp => old (I2.pin p hp).1
      obtain ⟨v, o, ho, _⟩ := I2.cell x c e
      exact old ho
  exact codeAny_compStart_list loop (T.self _ 0 _ _ _ st4 loop)
theorem pl_comp (hc : X.calm = true) (hi : PID X ct tg iter fi) (co : CompOk X scope cl k caps N') (hfr : ∀ z ∈ scope.names, ∀ y, (y, NameKind.free) ∈ scope.names → z.1 = y → z.2 = .free)
    (hg : ∀ C s₀ H₀ ex, PGD (cxB X scope cl C s₀ H₀ ex N') ct tg t) (hp : ∀ C s₀ H₀ ex, PTs (cxB X scope cl C s₀ H₀ ex N') ct ifs p) (he : ∀ C s₀ H₀ ex, PD (cxB X scope cl C s₀ H₀ ex N') ct elt fe)
    (hf : ∀ Γ x Γ1 σ H H₀, t x (blk k caps Γ) = some Γ1 → J X.K ct H₀ Γ1 σ H → J X.K ct H₀ (blk k caps Γ) σ H)
    (hs : ∀ x, foldedSetIterable iter X.env x = pure x := by intro _; rfl) : PL X ct (.ListComp elt [⟨tg, iter, ifs, 0⟩] scope pos) (lComp fi k caps t p fe) := by
  intro pins s σ H Q I ⟨Γ, j, h⟩
  rw [eval_ListComp]
  refine comp_core hc hi co hfr hg hp he hf hs I j h fun acc C av ys H1 s4 m IE sm na ha ta W hm nC nl hz ncl npn => ?_
  refine ⟨m, hm, fun h' hsb => ?_⟩
  have I5 : Inv X pins σ H1 { s4 with heap := h', toks := s4.toks } := IE.turned (h' := h') (t' := s4.toks) (it := C) (fun b o hb e => (hsb.2 b hb).trans e) nC nl (.inr hz) ncl npn
  exact ⟨.ref acc, H1, I5, rfl, W acc av H1 sm na ha ta⟩
/-- x = [.. for ..] on one row: the name is stored ahead of the block's own going -/
theorem comp_used (i : Nat) {x : Str} {px ps : Pos} (hN : X.N.Nodup) (hc : X.calm = true) (hi : PID X ct tg iter fi) (co : CompOk X scope cl k caps N') (hfr : ∀ z ∈ scope.names, ∀ y, (y, NameKind.free) ∈ scope.names → z.1 = y → z.2 = .free)
    (hg : ∀ C s₀ H₀ ex, PGD (cxB X scope cl C s₀ H₀ ex N') ct tg t) (hp : ∀ C s₀ H₀ ex, PTs (cxB X scope cl C s₀ H₀ ex N') ct ifs p) (he : ∀ C s₀ H₀ ex, PD (cxB X scope cl C s₀ H₀ ex N') ct elt fe)
    (hf : ∀ Γ x Γ1 σ H H₀, t x (blk k caps Γ) = some Γ1 → J X.K ct H₀ Γ1 σ H → J X.K ct H₀ (blk k caps Γ) σ H) (hs : ∀ x, foldedSetIterable iter X.env x = pure x)
    (hsw : swapsWith (.ListComp elt [⟨tg, iter, ifs, 0⟩] scope pos) (some (.Name x px)) ps.line X.env = pure true) (hx : X.N[i]? = some x) (hl : X.env.scope.names.lookup x = some .local) :
    PDS X ct (.Assign [.Name x px] (.ListComp elt [⟨tg, iter, ifs, 0⟩] scope pos) ps) (sSetL i (lComp fi k caps t p fe)) := by
  intro pins s σ H E I ⟨Γ, j, h⟩
  rw [exec_Assign_Name_used _ _ _ _ hsw]
  refine wpAny_bind (wpAny_standAt (wpAny_bind ?_))
  show wpAny _ X.A (do let _ ← comprehension (.ListComp elt [⟨tg, iter, ifs, 0⟩] scope pos) scope X.env _ (newList []) false (eval iter X.env) (some (assign (.Name x px) X.env))) _ _ s
  refine wpAny_bind (wpAny_mono (comp_core (Q' := fun _ s' => SP X pins E .next s') (Wk := fun ds => Fn X ct H (.nx (Γ.set i (.ml ds))) E) hc hi co hfr hg hp he hf hs I j (Fn.ok j h fun d _ q => q)
    fun acc C av ys H1 s4 m IE sm na ha ta W hm nC nl hz ncl npn => ?_) (fun _ s' hq => wpAny_pure (wpAny_pure hq)) fun _ _ e => e)
  show wpAny _ X.A (assign (.Name x px) X.env (.ref acc)) _ _ _
  refine wpAny_assign_Name (store_ok2 IE hN hx (.inl hl) (v := .ref acc) rfl (fun s5 I5 ⟨a, hsb, hor⟩ => ?_) (.inr hl))
  have aC : C ≠ a := by
    rcases hor with rfl | hor
    · exact nl
    · exact Ne.symm (ncl x a hor)
  refine ⟨m, hm.sameBut hsb aC, fun h' hs' => ?_⟩
  have I6 : Inv X pins (σ.set i (some (.ref acc))) H1 { s5 with heap := h', toks := s5.toks } := I5.turned (h' := h') (t' := s5.toks) (it := C) (fun b o hb e => (hs'.2 b hb).trans e) nC nl (.inr hz) ncl npn
  refine ⟨_, H1, I6, W _ H1 (Same.keep sm) ((j.mono sm).setL ha (j.same.free na) ta fun kk es g1 g2 => ?_)⟩
  obtain ⟨b, us, g3, g4, _⟩ := j.ml g1
  rw [g3] at g2; cases g2
  rw [na] at g4; cases g4
/-- the same, the list frozen at once -/
theorem comp_usedF (i : Nat) {x : Str} {px ps : Pos} (hN : X.N.Nodup) (hc : X.calm = true) (hi : PID X ct tg iter fi) (co : CompOk X scope cl k caps N') (hfr : ∀ z ∈ scope.names, ∀ y, (y, NameKind.free) ∈ scope.names → z.1 = y → z.2 = .free)
    (hg : ∀ C s₀ H₀ ex, PGD (cxB X scope cl C s₀ H₀ ex N') ct tg t) (hp : ∀ C s₀ H₀ ex, PTs (cxB X scope cl C s₀ H₀ ex N') ct ifs p) (he : ∀ C s₀ H₀ ex, PD (cxB X scope cl C s₀ H₀ ex N') ct elt fe)
    (hf : ∀ Γ x Γ1 σ H H₀, t x (blk k caps Γ) = some Γ1 → J X.K ct H₀ Γ1 σ H → J X.K ct H₀ (blk k caps Γ) σ H) (hs : ∀ x, foldedSetIterable iter X.env x = pure x)
    (hsw : swapsWith (.ListComp elt [⟨tg, iter, ifs, 0⟩] scope pos) (some (.Name x px)) ps.line X.env = pure true) (hx : X.N[i]? = some x) (hl : X.env.scope.names.lookup x = some .local) :
    PDS X ct (.Assign [.Name x px] (.ListComp elt [⟨tg, iter, ifs, 0⟩] scope pos) ps) (sSet i (dFz (lComp fi k caps t p fe))) := by
  intro pins s σ H E I ⟨Γ, j, h⟩
  have h' : Ok X ct σ H (lComp fi k caps t p fe Γ) fun ds => Fn X ct H (.nx (Γ.set i (.val (.lst ds)))) E := by
    cases q : lComp fi k caps t p fe Γ with
    | ok ds => simp only [sSet, dFz, q, Res.bnd_ok, oE_ok] at h; exact h
    | err c => simp only [sSet, dFz, q, Res.bnd_err, oE_err] at h; exact fun e s' r => h σ H e s' (Keep.refl H) j r
    | bad => simp only [sSet, dFz, q, Res.bnd_bad, oE_bad] at h; exact h.elim
  rw [exec_Assign_Name_used _ _ _ _ hsw]
  refine wpAny_bind (wpAny_standAt (wpAny_bind ?_))
  show wpAny _ X.A (do let _ ← comprehension (.ListComp elt [⟨tg, iter, ifs, 0⟩] scope pos) scope X.env _ (newList []) false (eval iter X.env) (some (assign (.Name x px) X.env))) _ _ s
  refine wpAny_bind (wpAny_mono (comp_core (Q' := fun _ s' => SP X pins E .next s') (Wk := fun ds => Fn X ct H (.nx (Γ.set i (.val (.lst ds)))) E) hc hi co hfr hg hp he hf hs I j h'
    fun acc C av ys H1 s4 m IE sm na ha ta W hm nC nl hz ncl npn => ?_) (fun _ s' hq => wpAny_pure (wpAny_pure hq)) fun _ _ e => e)
  show wpAny _ X.A (assign (.Name x px) X.env (.ref acc)) _ _ _
  refine wpAny_assign_Name (store_ok2 IE hN hx (.inl hl) (v := .ref acc) rfl (fun s5 I5 ⟨a, hsb, hor⟩ => ?_) (.inr hl))
  have aC : C ≠ a := by
    rcases hor with rfl | hor
    · exact nl
    · exact Ne.symm (ncl x a hor)
  refine ⟨m, hm.sameBut hsb aC, fun h' hs' => ?_⟩
  have I6 : Inv X pins (σ.set i (some (.ref acc))) H1 { s5 with heap := h', toks := s5.toks } := I5.turned (h' := h') (t' := s5.toks) (it := C) (fun b o hb e => (hs'.2 b hb).trans e) nC nl (.inr hz) ncl npn
  obtain ⟨ob, I7⟩ := Inv.freeze I6 ha (j.same.free na)
  have s7 : Same H (upd H1 acc (.frz ob (.lst av))) := fun b o hb => by rw [upd_ne (ne_of_none hb na)]; exact sm b o hb
  have k7 : Keep H1 (upd H1 acc (.frz ob (.lst av))) := fun b o hb st => by
    have : b ≠ acc := by rintro rfl; rw [ha] at hb; cases hb; exact st
    rw [upd_ne this]; exact hb
  refine ⟨_, _, I7, W _ _ (Same.keep s7) ((j.mono s7).set ?_)⟩
  simp only [Tl]
  exact ⟨acc, av, rfl, .inl ⟨ob, upd_same⟩, ta.keep k7⟩
end
end L3
end

section
set_option Elab.async false
set_option linter.all false
set_option maxRecDepth 100000
namespace L3
open PySem PySem.Spec PyProof.Rows L2

/-! ### error classes of the text -/
abbrev bmVE : List Value := [.type "ValueError", .type "Exception", .type "BaseException", .type "object"]
/-- the error class x stands at C, called n among the data -/
structure XC (K : PySem.W.Frag) (mg : Str → Option Value) (ct : Ct) (x : Str) (n : String) (C : Addr) : Prop where
  bnd : mg x = some (.ref C)
  exc : PySem.W.excIn K C bmVE "ValueError.__new__" = true
  at' : ct n = some C
theorem excObj {K : PySem.W.Frag} {h : Heap} {C : Addr} {newId : String} (X : K.In h) (q : PySem.W.excIn K C bmVE newId = true) :
    ∃ bm N nm qn bs hdct sn sub ab col dd k0 k1 k2 k3 k5 mN, h.get? C = some (excClassObj nm qn C N bs bm hdct sn sub ab col dd k0 k1 k2 k3 k5 newId) ∧ h.Ns N mN ∧ mN "__init__" = none ∧ OwnTail h bmVE bm := by
  unfold PySem.W.excIn at q
  split at q
  case h_2 => cases q
  case h_1 dd cd sl lk =>
    split at q
    case h_2 => cases q
    case h_1 C' bm k0 k1 k2 k3 n k5 em es =>
      simp only [Bool.and_eq_true, beq_iff_eq, Bool.not_eq_true'] at q
      obtain ⟨⟨⟨⟨⟨e1, e2⟩, e3⟩, e4⟩, e5⟩, e6⟩ := q
      subst e1 e2
      obtain ⟨nm, bs, mr, ns, qn, hd, sn, sub, ab, col, dl⟩ := cd
      simp only at em e3 e5 e6
      subst em e3
      obtain ⟨sl⟩ := sl
      simp only at es
      subst es
      exact ⟨bm, ns, nm, qn, bs, hd, sn, sub, ab, col, dd, k0, k1, k2, k3, k5, _, X _ _ lk, .of_isNs (PySem.W.isNs_of_in X e5), PySem.W.nsMap_none_of_in X e5 e6, PySem.W.tail_of_in X e4⟩

section
variable {X : Cx} {ct : Ct} {e₀ : Expr} {rest : List Expr} {fa : Sg → Res (List D)} {x : Str} {c : String} {C : Addr} {np cpos pos : Pos}
/-- raise C(..) -/
theorem pds_raise (g : Good X) (M : XC X.K X.mg ct x c C) (ha : PDA X ct (e₀ :: rest) fa) (hg : Gl X x := by rfl) (hd : (x == ("__debug__" : Str)) = false := by decide)
    (he : starEach (e₀ :: rest) X.env = (false, eval e₀ X.env) :: starEach rest X.env := by rfl) (hpl : (backTo cpos (starEach rest X.env)).any (·.1) = false := by rfl) :
    PDS X ct (.Raise (some (.Call (.Name x np) (e₀ :: rest) [] cpos)) none pos) (sRaise c fa) := by
  intro pins s σ H E I ⟨Γ, j, h⟩
  obtain ⟨tl, N, nm, q, bs, hdct, sn, sub, ab, col, dd, k0, k1, k2, k3, k5, mN, hC, hN, hni, T⟩ := excObj I.ok.mod.kin M.exc
  refine wpAny_Raise_call_subT (C := C) (nm := nm) (q := q) (N := N) (bs := bs) (bm := tl) (hdct := hdct) (sn := sn) (sub := sub) (ab := ab) (col := col) (dd := dd) (k0 := k0) (k1 := k1) (k2 := k2) (k3 := k3) (k5 := k5)
    PySem.F.excBase_ValueError (mN := mN) (T.hasType PySem.F.excBase_ValueError.hasBase) (I.ok.hd g.calm) (by rw [he]; show (false || (backTo cpos (starEach rest X.env)).any (·.1)) = false; rw [hpl]; rfl) hni (ld_glob I hg M.bnd ⟨rfl, ?_⟩ hd)
  have h' : aOf X ct fa σ H (fun vs H1 => Same H H1 ∧ vs.length ≤ 1000 ∧ Fn X ct H (.err c Γ) E) :=
    ⟨Γ, j, h.ok j fun ds _ q vs H1 s1 t1 => by
      split at q
      · rename_i hl; exact ⟨s1, by rw [← t1.length]; exact hl, q⟩
      · exact q.elim⟩
  have hp := ha cpos pins s σ H _ I h'
  rw [he] at hp ⊢
  refine Calls.evalArgs_plain (wpAny_mono hp (fun us s1 ⟨vs, H1, I1, r, sm, hl, q⟩ => ⟨rfl, ?_, I1.bk _ _ hC, hN.keeps I1.bk, T.keeps I1.bk, fun h2 e hm => ?_⟩) fun _ _ y => y)
  · show us.length ≤ sizeLine
    rw [← r.length]; exact Nat.le_of_lt (small1000 hl)
  · exact q σ H1 _ _ (Same.keep sm) (j.mono sm) ⟨pins, H1, s1, C, I1, Same.refl H1, M.at', .inl ⟨e, us, h2, rfl, rfl, hm⟩⟩
end

/-! ### the except suite -/
section
variable {X : Cx} {ct : Ct} {pins : List (Addr × Obj)} {σ : St} {H : Hp} {s : Shared}
/-- a name goes behind the suite -/
theorem gone_ok {M : Model} {A : Around} {E : Value → Shared → Prop} {i : Nat} {n : Str} {pos : Pos} {Q : Unit → Shared → Prop} (I : Inv X pins σ H s) (hN : X.N.Nodup) (hi : X.N[i]? = some n) (hl : X.env.kindOf n = some .local)
    (h : ∀ s', Inv X pins (σ.set i none) H s' → Q () s') : wpAny M A (do bindName X.env n .none; unbindBehindTheSuite X.env n pos) Q E s := by
  obtain ⟨m, hn, hlk⟩ := id I.loc
  have hcls : (X.env.scope.kind == .class || (X.env.scope.kind == .module && X.env.locals != X.env.globals)) = false := by rw [I.ok.kind]; rfl
  refine wpAny_nameGoes_keeps hl hn hcls fun h' v hn' hs => h _ ?_
  obtain ⟨oL, _, _, hoL, _⟩ := id hn
  have old : ∀ {b : Addr} {o : Obj}, X.s₀.heap.get? b = some o → b ≠ X.env.locals := fun e => Nat.ne_of_lt (Nat.lt_of_lt_of_le (Heap.lt_size e) I.ok.above)
  have cne := I.cne
  refine ⟨I.ok, I.os, I.bare, ⟨fun b o e n hb hx => (hs.2 b (old e)).trans (I.base.keep b o e n hb hx), fun b o e n hb hx => ?_, I.base.free, fun b o e hx => ?_, I.base.tups, I.base.frzs, I.base.tbls⟩,
    ⟨_, hn', fun k y v' e1 e2 e3 => ?_⟩, fun y c e => ?_, I.free, I.freeC, fun p hp => ?_, fun b ob e => ?_, by simpa using I.len⟩
  · obtain ⟨sl, e1⟩ := I.base.slot b o e n hb hx
    exact ⟨sl, (hs.2 b (old e)).trans e1⟩
  · obtain ⟨o', e1⟩ := I.base.there b o e hx
    exact ⟨o', (hs.2 b (old e)).trans e1⟩
  · by_cases hk : k = i
    · subst hk
      by_cases hlen : k < σ.length
      · rw [List.getElem?_set_self hlen] at e2; cases e2
      · rw [List.getElem?_eq_none (by rw [List.length_set]; omega)] at e2; cases e2
    · rw [List.getElem?_set_ne (Ne.symm hk)] at e2
      obtain ⟨u', r', q⟩ := hlk k y v' e1 e2 e3
      refine ⟨u', r', ?_⟩
      rcases q with ⟨kk, e⟩ | ⟨kk, c, e, z⟩
      · have : y ≠ n := fun e => hk (nodup_ix hN e1 (e ▸ hi))
        exact .inl ⟨kk, by simp [this, e]⟩
      · exact .inr ⟨kk, c, e, z.sameBut hs (cne y c e)⟩
  · obtain ⟨w', z⟩ := I.cell y c e
    exact ⟨w', z.sameBut hs (cne y c e)⟩
  · obtain ⟨e, n, ne, nf, d⟩ := I.pin p hp
    exact ⟨(hs.2 p.1 ne).trans e, n, ne, nf, d⟩
  · refine (I.hok b ob e).stay (fun c w' hc q => (hs.2 c ?_).trans q) (fun _ q => q) fun _ _ q => q
    rintro rfl
    rcases hc with rfl | hc
    · rw [I.free] at e; cases e
    · rw [I.free] at hc; cases hc
/-- an object that lies there untracked, made behind this body's entry, is tracked from now on -/
theorem Inv.track {a : Addr} {φ : Heap → Prop} {s1 : Shared} (I : Inv X pins σ H s) (ha : H a = none) (old : Inv X pins σ H1 s1) (nw : s1.heap.get? a = none) (new : ObjOk X.prog X.w (upd H a (.ext φ)) s.heap a (.ext φ)) :
    Inv X pins σ (upd H a (.ext φ)) s := by
  have there : ∀ b o, X.s₀.heap.get? b = some o → b ∉ X.ex → b ≠ a := fun b o e hx z => by
    subst z
    obtain ⟨o', q⟩ := old.base.there b o e hx
    rw [nw] at q; cases q
  have nl : X.env.locals ≠ a := fun z => by
    obtain ⟨m, ⟨o, _, _, ho, _⟩, _⟩ := old.loc
    rw [z, nw] at ho; cases ho
  have nc : ∀ x c, X.env.cells.lookup x = some c → c ≠ a := fun x c e z => by
    obtain ⟨v, o, ho, _⟩ := old.cell x c e
    rw [z, nw] at ho; cases ho
  have np : ∀ p ∈ X.pn ++ pins, p.1 ≠ a := fun p hp z => by
    have := (old.pin p hp).1
    rw [z, nw] at this; cases this
  have ne : ∀ b u, H b = some u → b ≠ a := fun b u e => ne_of_none e ha
  refine ⟨I.ok, I.os, I.bare, ⟨I.base.keep, I.base.slot, fun b o e n hx => ?_, I.base.there, fun b xs e => ?_, fun b o u e => ?_, fun b ps e => ?_⟩, I.loc, I.cell, ?_, fun x c e => ?_, fun p hp => ?_, fun b u e => ?_, I.len⟩
  · rw [upd_ne (there b o e hx)]; exact I.base.free b o e n hx
  · have q := I.base.tups b xs e
    rw [upd_ne (ne _ _ q)]; exact q
  · have q := I.base.frzs b o u e
    rw [upd_ne (ne _ _ q)]; exact q
  · obtain ⟨more, q⟩ := I.base.tbls b ps e
    exact ⟨more, by rw [upd_ne (ne _ _ q)]; exact q⟩
  · rw [upd_ne nl]; exact I.free
  · rw [upd_ne (nc x c e)]; exact I.freeC x c e
  · obtain ⟨h1, h2, h3⟩ := I.pin p hp
    exact ⟨h1, by rw [upd_ne (np p hp)]; exact h2, h3⟩
  · by_cases hb : b = a
    · subst hb; rw [upd_same] at e; cases e; exact new
    · rw [upd_ne hb] at e
      exact (I.hok b u e).stay (fun _ _ _ q => q) (fun c q => by rw [upd_ne (ne _ _ q)]; exact q) fun c xs q => by rw [upd_ne (ne _ _ q)]; exact q
end
end L3
end

section
set_option Elab.async false
set_option linter.all false
set_option maxRecDepth 100000
namespace L3
open PySem PySem.Spec PyProof.Rows L2

section
variable {X : Cx} {ct : Ct}
/-- the context of a try's body; of its except suite -/
abbrev cxT (X : Cx) (pn : List (Addr × Obj)) (xe : Value → Shared → Prop) : Cx := { X with pn := pn, xe := xe }
abbrev cxE (X : Cx) (ev : Value) (pn : List (Addr × Obj)) : Cx := { X with A := X.A.mark (some ev), calm := false, pn := pn, xe := fun _ _ => False }
theorem ok_T (ok : X.Ok) (pn : List (Addr × Obj)) (xe : Value → Shared → Prop) : (cxT X pn xe).Ok :=
  ⟨ok.mod, ok.kind, ok.glob, ok.blt, ok.above, ok.inj, ok.has, ok.cab, ok.hd, ok.frames, ok.stk, ok.exf, ok.bs, ok.bsz, ok.noex, ok.exfs, ok.funs, ok.frf⟩
theorem ok_unT {pn : List (Addr × Obj)} {xe : Value → Shared → Prop} (ok : (cxT X pn xe).Ok) : X.Ok :=
  ⟨ok.mod, ok.kind, ok.glob, ok.blt, ok.above, ok.inj, ok.has, ok.cab, ok.hd, ok.frames, ok.stk, ok.exf, ok.bs, ok.bsz, ok.noex, ok.exfs, ok.funs, ok.frf⟩
theorem ok_E (ok : X.Ok) (ev : Value) (pn : List (Addr × Obj)) : (cxE X ev pn).Ok :=
  ⟨ok.mod, ok.kind, ok.glob, ok.blt, ok.above, ok.inj, ok.has, ok.cab, fun z => absurd z (by exact Bool.false_ne_true), ok.frames, ok.stk, ok.exf, ok.bs, ok.bsz, ok.noex, ok.exfs, ok.funs, ok.frf⟩
variable {pins : List (Addr × Obj)} {σ : St} {H : Hp} {s : Shared}
theorem Inv.toT (I : Inv X pins σ H s) (xe : Value → Shared → Prop) : Inv (cxT X (X.pn ++ pins) xe) [] σ H s :=
  ⟨ok_T I.ok _ _, I.os, I.bare, I.base, I.loc, I.cell, I.free, I.freeC, fun p hp => I.pin p (by simpa using hp), I.hok, I.len⟩
theorem Inv.ofT {pins' : List (Addr × Obj)} {xe : Value → Shared → Prop} (ok : X.Ok) (I : Inv (cxT X (X.pn ++ pins) xe) pins' σ H s) : Inv X pins σ H s :=
  ⟨ok, I.os, I.bare, I.base, I.loc, I.cell, I.free, I.freeC, fun p hp => I.pin p (List.mem_append_left _ hp), I.hok, I.len⟩
theorem Inv.toE (I : Inv X pins σ H s) (ev : Value) : Inv (cxE X ev (X.pn ++ pins)) [] σ H s :=
  ⟨ok_E I.ok _ _, I.os, I.bare, I.base, I.loc, I.cell, I.free, I.freeC, fun p hp => I.pin p (by simpa using hp), I.hok, I.len⟩
theorem Inv.ofE {ev : Value} (ok : X.Ok) (I : Inv (cxE X ev (X.pn ++ pins)) [] σ H s) : Inv X pins σ H s :=
  ⟨ok, I.os, I.bare, I.base, I.loc, I.cell, I.free, I.freeC, fun p hp => I.pin p (by simpa using hp), I.hok, I.len⟩
theorem ld_globA {A : Around} {E : Value → Shared → Prop} {x : Str} {u : Value} {pos : Pos} {Q : Value → Shared → Prop} (I : Inv X pins σ H s) (hg : Gl X x) (hm : X.mg x = some u) (h : Q u s)
    (hd : (x == ("__debug__" : Str)) = false := by decide) : wpAny (model X.prog X.w) A (eval (.Name x pos) X.env) Q E s :=
  Calls.Name_function_global I.ok.kind hg (Calls.loadGlobal_global (by rw [I.ok.glob]; exact I.mod.glob.keeps I.bk) hm h) hd
/-- an exception just made is looked at -/
theorem looks_made {M : Model} {A : Around} {E : Value → Shared → Prop} {base h : Heap} {env : Env} {outer : List Env} {L e : Addr} {cls : Value} {args : List Value} {s : Shared} {Q : Unit → Shared → Prop} (hfr : A.frames = some (env :: outer)) (hf : env.frame = some L)
    (hkb : base.StaysIn h) (hl : h.FunFrames base (env :: outer)) (hx : Heap.MadeExcOf h s.heap e cls args)
    (hQ : ∀ h' t, Heap.HeldW base (env :: outer) e cls (.ref t) L h' → s.heap.UpToSlots h' → Q () { s with heap := h' }) : wpAny M A (noteFrame (.ref e) env) Q E s := by
  obtain ⟨t, he, htn, ht⟩ := hx.there
  have nb : base.get? e = none := by
    cases q : base.get? e with
    | none => rfl
    | some o => have := hkb e o q; rw [hx.new] at this; cases this
  unfold noteFrame
  simp only [hf]
  refine wpAny_bind (wpAny_field he rfl (x := .none) rfl ?_)
  rw [if_neg (by simp)]
  refine wpAny_entryW (a0 := .ref t) hfr (hl.of_keeps fun b o q _ => ⟨o, hx.keeps b o q, rfl⟩) hf he (fun b o q => hx.keeps b o (hkb b o q)) nb rfl (by simp) rfl fun h' hN => ?_
  obtain ⟨k1, k2, k3, k4⟩ := hN
  exact hQ h' t ⟨k1, nb, k2, k3⟩ k4
/-- an exception that was raised is looked at and lands in this frame -/
theorem lands_ok {σ' : St} {H' : Hp} {c : String} {e : Value} {s' : Shared} {E : Value → Shared → Prop} {Q : Unit → Shared → Prop} {xe : Value → Shared → Prop} (g : Good X) (ok : X.Ok) (r : RaisedAt (cxT X (X.pn ++ pins) xe) ct σ' H' c e s')
    (k : ∀ (a C : Addr) (B : Heap) (a0 : Value) (H1 H2 : Hp) (s1 : Shared) (h5 : Heap), e = .ref a → ct c = some C → Same H' H1 → Same H1 H2 → Inv X pins σ' H1 s1 → s1.heap.get? a = none → H2 a = none → s'.os = s1.os → AllBare s'.gens →
      Heap.FlyingW B (X.env :: X.outer) a (.ref C) a0 h5 → (∀ h : Heap, B.StaysIn h → h5.UpToSlots h → Un (frs X.stack) [] H1 H2 s1.heap h ∧ HOk X.prog X.w H2 h) → Q () { s' with heap := h5 }) :
    wpAny (model X.prog X.w) X.A (noteFrame e X.env) (fun _ s₂ => wpAny (model X.prog X.w) X.A (setFlight e none) Q E s₂) E s' := by
  obtain ⟨pins1, H1, s1, C, I1, sm, hc, r⟩ := r
  have I1 : Inv X pins σ' H1 s1 := Inv.ofT ok I1
  obtain ⟨own, hf⟩ := g.own
  have hfr : X.A.frames = some (X.env :: X.outer) := by rw [← own]; exact ok.frames
  rcases r with ⟨a, args, h', rfl, rfl, hx⟩ | ⟨a, C', H2, B, a0, rfl, ⟨q1, q2, q3⟩, q4, q5, fl, na, nw, cl⟩
  · have hst : s1.heap.FunFrames X.base X.stack := I1.stack
    have hin : ∀ env ∈ X.stack, ∀ b, env.frame = some b → b ∈ frs X.stack := fun env he b hb => List.mem_filterMap.mpr ⟨env, he, hb⟩
    have hkb : (PySem.W.hideAll s1.heap (frs X.stack)).StaysIn s1.heap := fun b o q => PySem.W.of_hideAll _ q
    have na : H1 a = none := by
      cases z : H1 a with
      | none => rfl
      | some o =>
        obtain ⟨ob, hb⟩ := objOk_there (I1.hok a o z)
        rw [hx.new] at hb; cases hb
    have hff : s1.heap.FunFrames (PySem.W.hideAll s1.heap (frs X.stack)) (X.env :: X.outer) := by
      have z := PySem.W.funFrames_hide hst hin
      generalize PySem.W.hideAll s1.heap (frs X.stack) = B at z ⊢
      rw [own] at z
      exact z
    refine looks_made (s := { s1 with heap := h' }) hfr hf hkb hff hx fun h4 t held up4 => ?_
    refine wpAny_landsW held fun h5 fl5 up5 => ?_
    refine k a C _ _ H1 H1 s1 h5 rfl hc sm (Same.refl H1) I1 hx.new na rfl I1.bare fl5 fun h3 st3 up3 => ?_
    have keep : ∀ b o, s1.heap.get? b = some o → b ∉ frs X.stack → h3.get? b = some o := fun b o q nb => st3 b o (PySem.W.hideAll_get _ q nb)
    have slot : ∀ b o, s1.heap.get? b = some o → b ∈ frs X.stack → ∃ sl, h3.get? b = some { o with slots := sl } := fun b o q hb => by
      obtain ⟨_, o', ho', hd⟩ := hst.mem hb
      rw [q] at ho'; cases ho'
      exact ((up4.trans up5).trans up3) b o (hx.keeps b o q) hd
    have un : Un (frs X.stack) [] H1 H1 s1.heap h3 := ⟨fun b o q n nb _ => keep b o q nb, fun b o q n hb _ => slot b o q hb, fun b o q n _ => n, fun b o q _ => by
      by_cases hb : b ∈ frs X.stack
      · obtain ⟨sl, z⟩ := slot b o q hb; exact ⟨_, z⟩
      · exact ⟨o, keep b o q hb⟩, fun b xs q => q, fun b o u q => q, fun b ps q => ⟨#[], by rw [q]; simp⟩⟩
    refine ⟨un, fun b o q => (I1.hok b o q).stay (fun b' u hb' e' => ?_) (fun _ q => q) fun _ _ q => q⟩
    have tr : H1 b' ≠ none := by
      rcases hb' with rfl | hb'
      · rw [q]; exact fun z => nomatch z
      · rw [hb']; exact fun z => nomatch z
    exact keep b' u e' fun z => tr (I1.stkFree b' z)
  · cases q1
    have fl : Heap.FlyingW B X.stack a (.ref C) a0 s'.heap := fl
    rw [own] at fl
    refine wpAny_looks_onW hfr hf fl fun h4 held up4 => ?_
    refine wpAny_landsW held fun h5 fl5 up5 => ?_
    exact k a C B a0 H1 H2 s1 h5 rfl hc sm q3 I1 nw na q4 q5 fl5 fun h3 st3 up3 => cl h3 st3 ((up4.trans up5).trans up3)
end

section
variable {X : Cx} {ct : Ct} {body suite : List Stmt} {b₀ : Stmt} {F G : Sg → Out} {t n : Str} {hit : String → Option Bool} {T : Value} {np hpos pos : Pos}
/-- what a class is to the caught one -/
def Hits (K : PySem.W.Frag) (ct : Ct) (T : Value) (hit : String → Option Bool) : Prop := ∀ c C b, ct c = some C → hit c = some b → PySem.W.exmOne K (.ref C) T = some b
theorem excOk {P : Program} {w : World} {H : Hp} {h : Heap} {a C : Addr} (q : ∃ o, h.get? a = some o ∧ o.cls = .ref C) : ObjOk P w (upd H a (.ext (IsExc a C))) h a (.ext (IsExc a C)) := by
  obtain ⟨o, h1, h2⟩ := q
  exact ⟨⟨o, h1, h2⟩, ⟨o, h1⟩, fun hA hB ⟨o', e1, e2⟩ k => ⟨o', k o' e1, e2⟩⟩
theorem J.unset {K : PySem.W.Frag} {H₀ H : Hp} {Γ : Sg} {σ : St} {i : Nat} {ov : Option V} (j : J K ct H₀ Γ σ H) : J K ct H₀ (Γ.set i .no) (σ.set i ov) H := by
  refine ⟨j.same, by simp [j.len], fun k sl w h1 h2 => ?_, fun k l ds es a hkl h1 h2 h3 => ?_⟩
  · by_cases e : i = k
    · subst e
      by_cases hi : i < Γ.length
      · rw [List.getElem?_set_self hi] at h1; cases h1; trivial
      · rw [List.getElem?_eq_none (by rw [List.length_set]; omega)] at h1; cases h1
    · rw [List.getElem?_set_ne e] at h1 h2
      exact j.at' k sl w h1 h2
  · have ne1 : ¬ i = k := by
      rintro rfl
      by_cases hi : i < Γ.length
      · rw [List.getElem?_set_self hi] at h1; cases h1
      · rw [List.getElem?_eq_none (by rw [List.length_set]; omega)] at h1; cases h1
    have ne2 : ¬ i = l := by
      rintro rfl
      by_cases hi : i < Γ.length
      · rw [List.getElem?_set_self hi] at h2; cases h2
      · rw [List.getElem?_eq_none (by rw [List.length_set]; omega)] at h2; cases h2
    rw [List.getElem?_set_ne ne1] at h1 h3
    rw [List.getElem?_set_ne ne2] at h2 ⊢
    exact j.sep k l ds es a hkl h1 h2 h3
/-- try .. except T as n -/
theorem pds_tryAs (i : Nat) (g : Good X) (hT : X.mg t = some T) (hh : Hits X.K ct T hit) (hb : ∀ pn xe, Good (cxT X pn xe) → PDSs (cxT X pn xe) ct body F) (hs : ∀ ev pn, PDSs (cxE X ev pn) ct (b₀ :: suite) G)
    (hg : Gl X t := by rfl) (hd : (t == ("__debug__" : Str)) = false := by decide) (hi : X.N[i]? = some n := by rfl) (hl : X.env.scope.names.lookup n = some .local := by rfl) (hkl : X.env.kindOf n = some .local := by rfl) :
    PDS X ct (.Try body [.ExceptHandler (some (.Name t np)) (some n) (b₀ :: suite) hpos] [] [] pos) (sTryAs i hit F G) := by
  intro pins s σ H E I ⟨Γ, j, h⟩
  let E1 : Value → Shared → Prop := fun e s' => wpAny (model X.prog X.w) X.A (noteFrame e X.env) (fun _ s₂ => wpAny (model X.prog X.w) X.A (setFlight e none) (fun _ s₃ =>
    wpAny (model X.prog X.w) X.A (handleBy e X.env [.ExceptHandler (some (.Name t np)) (some n) (b₀ :: suite) hpos]) (SP X pins E) X.xe s₃) X.xe s₂) X.xe s'
  have g1 : Good (cxT X (X.pn ++ pins) E1) := ⟨PassesOwn.looking, g.calm, g.nd, g.own⟩
  have hF : Fn (cxT X (X.pn ++ pins) E1) ct H (F Γ) E := by
    simp only [sTryAs, tryD] at h
    cases q : F Γ with
    | nx Γ' => rw [q] at h; exact h
    | bk Γ' => rw [q] at h; exact h
    | ct Γ' => rw [q] at h; exact h
    | rt d => rw [q] at h; exact h
    | rtl ds => rw [q] at h; exact h
    | bad => rw [q] at h; exact h
    | err c Γ1 =>
      rw [q] at h
      intro σ' H' e s' kp j1 r
      dsimp only at h
      split at h
      · rename_i hc'
        refine lands_ok g I.ok r fun a C B a0 H1 H2 s1 h5 ea hc sm1 sm2 I1 nw na os' bare fl cl => ?_
        subst ea
        have inv : ∀ h : Heap, B.StaysIn h → h5.UpToSlots h → Inv X pins σ' H2 { s' with heap := h } := fun h st up =>
          I1.call' (s' := { s' with heap := h }) (ch := []) os' (cl h st up).1 (cl h st up).2 bare (fun b z => absurd z (by simp))
        have I5 := inv h5 fl.1 (Heap.UpToSlots.refl h5)
        refine wpAny_handleBy_cons (codeAny_handlers_test (ld_globA I5 hg hT ?_ hd)) (by intro z; cases z)
        have LT : PySem.W.Looks (model X.prog X.w) h5 (typeOf (.ref a)) (.ref C) := by
          obtain ⟨ob, hob, hcl⟩ := fl.there
          rw [← hcl]
          exact (PySem.W.Looks.ld hob).andThen .now
        refine (PySem.W.exm_one I5.kIn LT (hh c C true hc hc')).here ?_
        refine codeAny_handlers_suite_as ?_
        refine lands_againW fl fun h6 fl6 up6 => ?_
        have I6 := inv h6 fl6.1 up6
        have I7 : Inv X pins σ' (upd H2 a (.ext (IsExc a C))) { s' with heap := h6 } := Inv.track I6 na (I1.kept (h' := s1.heap) (t' := s1.toks) fun _ _ z => z) nw (excOk fl6.there)
        have k7 : Keep H (upd H2 a (.ext (IsExc a C))) := ((kp.trans (Same.keep sm1)).trans (Same.keep sm2)).trans (Same.keep (same_new na _))
        refine store_ok (A := X.A.mark (some (.ref a))) (i := i) (v := .ref a) I7 g.nd hi (Or.inl hl) rfl (fun s8 I8 => ?_) (.inr hl)
        have j7 : Jx X ct (Γ1.set i (.val (.exc c))) (σ'.set i (some (.ref a))) (upd H2 a (.ext (IsExc a C))) := by
          refine ((j1.mono (sm1.trans sm2)).mono (same_new na _)).set ?_
          simp only [Tl]
          exact ⟨a, C, rfl, hc, upd_same⟩
        refine wpAny_mono (hs (.ref a) (X.pn ++ pins) [] s8 _ _ { nx := fun σ9 H9 => E.nx (σ9.set i none) H9, bk := fun σ9 H9 => E.bk (σ9.set i none) H9, ct := fun σ9 H9 => E.ct (σ9.set i none) H9, rt := E.rt } (Inv.toE I8 (.ref a)) ⟨_, j7, ?_⟩) (fun f s9 q9 => ?_) fun _ _ z => z.elim
        · cases qG : G (Γ1.set i (.val (.exc c))) with
          | nx Γ9 => rw [qG] at h; exact fun σ9 H9 k9 j9 => h _ H9 (k7.trans k9) j9.unset
          | bk Γ9 => rw [qG] at h; exact fun σ9 H9 k9 j9 => h _ H9 (k7.trans k9) j9.unset
          | ct Γ9 => rw [qG] at h; exact fun σ9 H9 k9 j9 => h _ H9 (k7.trans k9) j9.unset
          | rt d => rw [qG] at h; exact h
          | rtl ds => rw [qG] at h; exact h
          | err c' Γ9 => rw [qG] at h; exact h.elim
          | bad => rw [qG] at h; exact h.elim
        · cases f with
          | next => obtain ⟨σ9, H9, I9, q⟩ := q9; exact gone_ok (Inv.ofE I.ok I9) g.nd hi hkl fun s' I' => ⟨_, H9, I', q⟩
          | brk => obtain ⟨σ9, H9, I9, q⟩ := q9; exact gone_ok (Inv.ofE I.ok I9) g.nd hi hkl fun s' I' => ⟨_, H9, I', q⟩
          | cont => obtain ⟨σ9, H9, I9, q⟩ := q9; exact gone_ok (Inv.ofE I.ok I9) g.nd hi hkl fun s' I' => ⟨_, H9, I', q⟩
          | ret u => obtain ⟨v, σ9, H9, I9, rv, q⟩ := q9; exact gone_ok (Inv.ofE I.ok I9) g.nd hi hkl fun s' I' => ⟨v, _, H9, I', rv, q⟩
      · exact h.elim
  refine wpAny_Try_except (wpAny_mono (hb (X.pn ++ pins) E1 g1 [] s σ H E (Inv.toT I E1) ⟨Γ, j, hF⟩) (fun f s1 q => ?_) fun e s1 q => q)
  cases f with
  | next =>
    obtain ⟨σ', H', I', q⟩ := q
    exact wpAny_execs_nil ⟨σ', H', Inv.ofT I.ok I', q⟩
  | brk => obtain ⟨σ', H', I', q⟩ := q; exact ⟨σ', H', Inv.ofT I.ok I', q⟩
  | cont => obtain ⟨σ', H', I', q⟩ := q; exact ⟨σ', H', Inv.ofT I.ok I', q⟩
  | ret u => obtain ⟨v, σ', H', I', r, q⟩ := q; exact ⟨v, σ', H', Inv.ofT I.ok I', r, q⟩
end
end L3
end

section
set_option Elab.async false
set_option linter.all false
set_option maxRecDepth 100000
namespace L3
open PySem PySem.Spec PyProof.Rows L2

/-! ### what class a caught exception is of -/
/-- what the text's fragment must say of an error class -/
structure XT (K : PySem.W.Frag) (C : Addr) : Prop where
  ga : PySem.W.findIn K (.ref C) "__getattribute__" = some (some (.builtin "BaseException.__getattribute__"))
  gt : PySem.W.findIn K (.ref C) "__getattr__" = some none
  ca : PySem.W.findIn K (.ref C) "__class__" = some (some (.builtin "object.__class__"))
  mo : PySem.W.mroIn K C (.type "object") = some true
  mb : PySem.W.subIn K (.ref C) (.type "BaseException") = some true
  cl : (PySem.W.clsIn K C).isSome = true
section
open PySem.W Builtin Builtin.ObjectAttr Builtin.Getset_descriptor
variable {prog : Program} {w : World} {A : Around} {E : Value → Shared → Prop} {h : Heap} {g : Array GenState} {d : Drawn} {t : Nat} {os : OsState} {a C : Addr} {K : Frag}
theorem xt_ty {M : Model} (p : IsExc a C h) : Looks M h (typeOf (.ref a)) (.ref C) := by
  obtain ⟨o, h1, h2⟩ := p
  exact h2 ▸ (Looks.ld h1).andThen .now
theorem xt_get {R : Result → Shared → Prop} (X : K.In h) (T : XT K C) (p : IsExc a C h) (hq : R (.ok (.ret (.ref C))) ⟨h, g, d, t, os⟩) :
    codeAny (model prog w) A (.call (.builtin "getset_descriptor.__get__") ⟨[.builtin "object.__class__", .ref a, .ref C], []⟩) R ⟨h, g, d, t, os⟩ := by
  have la := xt_ty (M := model prog w) p
  have lb := looks_mroIn (M := model prog w) X T.mo
  refine codeAny_call_builtin KF.slot_gs.plain KF.entry_gs
    (KF.slot_gs.check _ _ _ _ _ _ _ _ KF.type_class (KF.args_gs _ _ _) ?_)
  unfold Builtin.«getset_descriptor.__get__» descrGet
  rw [dga_obj]
  refine wpAny_bind (wpAny_pure ?_)
  unfold descrGetter descrCheckInstance descrNameAndClass isInstance
  simp only [KF.owner_class]
  repeat lk
  refine ⟨Code.quiet_builtin _ (by decide +kernel),
    codeAny_builtin KF.entry_class ?_⟩
  unfold Builtin.«object.__class__» shownTypeOf
  repeat lk
  exact hq
theorem xt_entry {tk : Tok} {Q : Fin → Shared → Prop} (X : K.In h) (T : XT K C) (p : IsExc a C h) (hq : Q (.done (.ret (.ref C))) ⟨h, g, d, t, os⟩) :
    wpAny (model prog w) A (Builtin.«object.__getattribute__» ⟨[.ref a, .str "__class__" tk], []⟩) Q E ⟨h, g, d, t, os⟩ := by
  have hT5 : (⟨h, g, d, t, os⟩ : Shared).TypeIs (.builtin "object.__class__") "getset_descriptor" :=
    F.typeOf_object_class
  have f5 := F.typeOf_object_class
  have f6 := F.slot_gs_get.lookup
  have f7 := F.slot_gs_set.lookup
  have la := xt_ty (M := model prog w) p
  have lb := looks_findIn (M := model prog w) X T.ca
  obtain ⟨o, h1, h2⟩ := p
  repeat (any_goals (first | assumption | (with_reducible refine wpAny_loadPart_at h1 ?_; rw [h2]) | with_reducible refine Looks.at lb ?_ | wp_step))
  refine xt_get X T ⟨o, h1, h2⟩ ?_
  repeat (any_goals (first | assumption | wp_step))
theorem xt_check {nameV : Value} {Q : Unit → Shared → Prop} (X : K.In h) (T : XT K C) (p : IsExc a C h) (hq : Q () ⟨h, g, d, t, os⟩) :
    wpAny (model prog w) A (checkBuiltinCall "BaseException.__getattribute__" ⟨[.ref a, nameV], []⟩) Q E ⟨h, g, d, t, os⟩ := by
  have hk : builtinKind "BaseException.__getattribute__" = some .slot := by decide +kernel
  have hsp : splitId "BaseException.__getattribute__" = some ("BaseException", "__getattribute__") := by decide +kernel
  have hargs := F.args_bexc_ga (.ref a) nameV
  have la := xt_ty (M := model prog w) p
  have lb := looks_subIn (M := model prog w) X T.mb
  simp only [checkBuiltinCall, hk, hsp]
  refine wpAny_bind ?_
  unfold isInstance
  obtain ⟨o, h1, h2⟩ := p
  repeat (first | (with_reducible refine wpAny_loadPart_at h1 ?_; rw [h2]) | with_reducible refine Looks.at lb ?_ | wp_step)
  exact hq
theorem xt_call {tk : Tok} {R : Result → Shared → Prop} (X : K.In h) (T : XT K C) (p : IsExc a C h) (hq : R (.ok (.ret (.ref C))) ⟨h, g, d, t, os⟩) :
    codeAny (model prog w) A (.call (.builtin "BaseException.__getattribute__") ⟨[.ref a, .str "__class__" tk], []⟩) R ⟨h, g, d, t, os⟩ :=
  codeAny_call_builtin F.attr_ValueError.ga.plain F.entry_bexc_ga (xt_check X T p (xt_entry X T p hq))
theorem xt_by {tk : Tok} {Q : Value → Shared → Prop} (X : K.In h) (T : XT K C) (p : IsExc a C h) (hq : Q (.ref C) ⟨h, g, d, t, os⟩) :
    wpAny (model prog w) A (getAttrBy (.ref a) (.str "__class__" tk) false) Q E ⟨h, g, d, t, os⟩ := by
  have f3 := F.attr_ValueError.ga.bind (.ref a)
  have hx2 : (Value.builtin "BaseException.__getattribute__" == Value.builtin "object.__getattribute__") = false := by decide +kernel
  have hx1 : (onTheHeap (Value.ref C) && Value.builtin "BaseException.__getattribute__" == Value.builtin "object.__getattribute__") = false := by rw [hx2]; rfl
  have lb := looks_findIn (M := model prog w) X T.ga
  have lc := looks_findIn (M := model prog w) X T.gt
  obtain ⟨o, h1, h2⟩ := p
  repeat (any_goals (first | assumption | (with_reducible refine wpAny_loadPart_at h1 ?_; rw [h2]) | with_reducible refine Looks.at lb ?_ | with_reducible refine Looks.at lc ?_ | wp_step))
  refine xt_call X T ⟨o, h1, h2⟩ ?_
  repeat (any_goals (first | assumption | wp_step))
theorem kitx_exc (T : XT K C) : KitX K (.ref a) (.ref C) (IsExc a C) where
  ty := fun _ _ _ p => xt_ty p
  it := fun _ _ X _ => by
    have z := T.cl
    unfold clsIn at z
    split at z
    · rename_i c' d' cd' sl' ho
      intro A' Q' E' s' k q
      unfold isType loadHead
      exact wpAny_bind (wpAny_loadPart (k _ _ (X _ _ ho))
        (wpAny_pure q))
    · cases z
  ne := fun h tp dd its n sl X htp => by
    have z := T.cl
    refine Bool.eq_false_iff.mpr fun q => ?_
    have e : C = tp := Value.ref.inj (beq_iff_eq.mp q)
    subst e
    unfold clsIn at z
    split at z
    · rename_i ho
      have z := (X _ _ ho).symm.trans htp
      cases z
    · cases z
  ca := fun {_ _ _ _ _ s} X p k => by
    obtain ⟨h, g, d, t, os⟩ := s
    unfold getAttr? getAttrBy?
    repeat (any_goals (first | assumption | with_reducible apply xt_by X T p | wp_step))
end
end L3
end

section
set_option Elab.async false
set_option linter.all false
set_option maxRecDepth 100000
namespace L3
open PySem PySem.Spec PyProof.Rows L2

/-! ### isinstance -/
/-- how the class cv (called n) stands to the kinds of things -/
structure IsK (K : PySem.W.Frag) (ct : Ct) (mt : List (String × List String)) (cv : Value) (n : String) : Prop where
  nn : PySem.W.kitOne K (.type "NoneType") cv = some (["NoneType"].contains n)
  bb : PySem.W.kitOne K (.type "bool") cv = some (["bool", "int"].contains n)
  ii : PySem.W.kitOne K (.type "int") cv = some (["int"].contains n)
  ss : PySem.W.kitOne K (.type "str") cv = some (["str"].contains n)
  tt : PySem.W.kitOne K (.type "tuple") cv = some (["tuple"].contains n)
  ll : PySem.W.kitOne K (.type "list") cv = some (["list"].contains n)
  own : ∀ c C ks, ct c = some C → mt.lookup c = some ks → XT K C ∧ PySem.W.kitOne K (.ref C) cv = some (ks.contains n)
/-- a thing of data, as isinstance takes it -/
theorem kitx_data {X : Cx} {ct : Ct} {mt : List (String × List String)} {pins : List (Addr × Obj)} {σ : St} {H : Hp} {s : Shared} {d : D} {v : V} {u : Value} {ks : List String} (I : Inv X pins σ H s) (t : Tl X.K ct H d v) (r : RelV v u) (hk : kinds mt d = some ks)
    (hx : ∀ c C, ct c = some C → (mt.lookup c).isSome = true → XT X.K C) :
    u ≠ .builtin "__main__.__loader__#opaque" ∧ ∃ (ty : Value) (P : Heap → Prop), PySem.W.KitX X.K u ty P ∧ P s.heap ∧ ∀ cv n, IsK X.K ct mt cv n → PySem.W.kitOne X.K ty cv = some (ks.contains n) := by
  cases d with
  | non => simp only [Tl] at t; subst t; cases r; cases hk; exact ⟨(fun z => nomatch z), _, _, PySem.W.kitx_none, trivial, fun cv n k => k.nn⟩
  | bl b => simp only [Tl] at t; subst t; cases r; cases hk; exact ⟨(fun z => nomatch z), _, _, PySem.W.kitx_bool, trivial, fun cv n k => k.bb⟩
  | int i => simp only [Tl] at t; subst t; obtain ⟨tk, rfl⟩ := r; cases hk; exact ⟨(fun z => nomatch z), _, _, PySem.W.kitx_int, trivial, fun cv n k => k.ii⟩
  | str x => simp only [Tl] at t; subst t; obtain ⟨tk, rfl⟩ := r; cases hk; exact ⟨(fun z => nomatch z), _, _, PySem.W.kitx_str, trivial, fun cv n k => k.ss⟩
  | tup ds =>
    simp only [Tl] at t
    obtain ⟨a, vs, rfl, t1, _⟩ := t
    cases r; cases hk
    obtain ⟨its, _, ⟨o, h1, h2, _⟩, _⟩ := I.tuple t1
    exact ⟨(fun z => nomatch z), _, _, PySem.W.kitx_tuple, ⟨o, h1, h2⟩, fun cv n k => k.tt⟩
  | lst ds =>
    simp only [Tl] at t
    obtain ⟨a, vs, rfl, t1, _⟩ := t
    cases r; cases hk
    obtain ⟨its, _, ⟨o, _, h1, h2, _⟩, _⟩ := I.list t1.sq
    exact ⟨(fun z => nomatch z), _, _, PySem.W.kitx_list, ⟨o, h1, h2⟩, fun cv n k => k.ll⟩
  | obj c ns xs => cases hk
  | exc c =>
    simp only [Tl] at t
    obtain ⟨a, C, rfl, hc, ha⟩ := t
    cases r
    obtain ⟨p, _⟩ := I.hok a _ ha
    have hk : mt.lookup c = some ks := hk
    exact ⟨(fun z => nomatch z), _, _, kitx_exc (hx c C hc (by rw [hk]; rfl)), p, fun cv n k => (k.own c C ks hc hk).2⟩
section
variable {X : Cx} {ct : Ct} {mt : List (String × List String)} {a b e : Expr} {f g : Sg → Res D} {c : Str} {n : String} {cv : Value} {p p2 pos : Pos}
/-- a class by its name -/
structure ClsV (X : Cx) (c : Str) (v : V) (u : Value) : Prop where
  rel : RelV v u
  one : ∀ u', RelV v u' → u' = u
  ld : (X.mg c = some u) ∨ (X.mg c = none ∧ bootBuiltins c = some u ∧ c ≠ "__name__")
theorem clsV_ref {C : Addr} (h : X.mg c = some (.ref C)) : ClsV X c (.ref C) (.ref C) := ⟨rfl, fun _ z => z, .inl h⟩
theorem clsV_ty {T : String} (h : X.mg c = none) (hv : bootBuiltins c = some (.type T)) (hn : c ≠ "__name__") : ClsV X c (.ty T) (.type T) := ⟨rfl, fun _ z => z, .inr ⟨h, hv, hn⟩⟩
theorem pe_cls {v : V} {u : Value} {pos : Pos} (h : ClsV X c v u) (hg : Gl X c := by rfl) (hd : (c == ("__debug__" : Str)) = false := by decide) : PE X (.Name c pos) (tC v) := by
  rcases h.ld with q | ⟨q1, q2, q3⟩
  · exact pe_glob hg q h.rel hd
  · exact pe_bltn hg q1 q2 h.rel q3 hd
/-- the classes that exceptions of the text are of, known -/
abbrev XTs (K : PySem.W.Frag) (ct : Ct) (mt : List (String × List String)) : Prop := ∀ c C, ct c = some C → (mt.lookup c).isSome = true → XT K C
theorem call_isi {y : V} (hx : XTs X.K ct mt) (hk : IsK X.K ct mt cv n) (hy : ∀ u, RelV y u → u = cv) : CallR X (.builtin "isinstance") (fun xs H Q => ∃ d v ks, xs = [v, y] ∧ Tl X.K ct H d v ∧ kinds mt d = some ks ∧ Q (.bl (ks.contains n)) H) := by
  intro pins s σ H xs us Q I r ⟨d, v, ks, ex, t, hd, q⟩
  subst ex
  cases r with
  | cons r1 r2 =>
    cases r2 with
    | cons r2 r3 =>
      cases r3
      obtain ⟨nb, ty, P, Z, pp, k⟩ := kitx_data I t r1 hd hx
      rw [hy _ r2]
      exact PySem.W.kia_one Z I.kIn pp (k cv n hk) nb fun tk => ⟨.bl _, H, I.tok tk, rfl, q⟩
theorem isiD_ok {cs : List String} {d x : D} (h : isiD mt cs d = .ok x) : ∃ ks, kinds mt d = some ks ∧ x = .bl (cs.any fun c => ks.contains c) := by
  unfold isiD at h
  split at h
  · rename_i ks hk; cases h; exact ⟨ks, hk, rfl⟩
  · cases h
theorem isiD_ne {cs : List String} {d : D} {c : String} : isiD mt cs d ≠ .err c := by
  unfold isiD
  split <;> exact fun z => nomatch z
theorem pd_isi {y : V} (hm : X.mg "isinstance" = none) (hx : XTs X.K ct mt) (hk : IsK X.K ct mt cv n) (hc : ClsV X c y cv) (he : PD X ct e f) (hg : Gl X "isinstance" := by rfl) (hgc : Gl X c := by rfl) (hdc : (c == ("__debug__" : Str)) = false := by decide)
    (hs : starEach [e, .Name c p2] X.env = (false, eval e X.env) :: starEach [.Name c p2] X.env := by rfl) (hs2 : starEach [.Name c p2] X.env = (false, eval (.Name c p2) X.env) :: starEach [] X.env := by rfl)
    (hpl : (backTo pos (starEach [.Name c p2] X.env)).any (·.1) = false := by rfl) : PD X ct (.Call (.Name "isinstance" p) [e, .Name c p2] [] pos) (dIsi mt [n] f) := by
  refine PE.imp (pe_callB (call_isi hx hk hc.one) hg hm PyProof.Rows.boot_isinstance (pa_cons he (pa_cons (pe_cls hc hgc hdc) pa_nil hs2) hs) (by decide) (by decide) hs hpl) fun σ H Q ⟨Γ, j, h⟩ => ?_
  refine eOf.bnd j h fun d v H' s t j' h' => ?_
  cases q : isiD mt [n] d with
  | bad => rw [q] at h'; exact h'.elim
  | err c => exact (isiD_ne q).elim
  | ok x =>
    rw [q] at h'
    obtain ⟨ks, hks, rfl⟩ := isiD_ok q
    exact ⟨d, v, ks, rfl, t, hks, by simpa using h' (.bl _) H' s (by simp [Tl])⟩
/-- several classes -/
theorem kitAny_all {K : PySem.W.Frag} {ty : Value} {ks : List String} : ∀ {cvs : List Value} {ns : List String}, Paired (fun cv n => PySem.W.kitOne K ty cv = some (ks.contains n)) cvs ns → PySem.W.kitAny K ty cvs = some (ns.any fun c => ks.contains c)
  | _, _, .nil => rfl
  | _, _, .cons r t => by
    unfold PySem.W.kitAny
    rw [r, List.any_cons]
    cases ks.contains _ with
    | true => rfl
    | false => simpa using kitAny_all t
theorem call_isiT {ys : List V} {cvs : List Value} {ns : List String} (hx : XTs X.K ct mt) (hk : Paired (IsK X.K ct mt) cvs ns) (hy : ∀ us, Vals ys us → us = cvs) :
    CallR X (.builtin "isinstance") (fun xs H Q => ∃ d v ks a, xs = [v, .ref a] ∧ H a = some (.tup ys) ∧ Tl X.K ct H d v ∧ kinds mt d = some ks ∧ Q (.bl (ns.any fun c => ks.contains c)) H) := by
  intro pins s σ H xs us Q I r ⟨d, v, ks, a, ex, ha, t, hd, q⟩
  subst ex
  cases r with
  | cons r1 r2 =>
    cases r2 with
    | cons r2 r3 =>
      cases r3
      cases r2
      obtain ⟨nb, ty, P, Z, pp, k⟩ := kitx_data I t r1 hd hx
      obtain ⟨_, its, ri, o, h1, h2, m, h3⟩ := I.hok a _ ha
      have e := hy _ ri
      subst e
      obtain ⟨oc, od, odt, osl⟩ := o
      simp only at h2 h3
      subst h2 h3
      exact PySem.W.kia_tup Z I.kIn pp h1 (kitAny_all (Paired.mapP hk fun cv n z => k cv n z)) nb fun tk => ⟨.bl _, H, I.tok tk, rfl, q⟩
theorem pd_isiT {ys : List V} {cvs : List Value} {ns : List String} {cs : List Expr} {t : TA} {x1} (hm : X.mg "isinstance" = none) (hx : XTs X.K ct mt) (hk : Paired (IsK X.K ct mt) cvs ns) (hy : ∀ us, Vals ys us → us = cvs) (he : PD X ct e f)
    (hc : PA X cs t) (ht : ∀ σ H Q, Q ys H → t σ H Q) (hl : ys.length ≤ 100) (hg : Gl X "isinstance" := by rfl)
    (hs : starEach [e, .Tuple cs x1 p2] X.env = (false, eval e X.env) :: starEach [.Tuple cs x1 p2] X.env := by rfl) (hs2 : starEach [.Tuple cs x1 p2] X.env = (false, eval (.Tuple cs x1 p2) X.env) :: starEach [] X.env := by rfl)
    (hpl : (backTo pos (starEach [.Tuple cs x1 p2] X.env)).any (·.1) = false := by rfl) : PD X ct (.Call (.Name "isinstance" p) [e, .Tuple cs x1 p2] [] pos) (dIsi mt ns f) := by
  refine PE.imp (pe_callB (call_isiT hx hk hy) hg hm PyProof.Rows.boot_isinstance (pa_cons he (pa_cons (pe_tup hc) pa_nil hs2) hs) (by decide) (by decide) hs hpl) fun σ H Q ⟨Γ, j, h⟩ => ?_
  refine eOf.bnd j h fun d v H' s t' j' h' => ?_
  cases q : isiD mt ns d with
  | bad => rw [q] at h'; exact h'.elim
  | err c => exact (isiD_ne q).elim
  | ok x =>
    rw [q] at h'
    obtain ⟨ks, hks, rfl⟩ := isiD_ok q
    refine ht σ H' _ ⟨Nat.le_of_lt (small1000 (by omega)), fun a ha => ?_⟩
    have s2 := same_new ha (.tup ys)
    exact ⟨d, v, ks, a, rfl, upd_same, t'.keep (Same.keep s2), hks, h' (.bl _) _ (s.trans s2) (by simp [Tl])⟩
/-! ### is None, is True, is False -/
theorem val_bool_beq (x y : Bool) : (Value.bool x == Value.bool y) = decide (x = y) := by cases x <;> cases y <;> rfl
theorem op_isC : OpR X (compareOp .Is) (fun x y H Q => ∃ b : Bool, (y = .non ∨ ∃ c, y = .bl c) ∧ b = decide (x = y) ∧ Q (.bl b) H) := by
  intro pins s σ H x y v u Q I rx ry ⟨b, hy, hb, q⟩
  have hp : plainIs v u = true ∧ (v == u) = b := by
    subst hb
    rcases hy with rfl | ⟨c, rfl⟩ <;> cases ry <;> cases x <;> first
      | (cases rx; refine ⟨rfl, ?_⟩; first | (rw [val_bool_beq]; simp; done) | (simp; done))
      | (obtain ⟨t, rfl⟩ := rx; refine ⟨rfl, ?_⟩; simp; done)
  exact wpAny_is_plain hp.1 (by rw [hp.2]; exact ⟨.bl b, H, I, rfl, q⟩)
theorem op_isntC : OpR X (compareOp .IsNot) (fun x y H Q => ∃ b : Bool, (y = .non ∨ ∃ c, y = .bl c) ∧ b = decide (x = y) ∧ Q (.bl (!b)) H) := by
  intro pins s σ H x y v u Q I rx ry ⟨b, hy, hb, q⟩
  have hp : plainIs v u = true ∧ (v == u) = b := by
    subst hb
    rcases hy with rfl | ⟨c, rfl⟩ <;> cases ry <;> cases x <;> first
      | (cases rx; refine ⟨rfl, ?_⟩; first | (rw [val_bool_beq]; simp; done) | (simp; done))
      | (obtain ⟨t, rfl⟩ := rx; refine ⟨rfl, ?_⟩; simp; done)
  exact wpAny_isNot_plain hp.1 (by rw [hp.2]; exact ⟨.bl (!b), H, I, rfl, q⟩)
theorem tl_is {K : PySem.W.Frag} {H : Hp} {d y : D} {v u : V} {r : D} (t1 : Tl K ct H d v) (t2 : Tl K ct H y u) (h : isI d y = .ok r) : (u = .non ∨ ∃ c, u = .bl c) ∧ r = .bl (decide (v = u)) := by
  cases y with
  | non =>
    simp only [Tl] at t2
    subst t2
    refine ⟨.inl rfl, ?_⟩
    cases d <;> simp only [isI, Res.ok.injEq] at h <;> subst h <;> simp only [Tl] at t1 <;> first
      | (subst t1; simp)
      | (obtain ⟨a, z⟩ := t1; obtain ⟨b, z⟩ := z; obtain ⟨z, _⟩ := z; subst z; simp)
      | (obtain ⟨a, b, c, e, z, _⟩ := t1; subst z; simp)
  | bl b =>
    simp only [Tl] at t2
    subst t2
    refine ⟨.inr ⟨b, rfl⟩, ?_⟩
    cases d <;> simp only [isI, Res.ok.injEq] at h <;> subst h <;> simp only [Tl] at t1 <;> first
      | (subst t1; simp; done)
      | (subst t1; rename_i c; cases c <;> cases b <;> rfl)
      | (obtain ⟨a, z⟩ := t1; obtain ⟨b, z⟩ := z; obtain ⟨z, _⟩ := z; subst z; simp)
      | (obtain ⟨a, b, c, e, z, _⟩ := t1; subst z; simp)
  | _ => cases h
theorem op2_is : Op2 X ct (fun x y H Q => ∃ b : Bool, (y = .non ∨ ∃ c, y = .bl c) ∧ b = decide (x = y) ∧ Q (.bl b) H) isI := by
  intro σ H x y d1 d2 Q _ t1 t2 h
  cases q : isI d1 d2 with
  | bad => rw [q] at h; exact h.elim
  | err c => cases d2 <;> cases q
  | ok r =>
    rw [q] at h
    obtain ⟨h1, rfl⟩ := tl_is t1 t2 q
    exact ⟨_, h1, rfl, h _ H (Same.refl H) (by simp [Tl])⟩
theorem isnt_of (d y : D) : isntI d y = (isI d y).bnd fun r => match r with
    | .bl b => .ok (.bl (!b))
    | _ => .bad := by
  cases y <;> first | rfl | (cases d <;> rfl)
theorem op2_isnt : Op2 X ct (fun x y H Q => ∃ b : Bool, (y = .non ∨ ∃ c, y = .bl c) ∧ b = decide (x = y) ∧ Q (.bl (!b)) H) isntI := by
  intro σ H x y d1 d2 Q _ t1 t2 h
  rw [isnt_of] at h
  cases q : isI d1 d2 with
  | bad => rw [q] at h; exact h.elim
  | err c => cases d2 <;> cases q
  | ok r =>
    rw [q] at h
    obtain ⟨h1, rfl⟩ := tl_is t1 t2 q
    exact ⟨_, h1, rfl, h _ H (Same.refl H) (by simp [Tl])⟩
theorem pd_is (ha : PD X ct a f) (hb : PD X ct b g) : PD X ct (.Compare a [.Is] [b] pos) (dOp isI f g) := pd_cmp op_isC op2_is ha hb (nomark _)
theorem pd_isnt (ha : PD X ct a f) (hb : PD X ct b g) : PD X ct (.Compare a [.IsNot] [b] pos) (dOp isntI f g) := pd_cmp op_isntC op2_isnt ha hb (nomark _)
theorem pdt_is (ha : PD X ct a f) (hb : PD X ct b g) : PDT X ct (.Compare a [.Is] [b] pos) (dT (dOp isI f g)) := pdt_cmp op_isC op2_is ha hb (nomark _)
theorem pdt_isnt (ha : PD X ct a f) (hb : PD X ct b g) : PDT X ct (.Compare a [.IsNot] [b] pos) (dT (dOp isntI f g)) := pdt_cmp op_isntC op2_isnt ha hb (nomark _)
/-! ### all, any -/
theorem bools_tls {K : PySem.W.Frag} {H : Hp} : ∀ {ds : List D} {bs : List Bool} {vs : List V}, bools ds = some bs → Tls K ct H ds vs → vs = bs.map V.bl
  | [], _, vs, h, t => by cases h; simpa [Tls] using t
  | .bl b :: r, bs, vs, h, t => by
    simp only [bools, Option.map_eq_some_iff] at h
    obtain ⟨rs, h1, rfl⟩ := h
    simp only [Tls, Tl] at t
    obtain ⟨v, vr, rfl, rfl, t2⟩ := t
    rw [bools_tls h1 t2]; rfl
  | .non :: _, _, _, h, _ => by cases h
  | .int _ :: _, _, _, h, _ => by cases h
  | .str _ :: _, _, _, h, _ => by cases h
  | .tup _ :: _, _, _, h, _ => by cases h
  | .lst _ :: _, _, _, h, _ => by cases h
  | .obj _ _ _ :: _, _, _, h, _ => by cases h
  | .exc _ :: _, _, _, h, _ => by cases h
theorem range_all (bs : List Bool) : (List.range bs.length).all (fun i => bs.getD i false) = bs.all id := by
  rw [Bool.eq_iff_iff, List.all_eq_true, List.all_eq_true]
  constructor
  · intro h b hb
    obtain ⟨i, hi, rfl⟩ := List.getElem_of_mem hb
    have := h i (List.mem_range.mpr hi)
    simpa [List.getD_eq_getElem?_getD, hi] using this
  · intro h i hi
    have hi := List.mem_range.mp hi
    simpa [List.getD_eq_getElem?_getD, hi] using h bs[i] (List.getElem_mem hi)
theorem range_any (bs : List Bool) : (List.range bs.length).any (fun i => bs.getD i false) = bs.any id := by
  rw [Bool.eq_iff_iff, List.any_eq_true, List.any_eq_true]
  constructor
  · rintro ⟨i, hi, h⟩
    have hi := List.mem_range.mp hi
    exact ⟨bs[i], List.getElem_mem hi, by simpa [List.getD_eq_getElem?_getD, hi] using h⟩
  · rintro ⟨b, hb, h⟩
    obtain ⟨i, hi, rfl⟩ := List.getElem_of_mem hb
    exact ⟨i, List.mem_range.mpr hi, by simpa [List.getD_eq_getElem?_getD, hi] using h⟩
theorem walk_bools {pins : List (Addr × Obj)} {σ : St} {H : Hp} {s : Shared} {A : Around} {l : Addr} {bs : List Bool} {R : Value → Shared → Prop} {E : Value → Shared → Prop} (I : Inv X pins σ H s) (hA : A.handled = none) (hs : SqL X.K H l (bs.map V.bl))
    (k : ∀ I' fp wr n P St tr it s₂, it = .ref I' → Walks X.prog X.w A I' fp wr n P St → St 0 s₂.heap → TruthOf X.prog X.w A P tr → n = bs.length → tr = (fun i => bs.getD i false) →
      (∀ h' tk, (∀ b o, b ∉ wr → s₂.heap.get? b = some o → h'.get? b = some o) → Inv X pins σ H { s₂ with heap := h', toks := tk }) → R it s₂) : wpAny (model X.prog X.w) A (pyIter (.ref l)) R E s := by
  obtain ⟨its, ri, ⟨o, n, h1, h2, h2', h3⟩, _⟩ := I.list hs
  have hl : s.heap.IsList l its.toArray := ⟨o, h1, h2, n, h3⟩
  have hlen : its.length = bs.length := by rw [← ri.length, List.length_map]
  refine wpAny_pyIter_list hl ?_
  have hne : l ≠ s.heap.objs.size := Nat.ne_of_lt (Heap.lt_size h1)
  refine k _ _ _ _ _ _ (fun i => bs.getD i false) _ _ rfl (Walks.list hA s.heap.objs.size l hne its.toArray) ⟨⟨_, Heap.get?_push_size _ rfl, rfl, rfl⟩, ⟨o, Heap.get?_push_of_some _ h1, h2, n, h3⟩⟩ ?_ (by simpa using hlen) rfl fun h' tk kp => ?_
  · intro i v s' Q' E' hP hq
    have hP : its.toArray[i]? = some v := hP
    rw [List.getElem?_toArray] at hP
    have hi : i < bs.length := by rw [← hlen]; exact (List.getElem?_eq_some_iff.mp hP).1
    obtain ⟨u, e1, e2⟩ := ri.get (i := i) (x := .bl bs[i]) (by rw [List.getElem?_map, List.getElem?_eq_getElem hi]; rfl)
    rw [hP] at e1
    cases e1
    cases e2
    have : bs.getD i false = bs[i] := by simp [List.getD_eq_getElem?_getD, hi]
    have hq : Q' (bs.getD i false) s' := hq
    rw [this] at hq
    exact wpAny_pure hq
  · refine I.kept (h' := h') (t' := tk) fun b ob e => kp b ob ?_ (Heap.get?_push_of_some _ e)
    simp only [List.mem_singleton]
    exact Nat.ne_of_lt (Heap.lt_size e)
theorem call_all (hc : X.calm = true) : CallR X (.builtin "all") (fun xs H Q => ∃ (l : Addr) (bs : List Bool), xs = [.ref l] ∧ SqL X.K H l (bs.map V.bl) ∧ Q (.bl (bs.all id)) H) := by
  intro pins s σ H xs us Q I r ⟨l, bs, ex, hs, q⟩
  subst ex
  obtain ⟨u, rfl, ru⟩ := vals1 r
  cases ru
  refine call_all_walk (walk_bools I (I.ok.hd hc) hs fun I' fp wr n P St tr it s₂ e W st tt en et kp => ?_)
  subst en et
  exact ⟨I', fp, wr, _, P, St, _, e, W, st, tt, fun h' tk k => by rw [range_all]; exact ⟨.bl _, H, kp h' tk k, rfl, q⟩⟩
theorem call_any (hc : X.calm = true) : CallR X (.builtin "any") (fun xs H Q => ∃ (l : Addr) (bs : List Bool), xs = [.ref l] ∧ SqL X.K H l (bs.map V.bl) ∧ Q (.bl (bs.any id)) H) := by
  intro pins s σ H xs us Q I r ⟨l, bs, ex, hs, q⟩
  subst ex
  obtain ⟨u, rfl, ru⟩ := vals1 r
  cases ru
  refine call_any_walk (walk_bools I (I.ok.hd hc) hs fun I' fp wr n P St tr it s₂ e W st tt en et kp => ?_)
  subst en et
  exact ⟨I', fp, wr, _, P, St, _, e, W, st, tt, fun h' tk k => by rw [range_any]; exact ⟨.bl _, H, kp h' tk k, rfl, q⟩⟩
theorem pd_all {fa : Sg → Res (List D)} (hc : X.calm = true) (hm : X.mg "all" = none) (ha : PDA X ct [e] fa) (hg : Gl X "all" := by rfl) (he : starEach [e] X.env = (false, eval e X.env) :: starEach [] X.env := by rfl) :
    PD X ct (.Call (.Name "all" p) [e] [] pos) (dCB allD fa) := by
  refine PE.imp (pe_callB (call_all hc) hg hm PyProof.Rows.boot_all ha (by decide) (by decide) he rfl) (cb_of fun σ H vs ds Q t h => ?_)
  unfold allD at h
  split at h
  · split at h
    · rename_i es bs hb
      obtain ⟨v, rfl, tv⟩ := tls1 t
      simp only [Tl] at tv
      obtain ⟨l, us, rfl, h1, h2⟩ := tv
      rw [bools_tls hb h2] at h1
      exact ⟨l, bs, rfl, h1.sq, h _ H (Same.refl H) (by simp [Tl])⟩
    · exact h.elim
  · exact h.elim
theorem pd_any {fa : Sg → Res (List D)} (hc : X.calm = true) (hm : X.mg "any" = none) (ha : PDA X ct [e] fa) (hg : Gl X "any" := by rfl) (he : starEach [e] X.env = (false, eval e X.env) :: starEach [] X.env := by rfl) :
    PD X ct (.Call (.Name "any" p) [e] [] pos) (dCB anyD fa) := by
  refine PE.imp (pe_callB (call_any hc) hg hm PyProof.Rows.boot_any ha (by decide) (by decide) he rfl) (cb_of fun σ H vs ds Q t h => ?_)
  unfold anyD at h
  split at h
  · split at h
    · rename_i es bs hb
      obtain ⟨v, rfl, tv⟩ := tls1 t
      simp only [Tl] at tv
      obtain ⟨l, us, rfl, h1, h2⟩ := tv
      rw [bools_tls hb h2] at h1
      exact ⟨l, bs, rfl, h1.sq, h _ H (Same.refl H) (by simp [Tl])⟩
    · exact h.elim
  · exact h.elim
end
end L3
end

section
set_option Elab.async false
set_option linter.all false
set_option maxRecDepth 100000
namespace L3
open PySem PySem.Spec PyProof.Rows L2

/-! ### built-in classes by name; their values -/
theorem bt_int : bootBuiltins "int" = some (.type "int") := by decide +kernel
theorem bt_bool : bootBuiltins "bool" = some (.type "bool") := by decide +kernel
theorem bt_tuple : bootBuiltins "tuple" = some (.type "tuple") := by decide +kernel
theorem bt_list : bootBuiltins "list" = some (.type "list") := by decide +kernel
theorem bt_str : bootBuiltins "str" = some (.type "str") := by decide +kernel
theorem bt_dict : bootBuiltins "dict" = some (.type "dict") := by decide +kernel
theorem bt_ValueError : bootBuiltins "ValueError" = some (.type "ValueError") := by decide +kernel
theorem vu_nil : ∀ us, Vals [] us → us = [] := fun us h => by cases h; rfl
theorem vu_cons {X : Cx} {c : Str} {y : V} {ys : List V} {cv : Value} {cvs : List Value} (h : ClsV X c y cv) (t : ∀ us, Vals ys us → us = cvs) : ∀ us, Vals (y :: ys) us → us = cv :: cvs := fun us r => by
  cases r with
  | cons r1 r2 => rw [h.one _ r1, t _ r2]
theorem vu_ref {C : Addr} {ys : List V} {cvs : List Value} (t : ∀ us, Vals ys us → us = cvs) : ∀ us, Vals (.ref C :: ys) us → us = .ref C :: cvs := fun us r => by
  cases r with
  | cons r1 r2 => cases r1; rw [t _ r2]
theorem vu_ty {T : String} {ys : List V} {cvs : List Value} (t : ∀ us, Vals ys us → us = cvs) : ∀ us, Vals (.ty T :: ys) us → us = .type T :: cvs := fun us r => by
  cases r with
  | cons r1 r2 => cases r1; rw [t _ r2]
theorem look_cons {a c : String} {A C : Addr} {r : List (String × Addr)} (h : ((a, A) :: r).lookup c = some C) : (c = a ∧ C = A) ∨ r.lookup c = some C := by
  rw [List.lookup_cons] at h
  split at h
  · rename_i e
    cases h
    exact .inl ⟨eq_of_beq e, rfl⟩
  · exact .inr h
theorem look_nil {c : String} {C : Addr} {p : Prop} (h : ([] : List (String × Addr)).lookup c = some C) : p := by cases h

/-! ### what a target touches -/
def TgK (k : Nat) (t : Tg) : Prop := ∀ x Γ Γ1, t x Γ = some Γ1 → Γ1.length = Γ.length ∧ ∀ i, k ≤ i → Γ1[i]? = Γ[i]?
def TgsK (k : Nat) (t : Tgs) : Prop := ∀ x Γ Γ1, t x Γ = some Γ1 → Γ1.length = Γ.length ∧ ∀ i, k ≤ i → Γ1[i]? = Γ[i]?
theorem tk_name {k i : Nat} (h : i < k) : TgK k (tgName i) := fun x Γ Γ1 e => by
  cases e
  exact ⟨by simp, fun j hj => by rw [List.getElem?_set_ne (by omega)]⟩
theorem tk_nil {k : Nat} : TgsK k tgNil := fun x Γ Γ1 e => by
  cases x with
  | nil => cases e; exact ⟨rfl, fun _ _ => rfl⟩
  | cons a r => cases e
theorem tk_cons {k : Nat} {t : Tg} {u : Tgs} (h1 : TgK k t) (h2 : TgsK k u) : TgsK k (tgCons t u) := fun x Γ Γ1 e => by
  cases x with
  | nil => cases e
  | cons d r =>
    simp only [tgCons, Option.bind_eq_some_iff] at e
    obtain ⟨Γ2, e1, e2⟩ := e
    obtain ⟨a1, a2⟩ := h1 _ _ _ e1
    obtain ⟨b1, b2⟩ := h2 _ _ _ e2
    exact ⟨b1.trans a1, fun i hi => (b2 i hi).trans (a2 i hi)⟩
theorem tk_tup {k n : Nat} {t : Tgs} (h : TgsK k t) : TgK k (tgTup n t) := fun x Γ Γ1 e => by
  cases x with
  | tup ds =>
    simp only [tgTup] at e
    split at e
    · exact h _ _ _ e
    · cases e
  | _ => cases e
theorem J.weak {K : PySem.W.Frag} {ct : Ct} {H₀ H : Hp} {Γ Γ1 : Sg} {σ : St} (j : J K ct H₀ Γ1 σ H) (hl : Γ1.length = Γ.length) (h : ∀ i : Nat, Γ[i]? = some .no ∨ Γ[i]? = Γ1[i]?) : J K ct H₀ Γ σ H := by
  refine ⟨j.same, by rw [← hl]; exact j.len, fun i sl ov h1 h2 => ?_, fun i l ds es a hil h1 h2 h3 => ?_⟩
  · rcases h i with e | e
    · rw [e] at h1; cases h1; trivial
    · rw [e] at h1; exact j.at' i sl ov h1 h2
  · have e1 : Γ1[i]? = some (.ml ds) := by
      rcases h i with e | e
      · rw [e] at h1; cases h1
      · rw [← e]; exact h1
    have e2 : Γ1[l]? = some (.ml es) := by
      rcases h l with e | e
      · rw [e] at h2; cases h2
      · rw [← e]; exact h2
    exact j.sep i l ds es a hil e1 e2 h3
section
variable {X : Cx} {ct : Ct} {elt iter tg : Expr} {ifs : List Expr} {scope : Scope} {cl : List (Str × Addr)} {pos : Pos} {k : Nat} {caps : List Nat} {N' : List Str} {fi : Sg → Res (List D)} {t : Tg} {p : Sg → Res Bool} {fe : Sg → Res D}
theorem pl_compD (hc : X.calm = true) (hi : PID X ct tg iter fi) (co : CompOk X scope cl k caps N') (hfb : (scope.names.all fun z => scope.names.all fun y => !(y.2 == .free && z.1 == y.1) || z.2 == .free) = true)
    (hg : ∀ C s₀ H₀ ex, PGD (cxB X scope cl C s₀ H₀ ex N') ct tg t) (hp : ∀ C s₀ H₀ ex, PTs (cxB X scope cl C s₀ H₀ ex N') ct ifs p) (he : ∀ C s₀ H₀ ex, PD (cxB X scope cl C s₀ H₀ ex N') ct elt fe)
    (hk : TgK k t) (hs : ∀ x, foldedSetIterable iter X.env x = pure x := by intro _; rfl) : PL X ct (.ListComp elt [⟨tg, iter, ifs, 0⟩] scope pos) (lComp fi k caps t p fe) := by
  have hfr : ∀ z ∈ scope.names, ∀ y, (y, NameKind.free) ∈ scope.names → z.1 = y → z.2 = .free := fun z hz y hy e => by
    have q := List.all_eq_true.mp (List.all_eq_true.mp hfb z hz) _ hy
    simp only [e, BEq.rfl, Bool.and_self, Bool.not_true, Bool.false_or] at q
    exact eq_of_beq q
  refine pl_comp hc hi co hfr hg hp he (fun Γ x Γ1 σ H H₀ e j => ?_) hs
  obtain ⟨h1, h2⟩ := hk _ _ _ e
  refine j.weak h1 fun i => ?_
  by_cases hik : i < k
  · left
    unfold blk
    rw [List.getElem?_append_left (by simpa using hik), List.getElem?_replicate, if_pos hik]
  · exact .inr (h2 i (Nat.le_of_not_lt hik)).symm
theorem tk_forget {K : PySem.W.Frag} (hk : TgK k t) : ∀ Γ x Γ1 σ H H₀, t x (blk k caps Γ) = some Γ1 → J K ct H₀ Γ1 σ H → J K ct H₀ (blk k caps Γ) σ H := fun Γ x Γ1 σ H H₀ e j => by
  obtain ⟨h1, h2⟩ := hk _ _ _ e
  refine j.weak h1 fun i => ?_
  by_cases hik : i < k
  · left
    unfold blk
    rw [List.getElem?_append_left (by simpa using hik), List.getElem?_replicate, if_pos hik]
  · exact .inr (h2 i (Nat.le_of_not_lt hik)).symm
theorem free_of (hfb : (scope.names.all fun z => scope.names.all fun y => !(y.2 == .free && z.1 == y.1) || z.2 == .free) = true) : ∀ z ∈ scope.names, ∀ y, (y, NameKind.free) ∈ scope.names → z.1 = y → z.2 = .free := fun z hz y hy e => by
  have q := List.all_eq_true.mp (List.all_eq_true.mp hfb z hz) _ hy
  simp only [e, BEq.rfl, Bool.and_self, Bool.not_true, Bool.false_or] at q
  exact eq_of_beq q
theorem pds_setC (i : Nat) {x : Str} {px ps : Pos} (hN : X.N.Nodup) (hc : X.calm = true) (hi : PID X ct tg iter fi) (co : CompOk X scope cl k caps N') (hfb : (scope.names.all fun z => scope.names.all fun y => !(y.2 == .free && z.1 == y.1) || z.2 == .free) = true)
    (hg : ∀ C s₀ H₀ ex, PGD (cxB X scope cl C s₀ H₀ ex N') ct tg t) (hp : ∀ C s₀ H₀ ex, PTs (cxB X scope cl C s₀ H₀ ex N') ct ifs p) (he : ∀ C s₀ H₀ ex, PD (cxB X scope cl C s₀ H₀ ex N') ct elt fe) (hk : TgK k t)
    (hs : ∀ x, foldedSetIterable iter X.env x = pure x := by intro _; rfl) (hsw : swapsWith (.ListComp elt [⟨tg, iter, ifs, 0⟩] scope pos) (some (.Name x px)) ps.line X.env = pure true := by rfl) (hx : X.N[i]? = some x := by rfl) (hl : X.env.scope.names.lookup x = some .local := by rfl) :
    PDS X ct (.Assign [.Name x px] (.ListComp elt [⟨tg, iter, ifs, 0⟩] scope pos) ps) (sSet i (dFz (lComp fi k caps t p fe))) :=
  comp_usedF i hN hc hi co (free_of hfb) hg hp he (tk_forget hk) hs hsw hx hl
theorem pds_setCL (i : Nat) {x : Str} {px ps : Pos} (hN : X.N.Nodup) (hc : X.calm = true) (hi : PID X ct tg iter fi) (co : CompOk X scope cl k caps N') (hfb : (scope.names.all fun z => scope.names.all fun y => !(y.2 == .free && z.1 == y.1) || z.2 == .free) = true)
    (hg : ∀ C s₀ H₀ ex, PGD (cxB X scope cl C s₀ H₀ ex N') ct tg t) (hp : ∀ C s₀ H₀ ex, PTs (cxB X scope cl C s₀ H₀ ex N') ct ifs p) (he : ∀ C s₀ H₀ ex, PD (cxB X scope cl C s₀ H₀ ex N') ct elt fe) (hk : TgK k t)
    (hs : ∀ x, foldedSetIterable iter X.env x = pure x := by intro _; rfl) (hsw : swapsWith (.ListComp elt [⟨tg, iter, ifs, 0⟩] scope pos) (some (.Name x px)) ps.line X.env = pure true := by rfl) (hx : X.N[i]? = some x := by rfl) (hl : X.env.scope.names.lookup x = some .local := by rfl) :
    PDS X ct (.Assign [.Name x px] (.ListComp elt [⟨tg, iter, ifs, 0⟩] scope pos) ps) (sSetL i (lComp fi k caps t p fe)) :=
  comp_used i hN hc hi co (free_of hfb) hg hp he (tk_forget hk) hs hsw hx hl
end

/-! ### calls, constants of the module, in short -/
section
variable {X : Cx} {ct : Ct} {k n : Nat} {f : Addr} {fd : FuncData} {ps : List Str} {F : List D → Ans} {x : Str} {p pos : Pos} {e : Expr} {es : List Expr} {fa : Sg → Res (List D)}
theorem pd_callD (G : FnD X.prog X.w X.K X.mg X.base ct k f fd ps F) (hr : Room k X.A) (hm : X.mg x = some (.ref f)) (hk : PySem.W.keepIn X.K (.ref f) = true) (hb : Binds X.K fd ps []) (ha : PDA X ct (e :: es) fa) (hn : ps.length = n := by rfl) (hg : Gl X x := by rfl)
    (hdb : (x == ("__debug__" : Str)) = false := by decide) (he : starEach (e :: es) X.env = (false, eval e X.env) :: starEach es X.env := by rfl) (hpl : (backTo pos (starEach es X.env)).any (·.1) = false := by rfl) :
    PD X ct (.Call (.Name x p) (e :: es) [] pos) (dCall n F fa) := by
  subst hn
  exact pd_call (pe_callD G hr hm hk hb ha hg hdb he hpl)
theorem pd_callD0 (G : FnD X.prog X.w X.K X.mg X.base ct k f fd ps F) (hr : Room k X.A) (hm : X.mg x = some (.ref f)) (hk : PySem.W.keepIn X.K (.ref f) = true) (hb : Binds X.K fd ps []) (hn : ps.length = n := by rfl) (hg : Gl X x := by rfl)
    (hdb : (x == ("__debug__" : Str)) = false := by decide) : PD X ct (.Call (.Name x p) [] [] pos) (dCall n F dNil) := by
  subst hn
  exact pd_call (pe_callD0 G hr hm hk hb hg hdb)
theorem pd_globI {i : Int} {t : Tok} (hm : X.mg x = some (.int i t)) (hg : Gl X x := by rfl) (hd : (x == ("__debug__" : Str)) = false := by decide) : PD X ct (.Name x pos) (dC (.int i)) := pd_glob (v := .int i) hg hm ⟨t, rfl⟩ (fun _ => by simp [Tl]) hd
theorem pd_globS {i : Str} {t : Tok} (hm : X.mg x = some (.str i t)) (hg : Gl X x := by rfl) (hd : (x == ("__debug__" : Str)) = false := by decide) : PD X ct (.Name x pos) (dC (.str i)) := pd_glob (v := .str i) hg hm ⟨t, rfl⟩ (fun _ => by simp [Tl]) hd
end
/-! ### the law -/
def spL (K : PySem.W.Frag) : Sp := fun vs H Q _ => ∃ (a : Addr) (ns : List Int), vs = [.ref a] ∧ FzL K H a (ns.map V.int) ∧ ns.length ≤ 63 ∧ ∀ H', Q (.bl true) H'
theorem tls_ints {K : PySem.W.Frag} {ct : Ct} {H : Hp} : ∀ ns : List Int, Tls K ct H (ns.map D.int) (ns.map V.int)
  | [] => by simp [Tls]
  | n :: ns => Tls.cons (by simp [Tl]) (tls_ints ns)
theorem walkD {l : PySem.W.OpenLaw} {q : Program} {loose : List Str} {XP : (Str → Option Value) → Heap → Prop} {YP : World → Heap → Prop} {d : DefRec} {K : Params → PySem.W.Frag} {k : Nat} {F : List D → Ans} (hn : l.most = some 63) (hdf : d.params.defaults = [])
    (h1 : callerA.depth + 3 * k + 5 < recursionLimit) (h2 : callerA.units + 16 * k + 200 < cLine) (hY : ∀ (w : World) (h : Heap), YP w h → (K w.params).In h)
    (hF : ∀ (w : World) (mg : Str → Option Value) (fa : Addr) (h : Heap), (K w.params).In h → h.Ns mainGlobals mg → mg d.name = some (.ref fa) →
      ∃ (ct : Ct) (fd : FuncData), (∀ (s : Shared) (u : Value), BindsTo s fd ⟨[u], []⟩ [("_law_script", u)]) ∧ ∀ base : Heap, FnD l.prog w (K w.params) mg base ct k fa fd ["_law_script"] F)
    (ht : ∀ ns : List Int, ns.length ≤ 63 → F [.lst (ns.map D.int)] = .ok (.bl true)) : PySem.W.WalkO q loose XP YP l.row.toRowW d [] (fun f vs => PySem.call f vs) := by
  refine L2.walk_of (n := 63) (k := k) (x := "_law_script") (K := K) (CX := fun w => CX1 l.prog w) (sp := fun w => spL (K w.params)) hn (by decide) hdf ⟨rfl, h1, h2⟩ hY (fun w mg fa h X G hm => ?_) (fun w H a ns hl hO hS => ⟨a, ns, rfl, ?_, hl, fun _ => rfl⟩) (fun w H s e s' z => ?_)
  · obtain ⟨ct, fd, hb, hf⟩ := hF w mg fa h X G hm
    refine ⟨fd, hb, fun base _ _ => (hf base).imp fun vs H Q E ⟨a, ns, e1, fz, hl, hq⟩ => ?_⟩
    subst e1
    refine ⟨rfl, [.lst (ns.map D.int)], Tls.cons ?_ Tls.nil, ?_⟩
    · simp only [Tl]; exact ⟨a, _, rfl, fz, tls_ints ns⟩
    · rw [ht ns hl]
      intro v H' _ tv
      simp only [Tl] at tv
      subst tv
      exact hq H'
  · rcases hS with (h | ⟨o, h⟩) | h
    · rcases hO a with z | ⟨o, xs, z⟩
      · rw [z] at h; cases h
      · rw [z] at h; cases h
    · exact .inl ⟨o, h⟩
    · exact .inr h
  · obtain ⟨_, _, _, _, _, _, z, _⟩ := z
    exact z.elim
end L3
end

section
set_option Elab.async false
set_option linter.all false
set_option maxRecDepth 100000
set_option exponentiation.threshold 10000
namespace K03
open PySem L3
/-! the text beamtable_k03_quotients_and_order, mirrored: each def as a function of data -/
def mt : List (String × List String) := [("BeamError", ["BeamError", "ValueError"]), ("NoFraction", ["NoFraction", "BeamError", "ValueError"]), ("NoCell", ["NoCell", "BeamError", "ValueError"]), ("NoText", ["NoText", "BeamError", "ValueError"]), ("NoStrength", ["NoStrength", "BeamError", "ValueError"]), ("Loose", ["Loose", "BeamError", "ValueError"])]
abbrev n_greatest_divisor : List Str := ["one", "other", "larger", "smaller", "rest"]
abbrev p_greatest_divisor : List Str := ["one", "other"]
def y_greatest_divisor_1 (n : Nat) : Sg → Res Bool :=
    (dT (dOp neD (dVar 3) (dC (.int 0))))
def y_greatest_divisor_2 (n : Nat) : Sg → Out :=
    (sSeq (sSet 4 (dOp modI (dVar 2) (dVar 3)))
    (sSeq (sSet 2 (dVar 3))
    (sSet 3 (dVar 4))))
def b_greatest_divisor (n : Nat) : Sg → Out :=
    (sSeq (sSet 2 (dCB absD (dCons (dVar 0) dNil)))
    (sSeq (sSet 3 (dCB absD (dCons (dVar 1) dNil)))
    (sSeq (whileD (y_greatest_divisor_1 n) (y_greatest_divisor_2 n) n)
    (sRet (dVar 2)))))
def F_greatest_divisor : List D → Ans
  | [.int a, .int b] => .ok (.int (Int.gcd a b))
  | _ => .bad
theorem gd_loop (a b : Slot) (m : Nat) : ∀ (s l k : Nat) (r : Slot), s < k → ∃ r', whileD (y_greatest_divisor_1 m) (y_greatest_divisor_2 m) k [a, b, .val (.int l), .val (.int s), r] = .nx [a, b, .val (.int (Nat.gcd l s : Nat)), .val (.int 0), r'] := by
  intro s
  induction s using Nat.strongRecOn with
  | _ s ih =>
    intro l k r hk
    obtain ⟨k, rfl⟩ : ∃ j, k = j + 1 := ⟨k - 1, by omega⟩
    by_cases h : s = 0
    · subst h
      exact ⟨r, by simp [whileD, y_greatest_divisor_1]⟩
    · obtain ⟨r', e⟩ := ih (l % s) (Nat.mod_lt l (by omega)) s k (.val (.int (l % s : Nat))) (by have := Nat.mod_lt l (show 0 < s by omega); omega)
      refine ⟨r', ?_⟩
      have hs : ((s : Int) = 0) = False := by simp [h]
      have hs' : (s : Int) ≠ 0 := by omega
      rw [gcd_step l s h, ← e]
      simp [whileD, y_greatest_divisor_1, y_greatest_divisor_2, h, hs, modI_int _ _ hs', fmod_nat]
theorem h_greatest_divisor (ds : List D) (hl : ds.length = p_greatest_divisor.length) (hb : F_greatest_divisor ds ≠ .bad) : ∃ n, ans (b_greatest_divisor n (st0 n_greatest_divisor ds)) = F_greatest_divisor ds := by
  match ds, hb with
  | [.int a, .int b], _ =>
    obtain ⟨r', e⟩ := gd_loop (.val (.int a)) (.val (.int b)) (b.natAbs + 1) b.natAbs a.natAbs (b.natAbs + 1) .no (by omega)
    refine ⟨b.natAbs + 1, ?_⟩
    have ha : (if a < 0 then -a else a) = (a.natAbs : Int) := by split <;> omega
    have hb : (if b < 0 then -b else b) = (b.natAbs : Int) := by split <;> omega
    simp [b_greatest_divisor, st0, absD, ha, hb, e, F_greatest_divisor, Int.gcd]
abbrev n_fraction : List Str := ["top", "bottom", "divisor"]
abbrev p_fraction : List Str := ["top", "bottom"]
def b_fraction (n : Nat) : Sg → Out :=
    (sSeq (sIf (dT (dOp eqD (dVar 1) (dC (.int 0)))) (sRaise "NoFraction" (dCons (dC (.str "the bottom of a fraction is never 0")) dNil)) sNext)
    (sSeq (sSet 2 (dCall 2 F_greatest_divisor (dCons (dVar 0) (dCons (dVar 1) dNil))))
    (sSeq (sIf (dT (dOp ltI (dVar 1) (dC (.int 0)))) (sSet 2 (dUn negI (dVar 2))) sNext)
    (sRet (dTup (dCons (dOp fdivI (dVar 0) (dVar 2)) (dCons (dOp fdivI (dVar 1) (dVar 2)) dNil)))))))
def F_fraction (ds : List D) : Ans := ans (b_fraction 0 (st0 n_fraction ds))
theorem fraction_zero (t : Int) : F_fraction [.int t, .int 0] = .err "NoFraction" := by
  simp [F_fraction, b_fraction, st0]
theorem fraction_ok (t b : Int) (h : b ≠ 0) (hb : b.natAbs < 2 ^ 9000) : F_fraction [.int t, .int b] = .ok (.tup [.int (frT t b), .int (frB t b)]) := by
  have d1 : ∀ x, fdivI (.int x) (.int (frD b (Int.gcd t b))) = .ok (.int (x.fdiv (frD b (Int.gcd t b)))) := fun x => fdivI_int _ _ (divOk_of (frD_ne h) (frD_bound h hb))
  by_cases hn : b < 0
  · have e : frD b (Int.gcd t b) = -(Int.gcd t b : Int) := by simp [frD, hn]
    rw [e] at d1
    simp [F_fraction, b_fraction, st0, h, hn, F_greatest_divisor, d1, frT, frB, e]
  · have e : frD b (Int.gcd t b) = (Int.gcd t b : Int) := by simp [frD, hn]
    rw [e] at d1
    simp [F_fraction, b_fraction, st0, h, hn, F_greatest_divisor, d1, frT, frB, e]
/-- a fraction as data -/
def fq (p : Int × Int) : D := .tup [.int p.1, .int p.2]
theorem ix0 (p : Int × Int) : ixD (fq p) (.int 0) = .ok (.int p.1) := rfl
theorem ix1 (p : Int × Int) : ixD (fq p) (.int 1) = .ok (.int p.2) := rfl
/-- in lowest terms, of a size -/
structure Low (n : Nat) (p : Int × Int) : Prop where
  pos : 1 ≤ p.2
  gcd : Int.gcd p.1 p.2 = 1
  top : p.1.natAbs < 2 ^ n
  bot : p.2.natAbs < 2 ^ n
theorem mulS {n : Nat} {x y : Int} (hx : x.natAbs < 2 ^ n) (hy : y.natAbs < 2 ^ n) (hn : n ≤ 1000) : mulI (.int x) (.int y) = .ok (.int (x * y)) := mulI_int _ _ (mulOk_both hx hy (Nat.le_trans hn (by decide)) (Nat.le_trans hn (by decide)))
theorem mul_size {n m : Nat} {x y : Int} (hx : x.natAbs < 2 ^ n) (hy : y.natAbs < 2 ^ m) : (x * y).natAbs < 2 ^ (n + m) := by
  rw [Int.natAbs_mul, Nat.pow_add]
  exact Nat.mul_lt_mul'' hx hy
theorem add_size {n : Nat} {x y : Int} (hx : x.natAbs < 2 ^ n) (hy : y.natAbs < 2 ^ n) : (x + y).natAbs < 2 ^ (n + 1) := by
  rw [Nat.pow_succ]
  omega
theorem sub_size {n : Nat} {x y : Int} (hx : x.natAbs < 2 ^ n) (hy : y.natAbs < 2 ^ n) : (x - y).natAbs < 2 ^ (n + 1) := by
  rw [Nat.pow_succ]
  omega
theorem size_mono {n m : Nat} {x : Int} (h : x.natAbs < 2 ^ n) (hnm : n ≤ m) : x.natAbs < 2 ^ m := Nat.lt_of_lt_of_le h (Nat.pow_le_pow_right (by decide) hnm)
theorem bot_ne {a b : Int} (ha : 1 ≤ a) (hb : 1 ≤ b) : a * b ≠ 0 := by
  have : 0 < a * b := Int.mul_pos (by omega) (by omega)
  omega
theorem low_fr {n : Nat} {t b : Int} (h : b ≠ 0) (ht : t.natAbs < 2 ^ n) (hb : b.natAbs < 2 ^ n) : Low n (frT t b, frB t b) :=
  ⟨frB_pos h, fr_gcd h, Nat.lt_of_le_of_lt (frT_le h) ht, Nat.lt_of_le_of_lt (frB_le h) hb⟩
theorem fraction_fq {n : Nat} (t b : Int) (h : b ≠ 0) (hb : b.natAbs < 2 ^ n) (hn : n ≤ 1000) : F_fraction [.int t, .int b] = .ok (fq (frT t b, frB t b)) := fraction_ok t b h (size_mono hb (Nat.le_trans hn (by decide)))
abbrev n_times : List Str := ["one", "other"]
abbrev p_times : List Str := ["one", "other"]
def b_times (n : Nat) : Sg → Out :=
    (sRet (dCall 2 F_fraction (dCons (dOp mulI (dOp ixD (dVar 0) (dC (.int 0))) (dOp ixD (dVar 1) (dC (.int 0)))) (dCons (dOp mulI (dOp ixD (dVar 0) (dC (.int 1))) (dOp ixD (dVar 1) (dC (.int 1)))) dNil))))
def F_times (ds : List D) : Ans := ans (b_times 0 (st0 n_times ds))
theorem times_ok {n : Nat} {p q : Int × Int} (hn : n ≤ 490) (hp : Low n p) (hq : Low n q) : F_times [fq p, fq q] = .ok (fq (frT (p.1 * q.1) (p.2 * q.2), frB (p.1 * q.1) (p.2 * q.2))) := by
  simp [F_times, b_times, st0, ix0, ix1, mulS hp.top hq.top (by omega), mulS hp.bot hq.bot (by omega), fraction_fq _ _ (bot_ne hp.pos hq.pos) (mul_size hp.bot hq.bot) (by omega)]
abbrev n_over : List Str := ["one", "other"]
abbrev p_over : List Str := ["one", "other"]
def b_over (n : Nat) : Sg → Out :=
    (sRet (dCall 2 F_fraction (dCons (dOp mulI (dOp ixD (dVar 0) (dC (.int 0))) (dOp ixD (dVar 1) (dC (.int 1)))) (dCons (dOp mulI (dOp ixD (dVar 0) (dC (.int 1))) (dOp ixD (dVar 1) (dC (.int 0)))) dNil))))
def F_over (ds : List D) : Ans := ans (b_over 0 (st0 n_over ds))
theorem over_zero {p : Int × Int} {q : Int × Int} (hp : Low 200 p) (hq : Low 200 q) (h : q.1 = 0) : F_over [fq p, fq q] = .err "NoFraction" := by
  simp [F_over, b_over, st0, ix0, ix1, mulS hp.top hq.bot, mulS hp.bot hq.top, h, fraction_zero]
theorem over_ok {p q : Int × Int} (hp : Low 200 p) (hq : Low 200 q) (h : q.1 ≠ 0) : F_over [fq p, fq q] = .ok (fq (frT (p.1 * q.2) (p.2 * q.1), frB (p.1 * q.2) (p.2 * q.1))) := by
  have hne : p.2 * q.1 ≠ 0 := Int.mul_ne_zero (by have := hp.pos; omega) h
  simp [F_over, b_over, st0, ix0, ix1, mulS hp.top hq.bot, mulS hp.bot hq.top, fraction_fq _ _ hne (mul_size hp.bot hq.top)]
abbrev n_under : List Str := ["one", "other"]
abbrev p_under : List Str := ["one", "other"]
def b_under (n : Nat) : Sg → Out :=
    (sRet (dOp ltI (dOp mulI (dOp ixD (dVar 0) (dC (.int 0))) (dOp ixD (dVar 1) (dC (.int 1)))) (dOp mulI (dOp ixD (dVar 1) (dC (.int 0))) (dOp ixD (dVar 0) (dC (.int 1))))))
def F_under (ds : List D) : Ans := ans (b_under 0 (st0 n_under ds))
theorem under_ok {n : Nat} {p q : Int × Int} (hn : n ≤ 490) (hp : Low n p) (hq : Low n q) : F_under [fq p, fq q] = .ok (.bl (decide (p.1 * q.2 < q.1 * p.2))) := by
  simp [F_under, b_under, st0, ix0, ix1, mulS hp.top hq.bot (by omega), mulS hq.top hp.bot (by omega)]
abbrev n_l_whole : List Str := ["_law_found"]
abbrev p_l_whole : List Str := ["_law_found"]
def b_l_whole (n : Nat) : Sg → Out :=
    (sRet (dAnd (dIsi mt ["int"] (dVar 0)) (dNot (dIsi mt ["bool"] (dVar 0)))))
def F_l_whole (ds : List D) : Ans := ans (b_l_whole 0 (st0 n_l_whole ds))
theorem whole_int (i : Int) : F_l_whole [.int i] = .ok (.bl true) := by
  simp [F_l_whole, b_l_whole, st0, isiD]
abbrev n_l_divisor : List Str := ["_law_one", "_law_other"]
abbrev p_l_divisor : List Str := ["_law_one", "_law_other"]
def y_l_divisor_1 (n : Nat) : Sg → Res Bool :=
    (dT (dOp gtI (dVar 1) (dC (.int 0))))
def y_l_divisor_2 (n : Nat) : Sg → Out :=
    (sPar 0 1 (dCons (dVar 1) (dCons (dOp modI (dVar 0) (dVar 1)) dNil)))
def b_l_divisor (n : Nat) : Sg → Out :=
    (sSeq (sSet 0 (dCB absD (dCons (dVar 0) dNil)))
    (sSeq (sSet 1 (dCB absD (dCons (dVar 1) dNil)))
    (sSeq (whileD (y_l_divisor_1 n) (y_l_divisor_2 n) n)
    (sRet (dVar 0)))))
def F_l_divisor : List D → Ans
  | [.int a, .int b] => .ok (.int (Int.gcd a b))
  | _ => .bad
theorem dv_loop (m : Nat) : ∀ (s l k : Nat), s < k → whileD (y_l_divisor_1 m) (y_l_divisor_2 m) k [.val (.int l), .val (.int s)] = .nx [.val (.int (Nat.gcd l s : Nat)), .val (.int 0)] := by
  intro s
  induction s using Nat.strongRecOn with
  | _ s ih =>
    intro l k hk
    obtain ⟨k, rfl⟩ : ∃ j, k = j + 1 := ⟨k - 1, by omega⟩
    by_cases h : s = 0
    · subst h
      simp [whileD, y_l_divisor_1]
    · have e := ih (l % s) (Nat.mod_lt l (by omega)) s k (by have := Nat.mod_lt l (show 0 < s by omega); omega)
      have hs : (0 < (s : Int)) = True := by simp; omega
      have hs' : (s : Int) ≠ 0 := by omega
      rw [gcd_step l s h, ← e]
      simp [whileD, y_l_divisor_1, y_l_divisor_2, h, hs, modI_int _ _ hs', fmod_nat]
theorem h_l_divisor (ds : List D) (hl : ds.length = p_l_divisor.length) (hb : F_l_divisor ds ≠ .bad) : ∃ n, ans (b_l_divisor n (st0 n_l_divisor ds)) = F_l_divisor ds := by
  match ds, hb with
  | [.int a, .int b], _ =>
    refine ⟨b.natAbs + 1, ?_⟩
    have e := dv_loop (b.natAbs + 1) b.natAbs a.natAbs (b.natAbs + 1) (by omega)
    have ha : (if a < 0 then -a else a) = (a.natAbs : Int) := by split <;> omega
    have hb : (if b < 0 then -b else b) = (b.natAbs : Int) := by split <;> omega
    simp [b_l_divisor, st0, absD, ha, hb, e, F_l_divisor, Int.gcd]
abbrev n_l_drawn : List Str := ["_law_cell", "_law_by", "_law_prime", "_law_many"]
abbrev p_l_drawn : List Str := ["_law_cell", "_law_by", "_law_prime", "_law_many"]
def b_l_drawn (n : Nat) : Sg → Out :=
    (sRet (dOp modI (dOp fdivI (dOp modI (dOp mulI (dOp addD (dOp modI (dVar 0) (dC (.int 1000000007))) (dC (.int 1))) (dVar 1)) (dVar 2)) (dC (.int 5))) (dVar 3)))
def F_l_drawn (ds : List D) : Ans := ans (b_l_drawn 0 (st0 n_l_drawn ds))
theorem drawn_ok (c b p m : Int) (hb : b.natAbs < 18446744073709551616) (hp : p ≠ 0) (hm : 0 < m) : ∃ v : Int, F_l_drawn [.int c, .int b, .int p, .int m] = .ok (.int v) ∧ 0 ≤ v ∧ v < m :=
  ⟨((((c.fmod 1000000007 + 1) * b).fmod p).fdiv 5).fmod m, by simp [F_l_drawn, b_l_drawn, st0, hb, hp, show m ≠ 0 by omega], Int.fmod_nonneg_of_pos _ hm, Int.fmod_lt_of_pos _ hm⟩
theorem frd_pos {t b : Int} (h : 1 ≤ b) : frD b (Int.gcd t b) = (Int.gcd t b : Int) := by
  unfold frD
  rw [if_neg (by omega)]
theorem fm_size (x m : Int) (hm : 0 < m) : 0 ≤ x.fmod m ∧ x.fmod m < m := ⟨Int.fmod_nonneg_of_pos _ hm, Int.fmod_lt_of_pos _ hm⟩
theorem div_ok {n : Nat} {t b : Int} (h : 1 ≤ b) (hb : b.natAbs < 2 ^ n) (hn : n ≤ 1000) (x : Int) : fdivI (.int x) (.int (Int.gcd t b : Int)) = .ok (.int (x.fdiv (Int.gcd t b : Int))) := by
  rw [← frd_pos h]
  exact fdivI_int _ _ (divOk_of (frD_ne (by omega)) (frD_bound (by omega) (size_mono hb (Nat.le_trans hn (by decide)))))
/-- numbers of fractions, each as it should be -/
def Lows (n : Nat) (ps : List (Int × Int)) : Prop := ∀ p ∈ ps, Low n p
theorem comp_fq {n : Nat} (f : D → Res (Option D)) (hf : ∀ c : Int, ∃ p : Int × Int, f (.int c) = .ok (some (fq p)) ∧ Low n p) : ∀ cs : List Int, ∃ ps : List (Int × Int), ps.length = cs.length ∧ Lows n ps ∧ compD f (cs.map D.int) = .ok (ps.map fq)
  | [] => ⟨[], rfl, (fun i hi => by simp at hi), rfl⟩
  | c :: cs => by
    obtain ⟨i, h1, h2⟩ := hf c
    obtain ⟨is, h3, h4, h5⟩ := comp_fq f hf cs
    refine ⟨i :: is, by simp [h3], fun j hj => ?_, by simp [compD, h1, h5]⟩
    rcases List.mem_cons.mp hj with rfl | hj
    · exact h2
    · exact h4 j hj
/-- the item ahead of k, the last one ahead of the first -/
theorem atI_pred {α : Type} (xs : List α) (k : Nat) (h : k < xs.length) : ∃ x ∈ xs, atI xs ((k : Int) - 1) = some x := by
  cases k with
  | zero =>
    refine ⟨xs[xs.length - 1], List.getElem_mem _, ?_⟩
    simp only [atI, ixN]
    rw [if_neg (by omega), if_pos (by omega)]
    have e : (((0 : Nat) : Int) - 1 + (xs.length : Int)).toNat = xs.length - 1 := by omega
    rw [e]
    simp [List.getElem?_eq_getElem (show xs.length - 1 < xs.length by omega)]
  | succ k =>
    refine ⟨xs[k], List.getElem_mem (by omega), ?_⟩
    have e : ((k + 1 : Nat) : Int) - 1 = (k : Int) := by omega
    rw [e, atI_nat, List.getElem?_eq_getElem (by omega)]
theorem atI_mapD {α : Type} (f : α → D) (xs : List α) (i : Int) : atI (xs.map f) i = (atI xs i).map f := by
  unfold atI
  rw [List.length_map]
  cases ixN xs.length i with
  | none => rfl
  | some j => simp
theorem cut_take (ns : List Int) (n : Nat) (hl : ns.length ≤ 63) : cutL (ns.map D.int) none (some (n : Int)) = (ns.take n).map D.int := by
  simp only [cutL, sIx, List.length_map, List.drop_zero, List.map_take]
  rw [if_neg (by omega)]
  by_cases h : ns.length ≤ n
  · rw [List.take_of_length_le (by simp; omega), List.take_of_length_le (by simp; omega)]
  · congr 1; simp; omega
abbrev n_l_lowest : List Str := ["_law_top", "_law_bottom", "_law_by"]
abbrev p_l_lowest : List Str := ["_law_top", "_law_bottom"]
def b_l_lowest (n : Nat) : Sg → Out :=
    (sSeq (sSet 2 (dCall 2 F_l_divisor (dCons (dVar 0) (dCons (dVar 1) dNil))))
    (sRet (dTup (dCons (dOp fdivI (dVar 0) (dVar 2)) (dCons (dOp fdivI (dVar 1) (dVar 2)) dNil)))))
def F_l_lowest (ds : List D) : Ans := ans (b_l_lowest 0 (st0 n_l_lowest ds))
theorem lowest_ok {n : Nat} {t b : Int} (h : 1 ≤ b) (ht : t.natAbs < 2 ^ n) (hb : b.natAbs < 2 ^ n) (hn : n ≤ 1000) : ∃ p, F_l_lowest [.int t, .int b] = .ok (fq p) ∧ Low n p := by
  refine ⟨(frT t b, frB t b), ?_, low_fr (by omega) ht hb⟩
  have d := div_ok (t := t) h hb hn
  simp [F_l_lowest, b_l_lowest, st0, F_l_divisor, d, fq, frT, frB, frd_pos h]
abbrev n_l_fraction : List Str := ["_law_cell", "_law_way"]
abbrev p_l_fraction : List Str := ["_law_cell"]
def b_l_fraction (n : Nat) : Sg → Out :=
    (sSeq (sSet 1 (dCall 4 F_l_drawn (dCons (dVar 0) (dCons (dC (.int 48271)) (dCons (dC (.int 99991)) (dCons (dC (.int 5)) dNil))))))
    (sSeq (sIf (dT (dOp eqD (dVar 1) (dC (.int 0)))) (sRet (dCall 2 F_l_lowest (dCons (dOp subI (dOp modI (dOp mulI (dVar 0) (dC (.int 48271))) (dOp addD (dOp mulI (dC (.int 2)) (dOp powI (dC (.int 10)) (dC (.int 30)))) (dC (.int 1)))) (dOp powI (dC (.int 10)) (dC (.int 30)))) (dCons (dOp addD (dC (.int 1)) (dOp modI (dOp mulI (dVar 0) (dC (.int 69621))) (dOp powI (dC (.int 10)) (dC (.int 30))))) dNil)))) sNext)
    (sSeq (sIf (dT (dOp eqD (dVar 1) (dC (.int 1)))) (sRet (dTup (dCons (dC (.int 0)) (dCons (dC (.int 1)) dNil)))) sNext)
    (sRet (dCall 2 F_l_lowest (dCons (dOp subI (dOp modI (dOp fdivI (dVar 0) (dC (.int 2))) (dC (.int 41))) (dC (.int 20))) (dCons (dOp addD (dC (.int 1)) (dCall 4 F_l_drawn (dCons (dVar 0) (dCons (dC (.int 69621)) (dCons (dC (.int 99989)) (dCons (dC (.int 30)) dNil)))))) dNil)))))))
def F_l_fraction (ds : List D) : Ans := ans (b_l_fraction 0 (st0 n_l_fraction ds))
theorem lfrac_ok (c : Int) : ∃ p, F_l_fraction [.int c] = .ok (fq p) ∧ Low 200 p := by
  obtain ⟨w, ew, w0, w1⟩ := drawn_ok c 48271 99991 5 (by decide) (by decide) (by decide)
  obtain ⟨v, ev, v0, v1⟩ := drawn_ok c 69621 99989 30 (by decide) (by decide) (by decide)
  have s1 := fm_size (c.fdiv 2) 41 (by decide)
  have s2 := fm_size (c * 48271) (2 * 10 ^ 30 + 1) (by decide)
  have s3 := fm_size (c * 69621) (10 ^ 30) (by decide)
  by_cases h0 : w = 0
  · obtain ⟨p, e, hp⟩ := lowest_ok (n := 200) (t := (c * 48271).fmod (2 * 10 ^ 30 + 1) - 10 ^ 30) (b := 1 + (c * 69621).fmod (10 ^ 30)) (by omega) (by omega) (by omega) (by decide)
    simp at e
    exact ⟨p, by simp [F_l_fraction, b_l_fraction, st0, ew, h0, e], hp⟩
  · by_cases h1 : w = 1
    · exact ⟨(0, 1), by simp [F_l_fraction, b_l_fraction, st0, ew, h1, fq], by decide, by decide, by decide, by decide⟩
    · obtain ⟨p, e, hp⟩ := lowest_ok (n := 200) (t := (c.fdiv 2).fmod 41 - 20) (b := 1 + v) (by omega) (by omega) (by omega) (by decide)
      exact ⟨p, by simp [F_l_fraction, b_l_fraction, st0, ew, ev, h0, h1, e], hp⟩
abbrev n_l_refused : List Str := ["_law_one", "_law_refusal", "e"]
abbrev p_l_refused : List Str := ["_law_one"]
def b_l_refused (n : Nat) : Sg → Out :=
    (sSeq (sSet 1 (dC .non))
    (sSeq (sTryAs 2 (hitOf mt "BeamError") (sDrop (dCall 2 F_over (dCons (dVar 0) (dCons (dTup (dCons (dC (.int 0)) (dCons (dC (.int 1)) dNil))) dNil)))) (sSet 1 (dVar 2)))
    (sSeq (sIf (cOr (cNot (dT (dIsi mt ["NoFraction"] (dVar 1)))) (cNot (dT (dIsi mt ["ValueError"] (dVar 1))))) (sRet (dC (.bl false))) sNext)
    (sRet (dNot (dIsi mt ["Loose", "NoCell", "NoStrength", "NoText"] (dVar 1)))))))
def F_l_refused (ds : List D) : Ans := ans (b_l_refused 0 (st0 n_l_refused ds))
theorem refused_ok {p : Int × Int} (hp : Low 200 p) : F_l_refused [fq p] = .ok (.bl true) := by
  have hh : hitOf mt "BeamError" "NoFraction" = some true := by decide
  have hm : mt.lookup "NoFraction" = some ["NoFraction", "BeamError", "ValueError"] := by decide
  have e : F_over [fq p, .tup [.int 0, .int 1]] = .err "NoFraction" := over_zero (q := (0, 1)) hp ⟨by decide, by decide, by decide, by decide⟩ rfl
  simp [F_l_refused, b_l_refused, st0, e, oTry_err _ _ _ _ _ hh, isiD, hm]
abbrev n_l_over : List Str := ["_law_one", "_law_other", "_law_found"]
abbrev p_l_over : List Str := ["_law_one", "_law_other"]
def b_l_over (n : Nat) : Sg → Out :=
    (sSeq (sIf (dT (dOp eqD (dOp ixD (dVar 1) (dC (.int 0))) (dC (.int 0)))) (sRet (dCall 1 F_l_refused (dCons (dVar 0) dNil))) sNext)
    (sSeq (sSet 2 (dCall 2 F_over (dCons (dVar 0) (dCons (dVar 1) dNil))))
    (sSeq (sIf (cOr (cNot (dT (dIsi mt ["tuple"] (dVar 2)))) (cOr (dT (dOp neD (dCB lenD (dCons (dVar 2) dNil)) (dC (.int 2)))) (cOr (cNot (dT (dCall 1 F_l_whole (dCons (dOp ixD (dVar 2) (dC (.int 0))) dNil)))) (cNot (dT (dCall 1 F_l_whole (dCons (dOp ixD (dVar 2) (dC (.int 1))) dNil))))))) (sRet (dC (.bl false))) sNext)
    (sSeq (sIf (cOr (dT (dOp ltI (dOp ixD (dVar 2) (dC (.int 1))) (dC (.int 1)))) (dT (dOp neD (dCall 2 F_l_divisor (dCons (dOp ixD (dVar 2) (dC (.int 0))) (dCons (dOp ixD (dVar 2) (dC (.int 1))) dNil))) (dC (.int 1))))) (sRet (dC (.bl false))) sNext)
    (sRet (dAnd (dOp eqD (dOp mulI (dOp mulI (dOp ixD (dVar 2) (dC (.int 0))) (dOp ixD (dVar 0) (dC (.int 1)))) (dOp ixD (dVar 1) (dC (.int 0)))) (dOp mulI (dOp mulI (dOp ixD (dVar 0) (dC (.int 0))) (dOp ixD (dVar 1) (dC (.int 1)))) (dOp ixD (dVar 2) (dC (.int 1))))) (dOp eqD (dCall 2 F_times (dCons (dVar 2) (dCons (dVar 1) dNil))) (dVar 0))))))))
def F_l_over (ds : List D) : Ans := ans (b_l_over 0 (st0 n_l_over ds))
theorem lover_ok {p q : Int × Int} (hp : Low 200 p) (hq : Low 200 q) : F_l_over [fq p, fq q] = .ok (.bl true) := by
  by_cases h : q.1 = 0
  · simp [F_l_over, b_l_over, st0, ix0, h, refused_ok hp]
  · have hne : p.2 * q.1 ≠ 0 := Int.mul_ne_zero (by have := hp.pos; omega) h
    have st : (p.1 * q.2).natAbs < 2 ^ 400 := mul_size hp.top hq.bot
    have sb : (p.2 * q.1).natAbs < 2 ^ 400 := mul_size hp.bot hq.top
    have hl := low_fr hne st sb
    have c := fr_cross (p.1 * q.2) (p.2 * q.1)
    have e := over_ok hp hq h
    obtain ⟨x, hx⟩ : ∃ x, x = (frT (p.1 * q.2) (p.2 * q.1), frB (p.1 * q.2) (p.2 * q.1)) := ⟨_, rfl⟩
    rw [← hx] at e hl
    have cx : x.1 * (p.2 * q.1) = p.1 * q.2 * x.2 := by rw [hx]; exact c
    have hp4 : Low 400 p := ⟨hp.pos, hp.gcd, size_mono hp.top (by decide), size_mono hp.bot (by decide)⟩
    have hq4 : Low 400 q := ⟨hq.pos, hq.gcd, size_mono hq.top (by decide), size_mono hq.bot (by decide)⟩
    have m1 := mulS hl.top hp4.bot (by decide)
    have m2 : mulI (.int (x.1 * p.2)) (.int q.1) = .ok (.int (x.1 * p.2 * q.1)) := mulS (n := 800) (size_mono (mul_size hl.top hp4.bot) (by decide)) (size_mono hq.top (by decide)) (by decide)
    have m3 := mulS hp.top hq.bot (by decide)
    have m4 : mulI (.int (p.1 * q.2)) (.int x.2) = .ok (.int (p.1 * q.2 * x.2)) := mulS st hl.bot (by decide)
    have tm := times_ok (by decide) hl hq4
    have back := fr_of (t := x.1 * q.1) (u := x.2 * q.2) (a := p.1) (b := p.2) (bot_ne hl.pos hq.pos) hp.gcd hp.pos (by
      have e1 : x.1 * q.1 * p.2 = x.1 * (p.2 * q.1) := by rw [Int.mul_assoc, Int.mul_comm q.1 p.2]
      rw [e1, cx, Int.mul_assoc, Int.mul_comm q.2 x.2])
    rw [back.1, back.2] at tm
    have hpos : ¬ x.2 < 1 := by have := hl.pos; omega
    have hg := hl.gcd
    have cx' : x.1 * p.2 * q.1 = p.1 * q.2 * x.2 := by rw [Int.mul_assoc]; exact cx
    have kd : kinds mt (fq x) = some ["tuple"] := rfl
    have ln : lenD [fq x] = .ok (.int 2) := rfl
    have eqp : eqD (fq (p.1, p.2)) (fq p) = .ok (.bl true) := by simp [fq]
    simp [F_l_over, b_l_over, st0, ix0, ix1, h, e, isiD, kd, ln, whole_int, hpos, F_l_divisor, hg, m1, m2, m3, m4, cx', tm, eqp]
abbrev n_l_under : List Str := ["_law_one", "_law_other", "_law_found", "_law_due"]
abbrev p_l_under : List Str := ["_law_one", "_law_other"]
def b_l_under (n : Nat) : Sg → Out :=
    (sSeq (sSet 2 (dCall 2 F_under (dCons (dVar 0) (dCons (dVar 1) dNil))))
    (sSeq (sSet 3 (dOp ltI (dOp mulI (dOp ixD (dVar 0) (dC (.int 0))) (dOp ixD (dVar 1) (dC (.int 1)))) (dOp mulI (dOp ixD (dVar 1) (dC (.int 0))) (dOp ixD (dVar 0) (dC (.int 1))))))
    (sRet (dAnd (dOr (dOp isI (dVar 2) (dC (.bl true))) (dOp isI (dVar 2) (dC (.bl false)))) (dOp eqD (dVar 2) (dVar 3))))))
def F_l_under (ds : List D) : Ans := ans (b_l_under 0 (st0 n_l_under ds))
theorem lunder_ok {n : Nat} {p q : Int × Int} (hn : n ≤ 490) (hp : Low n p) (hq : Low n q) : F_l_under [fq p, fq q] = .ok (.bl true) := by
  have e := under_ok hn hp hq
  by_cases h : p.1 * q.2 < q.1 * p.2
  · simp [h] at e
    simp [F_l_under, b_l_under, st0, ix0, ix1, mulS hp.top hq.bot (by omega), mulS hq.top hp.bot (by omega), e, h, isI]
  · simp [h] at e
    simp [F_l_under, b_l_under, st0, ix0, ix1, mulS hp.top hq.bot (by omega), mulS hq.top hp.bot (by omega), e, h, isI]
abbrev n_law : List Str := ["_law_script", "_law_some", "_law_k", "_law_one", "_law_other", "_law_near"]
abbrev p_law : List Str := ["_law_script"]
def y_law_1 (n : Nat) : Sg → Out :=
    (sSeq (sSet 3 (dOp ixD (dVar 1) (dOp subI (dVar 2) (dC (.int 1)))))
    (sSeq (sSet 4 (dOp ixD (dVar 1) (dVar 2)))
    (sSeq (sSet 5 (dCall 2 F_l_lowest (dCons (dOp subI (dOp addD (dOp mulI (dOp ixD (dVar 3) (dC (.int 0))) (dC (.int 1000))) (dOp modI (dOp ixD (dOp ixD (dVar 1) (dVar 2)) (dC (.int 0))) (dC (.int 3)))) (dC (.int 1))) (dCons (dOp mulI (dOp ixD (dVar 3) (dC (.int 1))) (dC (.int 1000))) dNil))))
    (sSeq (sIf (cOr (cNot (dT (dCall 2 F_l_over (dCons (dVar 3) (dCons (dVar 4) dNil))))) (cOr (cNot (dT (dCall 2 F_l_under (dCons (dVar 3) (dCons (dVar 4) dNil))))) (cNot (dT (dCall 2 F_l_under (dCons (dVar 4) (dCons (dVar 3) dNil))))))) (sRet (dC (.bl false))) sNext)
    (sIf (cOr (cNot (dT (dCall 2 F_l_under (dCons (dVar 3) (dCons (dVar 5) dNil))))) (cOr (cNot (dT (dCall 2 F_l_under (dCons (dVar 5) (dCons (dVar 3) dNil))))) (cNot (dT (dCall 2 F_l_under (dCons (dVar 3) (dCons (dVar 3) dNil))))))) (sRet (dC (.bl false))) sNext)))))
def b_law (n : Nat) : Sg → Out :=
    (sSeq (sSet 1 (dFz (lComp (iSeq (dFz (lCut (dVar 0) dNoP (dP (dC (.int 40)))))) 1 [] (tgName 0) cYes (dCall 1 F_l_fraction (dCons (dVar 0) dNil)))))
    (sSeq (sForR1 (dCons (dCB lenD (dCons (dVar 1) dNil)) dNil) (tgName 2) (y_law_1 n))
    (sRet (dAnd (dOp isI (dCall 2 F_under (dCons (dTup (dCons (dC (.int 1)) (dCons (dC (.int 3)) dNil))) (dCons (dTup (dCons (dC (.int 1)) (dCons (dC (.int 2)) dNil))) dNil))) (dC (.bl true))) (dOp eqD (dCall 2 F_over (dCons (dTup (dCons (dC (.int 1)) (dCons (dC (.int 2)) dNil))) (dCons (dTup (dCons (dUn negI (dC (.int 3))) (dCons (dC (.int 4)) dNil))) dNil))) (dTup (dCons (dUn negI (dC (.int 2))) (dCons (dC (.int 3)) dNil))))))))
def F_law (ds : List D) : Ans := ans (b_law 0 (st0 n_law ds))

theorem turn_ok (a : D) (ps : List (Int × Int)) (hL : Lows 200 ps) (k : Nat) (hk : k < ps.length) (s3 s4 s5 : Slot) :
    ∃ u3 u4 u5, y_law_1 0 [.val a, .val (.lst (ps.map fq)), .val (.int (k : Int)), s3, s4, s5] = .nx [.val a, .val (.lst (ps.map fq)), .val (.int (k : Int)), u3, u4, u5] := by
  obtain ⟨p, hp, e1⟩ := atI_pred ps k hk
  have hp := hL p hp
  obtain ⟨q, hq, e2⟩ : ∃ q ∈ ps, atI ps (k : Int) = some q := ⟨ps[k], List.getElem_mem hk, by rw [atI_nat, List.getElem?_eq_getElem hk]⟩
  have hq := hL q hq
  have i1 : ixD (.lst (ps.map fq)) (.int ((k : Int) - 1)) = .ok (fq p) := by simp [ixD, atI_mapD, e1]
  have i2 : ixD (.lst (ps.map fq)) (.int (k : Int)) = .ok (fq q) := by simp [ixD, atI_mapD, e2]
  have s0 := fm_size q.1 3 (by decide)
  have pb := hp.pos
  have pt := hp.top
  have pb2 := hp.bot
  obtain ⟨r, e3, hr⟩ := lowest_ok (n := 300) (t := p.1 * 1000 + q.1.fmod 3 - 1) (b := p.2 * 1000) (by omega) (by omega) (by omega) (by decide)
  have hp3 : Low 300 p := ⟨hp.pos, hp.gcd, size_mono hp.top (by decide), size_mono hp.bot (by decide)⟩
  refine ⟨.val (fq p), .val (fq q), .val (fq r), ?_⟩
  simp [y_law_1, i1, i2, ix0, ix1, e3, lover_ok hp hq, lunder_ok (by decide) hp hq, lunder_ok (by decide) hq hp, lunder_ok (by decide) hp3 hr, lunder_ok (by decide) hr hp3, lunder_ok (by decide) hp hp]
theorem law_true (ns : List Int) (hl : ns.length ≤ 63) : F_law [.lst (ns.map D.int)] = .ok (.bl true) := by
  have cut := cut_take ns 40 hl
  obtain ⟨cs, hcs, hc⟩ : ∃ cs, cs = ns.take 40 ∧ cs.length ≤ 40 := ⟨_, rfl, by rw [List.length_take]; omega⟩
  rw [← hcs] at cut
  obtain ⟨ps, h1, h2, h3⟩ := comp_fq (n := 200) (elD (tgName 0) cYes (dCall 1 F_l_fraction (dCons (dVar 0) dNil)) (blk 1 [] [.val (.lst (ns.map D.int)), .no, .no, .no, .no, .no])) (fun c => by
    obtain ⟨i, e1, e2⟩ := lfrac_ok c
    exact ⟨i, by simp [elD, blk, e1], e2⟩) cs
  have hr : rng1 [.int (ps.length : Int)] = .ok (intsD 0 ps.length) := rng1_nat _ (by omega)
  have hc' : cs.length < 1000000 := by omega
  obtain ⟨Γ', g1, s2, s3, s4, s5, rfl⟩ := forD_all (t := tgName 2) (B := y_law_1 0) (fun Γ => ∃ s2 s3 s4 s5, Γ = [.val (.lst (ns.map D.int)), .val (.lst (ps.map fq)), s2, s3, s4, s5]) (intsD 0 ps.length) [.val (.lst (ns.map D.int)), .val (.lst (ps.map fq)), .no, .no, .no, .no] ⟨_, _, _, _, rfl⟩ (by
    rintro x hx Γ ⟨s2, s3, s4, s5, rfl⟩
    obtain ⟨k, hk, rfl⟩ := intsD_mem hx
    rw [Int.zero_add]
    obtain ⟨u3, u4, u5, e⟩ := turn_ok (.lst (ns.map D.int)) ps h2 k hk s3 s4 s5
    exact ⟨_, _, rfl, .inl e, _, _, _, _, rfl⟩)
  have f1 : F_under [.tup [.int 1, .int 3], .tup [.int 1, .int 2]] = .ok (.bl true) := under_ok (n := 100) (p := (1, 3)) (q := (1, 2)) (by decide) ⟨by decide, by decide, by decide, by decide⟩ ⟨by decide, by decide, by decide, by decide⟩
  have f2 : F_over [.tup [.int 1, .int 2], .tup [.int (-3), .int 4]] = .ok (fq (frT (1 * 4) (2 * -3), frB (1 * 4) (2 * -3))) := over_ok (p := (1, 2)) (q := (-3, 4)) ⟨by decide, by decide, by decide, by decide⟩ ⟨by decide, by decide, by decide, by decide⟩ (by decide)
  have v1 : frT (1 * 4) (2 * -3) = -2 ∧ frB (1 * 4) (2 * -3) = 3 := by decide
  simp only [v1.1, v1.2, fq] at f2
  clear hcs
  simp at cut
  simp [F_law, b_law, st0, lCut, lComp, cut, hc', h3, lenD, hr, g1, f1, f2, isI]

end K03
end

section
set_option Elab.async false
set_option linter.all false
set_option maxRecDepth 100000
set_option maxHeartbeats 4000000
namespace K03
open PySem PySem.Spec PyProof.Rows L2 L3
def top (i : Nat) : Stmt := PySem.Challenge.pw_beamtable_k03_quotients_and_order.main.body.getD i (.Pass ⟨0, 0, 0, 0⟩)
abbrev s_greatest_divisor : Stmt := top 8
abbrev s_fraction : Stmt := top 9
abbrev s_times : Stmt := top 10
abbrev s_over : Stmt := top 11
abbrev s_under : Stmt := top 12
abbrev s_l_whole : Stmt := top 14
abbrev s_l_divisor : Stmt := top 15
abbrev s_l_drawn : Stmt := top 16
abbrev s_l_lowest : Stmt := top 17
abbrev s_l_fraction : Stmt := top 18
abbrev s_l_refused : Stmt := top 19
abbrev s_l_over : Stmt := top 20
abbrev s_l_under : Stmt := top 21
abbrev s_law : Stmt := top 22
structure Tx (K : PySem.W.Frag) (mg : Str → Option Value) (ct : Ct) where
  a_greatest_divisor : Addr
  fd_greatest_divisor : FuncData
  m_greatest_divisor : mg "greatest_divisor" = some (.ref a_greatest_divisor)
  k_greatest_divisor : PySem.W.keepIn K (.ref a_greatest_divisor) = true
  f_greatest_divisor : Fun K "greatest_divisor" "greatest_divisor" s_greatest_divisor a_greatest_divisor fd_greatest_divisor
  b_greatest_divisor : Binds K fd_greatest_divisor p_greatest_divisor []
  a_fraction : Addr
  fd_fraction : FuncData
  m_fraction : mg "fraction" = some (.ref a_fraction)
  k_fraction : PySem.W.keepIn K (.ref a_fraction) = true
  f_fraction : Fun K "fraction" "fraction" s_fraction a_fraction fd_fraction
  b_fraction : Binds K fd_fraction p_fraction []
  a_times : Addr
  fd_times : FuncData
  m_times : mg "times" = some (.ref a_times)
  k_times : PySem.W.keepIn K (.ref a_times) = true
  f_times : Fun K "times" "times" s_times a_times fd_times
  b_times : Binds K fd_times p_times []
  a_over : Addr
  fd_over : FuncData
  m_over : mg "over" = some (.ref a_over)
  k_over : PySem.W.keepIn K (.ref a_over) = true
  f_over : Fun K "over" "over" s_over a_over fd_over
  b_over : Binds K fd_over p_over []
  a_under : Addr
  fd_under : FuncData
  m_under : mg "under" = some (.ref a_under)
  k_under : PySem.W.keepIn K (.ref a_under) = true
  f_under : Fun K "under" "under" s_under a_under fd_under
  b_under : Binds K fd_under p_under []
  a_l_whole : Addr
  fd_l_whole : FuncData
  m_l_whole : mg "_law_whole" = some (.ref a_l_whole)
  k_l_whole : PySem.W.keepIn K (.ref a_l_whole) = true
  f_l_whole : Fun K "_law_whole" "_law_whole" s_l_whole a_l_whole fd_l_whole
  b_l_whole : Binds K fd_l_whole p_l_whole []
  a_l_divisor : Addr
  fd_l_divisor : FuncData
  m_l_divisor : mg "_law_divisor" = some (.ref a_l_divisor)
  k_l_divisor : PySem.W.keepIn K (.ref a_l_divisor) = true
  f_l_divisor : Fun K "_law_divisor" "_law_divisor" s_l_divisor a_l_divisor fd_l_divisor
  b_l_divisor : Binds K fd_l_divisor p_l_divisor []
  a_l_drawn : Addr
  fd_l_drawn : FuncData
  m_l_drawn : mg "_law_drawn" = some (.ref a_l_drawn)
  k_l_drawn : PySem.W.keepIn K (.ref a_l_drawn) = true
  f_l_drawn : Fun K "_law_drawn" "_law_drawn" s_l_drawn a_l_drawn fd_l_drawn
  b_l_drawn : Binds K fd_l_drawn p_l_drawn []
  a_l_lowest : Addr
  fd_l_lowest : FuncData
  m_l_lowest : mg "_law_lowest" = some (.ref a_l_lowest)
  k_l_lowest : PySem.W.keepIn K (.ref a_l_lowest) = true
  f_l_lowest : Fun K "_law_lowest" "_law_lowest" s_l_lowest a_l_lowest fd_l_lowest
  b_l_lowest : Binds K fd_l_lowest p_l_lowest []
  a_l_fraction : Addr
  fd_l_fraction : FuncData
  m_l_fraction : mg "_law_fraction" = some (.ref a_l_fraction)
  k_l_fraction : PySem.W.keepIn K (.ref a_l_fraction) = true
  f_l_fraction : Fun K "_law_fraction" "_law_fraction" s_l_fraction a_l_fraction fd_l_fraction
  b_l_fraction : Binds K fd_l_fraction p_l_fraction []
  a_l_refused : Addr
  fd_l_refused : FuncData
  m_l_refused : mg "_law_refused" = some (.ref a_l_refused)
  k_l_refused : PySem.W.keepIn K (.ref a_l_refused) = true
  f_l_refused : Fun K "_law_refused" "_law_refused" s_l_refused a_l_refused fd_l_refused
  b_l_refused : Binds K fd_l_refused p_l_refused []
  a_l_over : Addr
  fd_l_over : FuncData
  m_l_over : mg "_law_over" = some (.ref a_l_over)
  k_l_over : PySem.W.keepIn K (.ref a_l_over) = true
  f_l_over : Fun K "_law_over" "_law_over" s_l_over a_l_over fd_l_over
  b_l_over : Binds K fd_l_over p_l_over []
  a_l_under : Addr
  fd_l_under : FuncData
  m_l_under : mg "_law_under" = some (.ref a_l_under)
  k_l_under : PySem.W.keepIn K (.ref a_l_under) = true
  f_l_under : Fun K "_law_under" "_law_under" s_l_under a_l_under fd_l_under
  b_l_under : Binds K fd_l_under p_l_under []
  a_law : Addr
  fd_law : FuncData
  m_law : mg "law" = some (.ref a_law)
  k_law : PySem.W.keepIn K (.ref a_law) = true
  f_law : Fun K "law" "law" s_law a_law fd_law
  b_law : Binds K fd_law p_law []
  z_ValueError : mg "ValueError" = none
  z_abs : mg "abs" = none
  z_bool : mg "bool" = none
  z_int : mg "int" = none
  z_isinstance : mg "isinstance" = none
  z_len : mg "len" = none
  z_range : mg "range" = none
  z_tuple : mg "tuple" = none
  C_BeamError : Addr
  c_BeamError : mg "BeamError" = some (.ref C_BeamError)
  C_NoFraction : Addr
  c_NoFraction : mg "NoFraction" = some (.ref C_NoFraction)
  C_NoCell : Addr
  c_NoCell : mg "NoCell" = some (.ref C_NoCell)
  C_NoText : Addr
  c_NoText : mg "NoText" = some (.ref C_NoText)
  C_NoStrength : Addr
  c_NoStrength : mg "NoStrength" = some (.ref C_NoStrength)
  C_Loose : Addr
  c_Loose : mg "Loose" = some (.ref C_Loose)
  x_NoFraction : XC K mg ct "NoFraction" "NoFraction" C_NoFraction
  h_BeamError : Hits K ct (.ref C_BeamError) (hitOf mt "BeamError")
  xt : XTs K ct mt
  i_bool : IsK K ct mt (.type "bool") "bool"
  i_int : IsK K ct mt (.type "int") "int"
  i_ValueError : IsK K ct mt (.type "ValueError") "ValueError"
  i_NoFraction : IsK K ct mt (.ref C_NoFraction) "NoFraction"
  i_Loose : IsK K ct mt (.ref C_Loose) "Loose"
  i_NoCell : IsK K ct mt (.ref C_NoCell) "NoCell"
  i_NoStrength : IsK K ct mt (.ref C_NoStrength) "NoStrength"
  i_NoText : IsK K ct mt (.ref C_NoText) "NoText"
  i_tuple : IsK K ct mt (.type "tuple") "tuple"
section
variable {P : Program} {w : World} {K : PySem.W.Frag} {mg : Str → Option Value} {ct : Ct} {base : Heap}
theorem sc_greatest_divisor : FnScope n_greatest_divisor p_greatest_divisor (defScope s_greatest_divisor) := ⟨rfl, rfl, rfl, by decide +kernel, rfl, by decide +kernel, by decide +kernel⟩
theorem ok_greatest_divisor (M : Tx K mg ct) : FnD P w K mg base ct 1 M.a_greatest_divisor M.fd_greatest_divisor p_greatest_divisor F_greatest_divisor := by
  refine fn_okD (B := b_greatest_divisor) M.f_greatest_divisor sc_greatest_divisor (fun cdv A outer s H E hr g n => ?_) h_greatest_divisor
  have hu := hr.units
  exact (pdss_cons (pds_set 2 g.nd (pd_abs M.z_abs (pda_cons (pd_var 0) pda_nil)))
    (pdss_cons (pds_set 3 g.nd (pd_abs M.z_abs (pda_cons (pd_var 1) pda_nil)))
    (pdss_cons (pds_while n g (pdt_ne hu (pd_var 3) pd_int) (pdss_cons (pds_set 4 g.nd (pd_mod (pd_var 2) (pd_var 3)))
    (pdss_cons (pds_set 2 g.nd (pd_var 3))
    (pdss_one (pds_set 3 g.nd (pd_var 4))))))
    (pdss_one (pds_ret (pd_var 2))))))
theorem sc_fraction : FnScope n_fraction p_fraction (defScope s_fraction) := ⟨rfl, rfl, rfl, by decide +kernel, rfl, by decide +kernel, by decide +kernel⟩
theorem ok_fraction (M : Tx K mg ct) : FnD P w K mg base ct 2 M.a_fraction M.fd_fraction p_fraction F_fraction := by
  refine fn_okD (B := b_fraction) M.f_fraction sc_fraction (fun cdv A outer s H E hr g n => ?_) (fun ds _ _ => ⟨0, rfl⟩)
  have hu := hr.units
  exact (pdss_cons (pds_if (pdt_eq hu (pd_var 1) pd_int) (pdss_one (pds_raise g M.x_NoFraction (pda_cons pd_str pda_nil))) pdss_nil)
    (pdss_cons (pds_set 2 g.nd (pd_callD (ok_greatest_divisor M) (hr.mono (by decide)) M.m_greatest_divisor M.k_greatest_divisor M.b_greatest_divisor (pda_cons (pd_var 0) (pda_cons (pd_var 1) pda_nil))))
    (pdss_cons (pds_if (pdt_lt (pd_var 1) pd_int) (pdss_one (pds_set 2 g.nd (pd_neg (pd_var 2)))) pdss_nil)
    (pdss_one (pds_ret (pd_tup (pda_cons (pd_fdiv (pd_var 0) (pd_var 2)) (pda_cons (pd_fdiv (pd_var 1) (pd_var 2)) pda_nil))))))))
theorem sc_times : FnScope n_times p_times (defScope s_times) := ⟨rfl, rfl, rfl, by decide +kernel, rfl, by decide +kernel, by decide +kernel⟩
theorem ok_times (M : Tx K mg ct) : FnD P w K mg base ct 3 M.a_times M.fd_times p_times F_times := by
  refine fn_okD (B := b_times) M.f_times sc_times (fun cdv A outer s H E hr g n => ?_) (fun ds _ _ => ⟨0, rfl⟩)
  have hu := hr.units
  exact (pdss_one (pds_ret (pd_callD (ok_fraction M) (hr.mono (by decide)) M.m_fraction M.k_fraction M.b_fraction (pda_cons (pd_mul (pd_ix (pd_var 0) pd_int) (pd_ix (pd_var 1) pd_int)) (pda_cons (pd_mul (pd_ix (pd_var 0) pd_int) (pd_ix (pd_var 1) pd_int)) pda_nil)))))
theorem sc_over : FnScope n_over p_over (defScope s_over) := ⟨rfl, rfl, rfl, by decide +kernel, rfl, by decide +kernel, by decide +kernel⟩
theorem ok_over (M : Tx K mg ct) : FnD P w K mg base ct 3 M.a_over M.fd_over p_over F_over := by
  refine fn_okD (B := b_over) M.f_over sc_over (fun cdv A outer s H E hr g n => ?_) (fun ds _ _ => ⟨0, rfl⟩)
  have hu := hr.units
  exact (pdss_one (pds_ret (pd_callD (ok_fraction M) (hr.mono (by decide)) M.m_fraction M.k_fraction M.b_fraction (pda_cons (pd_mul (pd_ix (pd_var 0) pd_int) (pd_ix (pd_var 1) pd_int)) (pda_cons (pd_mul (pd_ix (pd_var 0) pd_int) (pd_ix (pd_var 1) pd_int)) pda_nil)))))
theorem sc_under : FnScope n_under p_under (defScope s_under) := ⟨rfl, rfl, rfl, by decide +kernel, rfl, by decide +kernel, by decide +kernel⟩
theorem ok_under (M : Tx K mg ct) : FnD P w K mg base ct 1 M.a_under M.fd_under p_under F_under := by
  refine fn_okD (B := b_under) M.f_under sc_under (fun cdv A outer s H E hr g n => ?_) (fun ds _ _ => ⟨0, rfl⟩)
  have hu := hr.units
  exact (pdss_one (pds_ret (pd_lt (pd_mul (pd_ix (pd_var 0) pd_int) (pd_ix (pd_var 1) pd_int)) (pd_mul (pd_ix (pd_var 1) pd_int) (pd_ix (pd_var 0) pd_int)))))
theorem sc_l_whole : FnScope n_l_whole p_l_whole (defScope s_l_whole) := ⟨rfl, rfl, rfl, by decide +kernel, rfl, by decide +kernel, by decide +kernel⟩
theorem ok_l_whole (M : Tx K mg ct) : FnD P w K mg base ct 1 M.a_l_whole M.fd_l_whole p_l_whole F_l_whole := by
  refine fn_okD (B := b_l_whole) M.f_l_whole sc_l_whole (fun cdv A outer s H E hr g n => ?_) (fun ds _ _ => ⟨0, rfl⟩)
  have hu := hr.units
  exact (pdss_one (pds_ret (pd_and (pd_isi M.z_isinstance M.xt M.i_int (clsV_ty M.z_int bt_int (by decide)) (pd_var 0)) (pd_one (pd_not (pd_isi M.z_isinstance M.xt M.i_bool (clsV_ty M.z_bool bt_bool (by decide)) (pd_var 0)))))))
theorem sc_l_divisor : FnScope n_l_divisor p_l_divisor (defScope s_l_divisor) := ⟨rfl, rfl, rfl, by decide +kernel, rfl, by decide +kernel, by decide +kernel⟩
theorem ok_l_divisor (M : Tx K mg ct) : FnD P w K mg base ct 1 M.a_l_divisor M.fd_l_divisor p_l_divisor F_l_divisor := by
  refine fn_okD (B := b_l_divisor) M.f_l_divisor sc_l_divisor (fun cdv A outer s H E hr g n => ?_) h_l_divisor
  have hu := hr.units
  exact (pdss_cons (pds_set 0 g.nd (pd_abs M.z_abs (pda_cons (pd_var 0) pda_nil)))
    (pdss_cons (pds_set 1 g.nd (pd_abs M.z_abs (pda_cons (pd_var 1) pda_nil)))
    (pdss_cons (pds_while n g (pdt_gt (pd_var 1) pd_int) (pdss_one (pds_par 0 1 g.calm g.nd (pda_cons (pd_var 1) (pda_cons (pd_mod (pd_var 0) (pd_var 1)) pda_nil)))))
    (pdss_one (pds_ret (pd_var 0))))))
theorem sc_l_drawn : FnScope n_l_drawn p_l_drawn (defScope s_l_drawn) := ⟨rfl, rfl, rfl, by decide +kernel, rfl, by decide +kernel, by decide +kernel⟩
theorem ok_l_drawn (M : Tx K mg ct) : FnD P w K mg base ct 1 M.a_l_drawn M.fd_l_drawn p_l_drawn F_l_drawn := by
  refine fn_okD (B := b_l_drawn) M.f_l_drawn sc_l_drawn (fun cdv A outer s H E hr g n => ?_) (fun ds _ _ => ⟨0, rfl⟩)
  have hu := hr.units
  exact (pdss_one (pds_ret (pd_mod (pd_fdiv (pd_mod (pd_mul (pd_add (pd_mod (pd_var 0) pd_int) pd_int) (pd_var 1)) (pd_var 2)) pd_int) (pd_var 3))))
theorem sc_l_lowest : FnScope n_l_lowest p_l_lowest (defScope s_l_lowest) := ⟨rfl, rfl, rfl, by decide +kernel, rfl, by decide +kernel, by decide +kernel⟩
theorem ok_l_lowest (M : Tx K mg ct) : FnD P w K mg base ct 2 M.a_l_lowest M.fd_l_lowest p_l_lowest F_l_lowest := by
  refine fn_okD (B := b_l_lowest) M.f_l_lowest sc_l_lowest (fun cdv A outer s H E hr g n => ?_) (fun ds _ _ => ⟨0, rfl⟩)
  have hu := hr.units
  exact (pdss_cons (pds_set 2 g.nd (pd_callD (ok_l_divisor M) (hr.mono (by decide)) M.m_l_divisor M.k_l_divisor M.b_l_divisor (pda_cons (pd_var 0) (pda_cons (pd_var 1) pda_nil))))
    (pdss_one (pds_ret (pd_tup (pda_cons (pd_fdiv (pd_var 0) (pd_var 2)) (pda_cons (pd_fdiv (pd_var 1) (pd_var 2)) pda_nil))))))
theorem sc_l_fraction : FnScope n_l_fraction p_l_fraction (defScope s_l_fraction) := ⟨rfl, rfl, rfl, by decide +kernel, rfl, by decide +kernel, by decide +kernel⟩
theorem ok_l_fraction (M : Tx K mg ct) : FnD P w K mg base ct 3 M.a_l_fraction M.fd_l_fraction p_l_fraction F_l_fraction := by
  refine fn_okD (B := b_l_fraction) M.f_l_fraction sc_l_fraction (fun cdv A outer s H E hr g n => ?_) (fun ds _ _ => ⟨0, rfl⟩)
  have hu := hr.units
  exact (pdss_cons (pds_set 1 g.nd (pd_callD (ok_l_drawn M) (hr.mono (by decide)) M.m_l_drawn M.k_l_drawn M.b_l_drawn (pda_cons (pd_var 0) (pda_cons pd_int (pda_cons pd_int (pda_cons pd_int pda_nil))))))
    (pdss_cons (pds_if (pdt_eq hu (pd_var 1) pd_int) (pdss_one (pds_ret (pd_callD (ok_l_lowest M) (hr.mono (by decide)) M.m_l_lowest M.k_l_lowest M.b_l_lowest (pda_cons (pd_sub (pd_mod (pd_mul (pd_var 0) pd_int) (pd_add (pd_mul pd_int (pd_pow pd_int pd_int)) pd_int)) (pd_pow pd_int pd_int)) (pda_cons (pd_add pd_int (pd_mod (pd_mul (pd_var 0) pd_int) (pd_pow pd_int pd_int))) pda_nil))))) pdss_nil)
    (pdss_cons (pds_if (pdt_eq hu (pd_var 1) pd_int) (pdss_one (pds_ret (pd_tup (pda_cons pd_int (pda_cons pd_int pda_nil))))) pdss_nil)
    (pdss_one (pds_ret (pd_callD (ok_l_lowest M) (hr.mono (by decide)) M.m_l_lowest M.k_l_lowest M.b_l_lowest (pda_cons (pd_sub (pd_mod (pd_fdiv (pd_var 0) pd_int) pd_int) pd_int) (pda_cons (pd_add pd_int (pd_callD (ok_l_drawn M) (hr.mono (by decide)) M.m_l_drawn M.k_l_drawn M.b_l_drawn (pda_cons (pd_var 0) (pda_cons pd_int (pda_cons pd_int (pda_cons pd_int pda_nil)))))) pda_nil))))))))
theorem sc_l_refused : FnScope n_l_refused p_l_refused (defScope s_l_refused) := ⟨rfl, rfl, rfl, by decide +kernel, rfl, by decide +kernel, by decide +kernel⟩
theorem ok_l_refused (M : Tx K mg ct) : FnD P w K mg base ct 4 M.a_l_refused M.fd_l_refused p_l_refused F_l_refused := by
  refine fn_okD (B := b_l_refused) M.f_l_refused sc_l_refused (fun cdv A outer s H E hr g n => ?_) (fun ds _ _ => ⟨0, rfl⟩)
  have hu := hr.units
  exact (pdss_cons (pds_set 1 g.nd pd_non)
    (pdss_cons (pds_tryAs 2 g M.c_BeamError M.h_BeamError (fun pn xe g => (pdss_one (pds_expr (pd_callD (ok_over M) (hr.mono (by decide)) M.m_over M.k_over M.b_over (pda_cons (pd_var 0) (pda_cons (pd_tup (pda_cons pd_int (pda_cons pd_int pda_nil))) pda_nil)))))) (fun ev pn => (pdss_one (pds_set 1 g.nd (pd_var 2)))))
    (pdss_cons (pds_if (pdt_w (pdw_or (pdt_not (pdt_val (pd_isi M.z_isinstance M.xt M.i_NoFraction (clsV_ref M.c_NoFraction) (pd_var 1)))) (pdw_or1 (pdt_not (pdt_val (pd_isi M.z_isinstance M.xt M.i_ValueError (clsV_ty M.z_ValueError bt_ValueError (by decide)) (pd_var 1))))))) (pdss_one (pds_ret pd_bl)) pdss_nil)
    (pdss_one (pds_ret (pd_not (pd_isiT M.z_isinstance M.xt (.cons M.i_Loose (.cons M.i_NoCell (.cons M.i_NoStrength (.cons M.i_NoText .nil)))) (vu_ref (vu_ref (vu_ref (vu_ref vu_nil)))) (pd_var 1) (pa_cons (pe_cls (clsV_ref M.c_Loose)) (pa_cons (pe_cls (clsV_ref M.c_NoCell)) (pa_cons (pe_cls (clsV_ref M.c_NoStrength)) (pa_cons (pe_cls (clsV_ref M.c_NoText)) pa_nil)))) (fun _ _ _ q => q) (by simp))))))))
theorem sc_l_over : FnScope n_l_over p_l_over (defScope s_l_over) := ⟨rfl, rfl, rfl, by decide +kernel, rfl, by decide +kernel, by decide +kernel⟩
theorem ok_l_over (M : Tx K mg ct) : FnD P w K mg base ct 5 M.a_l_over M.fd_l_over p_l_over F_l_over := by
  refine fn_okD (B := b_l_over) M.f_l_over sc_l_over (fun cdv A outer s H E hr g n => ?_) (fun ds _ _ => ⟨0, rfl⟩)
  have hu := hr.units
  exact (pdss_cons (pds_if (pdt_eq hu (pd_ix (pd_var 1) pd_int) pd_int) (pdss_one (pds_ret (pd_callD (ok_l_refused M) (hr.mono (by decide)) M.m_l_refused M.k_l_refused M.b_l_refused (pda_cons (pd_var 0) pda_nil)))) pdss_nil)
    (pdss_cons (pds_set 2 g.nd (pd_callD (ok_over M) (hr.mono (by decide)) M.m_over M.k_over M.b_over (pda_cons (pd_var 0) (pda_cons (pd_var 1) pda_nil))))
    (pdss_cons (pds_if (pdt_w (pdw_or (pdt_not (pdt_val (pd_isi M.z_isinstance M.xt M.i_tuple (clsV_ty M.z_tuple bt_tuple (by decide)) (pd_var 2)))) (pdw_or (pdt_ne hu (pd_len M.z_len (pda_cons (pd_var 2) pda_nil)) pd_int) (pdw_or (pdt_not (pdt_val (pd_callD (ok_l_whole M) (hr.mono (by decide)) M.m_l_whole M.k_l_whole M.b_l_whole (pda_cons (pd_ix (pd_var 2) pd_int) pda_nil)))) (pdw_or1 (pdt_not (pdt_val (pd_callD (ok_l_whole M) (hr.mono (by decide)) M.m_l_whole M.k_l_whole M.b_l_whole (pda_cons (pd_ix (pd_var 2) pd_int) pda_nil))))))))) (pdss_one (pds_ret pd_bl)) pdss_nil)
    (pdss_cons (pds_if (pdt_w (pdw_or (pdt_lt (pd_ix (pd_var 2) pd_int) pd_int) (pdw_or1 (pdt_ne hu (pd_callD (ok_l_divisor M) (hr.mono (by decide)) M.m_l_divisor M.k_l_divisor M.b_l_divisor (pda_cons (pd_ix (pd_var 2) pd_int) (pda_cons (pd_ix (pd_var 2) pd_int) pda_nil))) pd_int)))) (pdss_one (pds_ret pd_bl)) pdss_nil)
    (pdss_one (pds_ret (pd_and (pd_eq hu (pd_mul (pd_mul (pd_ix (pd_var 2) pd_int) (pd_ix (pd_var 0) pd_int)) (pd_ix (pd_var 1) pd_int)) (pd_mul (pd_mul (pd_ix (pd_var 0) pd_int) (pd_ix (pd_var 1) pd_int)) (pd_ix (pd_var 2) pd_int))) (pd_one (pd_eq hu (pd_callD (ok_times M) (hr.mono (by decide)) M.m_times M.k_times M.b_times (pda_cons (pd_var 2) (pda_cons (pd_var 1) pda_nil))) (pd_var 0))))))))))
theorem sc_l_under : FnScope n_l_under p_l_under (defScope s_l_under) := ⟨rfl, rfl, rfl, by decide +kernel, rfl, by decide +kernel, by decide +kernel⟩
theorem ok_l_under (M : Tx K mg ct) : FnD P w K mg base ct 2 M.a_l_under M.fd_l_under p_l_under F_l_under := by
  refine fn_okD (B := b_l_under) M.f_l_under sc_l_under (fun cdv A outer s H E hr g n => ?_) (fun ds _ _ => ⟨0, rfl⟩)
  have hu := hr.units
  exact (pdss_cons (pds_set 2 g.nd (pd_callD (ok_under M) (hr.mono (by decide)) M.m_under M.k_under M.b_under (pda_cons (pd_var 0) (pda_cons (pd_var 1) pda_nil))))
    (pdss_cons (pds_set 3 g.nd (pd_lt (pd_mul (pd_ix (pd_var 0) pd_int) (pd_ix (pd_var 1) pd_int)) (pd_mul (pd_ix (pd_var 1) pd_int) (pd_ix (pd_var 0) pd_int))))
    (pdss_one (pds_ret (pd_and (pd_or (pd_is (pd_var 2) pd_bl) (pd_one (pd_is (pd_var 2) pd_bl))) (pd_one (pd_eq hu (pd_var 2) (pd_var 3))))))))
theorem sc_law : FnScope n_law p_law (defScope s_law) := ⟨rfl, rfl, rfl, by decide +kernel, rfl, by decide +kernel, by decide +kernel⟩
theorem ok_law (M : Tx K mg ct) : FnD P w K mg base ct 6 M.a_law M.fd_law p_law F_law := by
  refine fn_okD (B := b_law) M.f_law sc_law (fun cdv A outer s H E hr g n => ?_) (fun ds _ _ => ⟨0, rfl⟩)
  have hu := hr.units
  exact (pdss_cons (pds_setC 1 (k := 1) (caps := []) (N' := ["_law_cell"]) g.nd rfl (pid_seq (pd_of_pl (pl_cut (pd_var 0) pdo_none (pdo_some pd_int)))) ⟨rfl, by decide +kernel, rfl, by decide +kernel, rfl, fun i c y h => by simp at h⟩ (by decide +kernel) (fun C s₀ H₀ ex => (pgd_name 0 (by decide +kernel : (["_law_cell"] : List Str).Nodup))) (fun C s₀ H₀ ex => pts_nil) (fun C s₀ H₀ ex => (pd_callD (ok_l_fraction M) (hr.mono (by decide)) M.m_l_fraction M.k_l_fraction M.b_l_fraction (pda_cons (pd_var 0) pda_nil))) (tk_name (by decide)))
    (pdss_cons (pds_forR1 g M.z_range (pda_cons (pd_len M.z_len (pda_cons (pd_var 1) pda_nil)) pda_nil) (pgd_name 2 g.nd) (pdss_cons (pds_set 3 g.nd (pd_ix (pd_var 1) (pd_sub (pd_var 2) pd_int)))
    (pdss_cons (pds_set 4 g.nd (pd_ix (pd_var 1) (pd_var 2)))
    (pdss_cons (pds_set 5 g.nd (pd_callD (ok_l_lowest M) (hr.mono (by decide)) M.m_l_lowest M.k_l_lowest M.b_l_lowest (pda_cons (pd_sub (pd_add (pd_mul (pd_ix (pd_var 3) pd_int) pd_int) (pd_mod (pd_ix (pd_ix (pd_var 1) (pd_var 2)) pd_int) pd_int)) pd_int) (pda_cons (pd_mul (pd_ix (pd_var 3) pd_int) pd_int) pda_nil))))
    (pdss_cons (pds_if (pdt_w (pdw_or (pdt_not (pdt_val (pd_callD (ok_l_over M) (hr.mono (by decide)) M.m_l_over M.k_l_over M.b_l_over (pda_cons (pd_var 3) (pda_cons (pd_var 4) pda_nil))))) (pdw_or (pdt_not (pdt_val (pd_callD (ok_l_under M) (hr.mono (by decide)) M.m_l_under M.k_l_under M.b_l_under (pda_cons (pd_var 3) (pda_cons (pd_var 4) pda_nil))))) (pdw_or1 (pdt_not (pdt_val (pd_callD (ok_l_under M) (hr.mono (by decide)) M.m_l_under M.k_l_under M.b_l_under (pda_cons (pd_var 4) (pda_cons (pd_var 3) pda_nil))))))))) (pdss_one (pds_ret pd_bl)) pdss_nil)
    (pdss_one (pds_if (pdt_w (pdw_or (pdt_not (pdt_val (pd_callD (ok_l_under M) (hr.mono (by decide)) M.m_l_under M.k_l_under M.b_l_under (pda_cons (pd_var 3) (pda_cons (pd_var 5) pda_nil))))) (pdw_or (pdt_not (pdt_val (pd_callD (ok_l_under M) (hr.mono (by decide)) M.m_l_under M.k_l_under M.b_l_under (pda_cons (pd_var 5) (pda_cons (pd_var 3) pda_nil))))) (pdw_or1 (pdt_not (pdt_val (pd_callD (ok_l_under M) (hr.mono (by decide)) M.m_l_under M.k_l_under M.b_l_under (pda_cons (pd_var 3) (pda_cons (pd_var 3) pda_nil))))))))) (pdss_one (pds_ret pd_bl)) pdss_nil)))))))
    (pdss_one (pds_ret (pd_and (pd_is (pd_callD (ok_under M) (hr.mono (by decide)) M.m_under M.k_under M.b_under (pda_cons (pd_tup (pda_cons pd_int (pda_cons pd_int pda_nil))) (pda_cons (pd_tup (pda_cons pd_int (pda_cons pd_int pda_nil))) pda_nil))) pd_bl) (pd_one (pd_eq hu (pd_callD (ok_over M) (hr.mono (by decide)) M.m_over M.k_over M.b_over (pda_cons (pd_tup (pda_cons pd_int (pda_cons pd_int pda_nil))) (pda_cons (pd_tup (pda_cons (pd_neg pd_int) (pda_cons pd_int pda_nil))) pda_nil))) (pd_tup (pda_cons (pd_neg pd_int) (pda_cons pd_int pda_nil))))))))))
end
def cls (C_NoFraction : Addr) : List (String × Addr) := [("NoFraction", C_NoFraction)]
theorem all_mk {P : Program} {w : World} {K : PySem.W.Frag} {h : Heap} {mg : Str → Option Value} {fa : Addr} (X : K.In h) (G : h.Ns mainGlobals mg) (hfa : mg "law" = some (.ref fa))
    {f_greatest_divisor : Addr} {od_greatest_divisor an_greatest_divisor : Option Addr} {sl_greatest_divisor : Array (Option Value)} {oc_greatest_divisor kV_greatest_divisor dc_greatest_divisor pm_greatest_divisor cd_greatest_divisor ct_greatest_divisor : Value}
    {f_fraction : Addr} {od_fraction an_fraction : Option Addr} {sl_fraction : Array (Option Value)} {oc_fraction kV_fraction dc_fraction pm_fraction cd_fraction ct_fraction : Value}
    {f_times : Addr} {od_times an_times : Option Addr} {sl_times : Array (Option Value)} {oc_times kV_times dc_times pm_times cd_times ct_times : Value}
    {f_over : Addr} {od_over an_over : Option Addr} {sl_over : Array (Option Value)} {oc_over kV_over dc_over pm_over cd_over ct_over : Value}
    {f_under : Addr} {od_under an_under : Option Addr} {sl_under : Array (Option Value)} {oc_under kV_under dc_under pm_under cd_under ct_under : Value}
    {f_l_whole : Addr} {od_l_whole an_l_whole : Option Addr} {sl_l_whole : Array (Option Value)} {oc_l_whole kV_l_whole dc_l_whole pm_l_whole cd_l_whole ct_l_whole : Value}
    {f_l_divisor : Addr} {od_l_divisor an_l_divisor : Option Addr} {sl_l_divisor : Array (Option Value)} {oc_l_divisor kV_l_divisor dc_l_divisor pm_l_divisor cd_l_divisor ct_l_divisor : Value}
    {f_l_drawn : Addr} {od_l_drawn an_l_drawn : Option Addr} {sl_l_drawn : Array (Option Value)} {oc_l_drawn kV_l_drawn dc_l_drawn pm_l_drawn cd_l_drawn ct_l_drawn : Value}
    {f_l_lowest : Addr} {od_l_lowest an_l_lowest : Option Addr} {sl_l_lowest : Array (Option Value)} {oc_l_lowest kV_l_lowest dc_l_lowest pm_l_lowest cd_l_lowest ct_l_lowest : Value}
    {f_l_fraction : Addr} {od_l_fraction an_l_fraction : Option Addr} {sl_l_fraction : Array (Option Value)} {oc_l_fraction kV_l_fraction dc_l_fraction pm_l_fraction cd_l_fraction ct_l_fraction : Value}
    {f_l_refused : Addr} {od_l_refused an_l_refused : Option Addr} {sl_l_refused : Array (Option Value)} {oc_l_refused kV_l_refused dc_l_refused pm_l_refused cd_l_refused ct_l_refused : Value}
    {f_l_over : Addr} {od_l_over an_l_over : Option Addr} {sl_l_over : Array (Option Value)} {oc_l_over kV_l_over dc_l_over pm_l_over cd_l_over ct_l_over : Value}
    {f_l_under : Addr} {od_l_under an_l_under : Option Addr} {sl_l_under : Array (Option Value)} {oc_l_under kV_l_under dc_l_under pm_l_under cd_l_under ct_l_under : Value}
    {f_law : Addr} {od_law an_law : Option Addr} {sl_law : Array (Option Value)} {oc_law kV_law dc_law pm_law cd_law ct_law : Value}
    {C_BeamError : Addr}
    {C_NoFraction : Addr}
    {C_NoCell : Addr}
    {C_NoText : Addr}
    {C_NoStrength : Addr}
    {C_Loose : Addr}
    (a_greatest_divisor : PySem.W.nsIn K mainGlobals "greatest_divisor" = some (some (.ref f_greatest_divisor))) (l_greatest_divisor : K.lookup f_greatest_divisor = some ⟨oc_greatest_divisor, od_greatest_divisor, .func (PySem.W.fnOf "greatest_divisor" "greatest_divisor" (defArgs s_greatest_divisor) (defBody s_greatest_divisor) (defScope s_greatest_divisor) .none kV_greatest_divisor dc_greatest_divisor pm_greatest_divisor an_greatest_divisor cd_greatest_divisor ct_greatest_divisor), sl_greatest_divisor⟩) (c_greatest_divisor : PySem.W.codeIn K cd_greatest_divisor "greatest_divisor" = true) (k_greatest_divisor : PySem.W.keepIn K (.ref f_greatest_divisor) = true)
    (a_fraction : PySem.W.nsIn K mainGlobals "fraction" = some (some (.ref f_fraction))) (l_fraction : K.lookup f_fraction = some ⟨oc_fraction, od_fraction, .func (PySem.W.fnOf "fraction" "fraction" (defArgs s_fraction) (defBody s_fraction) (defScope s_fraction) .none kV_fraction dc_fraction pm_fraction an_fraction cd_fraction ct_fraction), sl_fraction⟩) (c_fraction : PySem.W.codeIn K cd_fraction "fraction" = true) (k_fraction : PySem.W.keepIn K (.ref f_fraction) = true)
    (a_times : PySem.W.nsIn K mainGlobals "times" = some (some (.ref f_times))) (l_times : K.lookup f_times = some ⟨oc_times, od_times, .func (PySem.W.fnOf "times" "times" (defArgs s_times) (defBody s_times) (defScope s_times) .none kV_times dc_times pm_times an_times cd_times ct_times), sl_times⟩) (c_times : PySem.W.codeIn K cd_times "times" = true) (k_times : PySem.W.keepIn K (.ref f_times) = true)
    (a_over : PySem.W.nsIn K mainGlobals "over" = some (some (.ref f_over))) (l_over : K.lookup f_over = some ⟨oc_over, od_over, .func (PySem.W.fnOf "over" "over" (defArgs s_over) (defBody s_over) (defScope s_over) .none kV_over dc_over pm_over an_over cd_over ct_over), sl_over⟩) (c_over : PySem.W.codeIn K cd_over "over" = true) (k_over : PySem.W.keepIn K (.ref f_over) = true)
    (a_under : PySem.W.nsIn K mainGlobals "under" = some (some (.ref f_under))) (l_under : K.lookup f_under = some ⟨oc_under, od_under, .func (PySem.W.fnOf "under" "under" (defArgs s_under) (defBody s_under) (defScope s_under) .none kV_under dc_under pm_under an_under cd_under ct_under), sl_under⟩) (c_under : PySem.W.codeIn K cd_under "under" = true) (k_under : PySem.W.keepIn K (.ref f_under) = true)
    (a_l_whole : PySem.W.nsIn K mainGlobals "_law_whole" = some (some (.ref f_l_whole))) (l_l_whole : K.lookup f_l_whole = some ⟨oc_l_whole, od_l_whole, .func (PySem.W.fnOf "_law_whole" "_law_whole" (defArgs s_l_whole) (defBody s_l_whole) (defScope s_l_whole) .none kV_l_whole dc_l_whole pm_l_whole an_l_whole cd_l_whole ct_l_whole), sl_l_whole⟩) (c_l_whole : PySem.W.codeIn K cd_l_whole "_law_whole" = true) (k_l_whole : PySem.W.keepIn K (.ref f_l_whole) = true)
    (a_l_divisor : PySem.W.nsIn K mainGlobals "_law_divisor" = some (some (.ref f_l_divisor))) (l_l_divisor : K.lookup f_l_divisor = some ⟨oc_l_divisor, od_l_divisor, .func (PySem.W.fnOf "_law_divisor" "_law_divisor" (defArgs s_l_divisor) (defBody s_l_divisor) (defScope s_l_divisor) .none kV_l_divisor dc_l_divisor pm_l_divisor an_l_divisor cd_l_divisor ct_l_divisor), sl_l_divisor⟩) (c_l_divisor : PySem.W.codeIn K cd_l_divisor "_law_divisor" = true) (k_l_divisor : PySem.W.keepIn K (.ref f_l_divisor) = true)
    (a_l_drawn : PySem.W.nsIn K mainGlobals "_law_drawn" = some (some (.ref f_l_drawn))) (l_l_drawn : K.lookup f_l_drawn = some ⟨oc_l_drawn, od_l_drawn, .func (PySem.W.fnOf "_law_drawn" "_law_drawn" (defArgs s_l_drawn) (defBody s_l_drawn) (defScope s_l_drawn) .none kV_l_drawn dc_l_drawn pm_l_drawn an_l_drawn cd_l_drawn ct_l_drawn), sl_l_drawn⟩) (c_l_drawn : PySem.W.codeIn K cd_l_drawn "_law_drawn" = true) (k_l_drawn : PySem.W.keepIn K (.ref f_l_drawn) = true)
    (a_l_lowest : PySem.W.nsIn K mainGlobals "_law_lowest" = some (some (.ref f_l_lowest))) (l_l_lowest : K.lookup f_l_lowest = some ⟨oc_l_lowest, od_l_lowest, .func (PySem.W.fnOf "_law_lowest" "_law_lowest" (defArgs s_l_lowest) (defBody s_l_lowest) (defScope s_l_lowest) .none kV_l_lowest dc_l_lowest pm_l_lowest an_l_lowest cd_l_lowest ct_l_lowest), sl_l_lowest⟩) (c_l_lowest : PySem.W.codeIn K cd_l_lowest "_law_lowest" = true) (k_l_lowest : PySem.W.keepIn K (.ref f_l_lowest) = true)
    (a_l_fraction : PySem.W.nsIn K mainGlobals "_law_fraction" = some (some (.ref f_l_fraction))) (l_l_fraction : K.lookup f_l_fraction = some ⟨oc_l_fraction, od_l_fraction, .func (PySem.W.fnOf "_law_fraction" "_law_fraction" (defArgs s_l_fraction) (defBody s_l_fraction) (defScope s_l_fraction) .none kV_l_fraction dc_l_fraction pm_l_fraction an_l_fraction cd_l_fraction ct_l_fraction), sl_l_fraction⟩) (c_l_fraction : PySem.W.codeIn K cd_l_fraction "_law_fraction" = true) (k_l_fraction : PySem.W.keepIn K (.ref f_l_fraction) = true)
    (a_l_refused : PySem.W.nsIn K mainGlobals "_law_refused" = some (some (.ref f_l_refused))) (l_l_refused : K.lookup f_l_refused = some ⟨oc_l_refused, od_l_refused, .func (PySem.W.fnOf "_law_refused" "_law_refused" (defArgs s_l_refused) (defBody s_l_refused) (defScope s_l_refused) .none kV_l_refused dc_l_refused pm_l_refused an_l_refused cd_l_refused ct_l_refused), sl_l_refused⟩) (c_l_refused : PySem.W.codeIn K cd_l_refused "_law_refused" = true) (k_l_refused : PySem.W.keepIn K (.ref f_l_refused) = true)
    (a_l_over : PySem.W.nsIn K mainGlobals "_law_over" = some (some (.ref f_l_over))) (l_l_over : K.lookup f_l_over = some ⟨oc_l_over, od_l_over, .func (PySem.W.fnOf "_law_over" "_law_over" (defArgs s_l_over) (defBody s_l_over) (defScope s_l_over) .none kV_l_over dc_l_over pm_l_over an_l_over cd_l_over ct_l_over), sl_l_over⟩) (c_l_over : PySem.W.codeIn K cd_l_over "_law_over" = true) (k_l_over : PySem.W.keepIn K (.ref f_l_over) = true)
    (a_l_under : PySem.W.nsIn K mainGlobals "_law_under" = some (some (.ref f_l_under))) (l_l_under : K.lookup f_l_under = some ⟨oc_l_under, od_l_under, .func (PySem.W.fnOf "_law_under" "_law_under" (defArgs s_l_under) (defBody s_l_under) (defScope s_l_under) .none kV_l_under dc_l_under pm_l_under an_l_under cd_l_under ct_l_under), sl_l_under⟩) (c_l_under : PySem.W.codeIn K cd_l_under "_law_under" = true) (k_l_under : PySem.W.keepIn K (.ref f_l_under) = true)
    (a_law : PySem.W.nsIn K mainGlobals "law" = some (some (.ref f_law))) (l_law : K.lookup f_law = some ⟨oc_law, od_law, .func (PySem.W.fnOf "law" "law" (defArgs s_law) (defBody s_law) (defScope s_law) .none kV_law dc_law pm_law an_law cd_law ct_law), sl_law⟩) (c_law : PySem.W.codeIn K cd_law "law" = true) (k_law : PySem.W.keepIn K (.ref f_law) = true)
    (z_ValueError : PySem.W.nsIn K mainGlobals "ValueError" = some none)
    (z_abs : PySem.W.nsIn K mainGlobals "abs" = some none)
    (z_bool : PySem.W.nsIn K mainGlobals "bool" = some none)
    (z_int : PySem.W.nsIn K mainGlobals "int" = some none)
    (z_isinstance : PySem.W.nsIn K mainGlobals "isinstance" = some none)
    (z_len : PySem.W.nsIn K mainGlobals "len" = some none)
    (z_range : PySem.W.nsIn K mainGlobals "range" = some none)
    (z_tuple : PySem.W.nsIn K mainGlobals "tuple" = some none)
    (e_BeamError : PySem.W.nsIn K mainGlobals "BeamError" = some (some (.ref C_BeamError)))
    (e_NoFraction : PySem.W.nsIn K mainGlobals "NoFraction" = some (some (.ref C_NoFraction)))
    (e_NoCell : PySem.W.nsIn K mainGlobals "NoCell" = some (some (.ref C_NoCell)))
    (e_NoText : PySem.W.nsIn K mainGlobals "NoText" = some (some (.ref C_NoText)))
    (e_NoStrength : PySem.W.nsIn K mainGlobals "NoStrength" = some (some (.ref C_NoStrength)))
    (e_Loose : PySem.W.nsIn K mainGlobals "Loose" = some (some (.ref C_Loose)))
    (x_NoFraction : PySem.W.excIn K C_NoFraction bmVE "ValueError.__new__" = true)
    (ga_NoFraction : PySem.W.findIn K (.ref C_NoFraction) "__getattribute__" = some (some (.builtin "BaseException.__getattribute__")))
    (gt_NoFraction : PySem.W.findIn K (.ref C_NoFraction) "__getattr__" = some none)
    (ca_NoFraction : PySem.W.findIn K (.ref C_NoFraction) "__class__" = some (some (.builtin "object.__class__")))
    (mo_NoFraction : PySem.W.mroIn K C_NoFraction (.type "object") = some true)
    (mb_NoFraction : PySem.W.subIn K (.ref C_NoFraction) (.type "BaseException") = some true)
    (cl_NoFraction : PySem.W.isClsIn K C_NoFraction = true)
    (h_NoFraction_BeamError : PySem.W.exmOne K (.ref C_NoFraction) (.ref C_BeamError) = some true)
    (inn_bool : PySem.W.kitOne K (.type "NoneType") (.type "bool") = some false)
    (ibb_bool : PySem.W.kitOne K (.type "bool") (.type "bool") = some true)
    (iii_bool : PySem.W.kitOne K (.type "int") (.type "bool") = some false)
    (iss_bool : PySem.W.kitOne K (.type "str") (.type "bool") = some false)
    (itt_bool : PySem.W.kitOne K (.type "tuple") (.type "bool") = some false)
    (ill_bool : PySem.W.kitOne K (.type "list") (.type "bool") = some false)
    (io_NoFraction_bool : PySem.W.kitOne K (.ref C_NoFraction) (.type "bool") = some false)
    (inn_int : PySem.W.kitOne K (.type "NoneType") (.type "int") = some false)
    (ibb_int : PySem.W.kitOne K (.type "bool") (.type "int") = some true)
    (iii_int : PySem.W.kitOne K (.type "int") (.type "int") = some true)
    (iss_int : PySem.W.kitOne K (.type "str") (.type "int") = some false)
    (itt_int : PySem.W.kitOne K (.type "tuple") (.type "int") = some false)
    (ill_int : PySem.W.kitOne K (.type "list") (.type "int") = some false)
    (io_NoFraction_int : PySem.W.kitOne K (.ref C_NoFraction) (.type "int") = some false)
    (inn_ValueError : PySem.W.kitOne K (.type "NoneType") (.type "ValueError") = some false)
    (ibb_ValueError : PySem.W.kitOne K (.type "bool") (.type "ValueError") = some false)
    (iii_ValueError : PySem.W.kitOne K (.type "int") (.type "ValueError") = some false)
    (iss_ValueError : PySem.W.kitOne K (.type "str") (.type "ValueError") = some false)
    (itt_ValueError : PySem.W.kitOne K (.type "tuple") (.type "ValueError") = some false)
    (ill_ValueError : PySem.W.kitOne K (.type "list") (.type "ValueError") = some false)
    (io_NoFraction_ValueError : PySem.W.kitOne K (.ref C_NoFraction) (.type "ValueError") = some true)
    (inn_NoFraction : PySem.W.kitOne K (.type "NoneType") (.ref C_NoFraction) = some false)
    (ibb_NoFraction : PySem.W.kitOne K (.type "bool") (.ref C_NoFraction) = some false)
    (iii_NoFraction : PySem.W.kitOne K (.type "int") (.ref C_NoFraction) = some false)
    (iss_NoFraction : PySem.W.kitOne K (.type "str") (.ref C_NoFraction) = some false)
    (itt_NoFraction : PySem.W.kitOne K (.type "tuple") (.ref C_NoFraction) = some false)
    (ill_NoFraction : PySem.W.kitOne K (.type "list") (.ref C_NoFraction) = some false)
    (io_NoFraction_NoFraction : PySem.W.kitOne K (.ref C_NoFraction) (.ref C_NoFraction) = some true)
    (inn_Loose : PySem.W.kitOne K (.type "NoneType") (.ref C_Loose) = some false)
    (ibb_Loose : PySem.W.kitOne K (.type "bool") (.ref C_Loose) = some false)
    (iii_Loose : PySem.W.kitOne K (.type "int") (.ref C_Loose) = some false)
    (iss_Loose : PySem.W.kitOne K (.type "str") (.ref C_Loose) = some false)
    (itt_Loose : PySem.W.kitOne K (.type "tuple") (.ref C_Loose) = some false)
    (ill_Loose : PySem.W.kitOne K (.type "list") (.ref C_Loose) = some false)
    (io_NoFraction_Loose : PySem.W.kitOne K (.ref C_NoFraction) (.ref C_Loose) = some false)
    (inn_NoCell : PySem.W.kitOne K (.type "NoneType") (.ref C_NoCell) = some false)
    (ibb_NoCell : PySem.W.kitOne K (.type "bool") (.ref C_NoCell) = some false)
    (iii_NoCell : PySem.W.kitOne K (.type "int") (.ref C_NoCell) = some false)
    (iss_NoCell : PySem.W.kitOne K (.type "str") (.ref C_NoCell) = some false)
    (itt_NoCell : PySem.W.kitOne K (.type "tuple") (.ref C_NoCell) = some false)
    (ill_NoCell : PySem.W.kitOne K (.type "list") (.ref C_NoCell) = some false)
    (io_NoFraction_NoCell : PySem.W.kitOne K (.ref C_NoFraction) (.ref C_NoCell) = some false)
    (inn_NoStrength : PySem.W.kitOne K (.type "NoneType") (.ref C_NoStrength) = some false)
    (ibb_NoStrength : PySem.W.kitOne K (.type "bool") (.ref C_NoStrength) = some false)
    (iii_NoStrength : PySem.W.kitOne K (.type "int") (.ref C_NoStrength) = some false)
    (iss_NoStrength : PySem.W.kitOne K (.type "str") (.ref C_NoStrength) = some false)
    (itt_NoStrength : PySem.W.kitOne K (.type "tuple") (.ref C_NoStrength) = some false)
    (ill_NoStrength : PySem.W.kitOne K (.type "list") (.ref C_NoStrength) = some false)
    (io_NoFraction_NoStrength : PySem.W.kitOne K (.ref C_NoFraction) (.ref C_NoStrength) = some false)
    (inn_NoText : PySem.W.kitOne K (.type "NoneType") (.ref C_NoText) = some false)
    (ibb_NoText : PySem.W.kitOne K (.type "bool") (.ref C_NoText) = some false)
    (iii_NoText : PySem.W.kitOne K (.type "int") (.ref C_NoText) = some false)
    (iss_NoText : PySem.W.kitOne K (.type "str") (.ref C_NoText) = some false)
    (itt_NoText : PySem.W.kitOne K (.type "tuple") (.ref C_NoText) = some false)
    (ill_NoText : PySem.W.kitOne K (.type "list") (.ref C_NoText) = some false)
    (io_NoFraction_NoText : PySem.W.kitOne K (.ref C_NoFraction) (.ref C_NoText) = some false)
    (inn_tuple : PySem.W.kitOne K (.type "NoneType") (.type "tuple") = some false)
    (ibb_tuple : PySem.W.kitOne K (.type "bool") (.type "tuple") = some false)
    (iii_tuple : PySem.W.kitOne K (.type "int") (.type "tuple") = some false)
    (iss_tuple : PySem.W.kitOne K (.type "str") (.type "tuple") = some false)
    (itt_tuple : PySem.W.kitOne K (.type "tuple") (.type "tuple") = some true)
    (ill_tuple : PySem.W.kitOne K (.type "list") (.type "tuple") = some false)
    (io_NoFraction_tuple : PySem.W.kitOne K (.ref C_NoFraction) (.type "tuple") = some false) :
    ∃ (ct : Ct) (fd : FuncData), (∀ (s : Shared) (u : Value), BindsTo s fd ⟨[u], []⟩ [("_law_script", u)]) ∧ ∀ base : Heap, FnD P w K mg base ct 6 fa fd ["_law_script"] F_law := by
  have e : fa = f_law := Value.ref.inj (Option.some.inj (hfa.symm.trans (PySem.W.mg_of X G a_law)))
  rw [e]
  have F_greatest_divisor := fun_mk (st := s_greatest_divisor) l_greatest_divisor c_greatest_divisor k_greatest_divisor
  have b_greatest_divisor := F_greatest_divisor.binds (ps := p_greatest_divisor) fun _ _ _ _ _ _ us hl => match us, hl with | [_, _], _ => rfl
  have F_fraction := fun_mk (st := s_fraction) l_fraction c_fraction k_fraction
  have b_fraction := F_fraction.binds (ps := p_fraction) fun _ _ _ _ _ _ us hl => match us, hl with | [_, _], _ => rfl
  have F_times := fun_mk (st := s_times) l_times c_times k_times
  have b_times := F_times.binds (ps := p_times) fun _ _ _ _ _ _ us hl => match us, hl with | [_, _], _ => rfl
  have F_over := fun_mk (st := s_over) l_over c_over k_over
  have b_over := F_over.binds (ps := p_over) fun _ _ _ _ _ _ us hl => match us, hl with | [_, _], _ => rfl
  have F_under := fun_mk (st := s_under) l_under c_under k_under
  have b_under := F_under.binds (ps := p_under) fun _ _ _ _ _ _ us hl => match us, hl with | [_, _], _ => rfl
  have F_l_whole := fun_mk (st := s_l_whole) l_l_whole c_l_whole k_l_whole
  have b_l_whole := F_l_whole.binds (ps := p_l_whole) fun _ _ _ _ _ _ us hl => match us, hl with | [_], _ => rfl
  have F_l_divisor := fun_mk (st := s_l_divisor) l_l_divisor c_l_divisor k_l_divisor
  have b_l_divisor := F_l_divisor.binds (ps := p_l_divisor) fun _ _ _ _ _ _ us hl => match us, hl with | [_, _], _ => rfl
  have F_l_drawn := fun_mk (st := s_l_drawn) l_l_drawn c_l_drawn k_l_drawn
  have b_l_drawn := F_l_drawn.binds (ps := p_l_drawn) fun _ _ _ _ _ _ us hl => match us, hl with | [_, _, _, _], _ => rfl
  have F_l_lowest := fun_mk (st := s_l_lowest) l_l_lowest c_l_lowest k_l_lowest
  have b_l_lowest := F_l_lowest.binds (ps := p_l_lowest) fun _ _ _ _ _ _ us hl => match us, hl with | [_, _], _ => rfl
  have F_l_fraction := fun_mk (st := s_l_fraction) l_l_fraction c_l_fraction k_l_fraction
  have b_l_fraction := F_l_fraction.binds (ps := p_l_fraction) fun _ _ _ _ _ _ us hl => match us, hl with | [_], _ => rfl
  have F_l_refused := fun_mk (st := s_l_refused) l_l_refused c_l_refused k_l_refused
  have b_l_refused := F_l_refused.binds (ps := p_l_refused) fun _ _ _ _ _ _ us hl => match us, hl with | [_], _ => rfl
  have F_l_over := fun_mk (st := s_l_over) l_l_over c_l_over k_l_over
  have b_l_over := F_l_over.binds (ps := p_l_over) fun _ _ _ _ _ _ us hl => match us, hl with | [_, _], _ => rfl
  have F_l_under := fun_mk (st := s_l_under) l_l_under c_l_under k_l_under
  have b_l_under := F_l_under.binds (ps := p_l_under) fun _ _ _ _ _ _ us hl => match us, hl with | [_, _], _ => rfl
  have F_law := fun_mk (st := s_law) l_law c_law k_law
  have b_law := F_law.binds (ps := p_law) fun _ _ _ _ _ _ us hl => match us, hl with | [_], _ => rfl
  have xt_NoFraction : XT K C_NoFraction := ⟨ga_NoFraction, gt_NoFraction, ca_NoFraction, mo_NoFraction, mb_NoFraction, cl_NoFraction⟩
  let M : Tx K mg (fun c => (cls C_NoFraction).lookup c) := {
    a_greatest_divisor := f_greatest_divisor, fd_greatest_divisor := _, m_greatest_divisor := PySem.W.mg_of X G a_greatest_divisor, k_greatest_divisor := k_greatest_divisor, f_greatest_divisor := F_greatest_divisor, b_greatest_divisor := b_greatest_divisor,
    a_fraction := f_fraction, fd_fraction := _, m_fraction := PySem.W.mg_of X G a_fraction, k_fraction := k_fraction, f_fraction := F_fraction, b_fraction := b_fraction,
    a_times := f_times, fd_times := _, m_times := PySem.W.mg_of X G a_times, k_times := k_times, f_times := F_times, b_times := b_times,
    a_over := f_over, fd_over := _, m_over := PySem.W.mg_of X G a_over, k_over := k_over, f_over := F_over, b_over := b_over,
    a_under := f_under, fd_under := _, m_under := PySem.W.mg_of X G a_under, k_under := k_under, f_under := F_under, b_under := b_under,
    a_l_whole := f_l_whole, fd_l_whole := _, m_l_whole := PySem.W.mg_of X G a_l_whole, k_l_whole := k_l_whole, f_l_whole := F_l_whole, b_l_whole := b_l_whole,
    a_l_divisor := f_l_divisor, fd_l_divisor := _, m_l_divisor := PySem.W.mg_of X G a_l_divisor, k_l_divisor := k_l_divisor, f_l_divisor := F_l_divisor, b_l_divisor := b_l_divisor,
    a_l_drawn := f_l_drawn, fd_l_drawn := _, m_l_drawn := PySem.W.mg_of X G a_l_drawn, k_l_drawn := k_l_drawn, f_l_drawn := F_l_drawn, b_l_drawn := b_l_drawn,
    a_l_lowest := f_l_lowest, fd_l_lowest := _, m_l_lowest := PySem.W.mg_of X G a_l_lowest, k_l_lowest := k_l_lowest, f_l_lowest := F_l_lowest, b_l_lowest := b_l_lowest,
    a_l_fraction := f_l_fraction, fd_l_fraction := _, m_l_fraction := PySem.W.mg_of X G a_l_fraction, k_l_fraction := k_l_fraction, f_l_fraction := F_l_fraction, b_l_fraction := b_l_fraction,
    a_l_refused := f_l_refused, fd_l_refused := _, m_l_refused := PySem.W.mg_of X G a_l_refused, k_l_refused := k_l_refused, f_l_refused := F_l_refused, b_l_refused := b_l_refused,
    a_l_over := f_l_over, fd_l_over := _, m_l_over := PySem.W.mg_of X G a_l_over, k_l_over := k_l_over, f_l_over := F_l_over, b_l_over := b_l_over,
    a_l_under := f_l_under, fd_l_under := _, m_l_under := PySem.W.mg_of X G a_l_under, k_l_under := k_l_under, f_l_under := F_l_under, b_l_under := b_l_under,
    a_law := f_law, fd_law := _, m_law := PySem.W.mg_of X G a_law, k_law := k_law, f_law := F_law, b_law := b_law,
    z_ValueError := PySem.W.mg_none_of X G z_ValueError,
    z_abs := PySem.W.mg_none_of X G z_abs,
    z_bool := PySem.W.mg_none_of X G z_bool,
    z_int := PySem.W.mg_none_of X G z_int,
    z_isinstance := PySem.W.mg_none_of X G z_isinstance,
    z_len := PySem.W.mg_none_of X G z_len,
    z_range := PySem.W.mg_none_of X G z_range,
    z_tuple := PySem.W.mg_none_of X G z_tuple,
    C_BeamError := C_BeamError, c_BeamError := PySem.W.mg_of X G e_BeamError,
    C_NoFraction := C_NoFraction, c_NoFraction := PySem.W.mg_of X G e_NoFraction,
    C_NoCell := C_NoCell, c_NoCell := PySem.W.mg_of X G e_NoCell,
    C_NoText := C_NoText, c_NoText := PySem.W.mg_of X G e_NoText,
    C_NoStrength := C_NoStrength, c_NoStrength := PySem.W.mg_of X G e_NoStrength,
    C_Loose := C_Loose, c_Loose := PySem.W.mg_of X G e_Loose,
    x_NoFraction := ⟨PySem.W.mg_of X G e_NoFraction, x_NoFraction, rfl⟩,
    h_BeamError := fun c C b hc hb => ((look_cons hc).elim (fun z => by obtain ⟨rfl, rfl⟩ := z; rw [show hitOf mt "BeamError" "NoFraction" = some true from by decide] at hb; cases hb; exact h_NoFraction_BeamError) (fun hc => (look_nil hc))),
    xt := fun c C hc _ => ((look_cons hc).elim (fun z => by obtain ⟨rfl, rfl⟩ := z; exact xt_NoFraction) (fun hc => (look_nil hc))),
    i_bool := ⟨inn_bool, ibb_bool, iii_bool, iss_bool, itt_bool, ill_bool, fun c C ks hc hk => ((look_cons hc).elim (fun z => by obtain ⟨rfl, rfl⟩ := z; rw [show mt.lookup "NoFraction" = some ["NoFraction", "BeamError", "ValueError"] from by decide] at hk; cases hk; exact ⟨xt_NoFraction, io_NoFraction_bool⟩) (fun hc => (look_nil hc)))⟩,
    i_int := ⟨inn_int, ibb_int, iii_int, iss_int, itt_int, ill_int, fun c C ks hc hk => ((look_cons hc).elim (fun z => by obtain ⟨rfl, rfl⟩ := z; rw [show mt.lookup "NoFraction" = some ["NoFraction", "BeamError", "ValueError"] from by decide] at hk; cases hk; exact ⟨xt_NoFraction, io_NoFraction_int⟩) (fun hc => (look_nil hc)))⟩,
    i_ValueError := ⟨inn_ValueError, ibb_ValueError, iii_ValueError, iss_ValueError, itt_ValueError, ill_ValueError, fun c C ks hc hk => ((look_cons hc).elim (fun z => by obtain ⟨rfl, rfl⟩ := z; rw [show mt.lookup "NoFraction" = some ["NoFraction", "BeamError", "ValueError"] from by decide] at hk; cases hk; exact ⟨xt_NoFraction, io_NoFraction_ValueError⟩) (fun hc => (look_nil hc)))⟩,
    i_NoFraction := ⟨inn_NoFraction, ibb_NoFraction, iii_NoFraction, iss_NoFraction, itt_NoFraction, ill_NoFraction, fun c C ks hc hk => ((look_cons hc).elim (fun z => by obtain ⟨rfl, rfl⟩ := z; rw [show mt.lookup "NoFraction" = some ["NoFraction", "BeamError", "ValueError"] from by decide] at hk; cases hk; exact ⟨xt_NoFraction, io_NoFraction_NoFraction⟩) (fun hc => (look_nil hc)))⟩,
    i_Loose := ⟨inn_Loose, ibb_Loose, iii_Loose, iss_Loose, itt_Loose, ill_Loose, fun c C ks hc hk => ((look_cons hc).elim (fun z => by obtain ⟨rfl, rfl⟩ := z; rw [show mt.lookup "NoFraction" = some ["NoFraction", "BeamError", "ValueError"] from by decide] at hk; cases hk; exact ⟨xt_NoFraction, io_NoFraction_Loose⟩) (fun hc => (look_nil hc)))⟩,
    i_NoCell := ⟨inn_NoCell, ibb_NoCell, iii_NoCell, iss_NoCell, itt_NoCell, ill_NoCell, fun c C ks hc hk => ((look_cons hc).elim (fun z => by obtain ⟨rfl, rfl⟩ := z; rw [show mt.lookup "NoFraction" = some ["NoFraction", "BeamError", "ValueError"] from by decide] at hk; cases hk; exact ⟨xt_NoFraction, io_NoFraction_NoCell⟩) (fun hc => (look_nil hc)))⟩,
    i_NoStrength := ⟨inn_NoStrength, ibb_NoStrength, iii_NoStrength, iss_NoStrength, itt_NoStrength, ill_NoStrength, fun c C ks hc hk => ((look_cons hc).elim (fun z => by obtain ⟨rfl, rfl⟩ := z; rw [show mt.lookup "NoFraction" = some ["NoFraction", "BeamError", "ValueError"] from by decide] at hk; cases hk; exact ⟨xt_NoFraction, io_NoFraction_NoStrength⟩) (fun hc => (look_nil hc)))⟩,
    i_NoText := ⟨inn_NoText, ibb_NoText, iii_NoText, iss_NoText, itt_NoText, ill_NoText, fun c C ks hc hk => ((look_cons hc).elim (fun z => by obtain ⟨rfl, rfl⟩ := z; rw [show mt.lookup "NoFraction" = some ["NoFraction", "BeamError", "ValueError"] from by decide] at hk; cases hk; exact ⟨xt_NoFraction, io_NoFraction_NoText⟩) (fun hc => (look_nil hc)))⟩,
    i_tuple := ⟨inn_tuple, ibb_tuple, iii_tuple, iss_tuple, itt_tuple, ill_tuple, fun c C ks hc hk => ((look_cons hc).elim (fun z => by obtain ⟨rfl, rfl⟩ := z; rw [show mt.lookup "NoFraction" = some ["NoFraction", "BeamError", "ValueError"] from by decide] at hk; cases hk; exact ⟨xt_NoFraction, io_NoFraction_tuple⟩) (fun hc => (look_nil hc)))⟩ }
  refine ⟨(fun c => (cls C_NoFraction).lookup c), _, ?_, fun base => ok_law M⟩
  exact fun s v => .of_eq rfl
end K03
end

open PySem PySem.W PyProof.Rows
set_option Elab.async false
set_option linter.all false
set_option maxRecDepth 100000 in
set_option maxHeartbeats 0 in
theorem PySem.Challenge.cw_beamtable_k03_quotients_and_order_holds : PySem.Challenge.rw_beamtable_k03_quotients_and_order.Holds := by
  w_on; o_law; k_head; (case hw => w_witness2)
  k_fill
  refine L3.walkD (l := PySem.Challenge.rw_beamtable_k03_quotients_and_order) (k := 6) rfl rfl (by decide) (by decide) (fun w h Y => PySem.W.kIn_of Y) ?F K03.law_true
  case F =>
    intro w mg fa h KX G hmg
    refine' K03.all_mk KX G hmg ?a_greatest_divisor ?l_greatest_divisor ?c_greatest_divisor ?k_greatest_divisor ?a_fraction ?l_fraction ?c_fraction ?k_fraction ?a_times ?l_times ?c_times ?k_times ?a_over ?l_over ?c_over ?k_over ?a_under ?l_under ?c_under ?k_under ?a_l_whole ?l_l_whole ?c_l_whole ?k_l_whole ?a_l_divisor ?l_l_divisor ?c_l_divisor ?k_l_divisor ?a_l_drawn ?l_l_drawn ?c_l_drawn ?k_l_drawn ?a_l_lowest ?l_l_lowest ?c_l_lowest ?k_l_lowest ?a_l_fraction ?l_l_fraction ?c_l_fraction ?k_l_fraction ?a_l_refused ?l_l_refused ?c_l_refused ?k_l_refused ?a_l_over ?l_l_over ?c_l_over ?k_l_over ?a_l_under ?l_l_under ?c_l_under ?k_l_under ?a_law ?l_law ?c_law ?k_law ?z_ValueError ?z_abs ?z_bool ?z_int ?z_isinstance ?z_len ?z_range ?z_tuple ?e_BeamError ?e_NoFraction ?e_NoCell ?e_NoText ?e_NoStrength ?e_Loose ?x_NoFraction ?ga_NoFraction ?gt_NoFraction ?ca_NoFraction ?mo_NoFraction ?mb_NoFraction ?cl_NoFraction ?h_NoFraction_BeamError ?inn_bool ?ibb_bool ?iii_bool ?iss_bool ?itt_bool ?ill_bool ?io_NoFraction_bool ?inn_int ?ibb_int ?iii_int ?iss_int ?itt_int ?ill_int ?io_NoFraction_int ?inn_ValueError ?ibb_ValueError ?iii_ValueError ?iss_ValueError ?itt_ValueError ?ill_ValueError ?io_NoFraction_ValueError ?inn_NoFraction ?ibb_NoFraction ?iii_NoFraction ?iss_NoFraction ?itt_NoFraction ?ill_NoFraction ?io_NoFraction_NoFraction ?inn_Loose ?ibb_Loose ?iii_Loose ?iss_Loose ?itt_Loose ?ill_Loose ?io_NoFraction_Loose ?inn_NoCell ?ibb_NoCell ?iii_NoCell ?iss_NoCell ?itt_NoCell ?ill_NoCell ?io_NoFraction_NoCell ?inn_NoStrength ?ibb_NoStrength ?iii_NoStrength ?iss_NoStrength ?itt_NoStrength ?ill_NoStrength ?io_NoFraction_NoStrength ?inn_NoText ?ibb_NoText ?iii_NoText ?iss_NoText ?itt_NoText ?ill_NoText ?io_NoFraction_NoText ?inn_tuple ?ibb_tuple ?iii_tuple ?iss_tuple ?itt_tuple ?ill_tuple ?io_NoFraction_tuple
    (case a_greatest_divisor => k_is)
    (case l_greatest_divisor => k_is)
    (case c_greatest_divisor => k_is)
    (case k_greatest_divisor => k_is)
    (case a_fraction => k_is)
    (case l_fraction => k_is)
    (case c_fraction => k_is)
    (case k_fraction => k_is)
    (case a_times => k_is)
    (case l_times => k_is)
    (case c_times => k_is)
    (case k_times => k_is)
    (case a_over => k_is)
    (case l_over => k_is)
    (case c_over => k_is)
    (case k_over => k_is)
    (case a_under => k_is)
    (case l_under => k_is)
    (case c_under => k_is)
    (case k_under => k_is)
    (case a_l_whole => k_is)
    (case l_l_whole => k_is)
    (case c_l_whole => k_is)
    (case k_l_whole => k_is)
    (case a_l_divisor => k_is)
    (case l_l_divisor => k_is)
    (case c_l_divisor => k_is)
    (case k_l_divisor => k_is)
    (case a_l_drawn => k_is)
    (case l_l_drawn => k_is)
    (case c_l_drawn => k_is)
    (case k_l_drawn => k_is)
    (case a_l_lowest => k_is)
    (case l_l_lowest => k_is)
    (case c_l_lowest => k_is)
    (case k_l_lowest => k_is)
    (case a_l_fraction => k_is)
    (case l_l_fraction => k_is)
    (case c_l_fraction => k_is)
    (case k_l_fraction => k_is)
    (case a_l_refused => k_is)
    (case l_l_refused => k_is)
    (case c_l_refused => k_is)
    (case k_l_refused => k_is)
    (case a_l_over => k_is)
    (case l_l_over => k_is)
    (case c_l_over => k_is)
    (case k_l_over => k_is)
    (case a_l_under => k_is)
    (case l_l_under => k_is)
    (case c_l_under => k_is)
    (case k_l_under => k_is)
    (case a_law => k_is)
    (case l_law => k_is)
    (case c_law => k_is)
    (case k_law => k_is)
    (case z_ValueError => k_is)
    (case z_abs => k_is)
    (case z_bool => k_is)
    (case z_int => k_is)
    (case z_isinstance => k_is)
    (case z_len => k_is)
    (case z_range => k_is)
    (case z_tuple => k_is)
    (case e_BeamError => k_is)
    (case e_NoFraction => k_is)
    (case e_NoCell => k_is)
    (case e_NoText => k_is)
    (case e_NoStrength => k_is)
    (case e_Loose => k_is)
    (case x_NoFraction => kernel_rfl)
    (case ga_NoFraction => k_is)
    (case gt_NoFraction => k_is)
    (case ca_NoFraction => k_is)
    (case mo_NoFraction => k_is)
    (case mb_NoFraction => k_is)
    (case cl_NoFraction => k_is)
    (case h_NoFraction_BeamError => kernel_rfl)
    (case inn_bool => kernel_rfl)
    (case ibb_bool => kernel_rfl)
    (case iii_bool => kernel_rfl)
    (case iss_bool => kernel_rfl)
    (case itt_bool => kernel_rfl)
    (case ill_bool => kernel_rfl)
    (case io_NoFraction_bool => kernel_rfl)
    (case inn_int => kernel_rfl)
    (case ibb_int => kernel_rfl)
    (case iii_int => kernel_rfl)
    (case iss_int => kernel_rfl)
    (case itt_int => kernel_rfl)
    (case ill_int => kernel_rfl)
    (case io_NoFraction_int => kernel_rfl)
    (case inn_ValueError => kernel_rfl)
    (case ibb_ValueError => kernel_rfl)
    (case iii_ValueError => kernel_rfl)
    (case iss_ValueError => kernel_rfl)
    (case itt_ValueError => kernel_rfl)
    (case ill_ValueError => kernel_rfl)
    (case io_NoFraction_ValueError => kernel_rfl)
    (case inn_NoFraction => kernel_rfl)
    (case ibb_NoFraction => kernel_rfl)
    (case iii_NoFraction => kernel_rfl)
    (case iss_NoFraction => kernel_rfl)
    (case itt_NoFraction => kernel_rfl)
    (case ill_NoFraction => kernel_rfl)
    (case io_NoFraction_NoFraction => kernel_rfl)
    (case inn_Loose => kernel_rfl)
    (case ibb_Loose => kernel_rfl)
    (case iii_Loose => kernel_rfl)
    (case iss_Loose => kernel_rfl)
    (case itt_Loose => kernel_rfl)
    (case ill_Loose => kernel_rfl)
    (case io_NoFraction_Loose => kernel_rfl)
    (case inn_NoCell => kernel_rfl)
    (case ibb_NoCell => kernel_rfl)
    (case iii_NoCell => kernel_rfl)
    (case iss_NoCell => kernel_rfl)
    (case itt_NoCell => kernel_rfl)
    (case ill_NoCell => kernel_rfl)
    (case io_NoFraction_NoCell => kernel_rfl)
    (case inn_NoStrength => kernel_rfl)
    (case ibb_NoStrength => kernel_rfl)
    (case iii_NoStrength => kernel_rfl)
    (case iss_NoStrength => kernel_rfl)
    (case itt_NoStrength => kernel_rfl)
    (case ill_NoStrength => kernel_rfl)
    (case io_NoFraction_NoStrength => kernel_rfl)
    (case inn_NoText => kernel_rfl)
    (case ibb_NoText => kernel_rfl)
    (case iii_NoText => kernel_rfl)
    (case iss_NoText => kernel_rfl)
    (case itt_NoText => kernel_rfl)
    (case ill_NoText => kernel_rfl)
    (case io_NoFraction_NoText => kernel_rfl)
    (case inn_tuple => kernel_rfl)
    (case ibb_tuple => kernel_rfl)
    (case iii_tuple => kernel_rfl)
    (case iss_tuple => kernel_rfl)
    (case itt_tuple => kernel_rfl)
    (case ill_tuple => kernel_rfl)
    (case io_NoFraction_tuple => kernel_rfl)
