import PyProof.Rows.All
import Wide.All
import OpenK.AllK
import Wide.FinOn
import PyProof.EqAt
import PyProof.EqKinds
import PyProof.TupleCall
import KE.BitLaws
import PySem.Challenge.RW_meanrings_k04_groups
set_option Elab.async false
set_option linter.all false
set_option maxRecDepth 100000
/-! THE HAND LAYER, for ints, bools, texts, own classes, lists, tuples, dicts, comprehensions, walks over dicts, enumerate, zip, reversed, texts, calls, loops. Paste it whole ahead of your own text; what your proof does not reach may be deleted. -/
namespace L2
open PySem PySem.Spec PyProof.Rows

/-- a key: an int or a str -/
abbrev Key := Sum Int Str
def keyIs : Key → Value → Bool
  | .inl k, v => Value.isInt k v
  | .inr x, v => Value.isStrOf x v
def keyH (w : World) : Key → Int
  | .inl k => hashInt k
  | .inr x => hashStr w x
theorem keyIs_shape : ∀ {k : Key} {v : Value}, keyIs k v = true → (∃ i t, k = Sum.inl i ∧ v = Value.int i t) ∨ (∃ x t, k = Sum.inr x ∧ v = Value.str x t)
  | .inl i, v, h => by
    obtain ⟨t, e⟩ := Value.isInt_shape (k := i) (v := v) h
    exact .inl ⟨i, t, rfl, e⟩
  | .inr x, v, h => by
    obtain ⟨t, e⟩ := Value.isStrOf_shape (x := x) (v := v) h
    exact .inr ⟨x, t, rfl, e⟩
theorem keyIs_int (i : Int) (t : Tok) : keyIs (.inl i) (.int i t) = true := by simp [keyIs, Value.isInt]
theorem keyIs_str (x : Str) (t : Tok) : keyIs (.inr x) (.str x t) = true := by simp [keyIs, Value.isStrOf]
theorem key_ll (a b : Int) : decide ((Sum.inl a : Key) = Sum.inl b) = (a == b) := by
  by_cases e : a = b
  · subst e; simp
  · have h : ¬ (Sum.inl a : Key) = Sum.inl b := fun q => e (Sum.inl.inj q)
    rw [decide_eq_false h]
    exact (beq_eq_false_iff_ne.mpr e).symm
theorem key_rr (a b : Str) : decide ((Sum.inr a : Key) = Sum.inr b) = decide (a = b) := by
  by_cases e : a = b
  · subst e; simp
  · have h : ¬ (Sum.inr a : Key) = Sum.inr b := fun q => e (Sum.inr.inj q)
    rw [decide_eq_false h, decide_eq_false e]
theorem key_lr (a : Int) (b : Str) : decide ((Sum.inl a : Key) = Sum.inr b) = false := decide_eq_false (fun q => nomatch q)
theorem key_rl (a : Str) (b : Int) : decide ((Sum.inr a : Key) = Sum.inl b) = false := decide_eq_false (fun q => nomatch q)

def mixKind (prog : Program) (w : World) : PySem.KeyKind prog w Key where
  is := keyIs
  hash := keyH w
  inj := fun v a b ha hb => by
    rcases keyIs_shape ha with ⟨i, t, rfl, rfl⟩ | ⟨x, t, rfl, rfl⟩
    · rcases keyIs_shape hb with ⟨j, u, rfl, e⟩ | ⟨y, u, rfl, e⟩
      · injection e with e1 _; rw [e1]
      · exact nomatch e
    · rcases keyIs_shape hb with ⟨j, u, rfl, e⟩ | ⟨y, u, rfl, e⟩
      · exact nomatch e
      · injection e with e1 _; rw [e1]
  byValue := fun k v h => by
    rcases keyIs_shape h with ⟨i, t, rfl, rfl⟩ | ⟨x, t, rfl, rfl⟩ <;> rfl
  pyHash := fun hv h => by
    rcases keyIs_shape hv with ⟨i, t, rfl, rfl⟩ | ⟨x, t, rfl, rfl⟩
    · exact wpAny_pyHash_int h
    · exact wpAny_pyHash_str h
  eqBool := fun hu hv h => by
    rcases keyIs_shape hu with ⟨i, t, rfl, rfl⟩ | ⟨x, t, rfl, rfl⟩
    · rcases keyIs_shape hv with ⟨j, u, rfl, rfl⟩ | ⟨y, u, rfl, rfl⟩
      · rw [key_ll] at h; exact wpAny_eqBool_int h
      · rw [key_lr] at h; exact SeqAt.EqAt.int_str i t y u _ _ _ _ h
    · rcases keyIs_shape hv with ⟨j, u, rfl, rfl⟩ | ⟨y, u, rfl, rfl⟩
      · rw [key_rl] at h; exact SeqAt.EqAt.str_int x t j u _ _ _ _ h
      · rw [key_rr] at h; exact wpAny_eqBool_str h
  «strs» := fun k x t v h => by
    rcases keyIs_shape h with ⟨i, u, rfl, e⟩ | ⟨y, u, rfl, e⟩
    · exact nomatch e
    · injection e with e1 _
      subst e1
      cases v <;> rfl

theorem mixKind_is (prog : Program) (w : World) (k : Key) (v : Value) : (mixKind prog w).is k v = keyIs k v := rfl
theorem mixKind_int (prog : Program) (w : World) (i : Int) (t : Tok) : (mixKind prog w).is (.inl i) (.int i t) = true := keyIs_int i t
theorem mixKind_str (prog : Program) (w : World) (x : Str) (t : Tok) : (mixKind prog w).is (.inr x) (.str x t) = true := keyIs_str x t
end L2

namespace L2
open PySem PySem.Spec PyProof.Rows

/-- a value, without the heap -/
inductive V where
  | non | bl (b : Bool) | int (i : Int) | str (x : Str) | byt (b : Array UInt8) | flt (b : UInt64) | ref (a : Addr) | ty (n : String)
  deriving DecidableEq

def RelV : V → Value → Prop
  | .non, u => u = Value.none
  | .bl b, u => u = Value.bool b
  | .int i, u => ∃ t, u = Value.int i t
  | .str x, u => ∃ t, u = Value.str x t
  | .byt b, u => ∃ t, u = Value.bytes b t
  | .flt b, u => ∃ t, u = Value.float b t
  | .ref a, u => u = Value.ref a
  | .ty n, u => u = Value.type n

abbrev Vals : List V → List Value → Prop := Paired RelV
theorem Vals.length {xs : List V} {us : List Value} (r : Vals xs us) : xs.length = us.length := Paired.length r
theorem Vals.get : ∀ {xs : List V} {us : List Value} {i : Nat} {x : V}, Vals xs us → xs[i]? = some x → ∃ u, us[i]? = some u ∧ RelV x u
  | _, _, _, _, .nil, e => by simp at e
  | _, _, 0, _, .cons r _, e => by simp at e; subst e; exact ⟨_, rfl, r⟩
  | _, _, i + 1, x, .cons _ t, e => by
    obtain ⟨u, h1, h2⟩ := Vals.get (i := i) (x := x) t (by simpa using e)
    exact ⟨u, by simpa using h1, h2⟩
theorem Vals.set {x : V} {u : Value} (r : RelV x u) : ∀ {xs : List V} {us : List Value} (i : Nat), Vals xs us → Vals (xs.set i x) (us.set i u)
  | _, _, _, .nil => .nil
  | _, _, 0, .cons _ t => .cons r t
  | _, _, i + 1, .cons q t => .cons q (Vals.set r i t)
theorem Vals.append : ∀ {xs ys : List V} {us ws : List Value}, Vals xs us → Vals ys ws → Vals (xs ++ ys) (us ++ ws)
  | _, _, _, _, .nil, s => s
  | _, _, _, _, .cons r t, s => .cons r (Vals.append t s)
theorem Vals.take : ∀ {xs : List V} {us : List Value} (n : Nat), Vals xs us → Vals (xs.take n) (us.take n)
  | _, _, 0, _ => .nil
  | _, _, _ + 1, .nil => .nil
  | _, _, n + 1, .cons r t => .cons r (Vals.take n t)
theorem Vals.drop : ∀ {xs : List V} {us : List Value} (n : Nat), Vals xs us → Vals (xs.drop n) (us.drop n)
  | _, _, 0, r => r
  | _, _, _ + 1, .nil => .nil
  | _, _, n + 1, .cons _ t => Vals.drop n t
theorem Vals.none_of : ∀ {xs : List V} {us : List Value} {i : Nat}, Vals xs us → xs[i]? = none → us[i]? = none := fun {xs us i} r e => by
  have h1 := r.length
  have h2 : xs.length ≤ i := List.getElem?_eq_none_iff.mp e
  exact List.getElem?_eq_none_iff.mpr (by omega)

def RelO : Option V → Option Value → Prop
  | some v, some u => RelV v u
  | none, none => True
  | _, _ => False
def KV {κ : Type} : List (κ × V) → List (κ × Value) → Prop := Paired fun (p : κ × V) (q : κ × Value) => p.1 = q.1 ∧ RelV p.2 q.2

/-- a key of a dict (00_mix): an int or a text -/
def kV : Key → V
  | .inl i => .int i
  | .inr x => .str x

/-- what stands at a tracked address -/
inductive HO where
  /-- a list -/
  | lst (xs : List V)
  /-- a tuple (never changes) -/
  | tup (xs : List V)
  /-- a dict whose keys are ints and texts; one whose keys are tuples of ints and texts (the empty one is both) -/
  | dK (kvs : List (Key × V)) | dT (kvs : List (List Key × V))
  /-- a set of ints: its members, its size -/
  | set (S : Int → Bool) (n : Nat)
  /-- an instance of the class at C, its dict at dx, its attributes -/
  | ins (C dx : Addr) (fs : List (Str × V))
  /-- the dict of the instance at x -/
  | own (x : Addr)
  /-- the dict of an exception -/
  | xd (fs : List (Str × V))
  /-- a bound method, f of x -/
  | met (f x : Addr)
  /-- a range object lo, lo + 1, .. below hi -/
  | rng (lo hi : Int)
  /-- a thing that is known to the object (the script; a dict while a loop walks it): read, never written while it is so -/
  | frz (o : Obj) (u : HO)
  /-- a code object's table -/
  | tbl (ps : Array Value)
  /-- any other thing, by what is true of its one object (a def of one's own: SetO a S n := HO.ext fun h => ..) -/
  | ext (φ : Heap → Prop)

abbrev Hp := Addr → Option HO
def upd (H : Hp) (a : Addr) (o : HO) : Hp := fun b => if b = a then some o else H b
theorem upd_same {H : Hp} {a : Addr} {o : HO} : upd H a o a = some o := by unfold upd; rw [if_pos rfl]
theorem upd_ne {H : Hp} {a b : Addr} {o : HO} (h : b ≠ a) : upd H a o b = H b := by unfold upd; rw [if_neg h]
theorem upd_upd {H : Hp} {a : Addr} {o u : HO} : upd (upd H a o) a u = upd H a u := by
  funext b; unfold upd; split <;> rfl
/-- two objects of different content stand apart -/
theorem ne_of {H : Hp} {a b : Addr} {o u : HO} (h : H a = some o) (h' : H b = some u) (d : o ≠ u) : a ≠ b := by
  intro e; subst e; rw [h] at h'; exact d (Option.some.inj h')
theorem ne_of_none {H : Hp} {a b : Addr} {o : HO} (h : H a = some o) (h' : H b = none) : a ≠ b := by
  intro e; subst e; rw [h] at h'; cases h'

section
variable (P : Program) (w : World)
def ObjOk (H : Hp) (h : Heap) (a : Addr) : HO → Prop
  | .lst xs => xs.length ≤ sizeLine ∧ ∃ (its : List Value) (n : Nat), Vals xs its ∧ h.get? a = some { cls := .type "list", data := .seq its.toArray n }
  | .tup xs => xs.length ≤ sizeLine ∧ ∃ its : List Value, Vals xs its ∧ IsTup h a its.toArray
  | .dK kvs => kvs.length ≤ sizeLine ∧ (a == sysModules) = false ∧ ∃ vs, KV kvs vs ∧ h.DictOf (mixKind P w) a vs
  | .dT kvs => kvs.length ≤ sizeLine ∧ (a == sysModules) = false ∧ ∃ xs : List (List Key × Addr × Value),
      Paired (fun (p : List Key × V) (q : List Key × Addr × Value) => p.1 = q.1 ∧ H q.2.1 = some (.tup (p.1.map kV)) ∧ RelV p.2 q.2.2) kvs xs ∧
      ∃ o es ep, h.get? a = some o ∧ o.ExactDict ∧ o.data = .dict es ep ∧ es.toList = xs.map (entryOfKey (tupleKind (mixKind P w))) ∧ (xs.map (·.1)).Nodup
  | .set S n => h.SetOf (intKind P w) a S n
  | .ins C dx fs => H dx = some (.own a) ∧ fs.length ≤ 1000 ∧ dx ≠ a ∧ h.get? a = some (PySem.W.instObj C dx) ∧
      ∃ mA, h.Ns1 dx mA ∧ (∀ f, RelO (fs.lookup f) (mA f)) ∧ PySem.Within mA (fs.map (·.1))
  | .own _ => ∃ o, h.get? a = some o
  | .xd fs => ∃ mA, h.Ns1 a mA ∧ ∀ f, RelO (fs.lookup f) (mA f)
  | .rng lo hi => ∃ t u v, h.get? a = some { cls := .type "range", data := .fields #[.int lo t, .int hi u, .int 1 v] }
  | .frz o u => h.get? a = some o ∧ ObjOk H h a u
  | .tbl ps => h.get? a = some { cls := .none, data := .fields ps }
  | .met f x => h.get? a = some (PySem.W.methodObj (.ref f) (.ref x))
  | .ext φ => φ h ∧ (∃ o, h.get? a = some o) ∧ ∀ h1 h2 : Heap, φ h1 → (∀ o, h1.get? a = some o → h2.get? a = some o) → φ h2
/-- the abstract heap is held -/
def HOk (H : Hp) (h : Heap) : Prop := ∀ a o, H a = some o → ObjOk P w H h a o
end

section
variable {P : Program} {w : World} {H H' : Hp} {h h' : Heap} {a : Addr} {o : HO}
theorem ObjOk.lt (x : ObjOk P w H h a o) : a < h.objs.size := by
  cases o with
  | lst xs => obtain ⟨_, _, _, _, e⟩ := x; exact Heap.lt_size e
  | tup xs => obtain ⟨_, _, _, p⟩ := x; exact p.lt
  | dK kvs => obtain ⟨_, _, _, _, o, _, _, e, _⟩ := x; exact Heap.lt_size e
  | dT kvs => obtain ⟨_, _, _, _, o, _, _, e, _⟩ := x; exact Heap.lt_size e
  | set S n => obtain ⟨o, _, _, _, e, _⟩ := x; exact Heap.lt_size e
  | ins C dx fs => obtain ⟨_, _, _, e, _⟩ := x; exact Heap.lt_size e
  | own y => obtain ⟨_, e⟩ := x; exact Heap.lt_size e
  | xd fs => obtain ⟨_, ⟨_, _, _, e, _⟩, _⟩ := x; exact Heap.lt_size e
  | rng lo hi => obtain ⟨_, _, _, e⟩ := x; exact Heap.lt_size e
  | frz ob u => obtain ⟨e, _⟩ := x; exact Heap.lt_size e
  | tbl ps => exact Heap.lt_size (show h.get? a = some _ from x)
  | met f y => exact Heap.lt_size (show h.get? a = some _ from x)
  | ext φ => obtain ⟨_, ⟨_, e⟩, _⟩ := x; exact Heap.lt_size e
theorem Paired.mapP {α β : Type} {F G : α → β → Prop} : ∀ {l₁ : List α} {l₂ : List β}, Paired F l₁ l₂ → (∀ a b, F a b → G a b) → Paired G l₁ l₂
  | _, _, .nil, _ => .nil
  | _, _, .cons r t, f => .cons (f _ _ r) (Paired.mapP t f)
theorem Paired.imp' {α β : Type} {F G : α → β → Prop} (f : ∀ a b, F a b → G a b) {l₁ : List α} {l₂ : List β} (r : Paired F l₁ l₂) : Paired G l₁ l₂ := Paired.mapP r f
/-- what an object's description leans on: its own object, its own dict, the tuples -/
theorem ObjOk.stay (x : ObjOk P w H h a o) (k : ∀ b u, (b = a ∨ H b = some (.own a)) → h.get? b = some u → h'.get? b = some u)
    (ho : ∀ b, H b = some (.own a) → H' b = some (.own a)) (ht : ∀ b xs, H b = some (.tup xs) → H' b = some (.tup xs)) : ObjOk P w H' h' a o := by
  induction o with
  | lst xs => obtain ⟨z, its, n, r, e⟩ := x; exact ⟨z, its, n, r, k _ _ (.inl rfl) e⟩
  | tup xs => obtain ⟨z, its, r, ob, e, c⟩ := x; exact ⟨z, its, r, ob, k _ _ (.inl rfl) e, c⟩
  | dK kvs => obtain ⟨z, y, vs, r, ob, es, ep, e, c⟩ := x; exact ⟨z, y, vs, r, ob, es, ep, k _ _ (.inl rfl) e, c⟩
  | dT kvs =>
    obtain ⟨z, y, xs, r, ob, es, ep, e, c⟩ := x
    exact ⟨z, y, xs, Paired.mapP r fun p q z => ⟨z.1, ht _ _ z.2.1, z.2.2⟩, ob, es, ep, k _ _ (.inl rfl) e, c⟩
  | set S n => obtain ⟨ob, es, ep, t, e, c⟩ := x; exact ⟨ob, es, ep, t, k _ _ (.inl rfl) e, c⟩
  | ins C dx fs =>
    obtain ⟨d, z, ne, e, mA, ⟨od, es, ep, e2, c⟩, r⟩ := x
    exact ⟨ho _ d, z, ne, k _ _ (.inl rfl) e, mA, ⟨od, es, ep, k _ _ (.inr d) e2, c⟩, r⟩
  | own y => obtain ⟨ob, e⟩ := x; exact ⟨ob, k _ _ (.inl rfl) e⟩
  | xd fs => obtain ⟨mA, ⟨od, es, ep, e, c⟩, r⟩ := x; exact ⟨mA, ⟨od, es, ep, k _ _ (.inl rfl) e, c⟩, r⟩
  | rng lo hi => obtain ⟨t, u, v, e⟩ := x; exact ⟨t, u, v, k _ _ (.inl rfl) e⟩
  | frz ob u ih => obtain ⟨e, q⟩ := x; exact ⟨k _ _ (.inl rfl) e, ih q⟩
  | tbl ps =>
    have e : h.get? a = some { cls := .none, data := .fields ps } := x
    show h'.get? a = some { cls := .none, data := .fields ps }
    exact k a _ (.inl rfl) e
  | met f y =>
    have e : h.get? a = some (PySem.W.methodObj (.ref f) (.ref y)) := x
    show h'.get? a = some (PySem.W.methodObj (.ref f) (.ref y))
    exact k a _ (.inl rfl) e
  | ext φ => obtain ⟨p, ⟨o, e⟩, st⟩ := x; exact ⟨st _ _ p fun o q => k _ _ (.inl rfl) q, ⟨o, k _ _ (.inl rfl) e⟩, st⟩
theorem HOk.lt (x : HOk P w H h) (e : H a = some o) : a < h.objs.size := (x a o e).lt
theorem HOk.fresh (x : HOk P w H h) (e : h.objs.size ≤ a) : H a = none := by
  cases q : H a with
  | none => rfl
  | some u => exact absurd (Nat.lt_of_lt_of_le (x.lt q) e) (Nat.lt_irrefl _)
/-- every object of the heap is kept -/
theorem HOk.kept (x : HOk P w H h) (k : ∀ b u, h.get? b = some u → h'.get? b = some u) : HOk P w H h' := fun a o e =>
  (x a o e).stay (fun b u _ q => k b u q) (fun _ q => q) fun _ _ q => q
/-- a new object is laid and tracked -/
theorem HOk.laid (x : HOk P w H h) (k : ∀ b u, h.get? b = some u → h'.get? b = some u) (hp : h.objs.size ≤ a) (new : ObjOk P w (upd H a o) h' a o) : HOk P w (upd H a o) h' := fun b u e => by
  have hn := x.fresh hp
  by_cases hb : b = a
  · subst hb; rw [upd_same] at e; cases e; exact new
  · rw [upd_ne hb] at e
    exact (x b u e).stay (fun c v _ q => k c v q) (fun c q => by rw [upd_ne (ne_of_none q hn)]; exact q) fun c xs q => by rw [upd_ne (ne_of_none q hn)]; exact q
end

/-- what may be read as u: it is u, or a known u -/
def Rd (H : Hp) (a : Addr) (u : HO) : Prop := H a = some u ∨ ∃ o, H a = some (.frz o u)
theorem Rd.of {H : Hp} {a : Addr} {u : HO} (h : H a = some u) : Rd H a u := .inl h
theorem Rd.ok {P : Program} {w : World} {H : Hp} {h : Heap} {a : Addr} {u : HO} (r : Rd H a u) (x : HOk P w H h) : ObjOk P w H h a u := by
  rcases r with r | ⟨o, r⟩
  · exact x a u r
  · obtain ⟨_, q⟩ := x a _ r
    exact q
/-- what may be written -/
def Mut : Option HO → Prop
  | some (.lst _) => True
  | some (.dK _) => True
  | some (.dT _) => True
  | some (.set _ _) => True
  | some (.ins _ _ _) => True
  | some (.ext _) => True
  | _ => False
section
variable {P : Program} {w : World} {H : Hp} {h h' : Heap} {x e : Addr} {o' : HO}
/-- the object at e is changed: x itself, or the dict of the instance x -/
theorem HOk.write (ok : HOk P w H h) (mu : Mut (H x)) (he : e = x ∨ H e = some (.own x)) (k : ∀ b u, b ≠ e → h.get? b = some u → h'.get? b = some u) (heo : ∃ u, h'.get? e = some u)
    (new : ObjOk P w (upd H x o') h' x o') : HOk P w (upd H x o') h' := fun b u q => by
  have nown : ∀ c y, H c = some (.own y) → c ≠ x := fun c y r z => by subst z; rw [r] at mu; exact mu
  have ntup : ∀ c xs, H c = some (.tup xs) → c ≠ x := fun c xs r z => by subst z; rw [r] at mu; exact mu
  by_cases hb : b = x
  · subst hb; rw [upd_same] at q; cases q; exact new
  · rw [upd_ne hb] at q
    by_cases hbe : b = e
    · have q' : H b = some (.own x) := by
        rcases he with z | z
        · exact absurd (hbe.trans z) hb
        · rw [hbe]; exact z
      rw [q] at q'; cases q'
      obtain ⟨v, hv⟩ := heo
      exact ⟨v, by rw [hbe]; exact hv⟩
    · refine (ok b u q).stay (fun c v hc r => k c v ?_ r) (fun c r => by rw [upd_ne (nown c b r)]; exact r) fun c xs r => by rw [upd_ne (ntup c xs r)]; exact r
      rcases hc with rfl | hc
      · exact hbe
      · rintro rfl
        rcases he with z | z
        · exact nown c b hc z
        · rw [hc] at z; cases z; exact hb rfl
end

/-! ### kept unless tracked; of the frames at fs (the callers') the slots may change (an exception that passes writes there); of the records at ex (iterators) nothing is said -/
structure Un (fs ex : List Addr) (H H' : Hp) (h h' : Heap) : Prop where
  keep : ∀ b o, h.get? b = some o → H b = none → b ∉ fs → b ∉ ex → h'.get? b = some o
  slot : ∀ b o, h.get? b = some o → H b = none → b ∈ fs → b ∉ ex → ∃ sl, h'.get? b = some { o with slots := sl }
  free : ∀ b o, h.get? b = some o → H b = none → b ∉ ex → H' b = none
  there : ∀ b o, h.get? b = some o → b ∉ ex → ∃ o', h'.get? b = some o'
  tups : ∀ b xs, H b = some (.tup xs) → H' b = some (.tup xs)
  frzs : ∀ b o u, H b = some (.frz o u) → H' b = some (.frz o u)
  tbls : ∀ b ps, H b = some (.tbl ps) → ∃ more, H' b = some (.tbl (ps ++ more))
section
variable {fs fs' ex ex' : List Addr} {H H1 H2 : Hp} {h h1 h2 h' : Heap} {a x e : Addr} {o : HO}
theorem Un.any (u : Un fs ex H H1 h h1) {b : Addr} {ob : Obj} (q : h.get? b = some ob) (n : H b = none) (hx : b ∉ ex) : ∃ sl, h1.get? b = some { ob with slots := sl } := by
  by_cases hb : b ∈ fs
  · exact u.slot b ob q n hb hx
  · exact ⟨ob.slots, u.keep b ob q n hb hx⟩
theorem Un.trans (a : Un fs ex H H1 h h1) (b : Un fs ex H1 H2 h1 h2) : Un fs ex H H2 h h2 where
  keep := fun c ob q n hc hx => b.keep c ob (a.keep c ob q n hc hx) (a.free c ob q n hx) hc hx
  slot := fun c ob q n hc hx => by
    obtain ⟨sl, e1⟩ := a.slot c ob q n hc hx
    obtain ⟨sl', e2⟩ := b.slot c _ e1 (a.free c ob q n hx) hc hx
    exact ⟨sl', e2⟩
  free := fun c ob q n hx => by
    obtain ⟨o', e1⟩ := a.there c ob q hx
    exact b.free c o' e1 (a.free c ob q n hx) hx
  there := fun c ob q hx => by
    obtain ⟨o', e1⟩ := a.there c ob q hx
    exact b.there c o' e1 hx
  tups := fun c xs q => b.tups c xs (a.tups c xs q)
  frzs := fun c ob xs q => b.frzs c ob xs (a.frzs c ob xs q)
  tbls := fun c ps q => by
    obtain ⟨m1, e1⟩ := a.tbls c ps q
    obtain ⟨m2, e2⟩ := b.tbls c _ e1
    exact ⟨m1 ++ m2, by rw [e2, Array.append_assoc]⟩
theorem Un.kept (k : ∀ b u, h.get? b = some u → h'.get? b = some u) : Un fs ex H H h h' :=
  ⟨fun b ob q _ _ _ => k b ob q, fun b ob q _ _ _ => ⟨ob.slots, k b ob q⟩, fun _ _ _ n _ => n, fun b ob q _ => ⟨ob, k b ob q⟩, fun _ _ q => q, fun _ _ _ q => q, fun _ ps q => ⟨#[], by rw [q]; simp⟩⟩
theorem Un.refl : Un fs ex H H h h := Un.kept fun _ _ q => q
theorem Un.laid (k : ∀ b u, h.get? b = some u → h'.get? b = some u) (hp : h.objs.size ≤ a) (hn : H a = none) : Un fs ex H (upd H a o) h h' where
  keep := fun b u q _ _ _ => k b u q
  slot := fun b u q _ _ _ => ⟨u.slots, k b u q⟩
  free := fun b u q n _ => by rw [upd_ne (Nat.ne_of_lt (Nat.lt_of_lt_of_le (Heap.lt_size q) hp))]; exact n
  there := fun b u q _ => ⟨u, k b u q⟩
  tups := fun b xs q => by rw [upd_ne (ne_of_none q hn)]; exact q
  frzs := fun b u xs q => by rw [upd_ne (ne_of_none q hn)]; exact q
  tbls := fun b ps q => ⟨#[], by rw [upd_ne (ne_of_none q hn), q]; simp⟩
theorem Un.write (mu : Mut (H x)) (he : e = x ∨ H e = some (.own x)) (k : ∀ b u, b ≠ e → h.get? b = some u → h'.get? b = some u) (heo : ∃ u, h'.get? e = some u) : Un fs ex H (upd H x o) h h' := by
  have hx : ∀ b, H b = none → b ≠ x := fun b n z => by subst z; rw [n] at mu; exact mu
  have hb : ∀ b, H b = none → b ≠ e := fun b n z => by
    subst z
    rcases he with r | r
    · exact hx b n r
    · rw [n] at r; cases r
  have hm : ∀ b u, H b = some u → ¬ Mut (some u) → b ≠ x := fun b u q nm z => by subst z; rw [q] at mu; exact nm mu
  refine ⟨fun b u q n _ _ => k b u (hb b n) q, fun b u q n _ _ => ⟨u.slots, k b u (hb b n) q⟩, fun b u q n _ => by rw [upd_ne (hx b n)]; exact n, fun b u q _ => ?_,
    fun b xs q => by rw [upd_ne (hm b _ q fun z => z)]; exact q, fun b u xs q => by rw [upd_ne (hm b _ q fun z => z)]; exact q, fun b ps q => ⟨#[], by rw [upd_ne (hm b _ q fun z => z), q]; simp⟩⟩
  by_cases hbe : b = e
  · subst hbe; exact heo
  · exact ⟨u, k b u hbe q⟩
theorem Un.mono (u : Un fs ex H H1 h h1) (hs : ∀ b ∈ fs, b ∈ fs') (hx : ∀ b ∈ ex, b ∈ ex') : Un fs' ex' H H1 h h1 :=
  ⟨fun b ob q n hb he => u.keep b ob q n (fun z => hb (hs b z)) fun z => he (hx b z), fun _ _ q n _ he => u.any q n fun z => he (hx _ z), fun b ob q n he => u.free b ob q n fun z => he (hx b z), fun b ob q he => u.there b ob q fun z => he (hx b z), u.tups, u.frzs, u.tbls⟩
end

/-! ### the heap without what is tracked -/
def trk (h : Heap) (H : Hp) : List Addr := (List.range h.objs.size).filter fun a => (H a).isSome
def hidT (h : Heap) (H : Hp) : Heap := PySem.W.hideAll h (trk h H)
theorem hidT_size (h : Heap) (H : Hp) : (hidT h H).objs.size = h.objs.size := PySem.W.hideAll_size _ _
theorem hidT_get {h : Heap} {H : Hp} {b : Addr} {o : Obj} (e : h.get? b = some o) (n : H b = none) : (hidT h H).get? b = some o :=
  PySem.W.hideAll_get _ e fun hm => by
    have q : (H b).isSome = true := (List.mem_filter.mp hm).2
    rw [n] at q; simp at q
theorem of_hidT {h : Heap} {H : Hp} {b : Addr} {o : Obj} (e : (hidT h H).get? b = some o) : h.get? b = some o ∧ H b = none := by
  have e' : h.get? b = some o := PySem.W.of_hideAll (trk h H) e
  refine ⟨e', ?_⟩
  cases q : H b with
  | none => rfl
  | some x =>
    have hm : b ∈ trk h H := List.mem_filter.mpr ⟨List.mem_range.mpr (Heap.lt_size e'), by simp [q]⟩
    have z : (hidT h H).get? b = none := PySem.W.hideAll_none (trk h H) hm
    rw [z] at e; cases e

/-! ### OpenK's ledger, filled with every new object but one -/
def allNews (g h : Heap) (L : Addr) : List (Addr × Obj) := (List.range h.objs.size).filterMap fun a => if a = L ∨ (g.get? a).isSome = true then none else (h.get? a).map fun o => (a, o)
theorem mem_allNews {g h : Heap} {L a : Addr} {o : Obj} (h1 : a ≠ L) (h2 : g.get? a = none) (h3 : h.get? a = some o) : (a, o) ∈ allNews g h L :=
  List.mem_filterMap.mpr ⟨a, List.mem_range.mpr (Heap.lt_size h3), by simp [h1, h2, h3]⟩
theorem of_mem_allNews {g h : Heap} {L : Addr} {p : Addr × Obj} (hp : p ∈ allNews g h L) : p.1 ≠ L ∧ g.get? p.1 = none ∧ h.get? p.1 = some p.2 := by
  obtain ⟨b, _, e⟩ := List.mem_filterMap.mp hp
  split at e
  · cases e
  · rename_i hn
    cases q : h.get? b with
    | none => rw [q] at e; simp at e
    | some u =>
      rw [q] at e
      simp only [Option.map_some, Option.some.injEq] at e
      subst e
      refine ⟨fun z => hn (.inl z), ?_, q⟩
      show g.get? b = none
      cases r : g.get? b with
      | none => rfl
      | some v => exact (hn (.inr (by simp [r]))).elim
def rest (g h : Heap) (L d : Addr) : List (Addr × Obj) := (allNews g h L).filter fun p => decide (p.1 ≠ d)
theorem rest_ne {g h : Heap} {L d : Addr} : ∀ p ∈ rest g h L d, p.1 ≠ d := fun p hp => of_decide_eq_true (List.mem_filter.mp hp).2
theorem mem_rest {g h : Heap} {L d a : Addr} {o : Obj} (h1 : a ≠ L) (h2 : g.get? a = none) (h3 : h.get? a = some o) (h4 : a ≠ d) : (a, o) ∈ rest g h L d :=
  List.mem_filter.mpr ⟨mem_allNews h1 h2 h3, decide_eq_true h4⟩
theorem news_all {g h : Heap} {L : Addr} : News g L h (allNews g h L) := fun p hp => let ⟨a, b, c⟩ := of_mem_allNews hp; ⟨c, a, b⟩
theorem news_at {g h : Heap} {L d : Addr} {o : Obj} (h1 : d ≠ L) (h2 : g.get? d = none) (h3 : h.get? d = some o) : News g L h ((d, o) :: rest g h L d) := fun p hp => by
  rcases List.mem_cons.mp hp with rfl | hp
  · exact ⟨h3, h1, h2⟩
  · exact news_all p (List.mem_filter.mp hp).1
/-- behind a rule that changed d alone: all else but the frame is kept -/
theorem kept_of_news {g h h' : Heap} {L d : Addr} {m : Str → Option Value} (k : ∀ b o, g.get? b = some o → h.get? b = some o) (F : Fr g L h' m) (N : News g L h' (rest g h L d)) :
    ∀ b o, b ≠ L → b ≠ d → h.get? b = some o → h'.get? b = some o := fun b o h1 h2 e => by
  cases q : g.get? b with
  | some u =>
    have := k b u q
    rw [e] at this; cases this
    exact F.keep b _ q
  | none => exact (N (b, o) (mem_rest h1 q e h2)).1
end L2

namespace L2
open PySem PySem.Spec PyProof.Rows

/-- the module's facts, over the base: the heap at the law's entry without what is tracked there -/
structure Mod (K : PySem.W.Frag) (mg : Str → Option Value) (base : Heap) : Prop where
  kin : K.In base
  glob : base.Ns mainGlobals mg
  blt : ∃ mb, base.Ns builtinsNs mb ∧ ∀ x : Str, x ≠ "__name__" → mb x = bootBuiltins x
  nolimit : base.NoLimit

/-- the context: a def's body (or a comprehension's block) running. base: fixed through the whole law; s₀, H₀: the entry; outer: the frames whose slots others may change (a def's callers); stack: all frames that run;
   ex: iterators that were made ahead of the entry and are walked here (a comprehension's); fn: the names whose cells were made at the entry (a def: all; a comprehension's block: its own); calm: not within an except suite; pn: pins that every state bears; xe: what is wanted of an exception that leaves the code -/
structure Cx where
  prog : Program
  w : World
  K : PySem.W.Frag
  mg : Str → Option Value
  base : Heap
  A : Around
  N : List Str
  s_0 : Shared
  H_0 : Hp
  env : Env
  outer : List Env
  stack : List Env
  ex : List Addr
  fn : Str → Bool
  calm : Bool
  pn : List (Addr × Obj)
  xe : Value → Shared → Prop
/-- the callers' frames -/
def frs (l : List Env) : List Addr := l.filterMap (·.frame)
abbrev Cx.fs (X : Cx) : List Addr := frs X.outer

def Vis (sc : Scope) (x : Str) : Prop := sc.names.lookup x = some .local ∨ sc.names.lookup x = some .cell ∨ sc.names.lookup x = some .free
def Loc (sc : Scope) (x : Str) : Prop := sc.names.lookup x = some .local ∨ sc.names.lookup x = some .cell
def Look (env : Env) (h : Heap) (m : Str → Option Value) (x : Str) (u : Value) : Prop :=
  (env.kindOf x = some .local ∧ m x = some u) ∨ ((env.kindOf x = some .cell ∨ env.kindOf x = some .free) ∧ ∃ c, env.cells.lookup x = some c ∧ h.IsCell c (some u))

structure Cx.Ok (X : Cx) : Prop where
  mod : Mod X.K X.mg X.base
  kind : X.env.scope.kind = .function
  glob : X.env.globals = mainGlobals
  blt : X.env.builtins = builtinsNs
  above : X.s_0.heap.objs.size ≤ X.env.locals
  inj : ∀ x y c, X.env.cells.lookup x = some c → X.env.cells.lookup y = some c → x = y
  has : ∀ x, (X.env.kindOf x = some .cell ∨ X.env.kindOf x = some .free) → ∃ c, X.env.cells.lookup x = some c
  cab : ∀ x c, X.fn x = true → X.env.cells.lookup x = some c → X.s_0.heap.objs.size ≤ c
  hd : X.calm = true → X.A.handled = none
  frames : X.A.frames = some X.stack
  stk : X.stack = X.outer ∨ (X.stack = X.env :: X.outer ∧ X.env.frame = some X.env.locals)
  exf : ∀ b ∈ X.ex, b ≠ X.env.locals ∧ ∀ x c, X.env.cells.lookup x = some c → c ≠ b
  bs : ∀ b o, X.base.get? b = some o → X.s_0.heap.get? b = some o ∧ X.H_0 b = none
  bsz : X.base.objs.size ≤ X.s_0.heap.objs.size
  noex : ∀ b o, X.base.get? b = some o → b ∉ X.ex
  exfs : ∀ b ∈ X.ex, b ∉ X.fs
  funs : X.s_0.heap.FunFrames X.base X.outer
  frf : ∀ b ∈ X.fs, X.H_0 b = none

structure Inv (X : Cx) (pins : List (Addr × Obj)) (σ : List (Option V)) (H : Hp) (s : Shared) : Prop where
  ok : X.Ok
  os : s.os = X.s_0.os
  bare : AllBare s.gens
  base : Un X.fs X.ex X.H_0 H X.s_0.heap s.heap
  loc : ∃ m, s.heap.Ns X.env.locals m ∧ ∀ (i : Nat) (x : Str) (v : V), X.N[i]? = some x → σ[i]? = some (some v) → Vis X.env.scope x → ∃ u, RelV v u ∧ Look X.env s.heap m x u
  cell : ∀ x c, X.env.cells.lookup x = some c → ∃ v, s.heap.IsCell c v
  free : H X.env.locals = none
  freeC : ∀ x c, X.env.cells.lookup x = some c → H c = none
  pin : ∀ p ∈ X.pn ++ pins, s.heap.get? p.1 = some p.2 ∧ H p.1 = none ∧ p.1 ≠ X.env.locals ∧ p.1 ∉ X.fs ∧ ∀ v, p.2.data ≠ .cell v
  hok : HOk X.prog X.w H s.heap
  len : σ.length = X.N.length

section
variable {X : Cx} {pins : List (Addr × Obj)} {σ : List (Option V)} {H H' : Hp} {s : Shared} {h' : Heap}

theorem Cx.Ok.nofr (ok : X.Ok) {b : Addr} {o : Obj} (e : X.base.get? b = some o) : b ∉ X.fs := fun hb => by
  have := (ok.funs.mem hb).1
  rw [e] at this; cases this
theorem Inv.bs (I : Inv X pins σ H s) : ∀ b o, X.base.get? b = some o → s.heap.get? b = some o ∧ H b = none := fun b o e =>
  ⟨I.base.keep b o (I.ok.bs b o e).1 (I.ok.bs b o e).2 (I.ok.nofr e) (I.ok.noex b o e), I.base.free b o (I.ok.bs b o e).1 (I.ok.bs b o e).2 (I.ok.noex b o e)⟩
theorem Inv.bk (I : Inv X pins σ H s) : ∀ b o, X.base.get? b = some o → s.heap.get? b = some o := fun b o e => (I.bs b o e).1
theorem Inv.mod (I : Inv X pins σ H s) : Mod X.K X.mg X.base := I.ok.mod
theorem Inv.kIn (I : Inv X pins σ H s) : X.K.In s.heap := I.ok.mod.kin.keeps I.bk
theorem Inv.nolimit (I : Inv X pins σ H s) : s.heap.NoLimit := I.ok.mod.nolimit.keeps I.bk
/-- the frame over the base: for OpenK's rules (K.In X.base is I.mod.kin) -/
theorem Inv.fr (I : Inv X pins σ H s) : ∃ m, Fr X.base X.env.locals s.heap m :=
  let ⟨m, hn, _⟩ := I.loc
  ⟨m, hn, I.bk, Nat.le_trans I.ok.bsz I.ok.above⟩
theorem Inv.lt (I : Inv X pins σ H s) : X.env.locals < s.heap.objs.size := let ⟨_, hn, _⟩ := I.loc; hn.lt
theorem Inv.sz (I : Inv X pins σ H s) : X.s_0.heap.objs.size ≤ s.heap.objs.size := Nat.le_trans I.ok.above (Nat.le_of_lt I.lt)
theorem Inv.nofs (I : Inv X pins σ H s) {a : Addr} (h : s.heap.objs.size ≤ a) : a ∉ X.fs := fun hb => by
  obtain ⟨_, o, ho, _⟩ := I.ok.funs.mem hb
  exact absurd (Nat.lt_of_lt_of_le (Heap.lt_size ho) (Nat.le_trans I.sz h)) (Nat.lt_irrefl _)
theorem Inv.cne (I : Inv X pins σ H s) : ∀ x c, X.env.cells.lookup x = some c → c ≠ X.env.locals := fun x c e z => by
  obtain ⟨v, o, ho, hd⟩ := I.cell x c e
  obtain ⟨m, ⟨o', es, ep, ho', hd', _⟩, _⟩ := I.loc
  rw [z, ho'] at ho; cases ho; rw [hd'] at hd; cases hd
theorem Inv.funs (I : Inv X pins σ H s) : s.heap.FunFrames X.base X.outer := by
  have all : ∀ (l : List Env), (∀ b ∈ frs l, b ∈ X.fs) → X.s_0.heap.FunFrames X.base l → s.heap.FunFrames X.base l := by
    intro l
    induction l with
    | nil => intro _ _; trivial
    | cons env r ih =>
      intro hs hl
      obtain ⟨hk, ⟨L, o, hf, hn, ho, hd⟩, hr⟩ := hl
      have hL : L ∈ X.fs := hs L (by unfold frs; rw [List.filterMap_cons, hf]; exact List.mem_cons_self)
      obtain ⟨sl, e⟩ := I.base.slot L o ho (I.ok.frf L hL) hL fun z => I.ok.exfs L z hL
      exact ⟨hk, ⟨L, _, hf, hn, e, hd⟩, ih (fun b hb => hs b (by unfold frs; rw [List.filterMap_cons, hf]; exact List.mem_cons_of_mem _ hb)) hr⟩
  exact all X.outer (fun _ hb => hb) I.ok.funs

/-- the frames that run, for a call -/
theorem Inv.stack (I : Inv X pins σ H s) : s.heap.FunFrames X.base X.stack := by
  rcases I.ok.stk with e | ⟨e, hf⟩
  · rw [e]; exact I.funs
  · rw [e]
    obtain ⟨m, hn, _⟩ := I.loc
    refine .cons (by rw [I.ok.kind]; decide) hf hn ?_ I.funs
    exact Heap.get?_none_of_le (Nat.le_trans I.ok.bsz I.ok.above)
theorem Inv.stkSub (I : Inv X pins σ H s) : ∀ b ∈ frs X.stack, b ∈ X.env.locals :: X.fs := fun b hb => by
  rcases I.ok.stk with e | ⟨e, hf⟩
  · rw [e] at hb; exact List.mem_cons_of_mem _ hb
  · rw [e] at hb
    unfold frs at hb
    rw [List.filterMap_cons, hf] at hb
    exact hb
theorem Inv.stkFree (I : Inv X pins σ H s) : ∀ b ∈ frs X.stack, H b = none := fun b hb => by
  rcases List.mem_cons.mp (I.stkSub b hb) with e | hb
  · rw [e]; exact I.free
  · obtain ⟨_, o, ho, _⟩ := I.ok.funs.mem hb
    exact I.base.free b o ho (I.ok.frf b hb) fun z => I.ok.exfs b z hb

/-- THE STEP: the untracked objects but the frame and the records at ch are kept (the callers' frames up to slots), the frame's map is kept, the new abstract heap is held -/
theorem Inv.step {g' : Array GenState} {t' : Nat} {d' : Drawn} {ch : List Addr} (I : Inv X pins σ H s)
    (hch : ∀ b ∈ ch, (b ∈ X.ex ∨ X.s_0.heap.objs.size ≤ b) ∧ b ≠ X.env.locals ∧ (∀ x c, X.env.cells.lookup x = some c → c ≠ b) ∧ ∀ p ∈ X.pn ++ pins, p.1 ≠ b)
    (keep : ∀ b o, b ≠ X.env.locals → b ∉ X.fs → b ∉ ch → s.heap.get? b = some o → H b = none → h'.get? b = some o)
    (slot : ∀ b o, b ≠ X.env.locals → b ∈ X.fs → b ∉ ch → s.heap.get? b = some o → H b = none → ∃ sl, h'.get? b = some { o with slots := sl }) (free : ∀ b o, b ∉ ch → s.heap.get? b = some o → H b = none → H' b = none)
    (there : ∀ b o, b ∉ ch → s.heap.get? b = some o → ∃ o', h'.get? b = some o')
    (tups : ∀ b xs, H b = some (.tup xs) → H' b = some (.tup xs)) (frzs : ∀ b o u, H b = some (.frz o u) → H' b = some (.frz o u)) (tbls : ∀ b ps, H b = some (.tbl ps) → ∃ more, H' b = some (.tbl (ps ++ more)))
    (ns : ∀ m, s.heap.Ns X.env.locals m → h'.Ns X.env.locals m) (hok : HOk X.prog X.w H' h') (hg : AllBare g') :
    Inv X pins σ H' { s with heap := h', gens := g', drawn := d', toks := t' } := by
  have neL : ∀ b o, X.s_0.heap.get? b = some o → b ≠ X.env.locals := fun b o e => Nat.ne_of_lt (Nat.lt_of_lt_of_le (Heap.lt_size e) I.ok.above)
  have neC : ∀ b o, X.s_0.heap.get? b = some o → b ∉ X.ex → b ∉ ch := fun b o e hx hb => by
    rcases (hch b hb).1 with z | z
    · exact hx z
    · exact absurd (Nat.lt_of_lt_of_le (Heap.lt_size e) z) (Nat.lt_irrefl _)
  have cellK : ∀ x c, X.env.cells.lookup x = some c → ∀ v, s.heap.IsCell c v → h'.IsCell c v := fun x c e v ⟨o, ho, hd⟩ => by
    have nch : c ∉ ch := fun z => (hch c z).2.2.1 x c e rfl
    by_cases hc : c ∈ X.fs
    · obtain ⟨sl, q⟩ := slot c o (I.cne x c e) hc nch ho (I.freeC x c e)
      exact ⟨_, q, hd⟩
    · exact ⟨o, keep c o (I.cne x c e) hc nch ho (I.freeC x c e), hd⟩
  refine ⟨I.ok, I.os, hg, ⟨fun b o e n hb hx => ?_, fun b o e n hb hx => ?_, fun b o e n hx => ?_, fun b o e hx => ?_, fun b xs e => tups b xs (I.base.tups b xs e), fun b o xs e => frzs b o xs (I.base.frzs b o xs e), fun b ps e => ?_⟩, ?_, fun x c e => ?_, ?_, fun x c e => ?_, fun p hp => ?_, hok, I.len⟩
  · exact keep b o (neL b o e) hb (neC b o e hx) (I.base.keep b o e n hb hx) (I.base.free b o e n hx)
  · obtain ⟨sl, e1⟩ := I.base.slot b o e n hb hx
    obtain ⟨sl', e2⟩ := slot b _ (neL b o e) hb (neC b o e hx) e1 (I.base.free b o e n hx)
    exact ⟨sl', e2⟩
  · obtain ⟨o', e1⟩ := I.base.there b o e hx
    exact free b o' (neC b o e hx) e1 (I.base.free b o e n hx)
  · obtain ⟨o', e1⟩ := I.base.there b o e hx
    exact there b o' (neC b o e hx) e1
  · obtain ⟨m1, e1⟩ := I.base.tbls b ps e
    obtain ⟨m2, e2⟩ := tbls b _ e1
    exact ⟨m1 ++ m2, by rw [e2, Array.append_assoc]⟩
  · obtain ⟨m, hn, hl⟩ := I.loc
    refine ⟨m, ns m hn, fun i x v e1 e2 e3 => ?_⟩
    obtain ⟨u, r, l⟩ := hl i x v e1 e2 e3
    refine ⟨u, r, ?_⟩
    rcases l with l | ⟨k, c, e, z⟩
    · exact .inl l
    · exact .inr ⟨k, c, e, cellK x c e _ z⟩
  · obtain ⟨v, z⟩ := I.cell x c e
    exact ⟨v, cellK x c e v z⟩
  · obtain ⟨m, ⟨o, _, _, ho, _⟩, _⟩ := I.loc
    exact free _ o (fun z => (hch _ z).2.1 rfl) ho I.free
  · obtain ⟨v, o, ho, hd⟩ := I.cell x c e
    exact free c o (fun z => (hch c z).2.2.1 x c e rfl) ho (I.freeC x c e)
  · obtain ⟨e, n, ne, nf, d⟩ := I.pin p hp
    have nch : p.1 ∉ ch := fun z => (hch p.1 z).2.2.2 p hp rfl
    exact ⟨keep p.1 p.2 ne nf nch e n, free p.1 p.2 nch e n, ne, nf, d⟩
/-- .. where the frame's own object is kept too -/
theorem Inv.un {t' : Nat} (I : Inv X pins σ H s) (u : Un X.fs [] H H' s.heap h') (hok : HOk X.prog X.w H' h') : Inv X pins σ H' { s with heap := h', toks := t' } := by
  obtain ⟨m, ⟨o, es, ep, ho, r⟩, _⟩ := id I.loc
  obtain ⟨sl, hL⟩ := u.any ho I.free (by simp)
  exact I.step (g' := s.gens) (d' := s.drawn) (ch := []) (fun _ z => nomatch z) (fun b o _ hb _ e n => u.keep b o e n hb (by simp)) (fun b o _ hb _ e n => u.slot b o e n hb (by simp)) (fun b o _ e n => u.free b o e n (by simp)) (fun b o _ e => u.there b o e (by simp)) u.tups u.frzs u.tbls (fun m' hm => by
    obtain ⟨o', es', ep', ho', r'⟩ := hm
    rw [ho] at ho'; cases ho'
    exact ⟨_, es', ep', hL, r'⟩) hok I.bare
/-- behind a call (or a comprehension's block): the slots of this frame may have changed too, the records at ch may have turned -/
theorem Inv.call {g' : Array GenState} {t' : Nat} {d' : Drawn} {ch : List Addr} (I : Inv X pins σ H s) (u : Un (frs X.stack) ch H H' s.heap h') (hok : HOk X.prog X.w H' h') (hg : AllBare g')
    (hch : ∀ b ∈ ch, (b ∈ X.ex ∨ X.s_0.heap.objs.size ≤ b) ∧ b ≠ X.env.locals ∧ (∀ x c, X.env.cells.lookup x = some c → c ≠ b) ∧ ∀ p ∈ X.pn ++ pins, p.1 ≠ b) :
    Inv X pins σ H' { s with heap := h', gens := g', drawn := d', toks := t' } := by
  obtain ⟨m, ⟨o, es, ep, ho, r⟩, _⟩ := id I.loc
  obtain ⟨sl, hL⟩ := u.any ho I.free fun z => (hch _ z).2.1 rfl
  exact I.step (ch := ch) hch (fun b o hL hb hc e n => u.keep b o e n (fun z => (List.mem_cons.mp (I.stkSub b z)).elim hL hb) hc) (fun b o _ _ hc e n => u.any e n hc) (fun b o hc e n => u.free b o e n hc) (fun b o hc e => u.there b o e hc) u.tups u.frzs u.tbls (fun m' hm => by
    obtain ⟨o', es', ep', ho', r'⟩ := hm
    rw [ho] at ho'; cases ho'
    exact ⟨_, es', ep', hL, r'⟩) hok hg
/-- an untracked record of ours (an iterator) has turned -/
theorem Inv.turned {t' : Nat} {it : Addr} (I : Inv X pins σ H s) (k : ∀ b o, b ≠ it → s.heap.get? b = some o → h'.get? b = some o) (hn : H it = none) (hL : it ≠ X.env.locals)
    (h1 : it ∈ X.ex ∨ X.s_0.heap.objs.size ≤ it) (h2 : ∀ x c, X.env.cells.lookup x = some c → c ≠ it) (h3 : ∀ p ∈ X.pn ++ pins, p.1 ≠ it) : Inv X pins σ H { s with heap := h', toks := t' } := by
  have nit : ∀ b u, H b = some u → b ≠ it := fun b u e z => by rw [z, hn] at e; cases e
  refine I.step (g' := s.gens) (d' := s.drawn) (ch := [it]) (fun b hb => ?_) (fun b o _ _ hc e _ => k b o (fun z => hc (by simp [z])) e) (fun b o _ _ hc e _ => ⟨o.slots, k b o (fun z => hc (by simp [z])) e⟩) (fun _ _ _ _ n => n)
    (fun b o hc e => ⟨o, k b o (fun z => hc (by simp [z])) e⟩) (fun _ _ e => e) (fun _ _ _ e => e) (fun b ps e => ⟨#[], by rw [e]; simp⟩) (fun m hm => ?_) (fun b u e => ?_) I.bare
  · have e : b = it := by simpa using hb
    subst e
    exact ⟨h1, hL, h2, h3⟩
  · obtain ⟨o, es, ep, ho, r⟩ := hm
    exact ⟨o, es, ep, k _ o (Ne.symm hL) ho, r⟩
  · refine (I.hok b u e).stay (fun c v hc q => k c v ?_ q) (fun _ q => q) fun _ _ q => q
    rcases hc with z | z
    · rw [z]; exact nit b u e
    · exact nit c _ z
theorem Inv.tok (I : Inv X pins σ H s) (t : Nat) : Inv X pins σ H { s with toks := t } := I.un (h' := s.heap) (t' := t) Un.refl I.hok
/-- all objects kept -/
theorem Inv.kept {t' : Nat} (I : Inv X pins σ H s) (k : ∀ b u, s.heap.get? b = some u → h'.get? b = some u) : Inv X pins σ H { s with heap := h', toks := t' } := I.un (Un.kept k) (I.hok.kept k)
/-- a new object laid and tracked -/
theorem Inv.laid {a : Addr} {o : HO} {t' : Nat} (I : Inv X pins σ H s) (k : ∀ b u, s.heap.get? b = some u → h'.get? b = some u) (hp : s.heap.objs.size ≤ a) (new : ObjOk X.prog X.w (upd H a o) h' a o) :
    Inv X pins σ (upd H a o) { s with heap := h', toks := t' } := I.un (Un.laid k hp (I.hok.fresh hp)) (I.hok.laid k hp new)
/-- an object written -/
theorem Inv.write {x e : Addr} {o : HO} {t' : Nat} (I : Inv X pins σ H s) (mu : Mut (H x)) (he : e = x ∨ H e = some (.own x)) (k : ∀ b u, b ≠ e → s.heap.get? b = some u → h'.get? b = some u) (heo : ∃ u, h'.get? e = some u)
    (new : ObjOk X.prog X.w (upd H x o) h' x o) : Inv X pins σ (upd H x o) { s with heap := h', toks := t' } := I.un (Un.write mu he k heo) (I.hok.write mu he k heo new)
/-- forgetting slots, pins -/
theorem Inv.weak {σ' : List (Option V)} (I : Inv X pins σ H s) (hl : σ'.length = σ.length) (w : ∀ (i : Nat) v, σ'[i]? = some (some v) → σ[i]? = some (some v)) : Inv X pins σ' H s :=
  ⟨I.ok, I.os, I.bare, I.base, let ⟨m, hn, hl'⟩ := I.loc; ⟨m, hn, fun i x v e1 e2 e3 => hl' i x v e1 (w i v e2) e3⟩, I.cell, I.free, I.freeC, I.pin, I.hok, hl.trans I.len⟩
theorem Inv.pins_of {pins' : List (Addr × Obj)} (I : Inv X pins σ H s) (h : ∀ p ∈ pins', s.heap.get? p.1 = some p.2 ∧ H p.1 = none ∧ p.1 ≠ X.env.locals ∧ p.1 ∉ X.fs ∧ ∀ v, p.2.data ≠ .cell v) : Inv X pins' σ H s :=
  ⟨I.ok, I.os, I.bare, I.base, I.loc, I.cell, I.free, I.freeC, fun p hp => (List.mem_append.mp hp).elim (fun z => I.pin p (List.mem_append_left _ z)) (h p), I.hok, I.len⟩

theorem nodup_ix {N : List Str} (hN : N.Nodup) {i j : Nat} {x : Str} (a : N[i]? = some x) (b : N[j]? = some x) : i = j := by
  obtain ⟨h1, e1⟩ := List.getElem?_eq_some_iff.mp a
  obtain ⟨h2, e2⟩ := List.getElem?_eq_some_iff.mp b
  exact (List.getElem_inj hN).mp (e1.trans e2.symm)

/-- a name is stored; what changed -/
theorem store_ok2 {M : Model} {A : Around} {E : Value → Shared → Prop} {i : Nat} {x : Str} {v : V} {u : Value} {Q : Unit → Shared → Prop} (I : Inv X pins σ H s) (hN : X.N.Nodup) (hi : X.N[i]? = some x) (hx : Loc X.env.scope x) (r : RelV v u)
    (h : ∀ s', Inv X pins (σ.set i (some v)) H s' → (∃ a, Heap.SameBut a s.heap s'.heap ∧ (a = X.env.locals ∨ X.env.cells.lookup x = some a)) → Q () s') (hf : X.fn x = true ∨ X.env.scope.names.lookup x = some .local := by first | exact .inl rfl | exact .inr rfl | assumption) : wpAny M A (storeName X.env x u) Q E s := by
  obtain ⟨m, hn, hl⟩ := id I.loc
  have hcls : (X.env.scope.kind == .class || (X.env.scope.kind == .module && X.env.locals != X.env.globals)) = false := by rw [I.ok.kind]; rfl
  have hiσ : i < σ.length := by rw [I.len]; exact (List.getElem?_eq_some_iff.mp hi).1
  have cne := I.cne
  have tracked : ∀ {a : Addr} {h' : Heap}, (∃ o, s.heap.get? a = some o ∧ H a = none) → Heap.SameBut a s.heap h' → HOk X.prog X.w H h' := fun {a h'} ha hs b ob e => by
    obtain ⟨_, _, hfree⟩ := ha
    refine (I.hok b ob e).stay (fun c w' hc q => (hs.2 c ?_).trans q) (fun _ q => q) fun _ _ q => q
    rintro rfl
    rcases hc with rfl | hc
    · rw [hfree] at e; cases e
    · rw [hfree] at hc; cases hc
  rcases hx with hk | hk
  · refine wpAny_storeName_local hk hn (fun h' hn' hs => ?_) hcls
    obtain ⟨oL, _, _, hoL, _⟩ := id hn
    refine h _ ⟨I.ok, I.os, I.bare, ⟨fun b o e n hb hx => ?_, fun b o e n hb hx => ?_, I.base.free, fun b o e hx => ?_, I.base.tups, I.base.frzs, I.base.tbls⟩, ⟨_, hn', fun j y v' e1 e2 e3 => ?_⟩, fun y c e => ?_, I.free, I.freeC, fun p hp => ?_, tracked ⟨oL, hoL, I.free⟩ hs, by simpa using I.len⟩ ⟨_, hs, .inl rfl⟩
    · exact (hs.2 b (Nat.ne_of_lt (Nat.lt_of_lt_of_le (Heap.lt_size e) I.ok.above))).trans (I.base.keep b o e n hb hx)
    · obtain ⟨sl, e1⟩ := I.base.slot b o e n hb hx
      exact ⟨sl, (hs.2 b (Nat.ne_of_lt (Nat.lt_of_lt_of_le (Heap.lt_size e) I.ok.above))).trans e1⟩
    · obtain ⟨o', e1⟩ := I.base.there b o e hx
      exact ⟨o', (hs.2 b (Nat.ne_of_lt (Nat.lt_of_lt_of_le (Heap.lt_size e) I.ok.above))).trans e1⟩
    · by_cases hj : j = i
      · subst hj
        rw [hi] at e1; cases e1
        rw [List.getElem?_set_self hiσ] at e2
        cases e2
        exact ⟨u, r, .inl ⟨hk, by simp⟩⟩
      · rw [List.getElem?_set_ne (Ne.symm hj)] at e2
        obtain ⟨u', r', q⟩ := hl j y v' e1 e2 e3
        refine ⟨u', r', ?_⟩
        rcases q with ⟨k, e⟩ | ⟨k, c, e, z⟩
        · refine .inl ⟨k, ?_⟩
          have : y ≠ x := fun e => hj (nodup_ix hN e1 (e ▸ hi))
          simp [this, e]
        · exact .inr ⟨k, c, e, z.sameBut hs (cne y c e)⟩
    · obtain ⟨w', z⟩ := I.cell y c e
      exact ⟨w', z.sameBut hs (cne y c e)⟩
    · obtain ⟨e, n, ne, nf, d⟩ := I.pin p hp
      exact ⟨(hs.2 p.1 ne).trans e, n, ne, nf, d⟩
  · have hfn : X.fn x = true := by
      rcases hf with z | z
      · exact z
      · rw [z] at hk; cases hk
    obtain ⟨c, hc⟩ := I.ok.has x (.inl hk)
    obtain ⟨w', z⟩ := I.cell x c hc
    refine wpAny_storeName_cell I.ok.kind hk hc z (fun h' hc' hs => ?_)
    obtain ⟨oc, hoc, hocd⟩ := id z
    refine h { s with heap := h' } ⟨I.ok, I.os, I.bare, ⟨fun b o e n hb hx => ?_, fun b o e n hb hx => ?_, I.base.free, fun b o e hx => ?_, I.base.tups, I.base.frzs, I.base.tbls⟩, ⟨m, hn.sameBut hs (Ne.symm (cne x c hc)), fun j y v' e1 e2 e3 => ?_⟩, fun y c' e => ?_, I.free, I.freeC, fun p hp => ?_, tracked ⟨oc, hoc, I.freeC x c hc⟩ hs, by simpa using I.len⟩ ⟨c, hs, .inr hc⟩
    · exact (hs.2 b (Nat.ne_of_lt (Nat.lt_of_lt_of_le (Heap.lt_size e) (I.ok.cab x c hfn hc)))).trans (I.base.keep b o e n hb hx)
    · obtain ⟨sl, e1⟩ := I.base.slot b o e n hb hx
      exact ⟨sl, (hs.2 b (Nat.ne_of_lt (Nat.lt_of_lt_of_le (Heap.lt_size e) (I.ok.cab x c hfn hc)))).trans e1⟩
    · obtain ⟨o', e1⟩ := I.base.there b o e hx
      exact ⟨o', (hs.2 b (Nat.ne_of_lt (Nat.lt_of_lt_of_le (Heap.lt_size e) (I.ok.cab x c hfn hc)))).trans e1⟩
    · by_cases hj : j = i
      · subst hj
        rw [hi] at e1; cases e1
        rw [List.getElem?_set_self hiσ] at e2
        cases e2
        exact ⟨u, r, .inr ⟨.inl hk, c, hc, hc'⟩⟩
      · rw [List.getElem?_set_ne (Ne.symm hj)] at e2
        obtain ⟨u', r', q⟩ := hl j y v' e1 e2 e3
        refine ⟨u', r', ?_⟩
        rcases q with q | ⟨k, c', e, z'⟩
        · exact .inl q
        · refine .inr ⟨k, c', e, z'.sameBut hs ?_⟩
          rintro rfl
          exact hj (nodup_ix hN e1 (I.ok.inj _ _ _ e hc ▸ hi))
    · by_cases hcc : c' = c
      · subst hcc; exact ⟨_, hc'⟩
      · obtain ⟨w2, z2⟩ := I.cell y c' e
        exact ⟨w2, z2.sameBut hs hcc⟩
    · obtain ⟨e, n, ne, nf, d⟩ := I.pin p hp
      refine ⟨(hs.2 p.1 ?_).trans e, n, ne, nf, d⟩
      intro q
      rw [q, hoc] at e
      have q' : oc = p.2 := Option.some.inj e
      exact d w' (by rw [← q']; exact hocd)
theorem store_ok {M : Model} {A : Around} {E : Value → Shared → Prop} {i : Nat} {x : Str} {v : V} {u : Value} {Q : Unit → Shared → Prop} (I : Inv X pins σ H s) (hN : X.N.Nodup) (hi : X.N[i]? = some x) (hx : Loc X.env.scope x) (r : RelV v u)
    (h : ∀ s', Inv X pins (σ.set i (some v)) H s' → Q () s') (hf : X.fn x = true ∨ X.env.scope.names.lookup x = some .local := by first | exact .inl rfl | exact .inr rfl | assumption) : wpAny M A (storeName X.env x u) Q E s :=
  store_ok2 I hN hi hx r (fun s' I' _ => h s' I') hf
/-- behind a call or a block, the state as it is -/
theorem Inv.call' {s' : Shared} {ch : List Addr} (I : Inv X pins σ H s) (ho : s'.os = s.os) (u : Un (frs X.stack) ch H H' s.heap s'.heap) (hok : HOk X.prog X.w H' s'.heap) (hg : AllBare s'.gens)
    (hch : ∀ b ∈ ch, (b ∈ X.ex ∨ X.s_0.heap.objs.size ≤ b) ∧ b ≠ X.env.locals ∧ (∀ x c, X.env.cells.lookup x = some c → c ≠ b) ∧ ∀ p ∈ X.pn ++ pins, p.1 ≠ b) : Inv X pins σ H' s' := by
  obtain ⟨h', g', d', t', o'⟩ := s'
  have e : o' = s.os := ho
  subst e
  exact I.call (g' := g') (t' := t') (d' := d') u hok hg hch
end

/-! ### the judgements -/
/-- an exception: its class, its own dict's address (where it has one), the abstract heap behind it -/
abbrev XK := Value → Option Addr → Hp → Prop
abbrev St := List (Option V)
abbrev VK := V → Hp → Prop
/-- an expression's reading; a test's; an argument list's -/
abbrev TE := St → Hp → VK → Prop
abbrev TT := St → Hp → (Bool → Hp → Prop) → Prop
abbrev TA := St → Hp → (List V → Hp → Prop) → Prop
/-- what is wanted behind a statement -/
structure Ends where
  nx : St → Hp → Prop
  rt : VK
  bk : St → Hp → Prop := fun _ _ => False
  ct : St → Hp → Prop := fun _ _ => False
abbrev TS := Ends → St → Hp → Prop

def EP (X : Cx) (pins : List (Addr × Obj)) (σ : St) (Q : VK) (u : Value) (s' : Shared) : Prop := ∃ v H', Inv X pins σ H' s' ∧ RelV v u ∧ Q v H'
def TP (X : Cx) (pins : List (Addr × Obj)) (σ : St) (Q : Bool → Hp → Prop) (b : Bool) (s' : Shared) : Prop := ∃ H', Inv X pins σ H' s' ∧ Q b H'
def AP (X : Cx) (pins : List (Addr × Obj)) (σ : St) (Q : List V → Hp → Prop) (us : List Value) (s' : Shared) : Prop := ∃ vs H', Inv X pins σ H' s' ∧ Vals vs us ∧ Q vs H'
def SP (X : Cx) (pins : List (Addr × Obj)) (D : Ends) (f : Flow) (s' : Shared) : Prop :=
  match f with
  | .next => ∃ σ' H', Inv X pins σ' H' s' ∧ D.nx σ' H'
  | .brk => ∃ σ' H', Inv X pins σ' H' s' ∧ D.bk σ' H'
  | .cont => ∃ σ' H', Inv X pins σ' H' s' ∧ D.ct σ' H'
  | .ret u => ∃ v σ' H', Inv X pins σ' H' s' ∧ RelV v u ∧ D.rt v H'

def PE (X : Cx) (e : Expr) (t : TE) : Prop :=
  ∀ (pins : List (Addr × Obj)) (s : Shared) (σ : St) (H : Hp) (Q : VK), Inv X pins σ H s → t σ H Q → wpAny (model X.prog X.w) X.A (eval e X.env) (EP X pins σ Q) X.xe s
def PT (X : Cx) (e : Expr) (t : TT) : Prop :=
  ∀ (pins : List (Addr × Obj)) (s : Shared) (σ : St) (H : Hp) (Q : Bool → Hp → Prop), Inv X pins σ H s → t σ H Q → wpAny (model X.prog X.w) X.A (isTrue e X.env (eval e X.env)) (TP X pins σ Q) X.xe s
/-- a test whatever its 'whole' is (and, or) -/
def PW (X : Cx) (e : Expr) (t : TT) : Prop :=
  ∀ (whole : Sem Value) (pins : List (Addr × Obj)) (s : Shared) (σ : St) (H : Hp) (Q : Bool → Hp → Prop), Inv X pins σ H s → t σ H Q → wpAny (model X.prog X.w) X.A (isTrue e X.env whole) (TP X pins σ Q) X.xe s
theorem PW.pt {X : Cx} {e : Expr} {t : TT} (h : PW X e t) : PT X e t := h _
/-- an argument list (no star), from the left -/
def PA (X : Cx) (es : List Expr) (t : TA) : Prop :=
  ∀ (pos : Pos) (pins : List (Addr × Obj)) (s : Shared) (σ : St) (H : Hp) (Q : List V → Hp → Prop), Inv X pins σ H s → t σ H Q → wpAny (model X.prog X.w) X.A (spliced (backTo pos (starEach es X.env))) (AP X pins σ Q) X.xe s
def PS (X : Cx) (st : Stmt) (t : TS) : Prop :=
  ∀ (pins : List (Addr × Obj)) (s : Shared) (σ : St) (H : Hp) (D : Ends), Inv X pins σ H s → t D σ H → wpAny (model X.prog X.w) X.A (exec st X.env) (SP X pins D) X.xe s
def PSs (X : Cx) (st : List Stmt) (t : TS) : Prop :=
  ∀ (pins : List (Addr × Obj)) (s : Shared) (σ : St) (H : Hp) (D : Ends), Inv X pins σ H s → t D σ H → wpAny (model X.prog X.w) X.A (execs st X.env) (SP X pins D) X.xe s
/-- weaken the end -/
theorem thn {α : Type} {t : Sem α} {Q Q' : α → Shared → Prop} {M : Model} {A : Around} {E : Value → Shared → Prop} {s : Shared} (h : wpAny M A t Q E s) (hQ : ∀ a s, Q a s → Q' a s) : wpAny M A t Q' E s := wpAny_mono h hQ fun _ _ x => x
end L2

namespace L2
open PySem PySem.Spec PyProof.Rows
section
variable {X : Cx}

/-- two expressions in a row -/
theorem bin {a b : Expr} {ta tb : TE} (ha : PE X a ta) (hb : PE X b tb) {pins : List (Addr × Obj)} {s : Shared} {σ : St} {H : Hp} {R : V → V → Hp → Prop} (I : Inv X pins σ H s) (h : ta σ H fun x H1 => tb σ H1 fun y H2 => R x y H2)
    {α : Type} {Q : α → Shared → Prop} {f : Value → Value → Sem α}
    (hf : ∀ v u s2 x y H2, Inv X pins σ H2 s2 → RelV x v → RelV y u → R x y H2 → wpAny (model X.prog X.w) X.A (f v u) Q X.xe s2) :
    wpAny (model X.prog X.w) X.A (eval a X.env) (fun v s₁ => wpAny (model X.prog X.w) X.A (eval b X.env) (fun u s₂ => wpAny (model X.prog X.w) X.A (f v u) Q X.xe s₂) X.xe s₁) X.xe s := by
  refine thn (ha pins s σ H _ I h) fun v s1 ⟨x, H1, I1, r1, q1⟩ => ?_
  refine thn (hb pins s1 σ H1 _ I1 q1) fun u s2 ⟨y, H2, I2, r2, q2⟩ => ?_
  exact hf v u s2 x y H2 I2 r1 r2 q2

/-! ### names and constants -/
def tVar (i : Nat) : TE := fun σ H Q => ∃ v, σ[i]? = some (some v) ∧ Q v H
def tC (v : V) : TE := fun _ H Q => Q v H
theorem pe_var {i : Nat} {x : Str} {pos : Pos} (hN : X.N[i]? = some x) (hv : Vis X.env.scope x) (hd : (x == ("__debug__" : Str)) = false := by decide) (hcd : (x == ("__classdict__" : Str)) = false := by decide) : PE X (.Name x pos) (tVar i) := by
  intro pins s σ H Q I h
  obtain ⟨v, e, h⟩ := h
  obtain ⟨m, hn, hl⟩ := I.loc
  obtain ⟨u, r, l⟩ := hl i x v hN e hv
  have fin : EP X pins σ Q u s := ⟨v, H, I, r, h⟩
  rcases l with ⟨hk, hm⟩ | ⟨hk, c, hc, hcell⟩
  · exact wpAny_Name (wpAny_loadName_local I.ok.kind hk hn hm fin) hd
  · rcases hk with hk | hk
    · exact wpAny_Name (wpAny_loadName_cell I.ok.kind hk hc hcell fin) hd
    · exact wpAny_Name (wpAny_loadName_free I.ok.kind hk hc hcell fin hcd) hd
theorem pe_int {i j pos} : PE X (.Constant (.int i) j pos) (tC (.int i)) := fun _ _ _ H _ I h => wpAny_Constant_int ⟨.int i, H, I.tok _, ⟨_, rfl⟩, h⟩
theorem pe_bl {b j pos} : PE X (.Constant (.bool b) j pos) (tC (.bl b)) := fun _ _ _ H _ I h => Constant_bool ⟨.bl b, H, I, rfl, h⟩
theorem pe_non {j pos} : PE X (.Constant .none j pos) (tC .non) := fun _ _ _ H _ I h => Constant_none ⟨.non, H, I, rfl, h⟩
theorem pe_str {x j pos} : PE X (.Constant (.str x) j pos) (tC (.str x)) := fun _ _ _ H _ I h => Calls.Constant_str ⟨.str x, H, I.tok _, ⟨_, rfl⟩, h⟩

/-- a global name of the def -/
def Gl (X : Cx) (x : Str) : Prop := X.env.kindOf x = some .globalImplicit
theorem ld_glob {E : Value → Shared → Prop} {pins : List (Addr × Obj)} {s : Shared} {σ : St} {H : Hp} {x : Str} {u : Value} {pos : Pos} {Q : Value → Shared → Prop} (I : Inv X pins σ H s) (hg : Gl X x) (hm : X.mg x = some u) (h : Q u s)
    (hd : (x == ("__debug__" : Str)) = false := by decide) : wpAny (model X.prog X.w) X.A (eval (.Name x pos) X.env) Q E s :=
  Calls.Name_function_global I.ok.kind hg (Calls.loadGlobal_global (by rw [I.ok.glob]; exact I.mod.glob.keeps I.bk) hm h) hd
theorem ld_blt {E : Value → Shared → Prop} {pins : List (Addr × Obj)} {s : Shared} {σ : St} {H : Hp} {x : Str} {u : Value} {pos : Pos} {Q : Value → Shared → Prop} (I : Inv X pins σ H s) (hg : Gl X x) (hm : X.mg x = none) (hv : bootBuiltins x = some u) (h : Q u s)
    (hn : x ≠ "__name__" := by decide) (hd : (x == ("__debug__" : Str)) = false := by decide) : wpAny (model X.prog X.w) X.A (eval (.Name x pos) X.env) Q E s := by
  obtain ⟨mb, h1, h2⟩ := I.mod.blt
  exact Calls.Name_function_global I.ok.kind hg (Calls.loadGlobal_builtin (by rw [I.ok.glob]; exact I.mod.glob.keeps I.bk) hm (by rw [I.ok.blt]; exact h1.keeps I.bk) ((h2 x hn).trans hv) h) hd
/-- a module's constant, a class, a function, as a value -/
theorem pe_glob {x : Str} {v : V} {u : Value} {pos : Pos} (hg : Gl X x) (hm : X.mg x = some u) (r : RelV v u) (hd : (x == ("__debug__" : Str)) = false := by decide) : PE X (.Name x pos) (tC v) :=
  fun _ _ _ H _ I h => ld_glob I hg hm ⟨v, H, I, r, h⟩ hd
theorem pe_bltn {x : Str} {v : V} {u : Value} {pos : Pos} (hg : Gl X x) (hm : X.mg x = none) (hv : bootBuiltins x = some u) (r : RelV v u) (hn : x ≠ "__name__" := by decide) (hd : (x == ("__debug__" : Str)) = false := by decide) : PE X (.Name x pos) (tC v) :=
  fun _ _ _ H _ I h => ld_blt I hg hm hv ⟨v, H, I, r, h⟩ hn hd

/-! ### arithmetic -/
/-- two ints -/
def t2I (ta tb : TE) (k : Int → Int → Hp → Prop) : St → Hp → Prop := fun σ H => ta σ H fun x H1 => tb σ H1 fun y H2 => ∃ i j, x = .int i ∧ y = .int j ∧ k i j H2
def tAdd (ta tb : TE) : TE := fun σ H Q => t2I ta tb (fun i j H2 => Q (.int (i + j)) H2) σ H
def tSub (ta tb : TE) : TE := fun σ H Q => t2I ta tb (fun i j H2 => Q (.int (i - j)) H2) σ H
/-- the left factor below 2^64 -/
def tMul (ta tb : TE) : TE := fun σ H Q => t2I ta tb (fun i j H2 => (-(2 ^ 64) < i ∧ i < 2 ^ 64) ∧ Q (.int (i * j)) H2) σ H
variable {a b : Expr} {ta tb : TE} {pos : Pos}
theorem pe_add (ha : PE X a ta) (hb : PE X b tb) : PE X (.BinOp a .Add b pos) (tAdd ta tb) := by
  intro pins s σ H Q I h
  refine wpAny_BinOp (bin ha hb I h fun v u s2 x y H2 I2 rx ry q => ?_)
  obtain ⟨i, j, rfl, rfl, q⟩ := q
  obtain ⟨t, rfl⟩ := rx
  obtain ⟨t', rfl⟩ := ry
  exact add_int ⟨.int _, H2, I2.tok _, ⟨_, rfl⟩, q⟩
theorem pe_sub (ha : PE X a ta) (hb : PE X b tb) : PE X (.BinOp a .Sub b pos) (tSub ta tb) := by
  intro pins s σ H Q I h
  refine wpAny_BinOp (bin ha hb I h fun v u s2 x y H2 I2 rx ry q => ?_)
  obtain ⟨i, j, rfl, rfl, q⟩ := q
  obtain ⟨t, rfl⟩ := rx
  obtain ⟨t', rfl⟩ := ry
  exact sub_int ⟨.int _, H2, I2.tok _, ⟨_, rfl⟩, q⟩
theorem pe_mul (ha : PE X a ta) (hb : PE X b tb) : PE X (.BinOp a .Mult b pos) (tMul ta tb) := by
  intro pins s σ H Q I h
  refine wpAny_BinOp (bin ha hb I h fun v u s2 x y H2 I2 rx ry q => ?_)
  obtain ⟨i, j, rfl, rfl, ⟨q1, q2⟩, q⟩ := q
  obtain ⟨t, rfl⟩ := rx
  obtain ⟨t', rfl⟩ := ry
  exact mul_int ⟨.int _, H2, I2.tok _, ⟨_, rfl⟩, q⟩ (.of_left (intBits_le_64 q1 q2))

/-! ### comparisons -/
def PC (X : Cx) (op : CmpOp) (a b : Expr) (t : TE) : Prop :=
  ∀ (pins : List (Addr × Obj)) (s : Shared) (σ : St) (H : Hp) (Q : VK), Inv X pins σ H s → t σ H Q →
    wpAny (model X.prog X.w) X.A (eval a X.env) (fun v s₁ => wpAny (model X.prog X.w) X.A (eval b X.env) (fun u s₂ => wpAny (model X.prog X.w) X.A (compareOp op v u) (EP X pins σ Q) X.xe s₂) X.xe s₁) X.xe s
theorem nobehind (b : Expr) {op : CmpOp} (h : op ≠ .In) (h2 : op ≠ .NotIn) : behindInMarks op b = false := by
  have e1 : (op == CmpOp.In) = false := by cases op <;> first | rfl | exact absurd rfl h
  have e2 : (op == CmpOp.NotIn) = false := by cases op <;> first | rfl | exact absurd rfl h2
  cases b <;> simp [behindInMarks, e1, e2]
def tCmp (p : Int → Int → Bool) (ta tb : TE) : TE := fun σ H Q => t2I ta tb (fun i j H2 => Q (.bl (p i j)) H2) σ H
abbrev tLt : TE → TE → TE := tCmp fun i j => decide (i < j)
abbrev tLe : TE → TE → TE := tCmp fun i j => decide (i ≤ j)
abbrev tGt : TE → TE → TE := tCmp fun i j => decide (j < i)
abbrev tGe : TE → TE → TE := tCmp fun i j => decide (j ≤ i)
abbrev tEqI : TE → TE → TE := tCmp fun i j => decide (i = j)
abbrev tNeI : TE → TE → TE := tCmp fun i j => !decide (i = j)
/-- a comparison of two ints, by its rule -/
theorem pc_int {op : CmpOp} {p : Int → Int → Bool} (ha : PE X a ta) (hb : PE X b tb)
    (rule : ∀ (i j : Int) (t u : Tok) (Q : Value → Shared → Prop) (s : Shared), Q (.bool (p i j)) s → wpAny (model X.prog X.w) X.A (compareOp op (.int i t) (.int j u)) Q X.xe s) : PC X op a b (tCmp p ta tb) := by
  intro pins s σ H Q I h
  refine bin ha hb I h fun v u s2 x y H2 I2 rx ry q => ?_
  obtain ⟨i, j, rfl, rfl, q⟩ := q
  obtain ⟨t, rfl⟩ := rx
  obtain ⟨t', rfl⟩ := ry
  exact rule i j t t' _ s2 ⟨.bl _, H2, I2, rfl, q⟩
theorem pc_lt (ha : PE X a ta) (hb : PE X b tb) : PC X .Lt a b (tLt ta tb) := pc_int ha hb fun _ _ _ _ _ _ h => lt_int h
theorem pc_le (ha : PE X a ta) (hb : PE X b tb) : PC X .LtE a b (tLe ta tb) := pc_int ha hb fun _ _ _ _ _ _ h => le_int h
theorem pc_gt (ha : PE X a ta) (hb : PE X b tb) : PC X .Gt a b (tGt ta tb) := pc_int ha hb fun _ _ _ _ _ _ h => gt_int h
theorem pc_ge (ha : PE X a ta) (hb : PE X b tb) : PC X .GtE a b (tGe ta tb) := pc_int ha hb fun _ _ _ _ _ _ h => ge_int h
theorem pc_eqI (ha : PE X a ta) (hb : PE X b tb) : PC X .Eq a b (tEqI ta tb) := pc_int ha hb fun _ _ _ _ _ _ h => eq_int (by rw [Bool.beq_eq_decide_eq]; exact h)
theorem pc_neI (ha : PE X a ta) (hb : PE X b tb) : PC X .NotEq a b (tNeI ta tb) := pc_int ha hb fun _ _ _ _ _ _ h => ne_int (by rw [bne, Bool.beq_eq_decide_eq]; exact h)
/-- is None -/
def tIsN (ta : TE) : TE := fun σ H Q => ta σ H fun x H1 => Q (.bl (decide (x = .non))) H1
def tNotN (ta : TE) : TE := fun σ H Q => ta σ H fun x H1 => Q (.bl (!decide (x = .non))) H1
theorem RelV.none_iff {x : V} {v : Value} (r : RelV x v) : (v == Value.none) = decide (x = .non) := by
  cases x with
  | non => cases r; rfl
  | bl _ => cases r; rfl
  | int _ => obtain ⟨t, rfl⟩ := r; rfl
  | str _ => obtain ⟨t, rfl⟩ := r; rfl
  | byt _ => obtain ⟨t, rfl⟩ := r; rfl
  | flt _ => obtain ⟨t, rfl⟩ := r; rfl
  | ref _ => cases r; rfl
  | ty _ => cases r; rfl
theorem pc_isN {j pos'} (ha : PE X a ta) : PC X .Is a (.Constant .none j pos') (tIsN ta) := by
  intro pins s σ H Q I h
  refine thn (ha pins s σ H _ I h) fun v s1 ⟨x, H1, I1, r1, q1⟩ => ?_
  exact Constant_none (is_none_gen ⟨.bl _, H1, I1, by rw [r1.none_iff]; rfl, q1⟩)
theorem pc_notN {j pos'} (ha : PE X a ta) : PC X .IsNot a (.Constant .none j pos') (tNotN ta) := by
  intro pins s σ H Q I h
  refine thn (ha pins s σ H _ I h) fun v s1 ⟨x, H1, I1, r1, q1⟩ => ?_
  exact Constant_none (isnot_none_gen ⟨.bl _, H1, I1, by rw [r1.none_iff]; rfl, q1⟩)
/-- a comparison as a value, as a test -/
def tB (t : TE) : TT := fun σ H Q => t σ H fun x H1 => ∃ c, x = .bl c ∧ Q c H1
theorem pe_cmp {op : CmpOp} {t : TE} (h : PC X op a b t) (h1 : behindInMarks op b = false := by first | exact nobehind _ (by decide) (by decide) | rfl) : PE X (.Compare a [op] [b] pos) t := fun pins s σ H Q I hw => wpAny_Compare1 (h pins s σ H Q I hw) h1
theorem pt_cmp {op : CmpOp} {t : TE} (h : PC X op a b t) (h1 : behindInMarks op b = false := by first | exact nobehind _ (by decide) (by decide) | rfl) : PT X (.Compare a [op] [b] pos) (tB t) := by
  intro pins s σ H Q I hw
  refine wpAny_isTrue_Compare1 (thn (h pins s σ H _ I hw) fun v s1 h1 => thn h1 fun u s2 h2 => thn h2 fun c s3 ⟨x, H1, I1, r1, q1⟩ => ?_) h1
  obtain ⟨d, rfl, q⟩ := q1
  cases r1
  exact wpAny_truthy_bool ⟨H1, I1, q⟩
/-- an expression whose value is a bool, as a test -/
theorem pt_val {e : Expr} {t : TE} (h : PE X e t) (he : ∀ whole, isTrue e X.env whole = (do let v ← whole; standAt e.pos; holding [v] (truthy v)) := by intro _; rfl) : PT X e (tB t) := by
  intro pins s σ H Q I hw
  refine isTrue_plain (thn (h pins s σ H _ I hw) fun v s1 ⟨x, H1, I1, r1, q1⟩ => ?_) (he _)
  obtain ⟨d, rfl, q⟩ := q1
  cases r1
  exact wpAny_truthy_bool ⟨H1, I1, q⟩

/-! ### and, or, not -/
variable {tA tB' : TT} {rest : List Expr}
def tAnd (t u : TT) : TT := fun σ H Q => t σ H fun c H1 => if c = true then u σ H1 Q else Q false H1
def tOr (t u : TT) : TT := fun σ H Q => t σ H fun c H1 => if c = true then Q true H1 else u σ H1 Q
def tNot (t : TT) : TT := fun σ H Q => t σ H fun c H1 => Q (!c) H1
theorem pw_and1 (ha : PT X a tA) : PW X (.BoolOp .And [a] pos) tA := by
  intro wh pins s σ H Q I h
  refine isTrue_and (thn (ha pins s σ H Q I h) fun c s1 e => ?_)
  cases c with
  | true => exact isTrue_and_nil e
  | false => exact e
theorem pw_or1 (ha : PT X a tA) : PW X (.BoolOp .Or [a] pos) tA := by
  intro wh pins s σ H Q I h
  refine isTrue_or (thn (ha pins s σ H Q I h) fun c s1 e => ?_)
  cases c with
  | false => exact isTrue_or_nil e
  | true => exact e
theorem pw_and (ha : PT X a tA) (hb : PW X (.BoolOp .And (b :: rest) pos) tB') : PW X (.BoolOp .And (a :: b :: rest) pos) (tAnd tA tB') := by
  intro wh pins s σ H Q I h
  refine isTrue_and (thn (ha pins s σ H _ I h) fun c s1 ⟨H1, I1, q1⟩ => ?_)
  cases c with
  | true => exact hb wh pins s1 σ H1 Q I1 q1
  | false => exact ⟨H1, I1, q1⟩
theorem pw_or (ha : PT X a tA) (hb : PW X (.BoolOp .Or (b :: rest) pos) tB') : PW X (.BoolOp .Or (a :: b :: rest) pos) (tOr tA tB') := by
  intro wh pins s σ H Q I h
  refine isTrue_or (thn (ha pins s σ H _ I h) fun c s1 ⟨H1, I1, q1⟩ => ?_)
  cases c with
  | true => exact ⟨H1, I1, q1⟩
  | false => exact hb wh pins s1 σ H1 Q I1 q1
theorem pt_not (ha : PT X a tA) : PT X (.UnaryOp .Not a pos) (tNot tA) := by
  intro pins s σ H Q I h
  exact isTrue_not (ha pins s σ H (fun c H1 => Q (!c) H1) I h)
/-- .. as values (bools) -/
def tAndV (ta tb : TE) : TE := fun σ H Q => ta σ H fun x H1 => ∃ c, x = .bl c ∧ if c = true then tb σ H1 Q else Q (.bl false) H1
def tOrV (ta tb : TE) : TE := fun σ H Q => ta σ H fun x H1 => ∃ c, x = .bl c ∧ if c = true then Q (.bl true) H1 else tb σ H1 Q
def tNotV (ta : TE) : TE := fun σ H Q => ta σ H fun x H1 => ∃ c, x = .bl c ∧ Q (.bl (!c)) H1
theorem pe_one {op} {t : TE} (h : PE X a t) : PE X (.BoolOp op [a] pos) t := fun pins s σ H Q I hw => BoolOp_one (h pins s σ H Q I hw)
theorem pe_and (ha : PE X a ta) (hb : PE X (.BoolOp .And (b :: rest) pos) tb) : PE X (.BoolOp .And (a :: b :: rest) pos) (tAndV ta tb) := by
  intro pins s σ H Q I h
  refine BoolOp_and (thn (ha pins s σ H _ I h) fun v s1 ⟨x, H1, I1, r1, q1⟩ => ?_)
  obtain ⟨c, rfl, q1⟩ := q1
  cases r1
  refine wpAny_truthy_bool ?_
  cases c with
  | true => exact hb pins s1 σ H1 Q I1 q1
  | false => exact ⟨.bl false, H1, I1, rfl, q1⟩
theorem pe_or (ha : PE X a ta) (hb : PE X (.BoolOp .Or (b :: rest) pos) tb) : PE X (.BoolOp .Or (a :: b :: rest) pos) (tOrV ta tb) := by
  intro pins s σ H Q I h
  refine BoolOp_or (thn (ha pins s σ H _ I h) fun v s1 ⟨x, H1, I1, r1, q1⟩ => ?_)
  obtain ⟨c, rfl, q1⟩ := q1
  cases r1
  refine wpAny_truthy_bool ?_
  cases c with
  | false => exact hb pins s1 σ H1 Q I1 q1
  | true => exact ⟨.bl true, H1, I1, rfl, q1⟩
theorem pe_not (ha : PE X a ta) : PE X (.UnaryOp .Not a pos) (tNotV ta) := by
  intro pins s σ H Q I h
  refine UnaryOp_ (thn (ha pins s σ H _ I h) fun v s1 ⟨x, H1, I1, r1, q1⟩ => ?_)
  obtain ⟨c, rfl, q1⟩ := q1
  cases r1
  exact not_of (wpAny_truthy_bool ⟨.bl (!c), H1, I1, rfl, q1⟩)
/-- a if t else b -/
def tIf (t : TT) (ta tb : TE) : TE := fun σ H Q => t σ H fun c H1 => if c = true then ta σ H1 Q else tb σ H1 Q
theorem pe_ifExp {c : Expr} (hc : PT X c tA) (ha : PE X a ta) (hb : PE X b tb) : PE X (.IfExp c a b pos) (tIf tA ta tb) := by
  intro pins s σ H Q I h
  refine wpAny_IfExp (thn (hc pins s σ H _ I h) fun d s1 ⟨H1, I1, q1⟩ => ?_)
  cases d with
  | true => exact ha pins s1 σ H1 Q I1 q1
  | false => exact hb pins s1 σ H1 Q I1 q1
end
end L2

namespace L2
open PySem PySem.Spec PyProof.Rows

/-! ### a list, a tuple that is read: tracked, frozen, or an object of the module -/
def SqL (K : PySem.W.Frag) (H : Hp) (a : Addr) (xs : List V) : Prop :=
  Rd H a (.lst xs) ∨
    ∃ (o : Obj) (its : Array Value) (n : Nat), K.lookup a = some o ∧ o.cls = .type "list" ∧ o.dict = none ∧ o.data = .seq its n ∧ its.size ≤ sizeLine ∧ Vals xs its.toList
def SqT (K : PySem.W.Frag) (H : Hp) (a : Addr) (xs : List V) : Prop :=
  Rd H a (.tup xs) ∨
    ∃ (o : Obj) (its : Array Value) (n : Nat), K.lookup a = some o ∧ o.cls = .type "tuple" ∧ o.data = .seq its n ∧ its.size ≤ sizeLine ∧ Vals xs its.toList
def absV : Value → Option V
  | .none => some .non
  | .bool b => some (.bl b)
  | .int i _ => some (.int i)
  | .str x _ => some (.str x)
  | .bytes b _ => some (.byt b)
  | .float b _ => some (.flt b)
  | .ref a => some (.ref a)
  | .type n => some (.ty n)
  | _ => none
theorem RelV.abs {x : V} {u : Value} (r : RelV x u) : absV u = some x := by
  cases x with
  | non => cases r; rfl
  | bl _ => cases r; rfl
  | int _ => obtain ⟨t, rfl⟩ := r; rfl
  | str _ => obtain ⟨t, rfl⟩ := r; rfl
  | byt _ => obtain ⟨t, rfl⟩ := r; rfl
  | flt _ => obtain ⟨t, rfl⟩ := r; rfl
  | ref _ => cases r; rfl
  | ty _ => cases r; rfl
theorem RelV.inj {x y : V} {u : Value} (r : RelV x u) (q : RelV y u) : x = y := Option.some.inj (r.abs.symm.trans q.abs)
theorem Vals.inj : ∀ {xs ys : List V} {us : List Value}, Vals xs us → Vals ys us → xs = ys
  | _, _, _, .nil, .nil => rfl
  | _, _, _, .cons r t, .cons r' t' => by rw [r.inj r', Vals.inj t t']
section
variable {X : Cx} {pins : List (Addr × Obj)} {σ : St} {H : Hp} {s : Shared} {a : Addr} {xs ys : List V}
theorem SqL.of {K : PySem.W.Frag} (h : H a = some (.lst xs)) : SqL K H a xs := .inl (.inl h)
theorem SqT.of {K : PySem.W.Frag} (h : H a = some (.tup xs)) : SqT K H a xs := .inl (.inl h)
theorem Inv.list (I : Inv X pins σ H s) (h : SqL X.K H a xs) : ∃ its : List Value, Vals xs its ∧ PlainL s.heap a its.toArray ∧ xs.length ≤ sizeLine := by
  rcases h with h | ⟨o, its, n, hk, hc, hd, hs, hz, r⟩
  · obtain ⟨z, its, n, r, e⟩ := h.ok I.hok
    exact ⟨its, r, ⟨_, n, e, rfl, rfl, rfl⟩, z⟩
  · refine ⟨its.toList, r, ⟨o, n, I.kIn a o hk, hc, hd, by simpa using hs⟩, ?_⟩
    have e := r.length
    simp only [Array.length_toList] at e
    omega
theorem Inv.tuple (I : Inv X pins σ H s) (h : SqT X.K H a xs) : ∃ its : List Value, Vals xs its ∧ IsTup s.heap a its.toArray ∧ xs.length ≤ sizeLine := by
  rcases h with h | ⟨o, its, n, hk, hc, hs, hz, r⟩
  · obtain ⟨z, its, r, p⟩ := h.ok I.hok
    exact ⟨its, r, p, z⟩
  · refine ⟨its.toList, r, ⟨o, I.kIn a o hk, hc, n, by simpa using hs⟩, ?_⟩
    have e := r.length
    simp only [Array.length_toList] at e
    omega
theorem Inv.list_inj (I : Inv X pins σ H s) (h : SqL X.K H a xs) (h' : SqL X.K H a ys) : xs = ys := by
  obtain ⟨its, r, ⟨o, n, e, _, _, d⟩, _⟩ := I.list h
  obtain ⟨its', r', ⟨o', n', e', _, _, d'⟩, _⟩ := I.list h'
  rw [e] at e'; cases e'
  rw [d] at d'
  injection d' with d1 _
  have : its = its' := by simpa using congrArg Array.toList d1
  subst this
  exact r.inj r'
theorem Inv.tuple_inj (I : Inv X pins σ H s) (h : SqT X.K H a xs) (h' : SqT X.K H a ys) : xs = ys := by
  obtain ⟨its, r, ⟨o, e, _, n, d⟩, _⟩ := I.tuple h
  obtain ⟨its', r', ⟨o', e', _, n', d'⟩, _⟩ := I.tuple h'
  rw [e] at e'; cases e'
  rw [d] at d'
  injection d' with d1 _
  have : its = its' := by simpa using congrArg Array.toList d1
  subst this
  exact r.inj r'
end

/-! ### another wish about exceptions -/
abbrev Cx.wish (X : Cx) (E : Value → Shared → Prop) : Cx := { X with xe := E }
/-- no exception leaves -/
abbrev Cx.nox (X : Cx) : Cx := X.wish fun _ _ => False
theorem Cx.Ok.wish {X : Cx} (ok : X.Ok) (E : Value → Shared → Prop) : (X.wish E).Ok :=
  ⟨ok.mod, ok.kind, ok.glob, ok.blt, ok.above, ok.inj, ok.has, ok.cab, ok.hd, ok.frames, ok.stk, ok.exf, ok.bs, ok.bsz, ok.noex, ok.exfs, ok.funs, ok.frf⟩
theorem Cx.Ok.unwish {X : Cx} {E : Value → Shared → Prop} (ok : (X.wish E).Ok) : X.Ok :=
  ⟨ok.mod, ok.kind, ok.glob, ok.blt, ok.above, ok.inj, ok.has, ok.cab, ok.hd, ok.frames, ok.stk, ok.exf, ok.bs, ok.bsz, ok.noex, ok.exfs, ok.funs, ok.frf⟩
section
variable {X : Cx} {pins : List (Addr × Obj)} {σ : St} {H : Hp} {s : Shared} {E : Value → Shared → Prop}
theorem Inv.wish (I : Inv X pins σ H s) (E : Value → Shared → Prop) : Inv (X.wish E) pins σ H s := ⟨I.ok.wish E, I.os, I.bare, I.base, I.loc, I.cell, I.free, I.freeC, I.pin, I.hok, I.len⟩
theorem Inv.unwish (I : Inv (X.wish E) pins σ H s) : Inv X pins σ H s := ⟨I.ok.unwish, I.os, I.bare, I.base, I.loc, I.cell, I.free, I.freeC, I.pin, I.hok, I.len⟩
theorem SP.unwish {D : Ends} {f : Flow} {s' : Shared} (h : SP (X.wish E) pins D f s') : SP X pins D f s' := by
  cases f with
  | next => obtain ⟨σ', H', I, q⟩ := h; exact ⟨σ', H', I.unwish, q⟩
  | brk => obtain ⟨σ', H', I, q⟩ := h; exact ⟨σ', H', I.unwish, q⟩
  | cont => obtain ⟨σ', H', I, q⟩ := h; exact ⟨σ', H', I.unwish, q⟩
  | ret u => obtain ⟨v, σ', H', I, r, q⟩ := h; exact ⟨v, σ', H', I.unwish, r, q⟩
theorem PE.nox {e : Expr} {t : TE} (h : PE X.nox e t) : PE X e t := fun pins s σ H Q I hw =>
  wpAny_mono (h pins s σ H Q (I.wish _) hw) (fun _ _ ⟨v, H', I', r, q⟩ => ⟨v, H', I'.unwish, r, q⟩) fun _ _ z => False.elim z
theorem PT.nox {e : Expr} {t : TT} (h : PT X.nox e t) : PT X e t := fun pins s σ H Q I hw =>
  wpAny_mono (h pins s σ H Q (I.wish _) hw) (fun _ _ ⟨H', I', q⟩ => ⟨H', I'.unwish, q⟩) fun _ _ z => False.elim z
theorem PSs.nox {st : List Stmt} {t : TS} (h : PSs X.nox st t) : PSs X st t := fun pins s σ H D I hw =>
  wpAny_mono (h pins s σ H D (I.wish _) hw) (fun _ _ q => q.unwish) fun _ _ z => False.elim z
end

/-! ### blocks and small statements -/
section
variable {X : Cx} {st : Stmt} {rest : List Stmt} {t u : TS} {e : Expr} {te : TE} {pos : Pos}
def tNext : TS := fun D σ H => D.nx σ H
def tSeq (t u : TS) : TS := fun D σ H => t { D with nx := u D } σ H
theorem pss_nil : PSs X [] tNext := fun _ _ σ H _ I h => wpAny_execs_nil ⟨σ, H, I, h⟩
theorem pss_cons (h1 : PS X st t) (h2 : PSs X rest u) : PSs X (st :: rest) (tSeq t u) := by
  intro pins s σ H D I h
  refine wpAny_execs_cons (thn (h1 pins s σ H { D with nx := u D } I h) fun f s1 q => ?_)
  cases f with
  | next =>
    obtain ⟨σ', H', I', q⟩ := q
    exact h2 pins s1 σ' H' D I' q
  | ret v => exact q
  | brk => exact q
  | cont => exact q
theorem pss_one (h1 : PS X st t) : PSs X [st] t := by
  intro pins s σ H D I h
  refine wpAny_execs_cons (thn (h1 pins s σ H D I h) fun f s1 q => ?_)
  cases f with
  | next => exact wpAny_execs_nil q
  | ret v => exact q
  | brk => exact q
  | cont => exact q
def tBreak : TS := fun D σ H => D.bk σ H
def tCont : TS := fun D σ H => D.ct σ H
theorem ps_pass : PS X (.Pass pos) tNext := fun _ _ σ H _ I h => wpAny_Pass ⟨σ, H, I, h⟩
theorem ps_break : PS X (.Break pos) tBreak := fun _ _ σ H _ I h => wpAny_Break ⟨σ, H, I, h⟩
theorem ps_continue : PS X (.Continue pos) tCont := fun _ _ σ H _ I h => wpAny_Continue ⟨σ, H, I, h⟩
/-- in a def's body nothing is shown -/
theorem Inv.quiet {pins : List (Addr × Obj)} {σ : St} {H : Hp} {s : Shared} (I : Inv X pins σ H s) : interactive X.env = false := by simp [interactive, I.ok.kind]
/-- a docstring -/
theorem ps_doc {x j pos pos'} : PS X (.Expr (.Constant (.str x) j pos) pos') tNext := fun _ s σ H _ I h => wpAny_Expr (Calls.Constant_str (show SP X _ _ .next { s with toks := s.toks + 1 } from ⟨σ, H, I.tok _, h⟩)) I.quiet
/-- an expression whose value is dropped -/
def tDrop (te : TE) : TS := fun D σ H => te σ H fun _ H1 => D.nx σ H1
theorem ps_expr (he : PE X e te) (hs : swapsWith e none pos.line X.env = pure false := by rfl) : PS X (.Expr e pos) (tDrop te) := by
  intro pins s σ H D I h
  exact wpAny_Expr_any (thn (he pins s σ H _ I h) fun v s1 ⟨x, H1, I1, r1, q1⟩ => ⟨σ, H1, I1, q1⟩) I.quiet hs
def tRet (te : TE) : TS := fun D σ H => te σ H D.rt
theorem ps_ret (he : PE X e te) : PS X (.Return (some e) pos) (tRet te) := by
  intro pins s σ H D I h
  exact wpAny_Return_some (thn (he pins s σ H _ I h) fun v s1 ⟨x, H1, I1, r1, q1⟩ => ⟨x, σ, H1, I1, r1, q1⟩)
def tRetN : TS := fun D _ H => D.rt .non H
theorem ps_retN : PS X (.Return none pos) tRetN := fun _ _ σ H _ I h => wpAny_Return_none ⟨.non, σ, H, I, rfl, h⟩
def tIfS (c : TT) (t u : TS) : TS := fun D σ H => c σ H fun b H1 => if b = true then t D σ H1 else u D σ H1
theorem ps_if {c : Expr} {a b : List Stmt} {tc : TT} (hc : PT X c tc) (ha : PSs X a t) (hb : PSs X b u) : PS X (.If c a b pos) (tIfS tc t u) := by
  intro pins s σ H D I h
  refine wpAny_If (thn (hc pins s σ H _ I h) fun d s1 ⟨H1, I1, q1⟩ => ?_)
  cases d with
  | true => exact ha pins s1 σ H1 D I1 q1
  | false => exact hb pins s1 σ H1 D I1 q1
/-- code that the proof never comes to -/
def tNever : TS := fun _ _ _ => False
theorem ps_never : PS X st tNever := fun _ _ _ _ _ _ h => h.elim
theorem pss_never {sts : List Stmt} : PSs X sts tNever := fun _ _ _ _ _ _ h => h.elim
end

/-! ### targets -/
abbrev TG := V → St → Hp → (St → Hp → Prop) → Prop
abbrev TGs := List V → St → Hp → (St → Hp → Prop) → Prop
def PG (X : Cx) (target : Expr) (t : TG) : Prop :=
  ∀ (pins : List (Addr × Obj)) (s : Shared) (σ : St) (H : Hp) (v : V) (u : Value) (Q : St → Hp → Prop), Inv X pins σ H s → RelV v u → t v σ H Q →
    wpAny (model X.prog X.w) X.A (assign target X.env u) (fun _ s' => ∃ σ' H', Inv X pins σ' H' s' ∧ Q σ' H') X.xe s
/-- several targets, one after another -/
def PGs (X : Cx) (ts : List Expr) (t : TGs) : Prop :=
  ∀ (pins : List (Addr × Obj)) (s : Shared) (σ : St) (H : Hp) (vs : List V) (us : List Value) (Q : St → Hp → Prop), Inv X pins σ H s → Vals vs us → t vs σ H Q →
    wpAny (model X.prog X.w) X.A (assignInOrder ((assignEach ts X.env).map (·.2)) us) (fun _ s' => ∃ σ' H', Inv X pins σ' H' s' ∧ Q σ' H') X.xe s
/-- o[i] = v, by values -/
abbrev TSet := V → V → V → Hp → (Hp → Prop) → Prop
def PSet (X : Cx) (t : TSet) : Prop :=
  ∀ (pins : List (Addr × Obj)) (s : Shared) (σ : St) (H : Hp) (o i v : V) (ov iv u : Value) (Q : Hp → Prop), Inv X pins σ H s → RelV o ov → RelV i iv → RelV v u → t o i v H Q →
    wpAny (model X.prog X.w) X.A (setItem ov iv u) (fun _ s' => ∃ H', Inv X pins σ H' s' ∧ Q H') X.xe s
/-- a op= b, by values -/
abbrev TIp := V → V → Hp → VK → Prop
def PIp (X : Cx) (op : Operator) (t : TIp) : Prop :=
  ∀ (pins : List (Addr × Obj)) (s : Shared) (σ : St) (H : Hp) (x y : V) (v u : Value) (Q : VK), Inv X pins σ H s → RelV x v → RelV y u → t x y H Q →
    wpAny (model X.prog X.w) X.A (inplaceOp op v u) (EP X pins σ Q) X.xe s
section
variable {X : Cx} {pos : Pos}
def gName (i : Nat) : TG := fun v σ H Q => Q (σ.set i (some v)) H
theorem pg_name {i : Nat} {x : Str} (hN : X.N.Nodup) (hi : X.N[i]? = some x) (hx : Loc X.env.scope x) (hf : X.fn x = true ∨ X.env.scope.names.lookup x = some .local := by first | exact .inl rfl | exact .inr rfl | assumption) : PG X (.Name x pos) (gName i) := by
  intro pins s σ H v u Q I r h
  exact wpAny_assign_Name (store_ok I hN hi hx r (fun s' I' => ⟨_, H, I', h⟩) hf)
def gNil : TGs := fun vs σ H Q => vs = [] ∧ Q σ H
def gCons (t : TG) (u : TGs) : TGs := fun vs σ H Q => ∃ v r, vs = v :: r ∧ t v σ H fun σ' H' => u r σ' H' Q
theorem pgs_nil : PGs X [] gNil := by
  intro pins s σ H vs us Q I r h
  obtain ⟨e, h⟩ := h
  subst e
  cases r
  exact assignInOrder_nil ⟨σ, H, I, h⟩
theorem pgs_cons {e : Expr} {es : List Expr} {t : TG} {u : TGs} (h1 : PG X e t) (h2 : PGs X es u)
    (hs : (assignEach (e :: es) X.env).map (·.2) = assign e X.env :: (assignEach es X.env).map (·.2) := by rfl) : PGs X (e :: es) (gCons t u) := by
  intro pins s σ H vs us Q I r h
  obtain ⟨v, vr, e1, h⟩ := h
  subst e1
  cases r with
  | cons r rr =>
    rw [hs]
    refine assignInOrder_cons (thn (h1 pins s σ H _ _ _ I r h) fun _ s1 ⟨σ1, H1, I1, q1⟩ => ?_)
    exact h2 pins s1 σ1 H1 _ _ Q I1 rr q1
/-- (a, b, ..) = a tuple of that length -/
def gTup (K : PySem.W.Frag) (n : Nat) (t : TGs) : TG := fun v σ H Q => ∃ a xs, v = .ref a ∧ SqT K H a xs ∧ xs.length = n ∧ t xs σ H Q
theorem pg_tup {es : List Expr} {k : Nat} {t : TGs} {n : Nat} (hc : X.calm = true) (h : PGs X es t)
    (hn : (assignEach es X.env).length = n := by rfl) (hst : (assignEach es X.env).findIdx? (·.1) = none := by rfl) : PG X (.Tuple es k pos) (gTup X.K n t) := by
  intro pins s σ H v u Q I r hw
  obtain ⟨a, xs, e1, hq, hl, hw⟩ := hw
  subst e1
  cases r
  obtain ⟨its, rv, ht, hz⟩ := I.tuple hq
  refine assign_Tuple_tuple (I.ok.hd hc) ht (by simp [hn, ← hl, rv.length]) hst fun h' hx => ?_
  have I1 : Inv X pins σ H { s with heap := h' } := I.kept (t' := s.toks) fun b o e => hx b o (Nat.ne_of_lt (Heap.lt_size e)) e
  exact h pins _ σ H xs _ Q I1 (by simpa using rv) hw
/-- o[i] = .. -/
def gSub (to ti : TE) (t : TSet) : TG := fun v σ H Q => to σ H fun o H1 => ti σ H1 fun i H2 => t o i v H2 fun H3 => Q σ H3
theorem pg_sub {o i : Expr} {to ti : TE} {t : TSet} (ho : PE X o to) (hi : PE X i ti) (hs : PSet X t)
    (ha : ∀ v, assign (.Subscript o i pos) X.env v = (do
      let ov ← holding [v] (eval o X.env)
      let iv ← holding [v, ov] (eval i X.env)
      standAt pos
      holding [v, ov, iv] (setItem ov iv v)
      release [v, ov, iv] []) := by intro _; rfl) : PG X (.Subscript o i pos) (gSub to ti t) := by
  intro pins s σ H v u Q I r h
  rw [ha]
  refine wpAny_bind (wpAny_holding (thn (ho pins s σ H _ I h) fun ov s1 ⟨x, H1, I1, r1, q1⟩ => ?_))
  refine wpAny_bind (wpAny_holding (thn (hi pins s1 σ H1 _ I1 q1) fun iv s2 ⟨y, H2, I2, r2, q2⟩ => ?_))
  refine wpAny_bind (wpAny_standAt (wpAny_bind (wpAny_holding (thn (hs pins s2 σ H2 x y v ov iv u _ I2 r1 r2 r q2) fun _ s3 ⟨H3, I3, q3⟩ => ?_))))
  exact wpAny_release ⟨σ, H3, I3, q3⟩
/-- target = value -/
def tAsg (te : TE) (g : TG) : TS := fun D σ H => te σ H fun x H1 => g x σ H1 D.nx
theorem ps_asg {tg e : Expr} {te : TE} {g : TG} (he : PE X e te) (hg : PG X tg g) (hs : swapsWithSole [tg] e pos.line X.env = pure false := by rfl) (hw : swappedStores [tg] e X.env = pure none := by rfl)
    (h1 : (assignEach [tg] X.env).map (·.2) = [assign tg X.env] := by rfl) : PS X (.Assign [tg] e pos) (tAsg te g) := by
  intro pins s σ H D I h
  refine wpAny_Assign_stores (thn (he pins s σ H _ I h) fun v s1 ⟨x, H1, I1, r1, q1⟩ => ?_) hs hw
  rw [h1]
  exact thn (hg pins s1 σ H1 x v _ I1 r1 q1) fun _ s2 q => q
/-- name = value -/
theorem ps_set {i : Nat} {x : Str} {e : Expr} {te : TE} {pos' : Pos} (hN : X.N.Nodup) (hi : X.N[i]? = some x) (hx : Loc X.env.scope x) (he : PE X e te) (hs : swapsWith e (some (.Name x pos')) pos.line X.env = pure false := by rfl) (hf : X.fn x = true ∨ X.env.scope.names.lookup x = some .local := by first | exact .inl rfl | exact .inr rfl | assumption) :
    PS X (.Assign [.Name x pos'] e pos) (tAsg te (gName i)) := by
  intro pins s σ H D I h
  refine wpAny_Assign_Name (thn (he pins s σ H _ I h) fun v s1 ⟨y, H1, I1, r1, q1⟩ => ?_) hs
  exact store_ok I1 hN hi hx r1 (fun s2 I2 => ⟨_, H1, I2, q1⟩) hf
/-- a, b = x, y with plain local names: stored from the right; the pair itself is not tracked (the opening rows as in PyProof/Rows/TupAssign.lean:23) -/
def tPar (i j : Nat) (ta : TA) : TS := fun D σ H => ta σ H fun vs H1 => ∃ v w, vs = [v, w] ∧ D.nx ((σ.set i (some v)).set j (some w)) H1
theorem ps_par {i j : Nat} {x y : Str} {a b : Expr} {ta : TA} {px py pt : Pos} {kt k2 pt2} (hc : X.calm = true) (hN : X.N.Nodup) (hi : X.N[i]? = some x) (hj : X.N[j]? = some y) (hij : i ≠ j)
    (hx : X.env.scope.names.lookup x = some .local) (hy : X.env.scope.names.lookup y = some .local) (ha : PA X [a, b] ta)
    (hw : swappedStores [.Tuple [.Name x px, .Name y py] kt pt] (.Tuple [a, b] k2 pt2) X.env = pure (some [x, y]))
    (hs : swapsWithSole [.Tuple [.Name x px, .Name y py] kt pt] (.Tuple [a, b] k2 pt2) pos.line X.env = pure false := by rfl) :
    PS X (.Assign [.Tuple [.Name x px, .Name y py] kt pt] (.Tuple [a, b] k2 pt2) pos) (tPar i j ta) := by
  intro pins s σ H D I h
  rw [exec_Assign_arm]
  refine wpAny_bind (wpAny_standAt ?_)
  rw [hs]
  refine wpAny_bind (wpAny_pure ?_)
  rw [if_neg (by decide)]
  refine wpAny_bind (Tuple_ (thn (ha _ pins s σ H _ I h) fun us s1 ⟨vs, H1, I1, r1, q1⟩ => ?_))
  obtain ⟨v, w, e1, q1⟩ := q1
  subst e1
  obtain ⟨u1, u2, rfl, rv, rw'⟩ : ∃ u1 u2, us = [u1, u2] ∧ RelV v u1 ∧ RelV w u2 := by
    cases r1 with
    | cons p q =>
      cases q with
      | cons p' q' =>
        cases q'
        exact ⟨_, _, rfl, p, p'⟩
  refine wpAny_newObj_type ?_ (by show 2 ≤ sizeLine; decide)
  have I2 : Inv X pins σ H1 { s1 with heap := s1.heap.push { cls := .type "tuple", data := .seq [u1, u2].toArray } } := I1.kept (t' := s1.toks) fun b o e => Heap.get?_push_of_some _ e
  rw [hw]
  refine wpAny_bind (wpAny_pure ?_)
  show wpAny (model X.prog X.w) X.A (do rule "assign.swapped-stores"; let items ← unpackItems (.ref s1.heap.objs.size) 2 none; assignInOrder [fun v => bindName X.env y v, fun v => bindName X.env x v] items.reverse; pure Flow.next) _ _ _
  refine wpAny_bind (wpAny_rule (wpAny_bind (unpackItems_tuple (items := #[u1, u2]) (I.ok.hd hc) (IsTup.new s1.heap _) fun h' hx' => ?_)))
  have I3 := I2.kept (h' := h') (t' := s1.toks) fun b o e => hx' b o (Nat.ne_of_lt (Heap.lt_size e)) e
  show wpAny _ _ (assignInOrder [fun v => bindName X.env y v, fun v => bindName X.env x v] [u2, u1] >>= fun _ => pure Flow.next) _ _ _
  refine wpAny_bind (assignInOrder_cons (wpAny_bindName (store_ok I3 hN hj (.inl hy) rw' (fun s2 I4 => ?_) (.inr hy))))
  refine assignInOrder_cons (wpAny_bindName (store_ok I4 hN hi (.inl hx) rv (fun s3 I5 => assignInOrder_nil (wpAny_pure ?_)) (.inr hx)))
  rw [List.set_comm _ _ (Ne.symm hij)] at I5
  exact ⟨_, H1, I5, q1⟩
/-- name op= e -/
def tAug (i : Nat) (te : TE) (ti : TIp) : TS := fun D σ H => ∃ x, σ[i]? = some (some x) ∧ te σ H fun y H1 => ti x y H1 fun z H2 => D.nx (σ.set i (some z)) H2
theorem ps_aug {i : Nat} {x : Str} {e : Expr} {te : TE} {op : Operator} {ti : TIp} {pos' : Pos} (hN : X.N.Nodup) (hi : X.N[i]? = some x) (hx : Loc X.env.scope x) (he : PE X e te) (ho : PIp X op ti) (hf : X.fn x = true ∨ X.env.scope.names.lookup x = some .local := by first | exact .inl rfl | exact .inr rfl | assumption) :
    PS X (.AugAssign (.Name x pos') op e pos) (tAug i te ti) := by
  intro pins s σ H D I h
  obtain ⟨v, e1, h⟩ := h
  obtain ⟨m, hn, hl⟩ := I.loc
  have vis : Vis X.env.scope x := by rcases hx with k | k; exact .inl k; exact .inr (.inl k)
  obtain ⟨u, r, l⟩ := hl i x v hi e1 vis
  refine wpAny_AugAssign_Name ?_
  have go : wpAny (model X.prog X.w) X.A (eval e X.env) (fun w s₂ => wpAny (model X.prog X.w) X.A (inplaceOp op u w) (fun r s₃ => wpAny (model X.prog X.w) X.A (storeName X.env x r) (fun _ => SP X pins D .next) X.xe s₃) X.xe s₂) X.xe s := by
    refine thn (he pins s σ H _ I h) fun w s1 ⟨y, H1, I1, r1, q1⟩ => ?_
    refine thn (ho pins s1 σ H1 v y u w _ I1 r r1 q1) fun z s2 ⟨zv, H2, I2, r2, q2⟩ => ?_
    exact store_ok I2 hN hi hx r2 (fun s3 I3 => ⟨_, H2, I3, q2⟩) hf
  rcases l with ⟨hk, hm⟩ | ⟨hk, c, hc, hcell⟩
  · exact wpAny_loadName_local I.ok.kind hk hn hm go
  · rcases hk with hk | hk
    · exact wpAny_loadName_cell I.ok.kind hk hc hcell go
    · rcases hx with k | k
      · have : X.env.scope.names.lookup x = some .free := hk
        rw [k] at this; cases this
      · have : X.env.scope.names.lookup x = some .free := hk
        rw [k] at this; cases this
/-- o[i] op= e -/
def tAugS (to ti te : TE) (tget : V → V → Hp → VK → Prop) (tip : TIp) (tset : TSet) : TS := fun D σ H => to σ H fun o H1 => ti σ H1 fun i H2 => tget o i H2 fun x H3 => te σ H3 fun y H4 => tip x y H4 fun z H5 => tset o i z H5 fun H6 => D.nx σ H6
/-- o[i], by values -/
def PGet (X : Cx) (t : V → V → Hp → VK → Prop) : Prop :=
  ∀ (pins : List (Addr × Obj)) (s : Shared) (σ : St) (H : Hp) (o i : V) (ov iv : Value) (Q : VK), Inv X pins σ H s → RelV o ov → RelV i iv → t o i H Q →
    wpAny (model X.prog X.w) X.A (getItem ov iv) (EP X pins σ Q) X.xe s
theorem ps_augS {o i e : Expr} {to ti te : TE} {tget : V → V → Hp → VK → Prop} {tip : TIp} {tset : TSet} {op : Operator} {tpos : Pos} (ho : PE X o to) (hi : PE X i ti) (hg : PGet X tget) (he : PE X e te) (hp : PIp X op tip) (hs : PSet X tset)
    (ha : ∀ ov iv new, augStore i ov iv new = (do holding [new, ov, iv] (setItem ov iv new); release [new, ov, iv] []; pure .next) := by intros; rfl) : PS X (.AugAssign (.Subscript o i tpos) op e pos) (tAugS to ti te tget tip tset) := by
  intro pins s σ H D I h
  refine wpAny_AugAssign_SubscriptAny (thn (ho pins s σ H _ I h) fun ov s1 ⟨x1, H1, I1, r1, q1⟩ => ?_) ha
  refine thn (hi pins s1 σ H1 _ I1 q1) fun iv s2 ⟨x2, H2, I2, r2, q2⟩ => ?_
  refine thn (hg pins s2 σ H2 x1 x2 ov iv _ I2 r1 r2 q2) fun old s3 ⟨x3, H3, I3, r3, q3⟩ => ?_
  refine thn (he pins s3 σ H3 _ I3 q3) fun v s4 ⟨x4, H4, I4, r4, q4⟩ => ?_
  refine thn (hp pins s4 σ H4 x3 x4 old v _ I4 r3 r4 q4) fun new s5 ⟨x5, H5, I5, r5, q5⟩ => ?_
  exact thn (hs pins s5 σ H5 x1 x2 x5 ov iv new _ I5 r1 r2 r5 q5) fun _ s6 ⟨H6, I6, q6⟩ => ⟨σ, H6, I6, q6⟩
/-- ints -/
def ipI (f : Int → Int → Int) : TIp := fun x y H Q => ∃ i j, x = .int i ∧ y = .int j ∧ Q (.int (f i j)) H
theorem ip_add : PIp X .Add (ipI fun i j => i + j) := by
  intro pins s σ H x y v u Q I r1 r2 h
  obtain ⟨i, j, e1, e2, q⟩ := h
  subst e1; subst e2
  obtain ⟨t, rfl⟩ := r1
  obtain ⟨t', rfl⟩ := r2
  exact iadd_int ⟨.int _, H, I.tok _, ⟨_, rfl⟩, q⟩
theorem ip_sub : PIp X .Sub (ipI fun i j => i - j) := by
  intro pins s σ H x y v u Q I r1 r2 h
  obtain ⟨i, j, e1, e2, q⟩ := h
  subst e1; subst e2
  obtain ⟨t, rfl⟩ := r1
  obtain ⟨t', rfl⟩ := r2
  exact isub_int ⟨.int _, H, I.tok _, ⟨_, rfl⟩, q⟩
end

/-! ### while -/
section
variable {X : Cx} {pos : Pos}
/-- the invariant W with its measure -/
def tWhile (c : TT) (tb : TS) : TS := fun D σ H => ∃ W : Nat → St → Hp → Prop, (∃ m, W m σ H) ∧ ∀ m σ H, W m σ H →
  c σ H fun b H1 => if b = true then ∃ N : St → Hp → Prop, (∀ σ' H', N σ' H' → ∃ m', m' < m ∧ W m' σ' H') ∧ tb { D with nx := N, ct := N, bk := D.nx } σ H1 else D.nx σ H1
theorem ps_while {c : Expr} {body : List Stmt} {tc : TT} {tb : TS} (hp : PassesOwn (model X.prog X.w) X.A X.env X.xe) (hc : PT X c tc) (hb : PSs X body tb) : PS X (.While c body [] pos) (tWhile tc tb) := by
  intro pins s σ H D I h
  obtain ⟨W, ⟨m0, w0⟩, turn⟩ := h
  refine wpAny_While (codeAny_whileLoop (fun n s' => ∃ σ' H', Inv X pins σ' H' s' ∧ W n σ' H') ?_ m0 ⟨σ, H, I, w0⟩)
  rintro n s1 ⟨σ1, H1, I1, w1⟩
  refine wpAny_passesOwn hp (thn (hc pins s1 σ1 H1 _ I1 (turn n σ1 H1 w1)) fun b s2 ⟨H2, I2, q2⟩ => ?_)
  cases b with
  | true =>
    obtain ⟨N, hN, q2⟩ := q2
    rw [if_pos rfl]
    refine wpAny_passesOwn hp (thn (hb pins s2 σ1 H2 _ I2 q2) fun f s3 q3 => ?_)
    cases f with
    | next =>
      obtain ⟨σ3, H3, I3, n3⟩ := q3
      obtain ⟨m', hm, w3⟩ := hN σ3 H3 n3
      exact ⟨m', hm, σ3, H3, I3, w3⟩
    | cont =>
      obtain ⟨σ3, H3, I3, n3⟩ := q3
      obtain ⟨m', hm, w3⟩ := hN σ3 H3 n3
      exact ⟨m', hm, σ3, H3, I3, w3⟩
    | brk => exact q3
    | ret v => exact q3
  | false =>
    rw [if_neg Bool.false_ne_true]
    exact wpAny_execs_nil ⟨σ1, H2, I2, q2⟩
end

/-! ### what a loop or a comprehension walks -/
/-- at turn i: it yields x (the heap may grow), or it stops -/
structure It where
  go : Nat → Hp → Prop
  yld : Nat → Hp → V → Hp → Prop
  stop : Nat → Hp → Prop
/-- the iterator's own objects may turn: they are not the frame's, not pinned, younger than the entry (or a comprehension's own) -/
def FpOk (X : Cx) (pins : List (Addr × Obj)) (H : Hp) (b : Addr) : Prop :=
  H b = none ∧ b ≠ X.env.locals ∧ b ∉ X.fs ∧ (b ∈ X.ex ∨ X.s_0.heap.objs.size ≤ b) ∧ (∀ x c, X.env.cells.lookup x = some c → c ≠ b) ∧ ∀ p ∈ X.pn ++ pins, p.1 ≠ b
theorem Inv.fpOk {X : Cx} {pins : List (Addr × Obj)} {σ : St} {H H' : Hp} {s : Shared} {b : Addr} (I : Inv X pins σ H s) (hb : s.heap.objs.size ≤ b) (hn : H' b = none) : FpOk X pins H' b := by
  refine ⟨hn, Nat.ne_of_gt (Nat.lt_of_lt_of_le I.lt hb), I.nofs hb, .inr (Nat.le_trans I.sz hb), fun x c e z => ?_, fun p hp z => ?_⟩
  · obtain ⟨v, q⟩ := I.cell x c e
    exact absurd (Nat.lt_of_lt_of_le q.lt (by rw [z]; exact hb)) (Nat.lt_irrefl _)
  · exact absurd (Nat.lt_of_lt_of_le (Heap.lt_size (I.pin p hp).1) (by rw [z]; exact hb)) (Nat.lt_irrefl _)
structure Turn (P : Program) (w : World) (K : PySem.W.Frag) (tg : Expr) (J : It) (fp : List Addr) (it : Addr) (tn : Nat → Heap → Prop) : Prop where
  mem : it ∈ fp
  obj : ∀ i h, tn i h → ∀ b ∈ fp, ∃ o, h.get? b = some o ∧ ∀ v, o.data ≠ .cell v
  keep : ∀ i h h', tn i h → (∀ b ∈ fp, ∀ o, h.get? b = some o → h'.get? b = some o) → tn i h'
  item : ∀ (X : Cx), X.prog = P → X.w = w → X.K = K → X.calm = true → ∀ (i : Nat) (pins : List (Addr × Obj)) (s : Shared) (σ : St) (H : Hp) (E : Value → Shared → Prop), Inv X pins σ H s → (∀ b ∈ fp, FpOk X pins H b) → tn i s.heap → J.go i H →
    wpAny (model P w) X.A (pyNext (.ref it)) (fun r s1 => ∃ u, r = some u ∧
      wpAny (model P w) X.A (letOwnedTupleGo tg (.ref it) u) (fun _ s2 => ∃ x H', Inv X pins σ H' s2 ∧ RelV x u ∧ J.yld i H x H' ∧ tn (i + 1) s2.heap ∧ ∀ b ∈ fp, H' b = none) E s1) E s
  done : ∀ (X : Cx), X.prog = P → X.w = w → X.K = K → X.calm = true → ∀ (i : Nat) (pins : List (Addr × Obj)) (s : Shared) (σ : St) (H : Hp) (E : Value → Shared → Prop), Inv X pins σ H s → (∀ b ∈ fp, FpOk X pins H b) → tn i s.heap → J.stop i H →
    wpAny (model P w) X.A (pyNext (.ref it)) (fun r s1 => r = none ∧ Inv X pins σ H s1) E s
  self : ∀ (A : Around) (i : Nat) (s : Shared) (Q : Value → Shared → Prop) (E : Value → Shared → Prop), tn i s.heap → Q (.ref it) s → wpAny (model P w) A (pyIter (.ref it)) Q E s
abbrev TI := St → Hp → (It → Hp → Prop) → Prop
/-- an iterator has come -/
def PIE (X : Cx) (pins : List (Addr × Obj)) (σ : St) (tg : Expr) (R : It → Hp → Prop) (itv : Value) (s2 : Shared) : Prop :=
  ∃ (it : Addr) (fp : List Addr) (tn : Nat → Heap → Prop) (J : It) (H' : Hp), itv = .ref it ∧ Inv X pins σ H' s2 ∧ Turn X.prog X.w X.K tg J fp it tn ∧ tn 0 s2.heap ∧ (∀ b ∈ fp, FpOk X pins H' b) ∧ R J H'
def PI (X : Cx) (tg iter : Expr) (wi : TI) : Prop :=
  ∀ (pins : List (Addr × Obj)) (s : Shared) (σ : St) (H : Hp) (R : It → Hp → Prop), Inv X pins σ H s → wi σ H R →
    wpAny (model X.prog X.w) X.A (eval iter X.env) (fun v s1 => wpAny (model X.prog X.w) X.A (pyIter v) (PIE X pins σ tg R) X.xe s1) X.xe s

/-- the step ahead of the store is nothing for an iterator that keeps no tuple -/
theorem go_of {M : Model} {A : Around} {E : Value → Shared → Prop} {s : Shared} {tg : Expr} {it : Addr} {u : Value} {o : Obj} {n : String} {vs : Array Value} {Q : Unit → Shared → Prop} (ho : s.heap.get? it = some o) (hc : o.cls = .type n) (hd : o.data = .fields vs)
    (hn : ["enumerate", "zip", "dict_itemiterator", "dict_reverseitemiterator", "odict_iterator", "itertools.zip_longest", "itertools.pairwise"].contains n = false) (hQ : Q () s) : wpAny M A (letOwnedTupleGo tg (.ref it) u) Q E s := by
  unfold letOwnedTupleGo
  cases tg <;> first
    | exact wpAny_pure hQ
    | (cases u <;> first
        | exact wpAny_pure hQ
        | (refine wpAny_bind (wpAny_load ho ?_)
           rw [hc, hd]
           show wpAny M A (if (["enumerate", "zip", "dict_itemiterator", "dict_reverseitemiterator", "odict_iterator", "itertools.zip_longest", "itertools.pairwise"].contains n && vs[0]? == some (rawInt _)) = true then _ else _) Q E s
           rw [if_neg (by intro h; rw [hn, Bool.false_and] at h; cases h)]
           exact wpAny_pure hQ))

/-- the list at a, as it stands at each turn (a loop may append to it) -/
def Itl (K : PySem.W.Frag) (a : Addr) : It :=
  ⟨fun i H => ∃ xs x, SqL K H a xs ∧ xs[i]? = some x, fun i H x H' => H' = H ∧ ∀ xs, SqL K H a xs → xs[i]? = some x, fun i H => ∃ xs, SqL K H a xs ∧ xs.length ≤ i⟩
def Itt (K : PySem.W.Frag) (a : Addr) : It :=
  ⟨fun i H => ∃ xs x, SqT K H a xs ∧ xs[i]? = some x, fun i H x H' => H' = H ∧ ∀ xs, SqT K H a xs → xs[i]? = some x, fun i H => ∃ xs, SqT K H a xs ∧ xs.length ≤ i⟩
/-- lo, lo + 1, .. (n of them) -/
def Itr (lo : Int) (n : Nat) : It := ⟨fun i _ => i < n, fun i H x H' => H' = H ∧ x = .int (lo + i), fun i _ => n ≤ i⟩
theorem turn_list {P : Program} {w : World} {K : PySem.W.Frag} {tg : Expr} (a it : Addr) : Turn P w K tg (Itl K a) [it] it (fun i h => h.IsListIter it a i) where
  mem := by simp
  obj := fun i h st b hb => by
    have e : b = it := by simpa using hb
    subst e
    obtain ⟨o, e, c, d⟩ := st
    exact ⟨o, e, fun v z => by rw [d] at z; cases z⟩
  keep := fun i h h' st k => st.at fun o e => k it (by simp) o e
  item := by
    intro X hP hw hK hc i pins s σ H E I hf st hg
    subst hP hw hK
    obtain ⟨xs, x, hq, hx⟩ := hg
    obtain ⟨its, rv, p, hz⟩ := I.list hq
    obtain ⟨u, hu, ru⟩ := rv.get hx
    obtain ⟨f0, f1, f2, f3, f4, f5⟩ := hf it (by simp)
    refine wpAny_pyNext_list_item st p.isList (x := u) (by simpa using hu) fun h' st' sb => ?_
    have I1 : Inv X pins σ H { s with heap := h' } := I.turned (t' := s.toks) (fun b o hb e => (sb.2 b hb).trans e) f0 f1 f3 f4 f5
    obtain ⟨o, e, c, d⟩ := id st'
    exact ⟨u, rfl, go_of (s := { s with heap := h' }) e c d (by decide) ⟨x, H, I1, ru, ⟨rfl, fun ys hy => by rw [I.list_inj hy hq]; exact hx⟩, st', fun b hb => (hf b hb).1⟩⟩
  done := by
    intro X hP hw hK hc i pins s σ H E I hf st hg
    subst hP hw hK
    obtain ⟨xs, hq, hx⟩ := hg
    obtain ⟨its, rv, p, hz⟩ := I.list hq
    obtain ⟨f0, f1, f2, f3, f4, f5⟩ := hf it (by simp)
    have hl := rv.length
    exact wpAny_pyNext_list_end (I.ok.hd hc) st p.isList (by simp; omega) fun h' eb => ⟨rfl, I.turned (t' := s.toks) (fun b o hb e => eb b o hb e) f0 f1 f3 f4 f5⟩
  self := fun _ _ _ _ _ st h => wpAny_pyIter_listiter st h
theorem turn_tuple {P : Program} {w : World} {K : PySem.W.Frag} {tg : Expr} (a it : Addr) : Turn P w K tg (Itt K a) [it] it (fun i h => h.IsTupleIter it a i) where
  mem := by simp
  obj := fun i h st b hb => by
    have e : b = it := by simpa using hb
    subst e
    obtain ⟨o, e, c, d⟩ := st
    exact ⟨o, e, fun v z => by rw [d] at z; cases z⟩
  keep := fun i h h' st k => st.at fun o e => k it (by simp) o e
  item := by
    intro X hP hw hK hc i pins s σ H E I hf st hg
    subst hP hw hK
    obtain ⟨xs, x, hq, hx⟩ := hg
    obtain ⟨its, rv, p, hz⟩ := I.tuple hq
    obtain ⟨u, hu, ru⟩ := rv.get hx
    obtain ⟨f0, f1, f2, f3, f4, f5⟩ := hf it (by simp)
    refine wpAny_pyNext_tuple_item st (show s.heap.IsTuple a its.toArray from p) (x := u) (by simpa using hu) fun h' st' sb => ?_
    have I1 : Inv X pins σ H { s with heap := h' } := I.turned (t' := s.toks) (fun b o hb e => (sb.2 b hb).trans e) f0 f1 f3 f4 f5
    obtain ⟨o, e, c, d⟩ := id st'
    exact ⟨u, rfl, go_of (s := { s with heap := h' }) e c d (by decide) ⟨x, H, I1, ru, ⟨rfl, fun ys hy => by rw [I.tuple_inj hy hq]; exact hx⟩, st', fun b hb => (hf b hb).1⟩⟩
  done := by
    intro X hP hw hK hc i pins s σ H E I hf st hg
    subst hP hw hK
    obtain ⟨xs, hq, hx⟩ := hg
    obtain ⟨its, rv, p, hz⟩ := I.tuple hq
    obtain ⟨f0, f1, f2, f3, f4, f5⟩ := hf it (by simp)
    have hl := rv.length
    exact wpAny_pyNext_tuple_end (I.ok.hd hc) st (show s.heap.IsTuple a its.toArray from p) (by simp; omega) fun h' eb => ⟨rfl, I.turned (t' := s.toks) (fun b o hb e => eb b o hb e) f0 f1 f3 f4 f5⟩
  self := fun _ _ _ _ _ st h => wpAny_pyIter_tupleiter st h
theorem turn_range {P : Program} {w : World} {K : PySem.W.Frag} {tg : Expr} (it : Addr) (lo : Int) (n : Nat) : Turn P w K tg (Itr lo n) [it] it (fun i h => IsRangeIter h it (lo + (i : Nat) * 1) ((n : Int) - (i : Nat)) 1) where
  mem := by simp
  obj := fun i h st b hb => by
    have e : b = it := by simpa using hb
    subst e
    exact ⟨_, st, fun v z => by
      have z' : Data.fields _ = Data.cell v := z
      cases z'⟩
  keep := fun i h h' st k => k it (by simp) _ st
  item := by
    intro X hP hw hK hc i pins s σ H E I hf st hg
    subst hP hw hK
    obtain ⟨f0, f1, f2, f3, f4, f5⟩ := hf it (by simp)
    have W := Walks.range (prog := X.prog) (w := X.w) (I.ok.hd hc) it lo 1 n
    refine W.item i s _ _ hg st fun v h' tk hv st' kk => ?_
    obtain ⟨t, rfl⟩ := hv
    have I1 : Inv X pins σ H { s with heap := h', toks := tk } := I.turned (fun b o hb e => kk b o (by simpa using hb) e) f0 f1 f3 f4 f5
    refine ⟨_, rfl, go_of (s := { s with heap := h', toks := tk }) (n := "range_iterator") st' rfl rfl (by decide) ⟨.int (lo + i), H, I1, ⟨t, ?_⟩, ⟨rfl, rfl⟩, st', fun b hb => (hf b hb).1⟩⟩
    rw [Int.mul_one]
  done := by
    intro X hP hw hK hc i pins s σ H E I hf st hg
    subst hP hw hK
    obtain ⟨f0, f1, f2, f3, f4, f5⟩ := hf it (by simp)
    exact wpAny_pyNext_range_end (I.ok.hd hc) st (by have : n ≤ i := hg; omega) fun h' eb => ⟨rfl, I.turned (t' := s.toks) (fun b o hb e => eb b o hb e) f0 f1 f3 f4 f5⟩
  self := fun _ _ _ _ _ st h => wpAny_pyIter_rangeiter st h
end L2

namespace L2
open PySem PySem.Spec PyProof.Rows
section
variable {X : Cx} {tg : Expr}
def iList (K : PySem.W.Frag) (tl : TE) : TI := fun σ H R => tl σ H fun x H1 => ∃ a, x = .ref a ∧ (∃ xs, SqL K H1 a xs) ∧ R (Itl K a) H1
def iTup (K : PySem.W.Frag) (tl : TE) : TI := fun σ H R => tl σ H fun x H1 => ∃ a, x = .ref a ∧ (∃ xs, SqT K H1 a xs) ∧ R (Itt K a) H1
theorem pi_list {l : Expr} {tl : TE} (hl : PE X l tl) : PI X tg l (iList X.K tl) := by
  intro pins s σ H R I h
  refine thn (hl pins s σ H _ I h) fun v s1 ⟨x, H1, I1, r1, q1⟩ => ?_
  obtain ⟨a, e, ⟨xs, hq⟩, q⟩ := q1
  subst e
  cases r1
  obtain ⟨its, rv, p, hz⟩ := I1.list hq
  refine wpAny_pyIter_list p.isList ?_
  refine ⟨s1.heap.objs.size, [s1.heap.objs.size], _, _, H1, rfl, I1.kept (t' := s1.toks) fun b o e => Heap.get?_push_of_some _ e, turn_list a _, ⟨_, Heap.get?_push_size _ rfl, rfl, rfl⟩, fun b hb => ?_, q⟩
  have e : b = s1.heap.objs.size := by simpa using hb
  subst e
  exact I1.fpOk (Nat.le_refl _) (I1.hok.fresh (Nat.le_refl _))
theorem pi_tup {l : Expr} {tl : TE} (hl : PE X l tl) : PI X tg l (iTup X.K tl) := by
  intro pins s σ H R I h
  refine thn (hl pins s σ H _ I h) fun v s1 ⟨x, H1, I1, r1, q1⟩ => ?_
  obtain ⟨a, e, ⟨xs, hq⟩, q⟩ := q1
  subst e
  cases r1
  obtain ⟨its, rv, p, hz⟩ := I1.tuple hq
  refine wpAny_pyIter_tuple (show s1.heap.IsTuple a its.toArray from p) ?_
  refine ⟨s1.heap.objs.size, [s1.heap.objs.size], _, _, H1, rfl, I1.kept (t' := s1.toks) fun b o e => Heap.get?_push_of_some _ e, turn_tuple a _, ⟨_, Heap.get?_push_size _ rfl, rfl, rfl⟩, fun b hb => ?_, q⟩
  have e : b = s1.heap.objs.size := by simpa using hb
  subst e
  exact I1.fpOk (Nat.le_refl _) (I1.hok.fresh (Nat.le_refl _))
/-- a range object just made, walked -/
theorem range_it {pins : List (Addr × Obj)} {σ : St} {H : Hp} {s : Shared} {R : It → Hp → Prop} {E : Value → Shared → Prop} {lo hi : Int} {t u v : Tok} {tk : Nat} (I : Inv X pins σ H s) (h1 : -(2 ^ 62) ≤ lo) (h2 : lo < 2 ^ 62) (h3 : -(2 ^ 62) ≤ hi) (h4 : hi < 2 ^ 62)
    (q : R (Itr lo (hi - lo).toNat) H) : wpAny (model X.prog X.w) X.A (pyIter (.ref s.heap.objs.size)) (PIE X pins σ tg R) E { s with heap := s.heap.push { cls := .type "range", data := .fields #[.int lo t, .int hi u, .int 1 v] }, toks := tk } := by
  refine wpAny_pyIter_range (IsRange.new ..) (small_one h1 h2 h3 h4) ?_
  have I1 : Inv X pins σ H { s with heap := s.heap.push { cls := .type "range", data := .fields #[.int lo t, .int hi u, .int 1 v] }, toks := tk } := I.kept fun b o e => Heap.get?_push_of_some _ e
  refine ⟨(s.heap.push { cls := .type "range", data := .fields #[.int lo t, .int hi u, .int 1 v] }).objs.size, [(s.heap.push { cls := .type "range", data := .fields #[.int lo t, .int hi u, .int 1 v] }).objs.size], _, _, H, rfl,
    I1.kept (t' := tk) fun b o e => Heap.get?_push_of_some _ e, turn_range _ lo (hi - lo).toNat, ?_, fun b hb => ?_, q⟩
  · have e1 : lo + ((0 : Nat) : Int) * 1 = lo := by simp
    have e2 : (((hi - lo).toNat : Nat) : Int) - ((0 : Nat) : Int) = Builtin.Range.rangeSize lo hi 1 := by rw [rangeSize_one]; split <;> omega
    show IsRangeIter _ _ (lo + ((0 : Nat) : Int) * 1) ((((hi - lo).toNat : Nat) : Int) - ((0 : Nat) : Int)) 1
    rw [e1, e2]
    exact Heap.get?_push_size _ rfl
  · have e : b = (s.heap.push { cls := .type "range", data := .fields #[.int lo t, .int hi u, .int 1 v] }).objs.size := by simpa using hb
    subst e
    exact I1.fpOk (Nat.le_refl _) (I1.hok.fresh (Nat.le_refl _))
def iRng1 (ta : TA) : TI := fun σ H R => ta σ H fun vs H1 => ∃ j : Int, vs = [.int j] ∧ -(2 ^ 62) ≤ j ∧ j < 2 ^ 62 ∧ R (Itr 0 j.toNat) H1
def iRng2 (ta : TA) : TI := fun σ H R => ta σ H fun vs H1 => ∃ i j : Int, vs = [.int i, .int j] ∧ (-(2 ^ 62) ≤ i ∧ i < 2 ^ 62 ∧ -(2 ^ 62) ≤ j ∧ j < 2 ^ 62) ∧ R (Itr i (j - i).toNat) H1
theorem pi_range1 {a : Expr} {ta : TA} {p pos : Pos} (hg : Gl X "range") (hm : X.mg "range" = none) (ha : PA X [a] ta) (hs : starEach [a] X.env = [(false, eval a X.env)] := by rfl) : PI X tg (.Call (.Name "range" p) [a] [] pos) (iRng1 ta) := by
  intro pins s σ H R I h
  refine Call_ (ld_blt I hg hm boot_range (PyProof.Rows.callWith_type1 (thn (ha pos pins s σ H _ I h) fun us s1 ⟨vs, H1, I1, r1, q1⟩ => ?_) hs rfl))
  obtain ⟨j, e, q1, q2, q⟩ := q1
  subst e
  cases r1 with
  | cons r rr =>
    cases rr
    obtain ⟨t, rfl⟩ := r
    exact call_range_1 (range_it I1 (by omega) (by omega) q1 q2 (by simpa using q))
theorem pi_range2 {a b : Expr} {ta : TA} {p pos : Pos} (hg : Gl X "range") (hm : X.mg "range" = none) (ha : PA X [a, b] ta) (hs : starEach [a, b] X.env = [(false, eval a X.env), (false, eval b X.env)] := by rfl) (hs2 : starEach [b] X.env = [(false, eval b X.env)] := by rfl) :
    PI X tg (.Call (.Name "range" p) [a, b] [] pos) (iRng2 ta) := by
  intro pins s σ H R I h
  refine Call_ (ld_blt I hg hm boot_range (PyProof.Rows.callWith_type1 (thn (ha pos pins s σ H _ I h) fun us s1 ⟨vs, H1, I1, r1, q1⟩ => ?_) (by rw [hs, hs2]) (by rw [hs2]; rfl)))
  obtain ⟨i, j, e, ⟨q1, q2, q3, q4⟩, q⟩ := q1
  subst e
  cases r1 with
  | cons r rr =>
    cases rr with
    | cons r' rr =>
      cases rr
      obtain ⟨t, rfl⟩ := r
      obtain ⟨t', rfl⟩ := r'
      exact call_range_2 (range_it I1 q1 q2 q3 q4 q)

/-! ### for -/
/-- W: the invariant by the turn and a measure; N: what the body is to reach -/
def tFor (wi : TI) (g : TG) (tb : TS) : TS := fun D σ H => wi σ H fun J H1 => ∃ W : Nat → Nat → St → Hp → Prop, (∃ m, W 0 m σ H1) ∧ ∀ i m σ H, W i m σ H →
  (J.stop i H ∧ D.nx σ H) ∨ (J.go i H ∧ ∃ N : St → Hp → Prop, (∀ σ' H', N σ' H' → ∃ m', m' < m ∧ W (i + 1) m' σ' H') ∧ ∀ x H', J.yld i H x H' → g x σ H' fun σ2 H2 => tb { D with nx := N, ct := N, bk := D.nx } σ2 H2)
/-- the records at fp as they stand -/
def pinsAt (fp : List Addr) (h : Heap) : List (Addr × Obj) := fp.filterMap fun b => (h.get? b).map fun o => (b, o)
theorem mem_pinsAt {fp : List Addr} {h : Heap} {b : Addr} {o : Obj} (hb : b ∈ fp) (e : h.get? b = some o) : (b, o) ∈ pinsAt fp h := List.mem_filterMap.mpr ⟨b, hb, by rw [e]; rfl⟩
theorem of_pinsAt {fp : List Addr} {h : Heap} {p : Addr × Obj} (hp : p ∈ pinsAt fp h) : p.1 ∈ fp ∧ h.get? p.1 = some p.2 := by
  obtain ⟨b, hb, e⟩ := List.mem_filterMap.mp hp
  cases q : h.get? b with
  | none => rw [q] at e; cases e
  | some o =>
    rw [q] at e
    have e' : (b, o) = p := Option.some.inj e
    subst e'
    exact ⟨hb, q⟩
theorem Inv.pinned {pins : List (Addr × Obj)} {σ : St} {H : Hp} {s : Shared} {fp : List Addr} (I : Inv X pins σ H s) (hf : ∀ b ∈ fp, FpOk X pins H b) (ho : ∀ b ∈ fp, ∃ o, s.heap.get? b = some o ∧ ∀ v, o.data ≠ .cell v) : Inv X (pins ++ pinsAt fp s.heap) σ H s :=
  I.pins_of fun p hp => (List.mem_append.mp hp).elim (fun z => I.pin p (List.mem_append_right _ z)) fun z => by
    obtain ⟨hb, e⟩ := of_pinsAt z
    obtain ⟨f0, f1, f2, _⟩ := hf p.1 hb
    obtain ⟨o, e', d⟩ := ho p.1 hb
    rw [e] at e'; cases e'
    exact ⟨e, f0, f1, f2, d⟩
theorem Inv.unpinned {pins pl : List (Addr × Obj)} {σ : St} {H : Hp} {s : Shared} (I : Inv X (pins ++ pl) σ H s) : Inv X pins σ H s := I.pins_of fun p hp => I.pin p (List.mem_append_right _ (List.mem_append_left _ hp))
theorem ps_for {iter : Expr} {body : List Stmt} {wi : TI} {g : TG} {tb : TS} {pos : Pos} (hp : PassesOwn (model X.prog X.w) X.A X.env X.xe) (hc : X.calm = true) (hi : PI X tg iter wi) (hg : PG X tg g) (hb : PSs X body tb)
    (hs : ∀ x, foldedSetIterable iter X.env x = pure x := by intro _; rfl) : PS X (.For tg iter body [] pos) (tFor wi g tb) := by
  intro pins s σ H D I h
  refine wpAny_For (thn (hi pins s σ H _ I h) fun v s1 h1 => thn h1 fun itv s2 h2 => ?_) hs
  obtain ⟨it, fp, tn, J, H2, e, I2, T, st2, f2, W, ⟨m0, w0⟩, turn⟩ := h2
  subst e
  -- what stays true of the iterator's objects through the loop
  have stat : ∀ {H' : Hp}, (∀ b ∈ fp, H' b = none) → ∀ b ∈ fp, FpOk X pins H' b := fun hn b hb => ⟨hn b hb, (f2 b hb).2⟩
  refine codeAny_forLoop_any (fun n s' => ∃ i σ' H', Inv X pins σ' H' s' ∧ tn i s'.heap ∧ (∀ b ∈ fp, H' b = none) ∧ W i n σ' H') ?_ m0 ⟨0, σ, H2, I2, st2, fun b hb => (f2 b hb).1, w0⟩
  rintro n s3 ⟨i, σ3, H3, I3, st3, fr3, w3⟩
  rcases turn i n σ3 H3 w3 with ⟨stop, qn⟩ | ⟨go, N, hN, step⟩
  · refine wpAny_passesOwn hp (thn (T.done X rfl rfl rfl hc i pins s3 σ3 H3 X.xe I3 (stat fr3) st3 stop) fun r s4 ⟨hr, I4⟩ => ?_)
    subst hr
    exact wpAny_execs_nil ⟨σ3, H3, I4, qn⟩
  · refine wpAny_passesOwn hp (thn (T.item X rfl rfl rfl hc i pins s3 σ3 H3 X.xe I3 (stat fr3) st3 go) fun r s4 ⟨u, hr, h4⟩ => ?_)
    subst hr
    refine wpAny_passesOwn hp (thn h4 fun _ s5 ⟨x, H5, I5, r5, y5, st5, fr5⟩ => ?_)
    have I5' := I5.pinned (stat fr5) (T.obj _ _ st5)
    refine wpAny_passesOwn hp (thn (hg _ s5 σ3 H5 x u _ I5' r5 (step x H5 y5)) fun _ s6 ⟨σ6, H6, I6, q6⟩ => ?_)
    refine wpAny_passesOwn hp (thn (hb _ s6 σ6 H6 _ I6 q6) fun f s7 q7 => ?_)
    have again : ∀ {σ7 : St} {H7 : Hp}, Inv X (pins ++ pinsAt fp s5.heap) σ7 H7 s7 → N σ7 H7 → ∃ m, m < n ∧ ∃ i σ' H', Inv X pins σ' H' s7 ∧ tn i s7.heap ∧ (∀ b ∈ fp, H' b = none) ∧ W i m σ' H' := fun {σ7 H7} I7 n7 => by
      obtain ⟨m', hm, w7⟩ := hN σ7 H7 n7
      refine ⟨m', hm, i + 1, σ7, H7, I7.unpinned, T.keep _ _ _ st5 fun b hb o e => (I7.pin (b, o) (List.mem_append_right _ (List.mem_append_right _ (mem_pinsAt hb e)))).1, fun b hb => ?_, w7⟩
      obtain ⟨o, e, d⟩ := T.obj _ _ st5 b hb
      exact (I7.pin (b, o) (List.mem_append_right _ (List.mem_append_right _ (mem_pinsAt hb e)))).2.1
    cases f with
    | next => obtain ⟨σ7, H7, I7, n7⟩ := q7; exact again I7 n7
    | cont => obtain ⟨σ7, H7, I7, n7⟩ := q7; exact again I7 n7
    | brk => obtain ⟨σ7, H7, I7, q7⟩ := q7; exact ⟨σ7, H7, I7.unpinned, q7⟩
    | ret v => obtain ⟨x7, σ7, H7, I7, r7, q7⟩ := q7; exact ⟨x7, σ7, H7, I7.unpinned, r7, q7⟩
end

/-! ### the forms one uses -/
/-- over a list that the body leaves as it is -/
theorem for_list {K : PySem.W.Frag} {a : Addr} {xs : List V} {g : TG} {tb : TS} {D : Ends} {σ : St} {H : Hp} (Pv : Nat → St → Hp → Prop) (h0 : Pv 0 σ H) (hl : ∀ i σ H, i ≤ xs.length → Pv i σ H → SqL K H a xs)
    (hs : ∀ i x σ H, xs[i]? = some x → Pv i σ H → g x σ H fun σ2 H2 => tb { D with nx := Pv (i + 1), ct := Pv (i + 1), bk := D.nx } σ2 H2) (hd : ∀ σ H, Pv xs.length σ H → D.nx σ H) :
    ∃ W : Nat → Nat → St → Hp → Prop, (∃ m, W 0 m σ H) ∧ ∀ i m σ H, W i m σ H →
      ((Itl K a).stop i H ∧ D.nx σ H) ∨ ((Itl K a).go i H ∧ ∃ N : St → Hp → Prop, (∀ σ' H', N σ' H' → ∃ m', m' < m ∧ W (i + 1) m' σ' H') ∧ ∀ x H', (Itl K a).yld i H x H' → g x σ H' fun σ2 H2 => tb { D with nx := N, ct := N, bk := D.nx } σ2 H2) := by
  refine ⟨fun i m σ H => m = xs.length - i ∧ i ≤ xs.length ∧ Pv i σ H, ⟨xs.length, by simp, Nat.zero_le _, h0⟩, ?_⟩
  rintro i m σ H ⟨rfl, hi, p⟩
  have q := hl i σ H hi p
  by_cases hlt : i < xs.length
  · refine .inr ⟨⟨xs, xs[i], q, by simp [hlt]⟩, Pv (i + 1), fun σ' H' p' => ⟨xs.length - (i + 1), by omega, rfl, hlt, p'⟩, fun x H' y => ?_⟩
    obtain ⟨e, y⟩ := y
    subst e
    exact hs i x σ _ (y xs q) p
  · have e : i = xs.length := by omega
    subst e
    exact .inl ⟨⟨xs, q, Nat.le_refl _⟩, hd σ H p⟩
theorem for_tup {K : PySem.W.Frag} {a : Addr} {xs : List V} {g : TG} {tb : TS} {D : Ends} {σ : St} {H : Hp} (Pv : Nat → St → Hp → Prop) (h0 : Pv 0 σ H) (hl : ∀ i σ H, i ≤ xs.length → Pv i σ H → SqT K H a xs)
    (hs : ∀ i x σ H, xs[i]? = some x → Pv i σ H → g x σ H fun σ2 H2 => tb { D with nx := Pv (i + 1), ct := Pv (i + 1), bk := D.nx } σ2 H2) (hd : ∀ σ H, Pv xs.length σ H → D.nx σ H) :
    ∃ W : Nat → Nat → St → Hp → Prop, (∃ m, W 0 m σ H) ∧ ∀ i m σ H, W i m σ H →
      ((Itt K a).stop i H ∧ D.nx σ H) ∨ ((Itt K a).go i H ∧ ∃ N : St → Hp → Prop, (∀ σ' H', N σ' H' → ∃ m', m' < m ∧ W (i + 1) m' σ' H') ∧ ∀ x H', (Itt K a).yld i H x H' → g x σ H' fun σ2 H2 => tb { D with nx := N, ct := N, bk := D.nx } σ2 H2) := by
  refine ⟨fun i m σ H => m = xs.length - i ∧ i ≤ xs.length ∧ Pv i σ H, ⟨xs.length, by simp, Nat.zero_le _, h0⟩, ?_⟩
  rintro i m σ H ⟨rfl, hi, p⟩
  have q := hl i σ H hi p
  by_cases hlt : i < xs.length
  · refine .inr ⟨⟨xs, xs[i], q, by simp [hlt]⟩, Pv (i + 1), fun σ' H' p' => ⟨xs.length - (i + 1), by omega, rfl, hlt, p'⟩, fun x H' y => ?_⟩
    obtain ⟨e, y⟩ := y
    subst e
    exact hs i x σ _ (y xs q) p
  · have e : i = xs.length := by omega
    subst e
    exact .inl ⟨⟨xs, q, Nat.le_refl _⟩, hd σ H p⟩
theorem for_range {lo : Int} {n : Nat} {g : TG} {tb : TS} {D : Ends} {σ : St} {H : Hp} (Pv : Nat → St → Hp → Prop) (h0 : Pv 0 σ H)
    (hs : ∀ i σ H, i < n → Pv i σ H → g (.int (lo + i)) σ H fun σ2 H2 => tb { D with nx := Pv (i + 1), ct := Pv (i + 1), bk := D.nx } σ2 H2) (hd : ∀ σ H, Pv n σ H → D.nx σ H) :
    ∃ W : Nat → Nat → St → Hp → Prop, (∃ m, W 0 m σ H) ∧ ∀ i m σ H, W i m σ H →
      ((Itr lo n).stop i H ∧ D.nx σ H) ∨ ((Itr lo n).go i H ∧ ∃ N : St → Hp → Prop, (∀ σ' H', N σ' H' → ∃ m', m' < m ∧ W (i + 1) m' σ' H') ∧ ∀ x H', (Itr lo n).yld i H x H' → g x σ H' fun σ2 H2 => tb { D with nx := N, ct := N, bk := D.nx } σ2 H2) := by
  refine ⟨fun i m σ H => m = n - i ∧ i ≤ n ∧ Pv i σ H, ⟨n, by simp, Nat.zero_le _, h0⟩, ?_⟩
  rintro i m σ H ⟨rfl, hi, p⟩
  by_cases hlt : i < n
  · refine .inr ⟨hlt, Pv (i + 1), fun σ' H' p' => ⟨n - (i + 1), by omega, rfl, hlt, p'⟩, fun x H' y => ?_⟩
    obtain ⟨e, y⟩ := y
    subst e y
    exact hs i σ _ hlt p
  · have e : i = n := by omega
    subst e
    exact .inl ⟨Nat.le_refl _, hd σ H p⟩
/-- while, by a word and a measure of the state -/
theorem while_by {c : TT} {tb : TS} {D : Ends} {σ : St} {H : Hp} (Pv : St → Hp → Prop) (μ : St → Hp → Nat) (h0 : Pv σ H)
    (hs : ∀ σ H, Pv σ H → c σ H fun b H1 => if b = true then tb { D with nx := fun σ' H' => Pv σ' H' ∧ μ σ' H' < μ σ H, ct := fun σ' H' => Pv σ' H' ∧ μ σ' H' < μ σ H, bk := D.nx } σ H1 else D.nx σ H1)
    (mono : ∀ σ H Q Q', (∀ b H1, Q b H1 → Q' b H1) → c σ H Q → c σ H Q') : tWhile c tb D σ H := by
  refine ⟨fun m σ H => m = μ σ H ∧ Pv σ H, ⟨_, rfl, h0⟩, ?_⟩
  rintro m σ H ⟨rfl, p⟩
  refine mono σ H _ _ (fun b H1 q => ?_) (hs σ H p)
  cases b with
  | true => exact ⟨_, fun σ' H' ⟨p', l⟩ => ⟨_, l, rfl, p'⟩, q⟩
  | false => exact q
end L2

namespace L2
open PySem PySem.Spec PyProof.Rows

abbrev R2 := V → V → Hp → VK → Prop
/-- a two-place operation on values: f is binaryOp op, inplaceOp op or compareOp op -/
def OpR (X : Cx) (f : Value → Value → Sem Value) (r : R2) : Prop :=
  ∀ (pins : List (Addr × Obj)) (s : Shared) (σ : St) (H : Hp) (x y : V) (v u : Value) (Q : VK), Inv X pins σ H s → RelV x v → RelV y u → r x y H Q →
    wpAny (model X.prog X.w) X.A (f v u) (EP X pins σ Q) X.xe s
/-- a one-place operation -/
def UnR (X : Cx) (f : Value → Sem Value) (r : V → Hp → VK → Prop) : Prop :=
  ∀ (pins : List (Addr × Obj)) (s : Shared) (σ : St) (H : Hp) (x : V) (v : Value) (Q : VK), Inv X pins σ H s → RelV x v → r x H Q →
    wpAny (model X.prog X.w) X.A (f v) (EP X pins σ Q) X.xe s
/-- a call of a value that is known (a builtin, a type) with values -/
def CallR (X : Cx) (f : Value) (r : List V → Hp → VK → Prop) : Prop :=
  ∀ (pins : List (Addr × Obj)) (s : Shared) (σ : St) (H : Hp) (xs : List V) (us : List Value) (Q : VK), Inv X pins σ H s → Vals xs us → r xs H Q →
    wpAny (model X.prog X.w) X.A (call f us) (EP X pins σ Q) X.xe s
/-- a value's truth -/
def TruR (X : Cx) (r : V → Hp → (Bool → Hp → Prop) → Prop) : Prop :=
  ∀ (pins : List (Addr × Obj)) (s : Shared) (σ : St) (H : Hp) (x : V) (v : Value) (Q : Bool → Hp → Prop), Inv X pins σ H s → RelV x v → r x H Q →
    wpAny (model X.prog X.w) X.A (truthy v) (TP X pins σ Q) X.xe s

def tOp (r : R2) (ta tb : TE) : TE := fun σ H Q => ta σ H fun x H1 => tb σ H1 fun y H2 => r x y H2 Q
def tUn (r : V → Hp → VK → Prop) (ta : TE) : TE := fun σ H Q => ta σ H fun x H1 => r x H1 Q
/-- ints in, under C, and a value out -/
def rI (C : Int → Int → Prop) (g : Int → Int → V) : R2 := fun x y H Q => ∃ i j, x = .int i ∧ y = .int j ∧ C i j ∧ Q (g i j) H
def rI0 (g : Int → Int → V) : R2 := fun x y H Q => ∃ i j, x = .int i ∧ y = .int j ∧ Q (g i j) H
def rU (g : Int → V) : V → Hp → VK → Prop := fun x H Q => ∃ i, x = .int i ∧ Q (g i) H

section
variable {X : Cx} {a b c : Expr} {ta tb tc : TE} {pos : Pos}

theorem binT (ha : PE X a ta) (hb : PE X b tb) {pins : List (Addr × Obj)} {s : Shared} {σ : St} {H : Hp} {R : V → V → Hp → Prop} (I : Inv X pins σ H s)
    (h : ta σ H fun x H1 => tb σ H1 fun y H2 => R x y H2) {Q : Value → Shared → Prop} {f : Value → Value → Sem Value}
    (hf : ∀ v u s2 x y H2, Inv X pins σ H2 s2 → RelV x v → RelV y u → R x y H2 → wpAny (model X.prog X.w) X.A (f v u) Q X.xe s2) :
    wpAny (model X.prog X.w) X.A (eval a X.env) (fun v s₁ => wpAny (model X.prog X.w) X.A (eval b X.env) (fun u s₂ => wpAny (model X.prog X.w) X.A (f v u) Q X.xe s₂) X.xe s₁) X.xe s := by
  refine thn (ha pins s σ H _ I h) fun v s1 ⟨x, H1, I1, r1, q1⟩ => ?_
  refine thn (hb pins s1 σ H1 _ I1 q1) fun u s2 ⟨y, H2, I2, r2, q2⟩ => ?_
  exact hf v u s2 x y H2 I2 r1 r2 q2

theorem pe_op {op : Operator} {r : R2} (ho : OpR X (binaryOp op) r) (ha : PE X a ta) (hb : PE X b tb) : PE X (.BinOp a op b pos) (tOp r ta tb) := by
  intro pins s σ H Q I h
  exact wpAny_BinOp (binT ha hb I h fun v u s2 x y H2 I2 rx ry q => ho pins s2 σ H2 x y v u Q I2 rx ry q)
theorem pe_un {op : UnaryOp} {r : V → Hp → VK → Prop} (ho : UnR X (unaryOp op) r) (ha : PE X a ta) : PE X (.UnaryOp op a pos) (tUn r ta) := by
  intro pins s σ H Q I h
  exact UnaryOp_ (thn (ha pins s σ H _ I h) fun v s1 ⟨x, H1, I1, r1, q1⟩ => ho pins s1 σ H1 x v Q I1 r1 q1)
/-- a op= e at a name: the name's slot i -/
theorem augR {op : Operator} {r : R2} (ho : OpR X (inplaceOp op) r) {pins : List (Addr × Obj)} {s : Shared} {σ : St} {H : Hp} {x y : V} {v u : Value} {Q : VK} (I : Inv X pins σ H s)
    (rx : RelV x v) (ry : RelV y u) (q : r x y H Q) : wpAny (model X.prog X.w) X.A (inplaceOp op v u) (EP X pins σ Q) X.xe s := ho pins s σ H x y v u Q I rx ry q

/-! ### ints -/
theorem opI {f : Value → Value → Sem Value} {C : Int → Int → Prop} {g : Int → Int → Int}
    (rule : ∀ (i j : Int) (t u : Tok) (s : Shared) (Q : Value → Shared → Prop) (E : Value → Shared → Prop), C i j → Q (.int (g i j) s.toks) { s with toks := s.toks + 1 } → wpAny (model X.prog X.w) X.A (f (.int i t) (.int j u)) Q E s) :
    OpR X f (rI C fun i j => .int (g i j)) := by
  intro pins s σ H x y v u Q I rx ry h
  obtain ⟨i, j, rfl, rfl, hc, q⟩ := h
  obtain ⟨t, rfl⟩ := rx
  obtain ⟨t', rfl⟩ := ry
  exact rule i j t t' s _ _ hc ⟨.int (g i j), H, I.tok _, ⟨_, rfl⟩, q⟩
theorem opI0 {f : Value → Value → Sem Value} {g : Int → Int → Int}
    (rule : ∀ (i j : Int) (t u : Tok) (s : Shared) (Q : Value → Shared → Prop) (E : Value → Shared → Prop), Q (.int (g i j) s.toks) { s with toks := s.toks + 1 } → wpAny (model X.prog X.w) X.A (f (.int i t) (.int j u)) Q E s) :
    OpR X f (rI0 fun i j => .int (g i j)) := by
  intro pins s σ H x y v u Q I rx ry h
  obtain ⟨i, j, rfl, rfl, q⟩ := h
  obtain ⟨t, rfl⟩ := rx
  obtain ⟨t', rfl⟩ := ry
  exact rule i j t t' s _ _ ⟨.int (g i j), H, I.tok _, ⟨_, rfl⟩, q⟩
theorem opB0 {f : Value → Value → Sem Value} {g : Int → Int → Bool}
    (rule : ∀ (i j : Int) (t u : Tok) (s : Shared) (Q : Value → Shared → Prop) (E : Value → Shared → Prop), Q (.bool (g i j)) s → wpAny (model X.prog X.w) X.A (f (.int i t) (.int j u)) Q E s) :
    OpR X f (rI0 fun i j => .bl (g i j)) := by
  intro pins s σ H x y v u Q I rx ry h
  obtain ⟨i, j, rfl, rfl, q⟩ := h
  obtain ⟨t, rfl⟩ := rx
  obtain ⟨t', rfl⟩ := ry
  exact rule i j t t' s _ _ ⟨.bl (g i j), H, I, rfl, q⟩

def CDiv (i j : Int) : Prop := 0 < j ∧ j < 1073741824
def CDivN (i j : Int) : Prop := j ≠ 0 ∧ j.natAbs < 1073741824
def CPow (i j : Int) : Prop := 0 ≤ j ∧ j ≤ 1000000 ∧ i.natAbs < 2 ^ 64
def CMul (i j : Int) : Prop := (-(2 ^ 64) < i ∧ i < 2 ^ 64) ∨ (-(2 ^ 64) < j ∧ j < 2 ^ 64)
theorem CMul.ok {i j : Int} (h : CMul i j) : IntMulOk i j := by
  rcases h with ⟨h1, h2⟩ | ⟨h1, h2⟩
  · exact .of_left (intBits_le_64 h1 h2)
  · exact .of_right (intBits_le_64 h1 h2)
theorem two_pow_nn (k : Nat) : (0 : Int) ≤ 2 ^ k := by
  rw [two_pow_cast]
  exact Int.natCast_nonneg _

theorem op_add : OpR X (binaryOp .Add) (rI0 fun i j => .int (i + j)) := opI0 fun _ _ _ _ _ _ _ q => add_int q
theorem op_sub : OpR X (binaryOp .Sub) (rI0 fun i j => .int (i - j)) := opI0 fun _ _ _ _ _ _ _ q => sub_int q
theorem op_mul : OpR X (binaryOp .Mult) (rI CMul fun i j => .int (i * j)) := opI fun _ _ _ _ _ _ _ hc q => mul_int q hc.ok
/-- // by a positive divisor -/
theorem op_fdiv : OpR X (binaryOp .FloorDiv) (rI CDiv fun i j => .int (i / j)) := opI fun i j _ _ _ _ _ hc q => by
  have h1 : (0 : Int) < j := hc.1
  have h2 : j < 1073741824 := hc.2
  exact floordiv_int (by omega) (by rw [Int.fdiv_eq_ediv_of_nonneg i (by omega)]; exact q) (.inl (PyProof.noPylong_small (by omega)))
theorem op_fdivN : OpR X (binaryOp .FloorDiv) (rI CDivN fun i j => .int (i.fdiv j)) := opI fun _ _ _ _ _ _ _ hc q => floordiv_int hc.1 q (.inl (PyProof.noPylong_small hc.2))
/-- % by a positive divisor of any size -/
theorem op_mod : OpR X (binaryOp .Mod) (rI (fun _ j => 0 < j) fun i j => .int (i % j)) := opI fun i j _ _ _ _ _ hc q => by
  have h1 : (0 : Int) < j := hc
  exact mod_int' (by omega) (by rw [Int.fmod_eq_emod_of_nonneg i (by omega)]; exact q)
theorem op_modN : OpR X (binaryOp .Mod) (rI (fun _ j => j ≠ 0) fun i j => .int (i.fmod j)) := opI fun _ _ _ _ _ _ _ hc q => mod_int' hc q
theorem op_pow : OpR X (binaryOp .Pow) (rI CPow fun i j => .int (i ^ j.toNat)) := opI fun _ _ _ _ _ _ _ hc q => pow_int_small hc.1 hc.2.1 hc.2.2 q
theorem op_shl : OpR X (binaryOp .LShift) (rI CPow fun i j => .int (i * 2 ^ j.toNat)) := opI fun _ _ _ _ _ _ _ hc q => lshift_int_small hc.1 hc.2.1 hc.2.2 q
theorem op_shr : OpR X (binaryOp .RShift) (rI (fun _ j => 0 ≤ j) fun i j => .int (i / 2 ^ j.toNat)) := opI fun i j _ _ _ _ _ hc q =>
  rshift_int hc (by rw [Int.fdiv_eq_ediv_of_nonneg i (two_pow_nn _)]; exact q)
theorem op_and : OpR X (binaryOp .BitAnd) (rI0 fun i j => .int (Builtin.bitAnd i j)) := opI0 fun _ _ _ _ _ _ _ q => and_int q
theorem op_or : OpR X (binaryOp .BitOr) (rI0 fun i j => .int (Builtin.bitOr i j)) := opI0 fun _ _ _ _ _ _ _ q => or_int q
theorem op_xor : OpR X (binaryOp .BitXor) (rI0 fun i j => .int (Builtin.bitXor i j)) := opI0 fun _ _ _ _ _ _ _ q => xor_int q

theorem iop_add : OpR X (inplaceOp .Add) (rI0 fun i j => .int (i + j)) := opI0 fun _ _ _ _ _ _ _ q => iadd_int q
theorem iop_sub : OpR X (inplaceOp .Sub) (rI0 fun i j => .int (i - j)) := opI0 fun _ _ _ _ _ _ _ q => isub_int q
theorem iop_mul : OpR X (inplaceOp .Mult) (rI CMul fun i j => .int (i * j)) := opI fun _ _ _ _ _ _ _ hc q => imul_int q hc.ok
theorem iop_fdiv : OpR X (inplaceOp .FloorDiv) (rI CDiv fun i j => .int (i / j)) := opI fun i j _ _ _ _ _ hc q => by
  have h1 : (0 : Int) < j := hc.1
  have h2 : j < 1073741824 := hc.2
  exact ifloordiv_int (by omega) (by rw [Int.fdiv_eq_ediv_of_nonneg i (by omega)]; exact q) (.inl (PyProof.noPylong_small (by omega)))
theorem iop_mod : OpR X (inplaceOp .Mod) (rI (fun _ j => 0 < j) fun i j => .int (i % j)) := opI fun i j _ _ _ _ _ hc q => by
  have h1 : (0 : Int) < j := hc
  exact imod_int (by omega) (by rw [Int.fmod_eq_emod_of_nonneg i (by omega)]; exact q)
theorem iop_shl : OpR X (inplaceOp .LShift) (rI CPow fun i j => .int (i * 2 ^ j.toNat)) := opI fun _ _ _ _ _ _ _ hc q => ilshift_int_small hc.1 hc.2.1 hc.2.2 q
theorem iop_shr : OpR X (inplaceOp .RShift) (rI (fun _ j => 0 ≤ j) fun i j => .int (i / 2 ^ j.toNat)) := opI fun i j _ _ _ _ _ hc q =>
  irshift_int hc (by rw [Int.fdiv_eq_ediv_of_nonneg i (two_pow_nn _)]; exact q)
theorem iop_and : OpR X (inplaceOp .BitAnd) (rI0 fun i j => .int (Builtin.bitAnd i j)) := opI0 fun _ _ _ _ _ _ _ q => iand_int q
theorem iop_or : OpR X (inplaceOp .BitOr) (rI0 fun i j => .int (Builtin.bitOr i j)) := opI0 fun _ _ _ _ _ _ _ q => ior_int q
theorem iop_xor : OpR X (inplaceOp .BitXor) (rI0 fun i j => .int (Builtin.bitXor i j)) := opI0 fun _ _ _ _ _ _ _ q => ixor_int q

theorem unI {f : Value → Sem Value} {g : Int → Int}
    (rule : ∀ (i : Int) (t : Tok) (s : Shared) (Q : Value → Shared → Prop) (E : Value → Shared → Prop), Q (.int (g i) s.toks) { s with toks := s.toks + 1 } → wpAny (model X.prog X.w) X.A (f (.int i t)) Q E s) :
    UnR X f (rU fun i => .int (g i)) := by
  intro pins s σ H x v Q I rx h
  obtain ⟨i, rfl, q⟩ := h
  obtain ⟨t, rfl⟩ := rx
  exact rule i t s _ _ ⟨.int (g i), H, I.tok _, ⟨_, rfl⟩, q⟩
theorem un_neg : UnR X (unaryOp .USub) (rU fun i => .int (-i)) := unI fun _ _ _ _ _ q => neg_int q
theorem un_inv : UnR X (unaryOp .Invert) (rU fun i => .int (Builtin.bitNot i)) := unI fun _ _ _ _ _ q => invert_int q

/-! ### bools among ints: n += (a < b) -/
theorem op_add_ib : OpR X (binaryOp .Add) (fun x y H Q => ∃ i k, x = .int i ∧ y = .bl k ∧ Q (.int (i + b2i k)) H) := by
  intro pins s σ H x y v u Q I rx ry h
  obtain ⟨i, k, rfl, rfl, q⟩ := h
  obtain ⟨t, rfl⟩ := rx
  cases ry
  exact add_int_bool ⟨.int (i + b2i k), H, I.tok _, ⟨_, rfl⟩, q⟩
end

/-! ### comparisons -/
/-- the scalars that == tells apart as data does -/
def scal : V → V → Bool
  | .non, .non => true | .non, .int _ => true | .int _, .non => true | .non, .bl _ => true | .bl _, .non => true | .non, .str _ => true | .str _, .non => true
  | .int _, .int _ => true | .bl _, .bl _ => true | .str _, .str _ => true | .byt _, .byt _ => true
  | .int _, .str _ => true | .str _, .int _ => true | .bl _, .str _ => true | .str _, .bl _ => true
  | _, _ => false
def rEq : R2 := fun x y H Q => scal x y = true ∧ Q (.bl (decide (x = y))) H
def rNe : R2 := fun x y H Q => scal x y = true ∧ Q (.bl (!decide (x = y))) H

theorem dec_int {i j : Int} : decide (V.int i = V.int j) = (i == j) := by
  rw [Bool.eq_iff_iff]
  simp
theorem dec_bl {i j : Bool} : decide (V.bl i = V.bl j) = (i == j) := by
  rw [Bool.eq_iff_iff]
  simp
theorem dec_str {i j : Str} : decide (V.str i = V.str j) = (i == j) := by
  rw [Bool.eq_iff_iff]
  simp
theorem dec_byt {i j : Array UInt8} : decide (V.byt i = V.byt j) = (i.toList == j.toList) := by
  rw [Bool.eq_iff_iff]
  cases i
  cases j
  simp

section
variable {X : Cx} {a b c : Expr} {ta tb tc : TE} {pos : Pos}
theorem fin_bl {pins : List (Addr × Obj)} {σ : St} {H : Hp} {s : Shared} {Q : VK} {k k' : Bool} (I : Inv X pins σ H s) (q : Q (.bl k) H) (e : k = k') : EP X pins σ Q (.bool k') s := by
  subst e
  exact ⟨.bl k, H, I, rfl, q⟩
theorem op_eq : OpR X (compareOp .Eq) rEq := by
  intro pins s σ H x y v u Q I rx ry h
  obtain ⟨hs, q⟩ := h
  cases x with
  | non =>
    cases rx
    cases y with
    | non => cases ry; exact PySem.EqNone.eq_none_none (fin_bl I q (by simp))
    | bl j => cases ry; exact PySem.EqNone.eq_none_bool (fin_bl I q (by simp))
    | int j => obtain ⟨t', rfl⟩ := ry; exact PySem.EqNone.eq_none_int (fin_bl I q (by simp))
    | str j => obtain ⟨t', rfl⟩ := ry; exact PySem.EqNone.eq_none_str (fin_bl I q (by simp))
    | _ => exact absurd (show false = true from hs) Bool.false_ne_true
  | bl i =>
    cases rx
    cases y with
    | non => cases ry; exact PySem.EqNone.eq_bool_none (fin_bl I q (by simp))
    | bl j => cases ry; exact eq_bool (fin_bl I q dec_bl)
    | str j => obtain ⟨t', rfl⟩ := ry; exact PySem.EqMixed.eq_bool_str (fin_bl I q (by simp))
    | _ => exact absurd (show false = true from hs) Bool.false_ne_true
  | int i =>
    obtain ⟨t, rfl⟩ := rx
    cases y with
    | non => cases ry; exact PySem.EqNone.eq_int_none (fin_bl I q (by simp))
    | int j => obtain ⟨t', rfl⟩ := ry; exact eq_int (fin_bl I q dec_int)
    | str j => obtain ⟨t', rfl⟩ := ry; exact PySem.EqMixed.eq_int_str (fin_bl I q (by simp))
    | _ => exact absurd (show false = true from hs) Bool.false_ne_true
  | str i =>
    obtain ⟨t, rfl⟩ := rx
    cases y with
    | non => cases ry; exact PySem.EqNone.eq_str_none (fin_bl I q (by simp))
    | bl j => cases ry; exact PySem.EqMixed.eq_str_bool (fin_bl I q (by simp))
    | int j => obtain ⟨t', rfl⟩ := ry; exact PySem.EqMixed.eq_str_int (fin_bl I q (by simp))
    | str j => obtain ⟨t', rfl⟩ := ry; exact eq_str (fin_bl I q dec_str)
    | _ => exact absurd (show false = true from hs) Bool.false_ne_true
  | byt i =>
    obtain ⟨t, rfl⟩ := rx
    cases y with
    | byt j => obtain ⟨t', rfl⟩ := ry; exact PySem.W.eq_bytes (fin_bl I q dec_byt)
    | _ => exact absurd (show false = true from hs) Bool.false_ne_true
  | _ => cases y <;> exact absurd (show false = true from hs) Bool.false_ne_true
theorem op_ne : OpR X (compareOp .NotEq) rNe := by
  intro pins s σ H x y v u Q I rx ry h
  obtain ⟨hs, q⟩ := h
  cases x with
  | non =>
    cases rx
    cases y with
    | non => cases ry; exact PySem.EqNone.ne_none_none (fin_bl I q (by simp))
    | bl j => cases ry; exact PySem.EqNone.ne_none_bool (fin_bl I q (by simp))
    | int j => obtain ⟨t', rfl⟩ := ry; exact PySem.EqNone.ne_none_int (fin_bl I q (by simp))
    | str j => obtain ⟨t', rfl⟩ := ry; exact PySem.EqNone.ne_none_str (fin_bl I q (by simp))
    | _ => exact absurd (show false = true from hs) Bool.false_ne_true
  | bl i =>
    cases rx
    cases y with
    | non => cases ry; exact PySem.EqNone.ne_bool_none (fin_bl I q (by simp))
    | bl j => cases ry; exact ne_bool (fin_bl I q (congrArg not dec_bl))
    | str j => obtain ⟨t', rfl⟩ := ry; exact PySem.EqMixed.ne_bool_str (fin_bl I q (by simp))
    | _ => exact absurd (show false = true from hs) Bool.false_ne_true
  | int i =>
    obtain ⟨t, rfl⟩ := rx
    cases y with
    | non => cases ry; exact PySem.EqNone.ne_int_none (fin_bl I q (by simp))
    | int j => obtain ⟨t', rfl⟩ := ry; exact ne_int (fin_bl I q (congrArg not dec_int))
    | str j => obtain ⟨t', rfl⟩ := ry; exact PySem.EqMixed.ne_int_str (fin_bl I q (by simp))
    | _ => exact absurd (show false = true from hs) Bool.false_ne_true
  | str i =>
    obtain ⟨t, rfl⟩ := rx
    cases y with
    | non => cases ry; exact PySem.EqNone.ne_str_none (fin_bl I q (by simp))
    | bl j => cases ry; exact PySem.EqMixed.ne_str_bool (fin_bl I q (by simp))
    | int j => obtain ⟨t', rfl⟩ := ry; exact PySem.EqMixed.ne_str_int (fin_bl I q (by simp))
    | str j => obtain ⟨t', rfl⟩ := ry; exact ne_str (fin_bl I q (congrArg not dec_str))
    | _ => exact absurd (show false = true from hs) Bool.false_ne_true
  | byt i =>
    obtain ⟨t, rfl⟩ := rx
    cases y with
    | byt j => obtain ⟨t', rfl⟩ := ry; exact PySem.W.ne_bytes (fin_bl I q (congrArg not dec_byt))
    | _ => exact absurd (show false = true from hs) Bool.false_ne_true
  | _ => cases y <;> exact absurd (show false = true from hs) Bool.false_ne_true

theorem op_lt : OpR X (compareOp .Lt) (rI0 fun i j => .bl (decide (i < j))) := opB0 fun _ _ _ _ _ _ _ q => lt_int q
theorem op_le : OpR X (compareOp .LtE) (rI0 fun i j => .bl (decide (i ≤ j))) := opB0 fun _ _ _ _ _ _ _ q => le_int q
theorem op_gt : OpR X (compareOp .Gt) (rI0 fun i j => .bl (decide (j < i))) := opB0 fun _ _ _ _ _ _ _ q => gt_int q
theorem op_ge : OpR X (compareOp .GtE) (rI0 fun i j => .bl (decide (j ≤ i))) := opB0 fun _ _ _ _ _ _ _ q => ge_int q
theorem op_lt_str : OpR X (compareOp .Lt) (fun x y H Q => ∃ i j, x = .str i ∧ y = .str j ∧ Q (.bl (decide (i.cps.toList < j.cps.toList))) H) := by
  intro pins s σ H x y v u Q I rx ry h
  obtain ⟨i, j, rfl, rfl, q⟩ := h
  obtain ⟨t, rfl⟩ := rx
  obtain ⟨t', rfl⟩ := ry
  exact lt_str (fin_bl I q rfl)
/-- the one string within the other -/
theorem op_in_str : OpR X (compareOp .In) (fun x y H Q => ∃ i j, x = .str i ∧ y = .str j ∧ Q (.bl (!(Builtin.Str.occurrences j i 0 j.length 1).isEmpty)) H) := by
  intro pins s σ H x y v u Q I rx ry h
  obtain ⟨i, j, rfl, rfl, q⟩ := h
  obtain ⟨t, rfl⟩ := rx
  obtain ⟨t', rfl⟩ := ry
  exact in_str (fin_bl I q rfl)

/-- is None, is not None: the right side a value none -/
theorem op_isN : OpR X (compareOp .Is) (fun x y H Q => y = .non ∧ Q (.bl (decide (x = .non))) H) := by
  intro pins s σ H x y v u Q I rx ry h
  obtain ⟨rfl, q⟩ := h
  cases ry
  refine is_none_gen (fin_bl I q ?_)
  cases x <;> first
    | (cases rx; rfl)
    | (obtain ⟨t, rfl⟩ := rx; rfl)
theorem op_notN : OpR X (compareOp .IsNot) (fun x y H Q => y = .non ∧ Q (.bl (!decide (x = .non))) H) := by
  intro pins s σ H x y v u Q I rx ry h
  obtain ⟨rfl, q⟩ := h
  cases ry
  refine isnot_none_gen (fin_bl I q ?_)
  cases x <;> first
    | (cases rx; rfl)
    | (obtain ⟨t, rfl⟩ := rx; rfl)

theorem op_notin_str : OpR X (compareOp .NotIn) (fun x y H Q => ∃ i j, x = .str i ∧ y = .str j ∧ Q (.bl (!(!(Builtin.Str.occurrences j i 0 j.length 1).isEmpty))) H) := by
  intro pins s σ H x y v u Q I rx ry h
  obtain ⟨i, j, rfl, rfl, q⟩ := h
  obtain ⟨t, rfl⟩ := rx
  obtain ⟨t', rfl⟩ := ry
  exact notIn_str (fin_bl I q rfl)
/-- is, is not of two objects that are tracked lists or instances -/
def isObj : HO → Bool
  | .lst _ => true
  | .ins _ _ _ => true
  | _ => false
theorem obj_there {pins : List (Addr × Obj)} {s : Shared} {σ : St} {H : Hp} {a : Addr} {o : HO} (I : Inv X pins σ H s) (h : H a = some o) (p : isObj o = true) : ∃ ob, s.heap.get? a = some ob ∧ ob.cls ≠ .type "tuple" := by
  cases o with
  | lst xs =>
    obtain ⟨_, its, n, _, e⟩ : xs.length ≤ sizeLine ∧ ∃ (its : List Value) (n : Nat), Vals xs its ∧ s.heap.get? a = some { cls := .type "list", data := .seq its.toArray n } := I.hok a _ h
    exact ⟨_, e, (by show Value.type "list" ≠ .type "tuple"; decide +kernel)⟩
  | ins C dx fs =>
    have x := I.hok a _ h
    obtain ⟨_, _, _, e, _⟩ := x
    exact ⟨_, e, (by show Value.ref C ≠ .type "tuple"; exact fun z => by cases z)⟩
  | _ => exact absurd (show false = true from p) Bool.false_ne_true
theorem op_is_ref : OpR X (compareOp .Is) (fun x y H Q => ∃ a b oa ob, x = .ref a ∧ y = .ref b ∧ H a = some oa ∧ isObj oa = true ∧ H b = some ob ∧ isObj ob = true ∧ Q (.bl (decide (a = b))) H) := by
  intro pins s σ H x y v u Q I rx ry h
  obtain ⟨a, b, oa, ob, rfl, rfl, ha, pa, hb, pb, q⟩ := h
  cases rx
  cases ry
  obtain ⟨o1, e1, n1⟩ := obj_there I ha pa
  obtain ⟨o2, e2, _⟩ := obj_there I hb pb
  by_cases z : a = b
  · subst z
    exact wpAny_is_ref_self (fin_bl I q (by simp))
  · exact wpAny_is_ref_other z e1 e2 n1 (fin_bl I q (by simp [z]))
theorem op_isnot_ref : OpR X (compareOp .IsNot) (fun x y H Q => ∃ a b oa ob, x = .ref a ∧ y = .ref b ∧ H a = some oa ∧ isObj oa = true ∧ H b = some ob ∧ isObj ob = true ∧ Q (.bl (!decide (a = b))) H) := by
  intro pins s σ H x y v u Q I rx ry h
  obtain ⟨a, b, oa, ob, rfl, rfl, ha, pa, hb, pb, q⟩ := h
  cases rx
  cases ry
  obtain ⟨o1, e1, n1⟩ := obj_there I ha pa
  obtain ⟨o2, e2, _⟩ := obj_there I hb pb
  by_cases z : a = b
  · subst z
    exact wpAny_isNot_ref_self (fin_bl I q (by simp))
  · exact wpAny_isNot_ref_other z e1 e2 n1 (fin_bl I q (by simp [z]))

/-- two rules for one operation: by cases -/
theorem OpR.or {f : Value → Value → Sem Value} {r r' : R2} (h : OpR X f r) (h' : OpR X f r') : OpR X f (fun x y H Q => r x y H Q ∨ r' x y H Q) := by
  intro pins s σ H x y v u Q I rx ry q
  rcases q with q | q
  · exact h pins s σ H x y v u Q I rx ry q
  · exact h' pins s σ H x y v u Q I rx ry q

theorem nomark (b : Expr) {op : CmpOp} (h : op ≠ .In := by decide) (h2 : op ≠ .NotIn := by decide) : behindInMarks op b = false := by
  have e1 : (op == CmpOp.In) = false := by cases op <;> first | rfl | exact absurd rfl h
  have e2 : (op == CmpOp.NotIn) = false := by cases op <;> first | rfl | exact absurd rfl h2
  cases b <;> simp [behindInMarks, e1, e2]
/-- a comparison as a value; hm: nomark b, or (for in, not in) by with_unfolding_all rfl -/
theorem pe_cmpR {op : CmpOp} {r : R2} (ho : OpR X (compareOp op) r) (ha : PE X a ta) (hb : PE X b tb) (hm : behindInMarks op b = false) : PE X (.Compare a [op] [b] pos) (tOp r ta tb) := by
  intro pins s σ H Q I h
  exact wpAny_Compare1 (binT ha hb I h fun v u s2 x y H2 I2 rx ry q => ho pins s2 σ H2 x y v u Q I2 rx ry q) hm
/-- a reading of a value as a test -/
def tTest (t : TE) : TT := fun σ H Q => t σ H fun x H' => ∃ k, x = .bl k ∧ Q k H'
theorem pt_cmpR {op : CmpOp} {r : R2} (ho : OpR X (compareOp op) r) (ha : PE X a ta) (hb : PE X b tb) (hm : behindInMarks op b = false) : PT X (.Compare a [op] [b] pos) (tTest (tOp r ta tb)) := by
  intro pins s σ H Q I h
  refine wpAny_isTrue_Compare1 (thn (ha pins s σ H _ I h) fun v s1 ⟨x, H1, I1, r1, q1⟩ => thn (hb pins s1 σ H1 _ I1 q1) fun u s2 ⟨y, H2, I2, r2, q2⟩ =>
    thn (ho pins s2 σ H2 x y v u _ I2 r1 r2 q2) fun c s3 ⟨z, H3, I3, r3, k, e, q3⟩ => ?_) hm
  subst e
  cases r3
  exact wpAny_truthy_bool ⟨H3, I3, q3⟩
/-- a op1 b op2 c -/
def tChain (r r' : R2) (ta tb tc : TE) : TE := fun σ H Q => ta σ H fun x H1 => tb σ H1 fun y H2 => r x y H2 fun z H3 => ∃ k, z = .bl k ∧
  (if k = true then tc σ H3 fun w' H4 => r' y w' H4 Q else Q (.bl false) H3)
theorem pe_chain {op op' : CmpOp} {r r' : R2} (ho : OpR X (compareOp op) r) (ho' : OpR X (compareOp op') r') (ha : PE X a ta) (hb : PE X b tb) (hc : PE X c tc)
    (hm : lastMarks [op, op'] [b, c] = false := by with_unfolding_all rfl) : PE X (.Compare a [op, op'] [b, c] pos) (tChain r r' ta tb tc) := by
  intro pins s σ H Q I h
  refine Compare_chain (thn (ha pins s σ H _ I h) fun v s1 ⟨x, H1, I1, r1, q1⟩ => chain_link (thn (hb pins s1 σ H1 _ I1 q1) fun u s2 ⟨y, H2, I2, r2, q2⟩ =>
    thn (ho pins s2 σ H2 x y v u _ I2 r1 r2 q2) fun d s3 ⟨z, H3, I3, r3, k, e, q3⟩ => ?_)) hm
  subst e
  cases r3
  refine wpAny_truthy_bool ?_
  cases k with
  | false => exact ite_ff ⟨.bl false, H3, I3, rfl, q3⟩
  | true => exact ite_tt (chain_last (thn (hc pins s3 σ H3 _ I3 q3) fun w' s4 ⟨z', H4, I4, r4, q4⟩ => ho' pins s4 σ H4 y z' u w' Q I4 r2 r4 q4))
theorem pt_chain {op op' : CmpOp} {r r' : R2} (ho : OpR X (compareOp op) r) (ho' : OpR X (compareOp op') r') (ha : PE X a ta) (hb : PE X b tb) (hc : PE X c tc)
    (hm : lastMarks [op, op'] [b, c] = false := by with_unfolding_all rfl) : PT X (.Compare a [op, op'] [b, c] pos) (tTest (tChain r r' ta tb tc)) := by
  intro pins s σ H Q I h
  refine isTrue_chain (thn (ha pins s σ H _ I h) fun v s1 ⟨x, H1, I1, r1, q1⟩ => test_link (thn (hb pins s1 σ H1 _ I1 q1) fun u s2 ⟨y, H2, I2, r2, q2⟩ =>
    thn (ho pins s2 σ H2 x y v u _ I2 r1 r2 q2) fun d s3 ⟨z, H3, I3, r3, k, e, q3⟩ => ?_)) hm
  subst e
  cases r3
  refine wpAny_truthy_bool ?_
  cases k with
  | false =>
    obtain ⟨k', e', q'⟩ := q3
    cases e'
    exact ite_ff ⟨H3, I3, q'⟩
  | true =>
    refine ite_tt (test_last (thn (hc pins s3 σ H3 _ I3 q3) fun w' s4 ⟨z', H4, I4, r4, q4⟩ => thn (ho' pins s4 σ H4 y z' u w' _ I4 r2 r4 q4) fun d' s5 ⟨z2, H5, I5, r5, k2, e2, q5⟩ => ?_))
    subst e2
    cases r5
    exact wpAny_truthy_bool ⟨H5, I5, q5⟩

/-! ### truth -/
/-- a value's truth by the abstract heap -/
def TruV (K : PySem.W.Frag) (x : V) (H : Hp) (k : Bool) : Prop :=
  match x with
  | .non => k = false
  | .bl b => k = b
  | .int i => k = (i != 0)
  | .str y => y.length ≤ sizeLine ∧ k = ((y.length : Int) != 0)
  | .byt y => y.size ≤ sizeLine ∧ k = ((y.size : Int) != 0)
  | .ref p => (∃ xs, SqL K H p xs ∧ k = !xs.isEmpty) ∨ (∃ xs, SqT K H p xs ∧ k = !xs.isEmpty) ∨ ∃ kvs, H p = some (.dK kvs) ∧ k = !kvs.isEmpty
  | _ => False
theorem isEmpty_kv {κ : Type} {kvs : List (κ × V)} {vs : List (κ × Value)} (r : KV kvs vs) : (!vs.isEmpty) = !kvs.isEmpty := by
  cases r <;> rfl
theorem isEmpty_of {xs : List V} {its : List Value} (r : Vals xs its) : (!its.toArray.isEmpty) = !xs.isEmpty := by
  cases r <;> simp
theorem line63 : (sizeLine : Nat) < 2 ^ 63 := by rw [sizeLine_eq]; decide
theorem tru_ok : TruR X (fun x H Q => ∃ k, TruV X.K x H k ∧ Q k H) := by
  intro pins s σ H x v Q I rx h
  obtain ⟨k, e, q⟩ := h
  have hl := line63
  have hs : sizeLine = 16777216 := sizeLine_eq
  cases x with
  | non =>
    cases rx
    have e' : k = false := e
    subst e'
    exact truthy_none ⟨H, I, q⟩
  | bl b =>
    cases rx
    have e' : k = b := e
    subst e'
    exact wpAny_truthy_bool ⟨H, I, q⟩
  | int i =>
    obtain ⟨t, rfl⟩ := rx
    have e' : k = (i != 0) := e
    subst e'
    exact PySem.P.truthy_int ⟨H, I, q⟩
  | str y =>
    obtain ⟨t, rfl⟩ := rx
    obtain ⟨hy, e'⟩ : y.length ≤ sizeLine ∧ k = ((y.length : Int) != 0) := e
    subst e'
    exact PySem.P.truthy_str (by omega) ⟨H, I.tok _, q⟩
  | byt y =>
    obtain ⟨t, rfl⟩ := rx
    obtain ⟨hy, e'⟩ : y.size ≤ sizeLine ∧ k = ((y.size : Int) != 0) := e
    subst e'
    exact PySem.W.truthy_bytes (by omega) ⟨H, I.tok _, q⟩
  | ref p =>
    cases rx
    have e' : (∃ xs, SqL X.K H p xs ∧ k = !xs.isEmpty) ∨ (∃ xs, SqT X.K H p xs ∧ k = !xs.isEmpty) ∨ ∃ kvs, H p = some (.dK kvs) ∧ k = !kvs.isEmpty := e
    rcases e' with ⟨xs, hx, e'⟩ | ⟨xs, hx, e'⟩ | ⟨kvs, hx, e'⟩
    · subst e'
      obtain ⟨its, r, pl, hz⟩ := I.list hx
      have hlen := r.length
      exact wpAny_truthy_list pl.isList (by simp only [List.size_toArray]; omega) ⟨H, I.tok _, by rw [isEmpty_of r]; exact q⟩
    · subst e'
      obtain ⟨its, r, pl, hz⟩ := I.tuple hx
      have hlen := r.length
      exact truthy_tuple pl (by simp only [List.size_toArray]; omega) ⟨H, I.tok _, by rw [isEmpty_of r]; exact q⟩
    · subst e'
      obtain ⟨hz, hS, vs, r, m⟩ : kvs.length ≤ sizeLine ∧ (p == sysModules) = false ∧ ∃ vs, KV kvs vs ∧ s.heap.DictOf (mixKind X.prog X.w) p vs := I.hok p _ hx
      have hlen : kvs.length = vs.length := Paired.length r
      exact wpAny_truthy_dict hS m (by omega) ⟨H, I.tok _, by rw [isEmpty_kv r]; exact q⟩
  | _ => exact (show False from e).elim
/-- any expression whose test is its value's truth (a name, a call, a subscript, a field ..: he by fun _ => rfl) -/
theorem pt_truth (ha : PE X a ta) (he : ∀ whole, isTrue a X.env whole = (do let v ← whole; standAt a.pos; holding [v] (truthy v))) :
    PT X a (fun σ H Q => ta σ H fun x H' => ∃ k, TruV X.K x H' k ∧ Q k H') := by
  intro pins s σ H Q I h
  exact isTrue_plain (thn (ha pins s σ H _ I h) fun v s1 ⟨x, H1, I1, r1, q1⟩ => tru_ok pins s1 σ H1 x v Q I1 r1 q1) (he _)

/-! ### strs and bytes -/
theorem pe_byt {x : List UInt8} {k : Nat} : PE X (.Constant (.bytes x) k pos) (fun _ H Q => Q (.byt x.toArray) H) := fun _ _ _ H _ I h => PySem.W.Constant_bytes ⟨.byt x.toArray, H, I.tok _, ⟨_, rfl⟩, h⟩
theorem op_add_str : OpR X (binaryOp .Add) (fun x y H Q => ∃ i j, x = .str i ∧ y = .str j ∧ i.length + j.length ≤ sizeLine ∧ Q (.str (i ++ j)) H) := by
  intro pins s σ H x y v u Q I rx ry h
  obtain ⟨i, j, rfl, rfl, hz, q⟩ := h
  obtain ⟨t, rfl⟩ := rx
  obtain ⟨t', rfl⟩ := ry
  exact add_str (fun t' tk => ⟨.str (i ++ j), H, I.tok _, ⟨_, rfl⟩, q⟩) hz
theorem iop_add_str : OpR X (inplaceOp .Add) (fun x y H Q => ∃ i j, x = .str i ∧ y = .str j ∧ i.length + j.length ≤ sizeLine ∧ Q (.str (i ++ j)) H) := by
  intro pins s σ H x y v u Q I rx ry h
  obtain ⟨i, j, rfl, rfl, hz, q⟩ := h
  obtain ⟨t, rfl⟩ := rx
  obtain ⟨t', rfl⟩ := ry
  exact iadd_str (fun t' tk => ⟨.str (i ++ j), H, I.tok _, ⟨_, rfl⟩, q⟩) hz
theorem op_add_byt : OpR X (binaryOp .Add) (fun x y H Q => ∃ i j, x = .byt i ∧ y = .byt j ∧ i.size + j.size ≤ 16777216 ∧ Q (.byt (i ++ j)) H) := by
  intro pins s σ H x y v u Q I rx ry h
  obtain ⟨i, j, rfl, rfl, hz, q⟩ := h
  obtain ⟨t, rfl⟩ := rx
  obtain ⟨t', rfl⟩ := ry
  exact PySem.W.KBy.add_bytes hz (fun t' tk => ⟨.byt (i ++ j), H, I.tok _, ⟨_, rfl⟩, q⟩)

def PlainIxT (b : Expr) : Prop := ∀ o i, subscripted b false o i = operate [o, i] (getItem o i)
/-- s[i], 0 ≤ i < len -/
theorem pe_item_str (ha : PE X a ta) (hb : PE X b tb) (hs : PlainIxT b) :
    PE X (.Subscript a b pos) (tOp (fun x y H Q => ∃ z i c, x = .str z ∧ y = .int i ∧ 0 ≤ i ∧ i < 2 ^ 63 ∧ i < z.length ∧ z.cps[i.toNat]? = some c ∧ Q (.str ⟨#[c]⟩) H) ta tb) := by
  intro pins s σ H Q I h
  refine Subscript_ (binT ha hb I h fun v u s2 x y H2 I2 rx ry q => ?_)
  obtain ⟨z, i, c, rfl, rfl, h0, h63, h1, hc, q⟩ := q
  obtain ⟨t, rfl⟩ := rx
  obtain ⟨t', rfl⟩ := ry
  have e : seqIndex? i z.length = some i.toNat := PySem.StrLaws.seqIndex_nonneg h0 h1
  exact tail_any (typeIs_str s2 z t) slot_str_getitem.lookup (getItem_str (c := c) (by
    have e1 : decide (i < -(2 ^ 63 : Int)) = false := decide_eq_false (by omega)
    have e2 : decide (i ≥ 2 ^ 63) = false := decide_eq_false (by omega)
    rw [e1, e2] <;> rfl) (by rw [e]; exact hc) ⟨.str ⟨#[c]⟩, H2, I2.tok _, ⟨_, rfl⟩, q⟩) (hs _ _)
/-- b[i], 0 ≤ i < len -/
theorem pe_item_byt (ha : PE X a ta) (hb : PE X b tb) (hs : PlainIxT b) :
    PE X (.Subscript a b pos) (tOp (fun x y H Q => ∃ (z : List UInt8) (i : Int), x = .byt z.toArray ∧ y = .int i ∧ z.length ≤ sizeLine ∧ 0 ≤ i ∧ i < z.length ∧ Q (.int ((z.getD i.toNat 0).toNat : Nat)) H) ta tb) := by
  intro pins s σ H Q I h
  refine Subscript_ (binT ha hb I h fun v u s2 x y H2 I2 rx ry q => ?_)
  obtain ⟨z, i, rfl, rfl, hz, h0, h1, q⟩ := q
  obtain ⟨t, rfl⟩ := rx
  obtain ⟨t', rfl⟩ := ry
  have hl : sizeLine = 16777216 := sizeLine_eq
  exact tail_any (PySem.W.typeIs_bytes s2 z.toArray t) PySem.W.FB.slot_bytes_getitem.lookup (PySem.W.getItem_bytes (by omega) h0 h1 ⟨.int ((z.getD i.toNat 0).toNat : Nat), H2, I2.tok _, ⟨_, rfl⟩, q⟩) (hs _ _)

/-! ### scalar builtins, by CallR -/
theorem vals1 {x : V} {us : List Value} (r : Vals [x] us) : ∃ u, us = [u] ∧ RelV x u := by
  cases r with
  | cons r1 r2 => cases r2; exact ⟨_, rfl, r1⟩
theorem vals2 {x y : V} {us : List Value} (r : Vals [x, y] us) : ∃ u w', us = [u, w'] ∧ RelV x u ∧ RelV y w' := by
  cases r with
  | cons r1 r2 =>
    cases r2 with
    | cons r3 r4 => cases r4; exact ⟨_, _, rfl, r1, r3⟩
theorem call_abs : CallR X (.builtin "abs") (fun xs H Q => ∃ i, xs = [.int i] ∧ Q (.int (if i < 0 then -i else i)) H) := by
  intro pins s σ H xs us Q I r h
  obtain ⟨i, rfl, q⟩ := h
  obtain ⟨u, rfl, t, rfl⟩ := vals1 r
  exact call_abs_int fun u tk => ⟨.int (if i < 0 then -i else i), H, I.tok _, ⟨_, rfl⟩, q⟩
theorem call_max2 (hc : X.calm = true) : CallR X (.builtin "max") (fun xs H Q => ∃ i j, xs = [.int i, .int j] ∧ Q (.int (if j > i then j else i)) H) := by
  intro pins s σ H xs us Q I r h
  obtain ⟨i, j, rfl, q⟩ := h
  obtain ⟨u, w', rfl, ⟨t, rfl⟩, ⟨t', rfl⟩⟩ := vals2 r
  refine max_two_ints (I.ok.hd hc) fun h' tk k => ⟨_, H, I.kept k, ?_, q⟩
  by_cases hj : j > i
  · rw [if_pos hj, if_pos hj]; exact ⟨_, rfl⟩
  · rw [if_neg hj, if_neg hj]; exact ⟨_, rfl⟩
theorem call_min2 (hc : X.calm = true) : CallR X (.builtin "min") (fun xs H Q => ∃ i j, xs = [.int i, .int j] ∧ Q (.int (if j < i then j else i)) H) := by
  intro pins s σ H xs us Q I r h
  obtain ⟨i, j, rfl, q⟩ := h
  obtain ⟨u, w', rfl, ⟨t, rfl⟩, ⟨t', rfl⟩⟩ := vals2 r
  refine min_two_ints (I.ok.hd hc) fun h' tk k => ⟨_, H, I.kept k, ?_, q⟩
  by_cases hj : j < i
  · rw [if_pos hj, if_pos hj]; exact ⟨_, rfl⟩
  · rw [if_neg hj, if_neg hj]; exact ⟨_, rfl⟩
theorem call_int1 : CallR X (.type "int") (fun xs H Q => (∃ i, xs = [.int i] ∧ Q (.int i) H) ∨ ∃ k, xs = [.bl k] ∧ Q (.int (if k then 1 else 0)) H) := by
  intro pins s σ H xs us Q I r h
  rcases h with ⟨i, rfl, q⟩ | ⟨k, rfl, q⟩
  · obtain ⟨u, rfl, t, rfl⟩ := vals1 r
    exact call_int_int ⟨.int i, H, I, ⟨_, rfl⟩, q⟩
  · obtain ⟨u, rfl, r1⟩ := vals1 r
    cases r1
    exact call_int_bool ⟨.int (if k then 1 else 0), H, I.tok _, ⟨_, rfl⟩, q⟩
theorem call_bool1 : CallR X (.type "bool") (fun xs H Q => (∃ i, xs = [.int i] ∧ Q (.bl (i != 0)) H) ∨ ∃ k, xs = [.bl k] ∧ Q (.bl k) H) := by
  intro pins s σ H xs us Q I r h
  rcases h with ⟨i, rfl, q⟩ | ⟨k, rfl, q⟩
  · obtain ⟨u, rfl, t, rfl⟩ := vals1 r
    exact call_bool_int ⟨.bl (i != 0), H, I, rfl, q⟩
  · obtain ⟨u, rfl, r1⟩ := vals1 r
    cases r1
    exact call_bool_bool ⟨.bl k, H, I, rfl, q⟩
theorem call_str_int : CallR X (.type "str") (fun xs H Q => ∃ i, xs = [.int i] ∧ i.natAbs.log2 < 1920 ∧ Q (.str (toString i)) H) := by
  intro pins s σ H xs us Q I r h
  obtain ⟨i, rfl, hz, q⟩ := h
  obtain ⟨u, rfl, t, rfl⟩ := vals1 r
  exact PySem.P.str_of_int hz ⟨.str _, H, I.tok _, ⟨_, rfl⟩, q⟩
theorem call_ord : CallR X (.builtin "ord") (fun xs H Q => ∃ x, xs = [.str x] ∧ x.length = 1 ∧ Q (.int (x.cps.getD 0 0 : Nat)) H) := by
  intro pins s σ H xs us Q I r h
  obtain ⟨x, rfl, hz, q⟩ := h
  obtain ⟨u, rfl, t, rfl⟩ := vals1 r
  exact ord_of_one hz ⟨.int _, H, I.tok _, ⟨_, rfl⟩, q⟩
theorem call_chr : CallR X (.builtin "chr") (fun xs H Q => ∃ i, xs = [.int i] ∧ 0 ≤ i ∧ i ≤ 1114111 ∧ Q (.str ⟨#[i.toNat]⟩) H) := by
  intro pins s σ H xs us Q I r h
  obtain ⟨i, rfl, h0, h1, q⟩ := h
  obtain ⟨u, rfl, t, rfl⟩ := vals1 r
  exact chr_of_range h0 h1 ⟨.str _, H, I.tok _, ⟨_, rfl⟩, q⟩
/-- len of a str, a bytes, a list, a tuple -/
def LenV (K : PySem.W.Frag) (x : V) (H : Hp) (n : Nat) : Prop :=
  match x with
  | .str y => y.length ≤ sizeLine ∧ n = y.length
  | .byt y => y.size ≤ sizeLine ∧ n = y.size
  | .ref p => (∃ xs, SqL K H p xs ∧ n = xs.length) ∨ ∃ xs, SqT K H p xs ∧ n = xs.length
  | _ => False
theorem call_len : CallR X (.builtin "len") (fun xs H Q => ∃ x n, xs = [x] ∧ LenV X.K x H n ∧ Q (.int n) H) := by
  intro pins s σ H xs us Q I r h
  obtain ⟨x, n, rfl, e, q⟩ := h
  obtain ⟨u, rfl, rx⟩ := vals1 r
  have hl := line63
  have hs : sizeLine = 16777216 := sizeLine_eq
  cases x with
  | str y =>
    obtain ⟨t, rfl⟩ := rx
    obtain ⟨hy, e'⟩ : y.length ≤ sizeLine ∧ n = y.length := e
    subst e'
    exact len_str (by omega) ⟨.int _, H, I.tok _, ⟨_, rfl⟩, q⟩
  | byt y =>
    obtain ⟨t, rfl⟩ := rx
    obtain ⟨hy, e'⟩ : y.size ≤ sizeLine ∧ n = y.size := e
    subst e'
    exact PySem.W.len_bytes (by omega) ⟨.int _, H, I.tok _, ⟨_, rfl⟩, q⟩
  | ref p =>
    cases rx
    have e' : (∃ xs, SqL X.K H p xs ∧ n = xs.length) ∨ ∃ xs, SqT X.K H p xs ∧ n = xs.length := e
    rcases e' with ⟨xs, hx, e'⟩ | ⟨xs, hx, e'⟩
    · subst e'
      obtain ⟨its, r', pl, hz⟩ := I.list hx
      have hlen := r'.length
      exact Calls.call_len_list pl.isList (by simp only [List.size_toArray]; omega) ⟨.int xs.length, H, I.tok _, ⟨_, by simp only [List.size_toArray]; rw [hlen]⟩, q⟩
    · subst e'
      obtain ⟨its, r', pl, hz⟩ := I.tuple hx
      have hlen := r'.length
      exact len_tuple pl (by simp only [List.size_toArray]; omega) ⟨.int xs.length, H, I.tok _, ⟨_, by simp only [List.size_toArray]; rw [hlen]⟩, q⟩
  | _ => exact (show False from e).elim
/-- divmod: a new tuple -/
theorem call_divmod : CallR X (.builtin "divmod") (fun xs H Q => ∃ i j, xs = [.int i, .int j] ∧ CDiv i j ∧ ∀ p, H p = none → Q (.ref p) (upd H p (.tup [.int (i / j), .int (i % j)]))) := by
  intro pins s σ H xs us Q I r h
  obtain ⟨i, j, rfl, ⟨h1, h2⟩, q⟩ := h
  obtain ⟨u, w', rfl, ⟨t, rfl⟩, ⟨t', rfl⟩⟩ := vals2 r
  refine divmod_int (by omega) ?_ (.inl (PyProof.noPylong_small (by omega)))
  rw [Int.fdiv_eq_ediv_of_nonneg i (by omega), Int.fmod_eq_emod_of_nonneg i (by omega)]
  have hn : H s.heap.objs.size = none := I.hok.fresh (Nat.le_refl _)
  refine ⟨.ref s.heap.objs.size, _, ?_, rfl, q _ hn⟩
  refine I.laid (fun b o e => Heap.get?_push_of_some _ e) (Nat.le_refl _) ⟨by simp only [List.length_cons, List.length_nil]; rw [sizeLine_eq]; decide, [.int (i / j) s.toks, .int (i % j) (s.toks + 1)], .cons ⟨_, rfl⟩ (.cons ⟨_, rfl⟩ .nil), ?_⟩
  exact ⟨_, Heap.get?_push_size s.heap rfl, rfl, 0, rfl⟩
end
end L2

namespace L2
open PySem PySem.Spec PyProof.Rows

/-! ### an instance, its attributes a map -/
structure ObjM (h : Heap) (x dx C : Addr) (mA : Str → Option Value) : Prop where
  obj : h.get? x = some (PySem.W.instObj C dx)
  ns : h.Ns1 dx mA
  ne : dx ≠ x

theorem lookIn_ns {h : Heap} {dx : Addr} {mA : Str → Option Value} (n : h.Ns1 dx mA) : ∃ od, h.get? dx = some od ∧ ∀ name, PySem.W.lookIn name od = some (mA name) := by
  obtain ⟨o, es, ep, ho, hd, hk, _, hm⟩ := n
  refine ⟨o, ho, fun name => ?_⟩
  have e := hm name
  unfold nsFind findBy at e
  rw [← Array.find?_toList] at e
  unfold PySem.W.lookIn
  rw [hd]
  dsimp only
  split
  · rename_i y q
    rw [q] at e
    exact congrArg some e
  · rename_i q
    rw [q] at e
    have a : es.toList.any (·.refKey) = false := by
      rw [List.any_eq_false]
      intro y hy
      obtain ⟨z, t, hkey⟩ := hk y (Array.mem_toList_iff.mp hy)
      simp [DictEntry.refKey, hkey]
    have a' : ¬ es.toList.any (·.refKey) = true := by rw [a]; exact Bool.false_ne_true
    rw [if_neg a']
    exact congrArg some e

theorem ObjM.look {h : Heap} {x dx C : Addr} {mA : Str → Option Value} (I : ObjM h x dx C mA) : ∃ od, PySem.W.InstAt h x (PySem.W.instObj C dx) C (some od) ∧ ∀ name, PySem.W.lookIn name od = some (mA name) :=
  let ⟨od, ho, hl⟩ := lookIn_ns I.ns
  ⟨od, ⟨I.obj, rfl, rfl, ho⟩, hl⟩

section
variable {prog : Program} {w : World} {A : Around} {E : Value → Shared → Prop} {s : Shared} {K : PySem.W.Frag} {x dx C f : Addr} {mA : Str → Option Value} {name : Str} {v : Value}

theorem get_map {expr : Bool} {Q : Value → Shared → Prop} (X : K.In s.heap) (I : ObjM s.heap x dx C mA) (hg : PySem.W.plainGet K C name = true) (hh : PySem.W.hasDictIn K C = true)
    (ha : PySem.W.findIn K (.ref C) name = some none) (hv : mA name = some v) (hv' : PySem.W.handedIn v = true) (h : Q v { s with toks := s.toks + 1 }) :
    wpAny (model prog w) A (getAttr (.ref x) name expr) Q E s := by
  obtain ⟨od, J, hl⟩ := I.look
  exact PySem.W.get_value X J (PySem.W.plainGet_of hg).1 (PySem.W.findObj_own hh ha rfl (by rw [hl, hv])) hv' h

theorem get_const {expr : Bool} {a : Value} {Q : Value → Shared → Prop} (X : K.In s.heap) (I : ObjM s.heap x dx C mA) (hg : PySem.W.plainGet K C name = true) (hh : PySem.W.hasDictIn K C = true)
    (ha : PySem.W.findIn K (.ref C) name = some (some a)) (hn : PySem.W.specialIn K a "__get__" = some none) (hc : PySem.W.copiedNames.contains name = false) (hv : mA name = none) (hv' : PySem.W.handedIn a = true)
    (h : Q a { s with toks := s.toks + 1 }) : wpAny (model prog w) A (getAttr (.ref x) name expr) Q E s := by
  obtain ⟨od, J, hl⟩ := I.look
  exact PySem.W.get_value X J (PySem.W.plainGet_of hg).1 (PySem.W.findObj_cls hh ha hn hv' hc (by rw [hl, hv])) hv' h

theorem get_meth {pl : Sem Bool} {Q : Value × List Value → Shared → Prop} (X : K.In s.heap) (I : ObjM s.heap x dx C mA) (hg : PySem.W.plainGet K C name = true)
    (hf : PySem.W.findIn K (.ref C) name = some (some (.ref f))) (ht : PySem.W.isFn K (.ref f) = true) (hv : mA name = none) (h : Q (.ref f, [.ref x]) s) :
    wpAny (model prog w) A (getMethod (.ref x) name pl) Q E s := by
  obtain ⟨od, J, hl⟩ := I.look
  exact PySem.W.method_fn X J (PySem.W.plainGet_of hg).1 (PySem.W.plainGet_of hg).2 hf (beq_iff_eq.mp ht) (by show (PySem.W.lookIn name od).map (·.isSome) = some false; rw [hl, hv]; rfl) h

theorem set_map {ns : List Str} {Q : Unit → Shared → Prop} (X : K.In s.heap) (I : ObjM s.heap x dx C mA)
    (hs : PySem.W.findIn K (.ref C) "__setattr__" = some (some (.builtin "object.__setattr__"))) (hp : PySem.W.plainOver K C = true) (ht : PySem.W.takerIn K C name = some none) (hh : PySem.W.hasDictIn K C = true)
    (hw : PySem.Within mA ns) (hsz : ns.length ≤ sizeLine)
    (h : ∀ h', ObjM h' x dx C (fun y => if y = name then some v else mA y) → Heap.SameBut dx s.heap h' → Q () { s with heap := h', toks := s.toks + 2 }) :
    wpAny (model prog w) A (setAttr (.ref x) name v) Q E s := by
  obtain ⟨od, J, hl⟩ := I.look
  refine PySem.W.set_plain X J hs (PySem.W.osa_open (s := { s with toks := s.toks + 1 }) (r := none) X J hp ht fun b => ?_)
  obtain ⟨cd, hc, hd'⟩ := PySem.W.any_some hh
  have hx : s.heap.get? x = some ⟨.ref C, some dx, .plain, #[]⟩ := I.obj
  refine wpAny_bind (wpAny_pure (wpAny_bind (wpAny_bind (wpAny_loadPart hx (wpAny_bind (PySem.W.Looks.here (s := { s with toks := s.toks + 1 }) (PySem.W.looks_clsIn X hc) ?_))))))
  rw [hd']
  refine wpAny_pure (a := some dx) (wpAny_bind (wpAny_pure (wpAny_bind ?_)))
  refine wpAny_nsSet1 (s := { s with toks := s.toks + 1 }) I.ns fun h' hn2 hs2 => ?_
  obtain ⟨oD, esD, epD, hoD, hdD, hcD⟩ := hn2.count (PySem.Within.cons name v hw)
  refine wpAny_bind (wpAny_lookBehind hoD (by rw [hdD]; exact pastItsLine_dict (Nat.le_trans hcD (by rw [List.length_cons]; omega))) ?_)
  exact wpAny_pure (h _ ⟨(hs2.2 _ (Ne.symm I.ne)).trans I.obj, hn2, I.ne⟩ hs2)

/-- C(..): the dict at the heap's end, the instance behind it; then its __init__ -/
theorem make_map {R : Result → Shared → Prop} {vs : List Value} {kw : List (Str × Value)} (X : K.In s.heap) (hm : PySem.W.makesIn K C = true)
    (hi : PySem.W.findIn K (.ref C) "__init__" = some (some (.ref f))) (hf : PySem.W.typeIn K (.ref f) = some (.type "function"))
    (h : codeAny (model prog w) (A.under (.builtin "type.__call__" ⟨.ref C :: vs, kw⟩)) (.call (.ref f) ⟨.ref (s.heap.objs.size + 1) :: vs, kw⟩) (PySem.W.InitBack (s.heap.objs.size + 1) R)
      { s with heap := (s.heap.push PySem.W.emptyDict).push (PySem.W.instObj C s.heap.objs.size) }) :
    codeAny (model prog w) A (.call (.ref C) ⟨vs, kw⟩) R s := by
  obtain ⟨hh, g, d, t, os⟩ := s
  exact PySem.W.make_core (PySem.W.makes_of X hm) (PySem.W.looks_findIn X hi) (fun self => PySem.W.bind_fn X self hf) (.inl rfl) h
/-- C() where there is no __init__ but object's -/
theorem make_map0 {R : Result → Shared → Prop} (X : K.In s.heap) (hm : PySem.W.makesIn K C = true)
    (hi : PySem.W.findIn K (.ref C) "__init__" = some (some (.builtin "object.__init__")))
    (hb : ∀ self, PySem.W.Looks (model prog w) s.heap (bindSpecial (.builtin "object.__init__") self) (.builtin "object.__init__", [self]))
    (h : codeAny (model prog w) (A.under (.builtin "type.__call__" ⟨[.ref C], []⟩)) (.call (.builtin "object.__init__") ⟨[.ref (s.heap.objs.size + 1)], []⟩) (PySem.W.InitBack (s.heap.objs.size + 1) R)
      { s with heap := (s.heap.push PySem.W.emptyDict).push (PySem.W.instObj C s.heap.objs.size) }) :
    codeAny (model prog w) A (.call (.ref C) ⟨[], []⟩) R s := by
  obtain ⟨hh, g, d, t, os⟩ := s
  exact PySem.W.make_core (PySem.W.makes_of X hm) (PySem.W.looks_findIn X hi) hb (.inr ⟨rfl, rfl⟩) h
end

/-! ### the attributes as a list of pairs -/
def putF (f : Str) (v : V) : List (Str × V) → List (Str × V)
  | [] => [(f, v)]
  | (g, x) :: r => if g = f then (g, v) :: r else (g, x) :: putF f v r
theorem lookup_putF (f g : Str) (v : V) : ∀ fs : List (Str × V), (putF f v fs).lookup g = if g = f then some v else fs.lookup g
  | [] => by
    show List.lookup g [(f, v)] = _
    by_cases h : g = f
    · have hb : (g == f) = true := beq_iff_eq.mpr h
      simp only [List.lookup, hb, if_pos h]
    · have hb : (g == f) = false := beq_eq_false_iff_ne.mpr h
      simp only [List.lookup, hb, if_neg h]
  | (k, x) :: r => by
    have ih := lookup_putF f g v r
    rw [show putF f v ((k, x) :: r) = (if k = f then (k, v) :: r else (k, x) :: putF f v r) from rfl]
    by_cases hk : k = f
    · rw [if_pos hk]
      by_cases h : g = k
      · have hb : (g == k) = true := beq_iff_eq.mpr h
        simp only [List.lookup, hb, if_pos (h.trans hk)]
      · have hb : (g == k) = false := beq_eq_false_iff_ne.mpr h
        simp only [List.lookup, hb, if_neg (fun e : g = f => h (e.trans hk.symm))]
    · rw [if_neg hk]
      by_cases h : g = k
      · have hb : (g == k) = true := beq_iff_eq.mpr h
        simp only [List.lookup, hb, if_neg (fun e : g = f => hk (h.symm.trans e))]
      · have hb : (g == k) = false := beq_eq_false_iff_ne.mpr h
        simp only [List.lookup, hb]
        exact ih
theorem keys_putF (f : Str) (v : V) : ∀ fs : List (Str × V), f ∈ (putF f v fs).map (·.1) ∧ ∀ g, g ∈ fs.map (·.1) → g ∈ (putF f v fs).map (·.1)
  | [] => ⟨by simp [putF], fun g h => by simp at h⟩
  | (k, x) :: r => by
    obtain ⟨i1, i2⟩ := keys_putF f v r
    rw [show putF f v ((k, x) :: r) = (if k = f then (k, v) :: r else (k, x) :: putF f v r) from rfl]
    by_cases hk : k = f
    · rw [if_pos hk]
      subst hk
      exact ⟨by simp, fun g h => by simpa using h⟩
    · rw [if_neg hk]
      refine ⟨?_, fun g h => ?_⟩
      · rw [List.map_cons]
        exact List.mem_cons_of_mem _ i1
      · rw [List.map_cons] at h ⊢
        rcases List.mem_cons.mp h with e | e
        · exact List.mem_cons.mpr (.inl e)
        · exact List.mem_cons_of_mem _ (i2 g e)
theorem length_putF (f : Str) (v : V) : ∀ fs : List (Str × V), (putF f v fs).length ≤ fs.length + 1
  | [] => by simp [putF]
  | (k, x) :: r => by
    have ih := length_putF f v r
    rw [show putF f v ((k, x) :: r) = (if k = f then (k, v) :: r else (k, x) :: putF f v r) from rfl]
    by_cases hk : k = f
    · rw [if_pos hk, List.length_cons, List.length_cons]; omega
    · rw [if_neg hk, List.length_cons, List.length_cons]; omega

theorem RelO.some_of {v : V} {o : Option Value} (r : RelO (some v) o) : ∃ u, o = some u ∧ RelV v u := by
  cases o with
  | none => exact (show False from r).elim
  | some u => exact ⟨u, rfl, r⟩
theorem RelO.none_of {o : Option Value} (r : RelO none o) : o = none := by
  cases o with
  | none => rfl
  | some u => exact (show False from r).elim
theorem handed_of {v : V} {u : Value} (r : RelV v u) : PySem.W.handedIn u = true := by
  cases v with
  | non => cases (show u = Value.none from r); rfl
  | bl b => cases (show u = Value.bool b from r); rfl
  | int i => obtain ⟨t, e⟩ := (show ∃ t, u = Value.int i t from r); cases e; rfl
  | str x => obtain ⟨t, e⟩ := (show ∃ t, u = Value.str x t from r); cases e; rfl
  | byt b => obtain ⟨t, e⟩ := (show ∃ t, u = Value.bytes b t from r); cases e; rfl
  | flt b => obtain ⟨t, e⟩ := (show ∃ t, u = Value.float b t from r); cases e; rfl
  | ref a => cases (show u = Value.ref a from r); rfl
  | ty n => cases (show u = Value.type n from r); rfl

section
variable {P : Program} {w : World} {H H' : Hp} {h h' : Heap} {a C dx : Addr} {fs fs' : List (Str × V)}
theorem ins_get (hok : HOk P w H h) (e : H a = some (.ins C dx fs)) : ∃ mA, ObjM h a dx C mA ∧ (∀ f, RelO (fs.lookup f) (mA f)) ∧ PySem.Within mA (fs.map (·.1)) ∧ fs.length ≤ 1000 ∧ H dx = some (.own a) := by
  obtain ⟨d, z, ne, ob, mA, n, r, q⟩ := (show ObjOk P w H h a (.ins C dx fs) from hok a _ e)
  exact ⟨mA, ⟨ob, n, ne⟩, r, q, z, d⟩
end

/-! ### what of the text a class must have -/
structure Cls (K : PySem.W.Frag) (C : Addr) : Prop where
  pg : PySem.W.plainGet K C Str.empty = true
  hd : PySem.W.hasDictIn K C = true
  po : PySem.W.plainOver K C = true
  sa : PySem.W.findIn K (.ref C) "__setattr__" = some (some (.builtin "object.__setattr__"))
theorem Cls.get {K : PySem.W.Frag} {C : Addr} (c : Cls K C) (f : Str) : PySem.W.plainGet K C f = true := c.pg
/-- no class of it has the name -/
def NoAttr (K : PySem.W.Frag) (C : Addr) (f : Str) : Prop := PySem.W.findIn K (.ref C) f = some none
theorem NoAttr.taker {K : PySem.W.Frag} {C : Addr} {f : Str} (n : NoAttr K C f) : PySem.W.takerIn K C f = some none := by
  unfold PySem.W.takerIn
  rw [show PySem.W.findIn K (.ref C) f = some none from n]
  rfl
/-- a constant of the class -/
structure Con (K : PySem.W.Frag) (C : Addr) (f : Str) (v : V) (u : Value) : Prop where
  at_ : PySem.W.findIn K (.ref C) f = some (some u)
  rel : RelV v u
  get : PySem.W.specialIn K u "__get__" = some none
  cp : PySem.W.copiedNames.contains f = false
/-- a method: a plain def of the class or of one above it -/
structure Meth (K : PySem.W.Frag) (C : Addr) (m : Str) (f : Addr) : Prop where
  at_ : PySem.W.findIn K (.ref C) m = some (some (.ref f))
  fn : PySem.W.isFn K (.ref f) = true
  kp : PySem.W.keepIn K (.ref f) = true

section
variable {X : Cx} {pins : List (Addr × Obj)} {σ : St} {H : Hp} {s : Shared} {a C dx : Addr} {fs : List (Str × V)} {f : Str} {v : V} {A : Around} {E : Value → Shared → Prop}

theorem getattr_ok {b : Bool} {Q : Value → Shared → Prop} (I : Inv X pins σ H s) (e : H a = some (.ins C dx fs)) (c : Cls X.K C) (n : NoAttr X.K C f) (l : fs.lookup f = some v)
    (h : ∀ u s', Inv X pins σ H s' → RelV v u → Q u s') : wpAny (model X.prog X.w) A (getAttr (.ref a) f b) Q E s := by
  obtain ⟨mA, O, r, _, _, _⟩ := ins_get I.hok e
  obtain ⟨u, hu, ru⟩ := RelO.some_of (v := v) (o := mA f) (by rw [← l]; exact r f)
  exact get_map I.kIn O (c.get f) c.hd n hu (handed_of ru) (h u _ (I.tok _) ru)

theorem getcon_ok {b : Bool} {u : Value} {Q : Value → Shared → Prop} (I : Inv X pins σ H s) (e : H a = some (.ins C dx fs)) (c : Cls X.K C) (k : Con X.K C f v u) (l : fs.lookup f = none)
    (h : ∀ s', Inv X pins σ H s' → Q u s') : wpAny (model X.prog X.w) A (getAttr (.ref a) f b) Q E s := by
  obtain ⟨mA, O, r, _, _, _⟩ := ins_get I.hok e
  have hn : mA f = none := RelO.none_of (by rw [← l]; exact r f)
  exact get_const I.kIn O (c.get f) c.hd k.at_ k.get k.cp hn (handed_of k.rel) (h _ (I.tok _))

theorem getmeth_ok {m : Str} {g : Addr} {pl : Sem Bool} {Q : Value × List Value → Shared → Prop} (I : Inv X pins σ H s) (e : H a = some (.ins C dx fs)) (c : Cls X.K C) (k : Meth X.K C m g) (l : fs.lookup m = none)
    (h : Q (.ref g, [.ref a]) s) : wpAny (model X.prog X.w) A (getMethod (.ref a) m pl) Q E s := by
  obtain ⟨mA, O, r, _, _, _⟩ := ins_get I.hok e
  have hn : mA m = none := RelO.none_of (by rw [← l]; exact r m)
  exact get_meth I.kIn O (c.get m) k.at_ k.fn hn h

theorem setattr_ok {y : V} {u : Value} {Q : Unit → Shared → Prop} (I : Inv X pins σ H s) (e : H a = some (.ins C dx fs)) (c : Cls X.K C) (n : NoAttr X.K C f) (hl : fs.length < 1000) (ry : RelV y u)
    (h : ∀ s', Inv X pins σ (upd H a (.ins C dx (putF f y fs))) s' → Q () s') : wpAny (model X.prog X.w) A (setAttr (.ref a) f u) Q E s := by
  obtain ⟨mA, O, r, wi, _, ho⟩ := ins_get I.hok e
  have hz : (fs.map (·.1)).length ≤ sizeLine := by rw [List.length_map, sizeLine_eq]; omega
  refine set_map I.kIn O c.sa c.po n.taker c.hd wi hz fun h' O' sb => h _ ?_
  have hd : ∃ o, h'.get? dx = some o := let ⟨o, _, _, e', _⟩ := O'.ns; ⟨o, e'⟩
  refine I.write (x := a) (e := dx) (by rw [e]; exact True.intro) (.inr ho) (fun b q hb z => (sb.2 b hb).trans z) hd ?_
  refine ⟨by rw [upd_ne O.ne]; exact ho, ?_, O.ne, O'.obj, _, O'.ns, fun g => ?_, fun g hg => ?_⟩
  · have := length_putF f y fs; omega
  · show RelO ((putF f y fs).lookup g) (if g = f then some u else mA g)
    rw [lookup_putF]
    by_cases q : g = f
    · rw [if_pos q, if_pos q]; exact ry
    · rw [if_neg q, if_neg q]; exact r g
  · by_cases q : g = f
    · rw [q]; exact (keys_putF f y fs).1
    · refine (keys_putF f y fs).2 g (wi g fun z => hg ?_)
      show (if g = f then some u else mA g) = none
      rw [if_neg q]; exact z

/-- a new instance, tracked, without attributes -/
theorem Inv.made (I : Inv X pins σ H s) : Inv X pins σ (upd (upd H s.heap.objs.size (.own (s.heap.objs.size + 1))) (s.heap.objs.size + 1) (.ins C s.heap.objs.size []))
    { s with heap := (s.heap.push PySem.W.emptyDict).push (PySem.W.instObj C s.heap.objs.size) } := by
  have e1 : (s.heap.push PySem.W.emptyDict).get? s.heap.objs.size = some PySem.W.emptyDict := Heap.get?_push_size s.heap rfl
  have e2 : ((s.heap.push PySem.W.emptyDict).push (PySem.W.instObj C s.heap.objs.size)).get? (s.heap.objs.size + 1) = some (PySem.W.instObj C s.heap.objs.size) := by
    have := Heap.get?_push_size (s.heap.push PySem.W.emptyDict) (o := PySem.W.instObj C s.heap.objs.size) rfl
    rwa [Heap.size_push] at this
  have e3 : (s.heap.push PySem.W.emptyDict).Ns s.heap.objs.size (fun _ => none) := ⟨PySem.W.emptyDict, #[], _, e1, rfl, (fun e he => absurd he (by simp)), fun _ => rfl⟩
  have I1 := I.laid (a := s.heap.objs.size) (o := .own (s.heap.objs.size + 1)) (h' := s.heap.push PySem.W.emptyDict) (t' := s.toks) (fun b u q => Heap.get?_push_of_some _ q) (Nat.le_refl _) ⟨_, e1⟩
  refine I1.laid (a := s.heap.objs.size + 1) (o := .ins C s.heap.objs.size []) (t' := s.toks) (fun b u q => Heap.get?_push_of_some _ q) (Nat.le_of_eq (Heap.size_push _ _)) ?_
  have ne : s.heap.objs.size ≠ s.heap.objs.size + 1 := Nat.ne_of_lt (Nat.lt_succ_self _)
  refine ⟨by rw [upd_ne ne, upd_same], Nat.zero_le _, ne, e2, fun _ => none, (Heap.Ns1.of_empty e3).at fun o q => Heap.get?_push_of_some _ q, fun _ => True.intro, fun y hy => absurd rfl hy⟩

/-- e.f where nothing but the object is asked: through attributeBase (super) and the last hold -/
theorem attr_of {prog : Program} {w : World} {env : Env} {e : Expr} {f : Str} {pos : Pos} {s : Shared} {Q : Value → Shared → Prop} (hb : attributeBase e f env (eval e env) = eval e env)
    (h : wpAny (model prog w) A (eval e env) (fun o s₁ => wpAny (model prog w) A (getAttr o f true) Q E s₁) E s) : wpAny (model prog w) A (eval (.Attribute e f pos) env) Q E s :=
  Attribute_any_ h (by rw [arm_eval_Attribute, hb])
end

/-! ### readings and rules -/
/-- e.f, an attribute of the instance -/
def tFld (K : PySem.W.Frag) (ta : TE) (f : Str) : TE := fun σ H Q => ta σ H fun x H1 => ∃ a C dx fs v, x = .ref a ∧ H1 a = some (.ins C dx fs) ∧ Cls K C ∧ NoAttr K C f ∧ fs.lookup f = some v ∧ Q v H1
/-- e.f, a constant of the class -/
def tCon (K : PySem.W.Frag) (ta : TE) (f : Str) : TE := fun σ H Q => ta σ H fun x H1 => ∃ a C dx fs v u, x = .ref a ∧ H1 a = some (.ins C dx fs) ∧ Cls K C ∧ Con K C f v u ∧ fs.lookup f = none ∧ Q v H1
/-- e.f = value -/
def sFld (K : PySem.W.Frag) (ta tv : TE) (f : Str) : TS := fun D σ H => tv σ H fun y H1 => ta σ H1 fun x H2 => ∃ a C dx fs, x = .ref a ∧ H2 a = some (.ins C dx fs) ∧ Cls K C ∧ NoAttr K C f ∧ fs.length < 1000 ∧
  D.nx σ (upd H2 a (.ins C dx (putF f y fs)))
/-- an augmented operator on two values -/
def InOp (X : Cx) (op : Operator) (rd : V → V → Hp → VK → Prop) : Prop :=
  ∀ (pins : List (Addr × Obj)) (s : Shared) (σ : St) (H : Hp) (x y : V) (u v : Value) (Q : VK), Inv X pins σ H s → RelV x u → RelV y v → rd x y H Q → wpAny (model X.prog X.w) X.A (inplaceOp op u v) (EP X pins σ Q) X.xe s
/-- e.f op= value -/
def sFldAug (K : PySem.W.Frag) (ta tv : TE) (rd : V → V → Hp → VK → Prop) (f : Str) : TS := fun D σ H => ta σ H fun x H1 => ∃ a C dx fs v, x = .ref a ∧ H1 a = some (.ins C dx fs) ∧ Cls K C ∧ NoAttr K C f ∧ fs.lookup f = some v ∧
  tv σ H1 fun y H2 => rd v y H2 fun z H3 => ∃ dx' fs', H3 a = some (.ins C dx' fs') ∧ fs'.length < 1000 ∧ D.nx σ (upd H3 a (.ins C dx' (putF f z fs')))

section
variable {X : Cx} {o e value : Expr} {f : Str} {pos pos' tpos : Pos} {ta tv : TE}
theorem pe_fld (he : PE X e ta) (hb : attributeBase e f X.env (eval e X.env) = eval e X.env) : PE X (.Attribute e f pos) (tFld X.K ta f) := by
  intro pins s σ H Q I h
  refine attr_of hb (thn (he pins s σ H _ I h) fun u s1 ⟨x, H1, I1, rx, a, C, dx, fs, v, ex, ea, c, n, l, q⟩ => ?_)
  subst ex
  obtain rfl : u = Value.ref a := rx
  exact getattr_ok I1 ea c n l fun u' s2 I2 ru => ⟨v, H1, I2, ru, q⟩
theorem pe_con (he : PE X e ta) (hb : attributeBase e f X.env (eval e X.env) = eval e X.env) : PE X (.Attribute e f pos) (tCon X.K ta f) := by
  intro pins s σ H Q I h
  refine attr_of hb (thn (he pins s σ H _ I h) fun u s1 ⟨x, H1, I1, rx, a, C, dx, fs, v, u0, ex, ea, c, k, l, q⟩ => ?_)
  subst ex
  obtain rfl : u = Value.ref a := rx
  exact getcon_ok I1 ea c k l fun s2 I2 => ⟨v, H1, I2, k.rel, q⟩
theorem ps_fld (ha : PE X o ta) (hv : PE X value tv) (hs : swapsWith value (some (.Attribute o f pos')) pos.line X.env = pure false) : PS X (.Assign [.Attribute o f pos'] value pos) (sFld X.K ta tv f) := by
  intro pins s σ H D I h
  refine plainObj_wpAny_Assign_Attribute (thn (hv pins s σ H _ I h) fun u s1 ⟨y, H1, I1, ry, q⟩ => thn (ha pins s1 σ H1 _ I1 q) fun ov s2 ⟨x, H2, I2, rx, a, C, dx, fs, ex, ea, c, n, l, q2⟩ => ?_) hs
  subst ex
  obtain rfl : ov = Value.ref a := rx
  exact setattr_ok I2 ea c n l ry fun s3 I3 => ⟨σ, _, I3, q2⟩
theorem ps_fldaug {op : Operator} {rd : V → V → Hp → VK → Prop} (ha : PE X o ta) (hv : PE X value tv) (hop : InOp X op rd) : PS X (.AugAssign (.Attribute o f tpos) op value pos) (sFldAug X.K ta tv rd f) := by
  intro pins s σ H D I h
  refine wpAny_AugAssign_AttributeAny (thn (ha pins s σ H _ I h) fun ov s1 ⟨x, H1, I1, rx, a, C, dx, fs, v, ex, ea, c, n, l, q⟩ => ?_)
  subst ex
  obtain rfl : ov = Value.ref a := rx
  refine getattr_ok I1 ea c n l fun u s2 I2 ru => thn (hv pins s2 σ H1 _ I2 q) fun w3 s3 ⟨y, H2, I3, ry, q3⟩ => thn (hop pins s3 σ H2 v y u w3 _ I3 ru ry q3) fun w4 s4 ⟨z, H3, I4, rz, dx', fs', ea', l', q4⟩ => ?_
  exact setattr_ok I4 ea' c n l' rz fun s5 I5 => ⟨σ, _, I5, q4⟩
def rAdd : V → V → Hp → VK → Prop := fun x y H Q => ∃ i j, x = .int i ∧ y = .int j ∧ Q (.int (i + j)) H
def rSub : V → V → Hp → VK → Prop := fun x y H Q => ∃ i j, x = .int i ∧ y = .int j ∧ Q (.int (i - j)) H
theorem in_add : InOp X .Add rAdd := by
  rintro pins s σ H x y u v Q I rx ry ⟨i, j, rfl, rfl, q⟩
  obtain ⟨t, rfl⟩ := (show ∃ t, u = Value.int i t from rx)
  obtain ⟨t', rfl⟩ := (show ∃ t', v = Value.int j t' from ry)
  exact PyProof.Rows.iadd_int ⟨.int (i + j), H, I.tok _, ⟨_, rfl⟩, q⟩
theorem in_sub : InOp X .Sub rSub := by
  rintro pins s σ H x y u v Q I rx ry ⟨i, j, rfl, rfl, q⟩
  obtain ⟨t, rfl⟩ := (show ∃ t, u = Value.int i t from rx)
  obtain ⟨t', rfl⟩ := (show ∃ t', v = Value.int j t' from ry)
  exact PyProof.Rows.isub_int ⟨.int (i - j), H, I.tok _, ⟨_, rfl⟩, q⟩

/-- what is between an instance and its method: the tree of a method call -/
theorem methcall_of {pl : Sem Bool} {m : Str} {apos : Pos} {args : List Expr} {pins : List (Addr × Obj)} {s : Shared} {σ : St} {H : Hp} {Q : Value → Shared → Prop} {te : TE} (he : PE X e te) (I : Inv X pins σ H s)
    (h : te σ H fun x H1 => ∃ a C dx fs g, x = .ref a ∧ H1 a = some (.ins C dx fs) ∧ Cls X.K C ∧ Meth X.K C m g ∧ fs.lookup m = none ∧
      ∀ s1, Inv X pins σ H1 s1 → wpAny (model X.prog X.w) X.A (callWith pos (.ref g) [.ref a] (backTo pos (starEach args X.env)) (backToKw pos (keywordEach [] X.env))) Q X.xe s1)
    (ht : eval (.Call (.Attribute e m apos) args [] pos) X.env = (do
      let ov ← eval e X.env
      standAt apos.atName
      let (f, first) ← holding [ov] (getMethod ov m pl)
      callWith pos f first (backTo pos (starEach args X.env)) (backToKw pos (keywordEach [] X.env)))) :
    wpAny (model X.prog X.w) X.A (eval (.Call (.Attribute e m apos) args [] pos) X.env) Q X.xe s := by
  refine PySem.W.methodCall_KW (pl := pl) (thn (he pins s σ H _ I h) fun u s1 ⟨x, H1, I1, rx, a, C, dx, fs, g, ex, ea, c, k, l, q⟩ => ?_) ht
  subst ex
  obtain rfl : u = Value.ref a := rx
  exact getmeth_ok I1 ea c k l (q s1 I1)
end

/-! ### isinstance -/
section
variable {X : Cx} {pins : List (Addr × Obj)} {σ : St} {H : Hp} {s : Shared} {A : Around} {E : Value → Shared → Prop} {Q : Value → Shared → Prop} {c : Value} {b : Bool}
/-- the type of a value, as the fragment's deciders take it; for an instance its class -/
inductive TyOf (K : PySem.W.Frag) (H : Hp) : V → Value → Prop where
  | non : TyOf K H .non (.type "NoneType")
  | bl (x : Bool) : TyOf K H (.bl x) (.type "bool")
  | int (i : Int) : TyOf K H (.int i) (.type "int")
  | str (x : Str) : TyOf K H (.str x) (.type "str")
  | flt (x : UInt64) : TyOf K H (.flt x) (.type "float")
  | lst {a : Addr} {xs : List V} (e : H a = some (.lst xs)) : TyOf K H (.ref a) (.type "list")
  | frz {a : Addr} {o : Obj} {xs : List V} (e : H a = some (.frz o (.lst xs))) : TyOf K H (.ref a) (.type "list")
  | tup {a : Addr} {xs : List V} (e : H a = some (.tup xs)) : TyOf K H (.ref a) (.type "tuple")
  | dK {a : Addr} {kvs : List (Key × V)} (e : H a = some (.dK kvs)) : TyOf K H (.ref a) (.type "dict")
  | dT {a : Addr} {kvs : List (List Key × V)} (e : H a = some (.dT kvs)) : TyOf K H (.ref a) (.type "dict")
  | ins {a C dx : Addr} {fs : List (Str × V)} (e : H a = some (.ins C dx fs)) (cl : Cls K C) (ha : PySem.W.findIn K (.ref C) "__class__" = some (some (.builtin "object.__class__")))
      (hn : PySem.W.specialIn K (.builtin "object.__class__") "__get__" = some (some (.builtin "getset_descriptor.__get__"))) (htk : PySem.W.takesIn K (.builtin "object.__class__") = some true)
      (hm : PySem.W.mroIn K C (.type "object") = some true) : TyOf K H (.ref a) (.ref C)
/-- isinstance(x, c) for one class c, a built-in or an own one: kitOne's answer -/
theorem isinst_ok {x : V} {u t : Value} (I : Inv X pins σ H s) (rx : RelV x u) (ty : TyOf X.K H x t) (e : PySem.W.kitOne X.K t c = some b) (h : ∀ tk, Q (.bool b) { s with toks := tk }) :
    wpAny (model X.prog X.w) A (call (.builtin "isinstance") [u, c]) Q E s := by
  cases ty with
  | non => cases (show u = Value.none from rx); exact PySem.W.kia_one PySem.W.kitx_none I.kIn True.intro e (fun z => nomatch z) h
  | bl y => cases (show u = Value.bool y from rx); exact PySem.W.kia_one PySem.W.kitx_bool I.kIn True.intro e (fun z => nomatch z) h
  | int i => obtain ⟨t, q⟩ := (show ∃ t, u = Value.int i t from rx); cases q; exact PySem.W.kia_one PySem.W.kitx_int I.kIn True.intro e (fun z => nomatch z) h
  | str y => obtain ⟨t, q⟩ := (show ∃ t, u = Value.str y t from rx); cases q; exact PySem.W.kia_one PySem.W.kitx_str I.kIn True.intro e (fun z => nomatch z) h
  | flt y => obtain ⟨t, q⟩ := (show ∃ t, u = Value.float y t from rx); cases q; exact PySem.W.kia_one PySem.W.kitx_float I.kIn True.intro e (fun z => nomatch z) h
  | @lst a xs ea =>
    cases (show u = Value.ref a from rx)
    obtain ⟨_, _, n, _, h1⟩ := (show ObjOk X.prog X.w H s.heap a (.lst xs) from I.hok a _ ea)
    exact PySem.W.kia_one PySem.W.kitx_list I.kIn ⟨_, h1, rfl⟩ e (fun z => nomatch z) h
  | @frz a ob xs ea =>
    cases (show u = Value.ref a from rx)
    obtain ⟨_, _, _, n, _, h1⟩ := (show ObjOk X.prog X.w H s.heap a (.frz ob (.lst xs)) from I.hok a _ ea)
    exact PySem.W.kia_one PySem.W.kitx_list I.kIn ⟨_, h1, rfl⟩ e (fun z => nomatch z) h
  | @tup a xs ea =>
    cases (show u = Value.ref a from rx)
    obtain ⟨_, _, _, p⟩ := (show ObjOk X.prog X.w H s.heap a (.tup xs) from I.hok a _ ea)
    obtain ⟨o, h1, h2, _⟩ := p
    exact PySem.W.kia_one PySem.W.kitx_tuple I.kIn ⟨o, h1, h2⟩ e (fun z => nomatch z) h
  | @dK a kvs ea =>
    cases (show u = Value.ref a from rx)
    obtain ⟨_, _, vs, _, p⟩ := (show ObjOk X.prog X.w H s.heap a (.dK kvs) from I.hok a _ ea)
    obtain ⟨o, es, ep, h1, h2, _⟩ := p
    exact PySem.W.kia_one PySem.W.kitx_dict I.kIn ⟨o, h1, h2.1⟩ e (fun z => nomatch z) h
  | @dT a kvs ea =>
    cases (show u = Value.ref a from rx)
    obtain ⟨_, _, xs, _, o, es, ep, h1, h2, _⟩ := (show ObjOk X.prog X.w H s.heap a (.dT kvs) from I.hok a _ ea)
    exact PySem.W.kia_one PySem.W.kitx_dict I.kIn ⟨o, h1, h2.1⟩ e (fun z => nomatch z) h
  | @ins a C dx fs ea cl ha hn htk hm =>
    cases (show u = Value.ref a from rx)
    obtain ⟨mA, O, _⟩ := ins_get I.hok ea
    obtain ⟨od, J, _⟩ := O.look
    exact PySem.W.kia_one (PySem.W.kitx_own (cl.get _) cl.hd ha hn htk hm) I.kIn J e (fun z => nomatch z) h
end
end L2

namespace L2
open PySem PySem.Spec PyProof.Rows

/-! ### room -/
structure Room (k : Nat) (A : Around) : Prop where
  hd : A.handled = none
  dp : A.depth + 3 * k + 5 < recursionLimit
  un : A.units + 16 * k + 200 < cLine
theorem Room.mono {j k : Nat} {A : Around} (r : Room k A) (h : j ≤ k) : Room j A := ⟨r.hd, by have := r.dp; omega, by have := r.un; omega⟩
theorem Room.deeper {k : Nat} {A : Around} (r : Room (k + 1) A) (env : Env) : Room k (A.deeper env) :=
  ⟨r.hd, by have := r.dp; show A.depth + 1 + 3 * k + 5 < _; omega, by have := r.un; show A.units + 3 + 16 * k + 200 < _; omega⟩
theorem Room.in1 {k : Nat} {A : Around} (r : Room (k + 1) A) : Room k A.in1 :=
  ⟨r.hd, by have := r.dp; show A.depth + 3 * k + 5 < _; omega, by have := r.un; show A.units + 1 + 16 * k + 200 < _; omega⟩
theorem make_depth {A : Around} {C : Addr} {us : List Value} {kw : List (Str × Value)} : (A.under (.builtin "type.__call__" ⟨.ref C :: us, kw⟩)).depth = A.depth + 1 := by
  first | rfl | simp [Around.under, Code.weight, Code.isCreation, Code.isGuard, Code.isCaller, Code.frames, Code.isFrame, guardIds]
theorem make_units {A : Around} {C : Addr} {us : List Value} {kw : List (Str × Value)} : (A.under (.builtin "type.__call__" ⟨.ref C :: us, kw⟩)).units = A.units + 1 := by
  first | rfl | simp [Around.under, Code.cUnits, Code.frames, Code.isFrame]
theorem Room.make {k : Nat} {A : Around} (r : Room (k + 1) A) (C : Addr) (us : List Value) (kw : List (Str × Value)) : Room k (A.under (.builtin "type.__call__" ⟨.ref C :: us, kw⟩)) :=
  ⟨r.hd, by have := r.dp; rw [make_depth]; omega, by have := r.un; rw [make_units]; omega⟩
theorem Room.depth {k : Nat} {A : Around} (r : Room k A) : A.depth < recursionLimit := by have := r.dp; omega
theorem Room.units {k : Nat} {A : Around} (r : Room k A) : A.units + 64 < cLine := by have := r.un; omega
theorem Room.units0 {k : Nat} {A : Around} (r : Room k A) : A.units < cLine := by have := r.un; omega

/-! ### argument lists and displays -/
def tNil : TA := fun _ H Q => Q [] H
def tCons (ta : TE) (tr : TA) : TA := fun σ H Q => ta σ H fun x H1 => tr σ H1 fun xs H2 => Q (x :: xs) H2
section
variable {X : Cx} {e : Expr} {es : List Expr} {te : TE} {t : TA} {pos : Pos}
theorem pa_nil : PA X [] tNil := fun _ _ _ _ H Q I h => Calls.spliced_nil ⟨[], H, I, .nil, h⟩
theorem pa_cons (ha : PE X e te) (hr : PA X es t) (hs : starEach (e :: es) X.env = (false, eval e X.env) :: starEach es X.env := by rfl) : PA X (e :: es) (tCons te t) := by
  intro pos pins s σ H Q I h
  rw [hs]
  show wpAny _ _ (spliced ((false, eval e X.env) :: backTo pos (starEach es X.env))) _ _ s
  refine Calls.spliced_cons (thn (ha pins s σ H _ I h) fun u s1 ⟨x, H1, I1, r1, q1⟩ => ?_)
  exact thn (hr pos pins s1 σ H1 _ I1 q1) fun us s2 ⟨xs, H2, I2, r2, q2⟩ => ⟨x :: xs, H2, I2, .cons r1 r2, q2⟩

/-- a tuple, a list of written items -/
def tTup (t : TA) : TE := fun σ H Q => t σ H fun xs H1 => xs.length ≤ sizeLine ∧ ∀ p, H1 p = none → Q (.ref p) (upd H1 p (.tup xs))
def tLst (t : TA) : TE := fun σ H Q => t σ H fun xs H1 => xs.length ≤ sizeLine ∧ ∀ p, H1 p = none → Q (.ref p) (upd H1 p (.lst xs))
theorem pe_tup {x1} (h : PA X es t) : PE X (.Tuple es x1 pos) (tTup t) := by
  intro pins s σ H Q I hq
  refine wpAny_Tuple_spliced (thn (h pos pins s σ H _ I hq) fun us s1 ⟨xs, H1, I1, r, z, q⟩ => ⟨by rw [← r.length]; exact z, ?_⟩)
  have hf : H1 s1.heap.objs.size = none := I1.hok.fresh (Nat.le_refl _)
  refine ⟨.ref s1.heap.objs.size, upd H1 s1.heap.objs.size (.tup xs), I1.laid (t' := s1.toks) (fun b u e => Heap.get?_push_of_some _ e) (Nat.le_refl _) ?_, rfl, q _ hf⟩
  exact ⟨z, us, r, ⟨_, Heap.get?_push_size _ rfl, rfl, _, rfl⟩⟩
theorem pe_lst (h : PA X es t) : PE X (.List es pos) (tLst t) := by
  intro pins s σ H Q I hq
  refine wpAny_List_spliced (thn (h pos pins s σ H _ I hq) fun us s1 ⟨xs, H1, I1, r, z, q⟩ => ⟨by rw [← r.length]; exact z, ?_⟩)
  have hf : H1 s1.heap.objs.size = none := I1.hok.fresh (Nat.le_refl _)
  refine ⟨.ref s1.heap.objs.size, upd H1 s1.heap.objs.size (.lst xs), I1.laid (t' := s1.toks) (fun b u e => Heap.get?_push_of_some _ e) (Nat.le_refl _) ?_, rfl, q _ hf⟩
  exact ⟨z, us, 0, r, Heap.get?_push_size _ rfl⟩
end

/-! ### what a def promises -/
/-- a def's promise: the bound arguments in the parameters' order, the heap, the wanted end, the wanted exception -/
abbrev Sp := List V → Hp → VK → XK → Prop
/-- how an exception lies behind a call (file 08 gives it): the callers' frames, abstract heap and state ahead of the call, the wish, the exception, the state -/
abbrev CXT := List Env → Hp → Shared → XK → Value → Shared → Prop

/-- the state at a call -/
structure Env0 (P : Program) (w : World) (K : PySem.W.Frag) (mg : Str → Option Value) (base : Heap) (A : Around) (outer : List Env) (s : Shared) (H : Hp) : Prop where
  frames : A.frames = some outer
  mod : Mod K mg base
  bs : ∀ b o, base.get? b = some o → s.heap.get? b = some o ∧ H b = none
  bsz : base.objs.size ≤ s.heap.objs.size
  funs : s.heap.FunFrames base outer
  frf : ∀ b ∈ frs outer, H b = none
  hok : HOk P w H s.heap
  bare : AllBare s.gens
/-- a call's end -/
def CE (outer : List Env) (P : Program) (w : World) (H : Hp) (s : Shared) (Q : VK) (u : Value) (s' : Shared) : Prop :=
  ∃ v H', s'.os = s.os ∧ AllBare s'.gens ∧ Un (frs outer) [] H H' s.heap s'.heap ∧ HOk P w H' s'.heap ∧ RelV v u ∧ Q v H'
def CR (CX : CXT) (outer : List Env) (P : Program) (w : World) (H : Hp) (s : Shared) (Q : VK) (E : XK) (r : Result) (s' : Shared) : Prop :=
  match r with
  | .ok (.ret u) => CE outer P w H s Q u s'
  | .ok _ => False
  | .error e => CX outer H s E e s'
structure FnOk (P : Program) (w : World) (K : PySem.W.Frag) (mg : Str → Option Value) (base : Heap) (CX : CXT) (k : Nat) (f : Addr) (fd : FuncData) (ps : List Str) (sp : Sp) : Prop where
  len : ∀ vs H Q E, sp vs H Q E → vs.length = ps.length
  run : ∀ (A : Around) (outer : List Env) (s : Shared) (H : Hp) (args : Args) (us : List Value) (vs : List V) (Q : VK) (E : XK), Room k A → Env0 P w K mg base A outer s H → BindsTo s fd args (ps.zip us) → Vals vs us → sp vs H Q E →
    codeAny (model P w) A (.call (.ref f) args) (CR CX outer P w H s Q E) s
theorem FnOk.mono {P : Program} {w : World} {K : PySem.W.Frag} {mg : Str → Option Value} {base : Heap} {CX : CXT} {j k : Nat} {f : Addr} {fd : FuncData} {ps : List Str} {sp : Sp} (F : FnOk P w K mg base CX j f fd ps sp) (h : j ≤ k) :
    FnOk P w K mg base CX k f fd ps sp := ⟨F.len, fun A outer s H args us vs Q E hr => F.run A outer s H args us vs Q E (hr.mono h)⟩
/-- a weaker promise -/
theorem FnOk.imp {P : Program} {w : World} {K : PySem.W.Frag} {mg : Str → Option Value} {base : Heap} {CX : CXT} {k : Nat} {f : Addr} {fd : FuncData} {ps : List Str} {sp sp' : Sp} (F : FnOk P w K mg base CX k f fd ps sp)
    (h : ∀ vs H Q E, sp' vs H Q E → sp vs H Q E) : FnOk P w K mg base CX k f fd ps sp' :=
  ⟨fun vs H Q E q => F.len vs H Q E (h _ _ _ _ q), fun A outer s H args us vs Q E hr he hb hv hs => F.run A outer s H args us vs Q E hr he hb hv (h _ _ _ _ hs)⟩

theorem Env0.make {P : Program} {w : World} {K : PySem.W.Frag} {mg : Str → Option Value} {base : Heap} {A : Around} {outer : List Env} {s : Shared} {H : Hp} (e : Env0 P w K mg base A outer s H) (C : Addr) (us : List Value) (kw : List (Str × Value)) :
    Env0 P w K mg base (A.under (.builtin "type.__call__" ⟨.ref C :: us, kw⟩)) outer s H := ⟨by first | exact e.frames | (simpa [Around.under, Code.envs, Code.isFrame, pushEnvs] using e.frames), e.mod, e.bs, e.bsz, e.funs, e.frf, e.hok, e.bare⟩
theorem Env0.in1 {P : Program} {w : World} {K : PySem.W.Frag} {mg : Str → Option Value} {base : Heap} {A : Around} {outer : List Env} {s : Shared} {H : Hp} (e : Env0 P w K mg base A outer s H) :
    Env0 P w K mg base A.in1 outer s H := ⟨e.frames, e.mod, e.bs, e.bsz, e.funs, e.frf, e.hok, e.bare⟩

section
variable {X : Cx} {pins : List (Addr × Obj)} {σ : St} {H : Hp} {s s' : Shared}
/-- from a body: what a callee wants -/
theorem Inv.env0 (I : Inv X pins σ H s) : Env0 X.prog X.w X.K X.mg X.base X.A X.stack s H :=
  ⟨I.ok.frames, I.ok.mod, I.bs, Nat.le_trans I.ok.bsz I.sz, I.stack, I.stkFree, I.hok, I.bare⟩
/-- behind a call -/
theorem Inv.after {Q : VK} {u : Value} (I : Inv X pins σ H s) (h : CE X.stack X.prog X.w H s Q u s') : EP X pins σ Q u s' := by
  obtain ⟨v, H', os, bare, un, hok, r, q⟩ := h
  obtain ⟨hh, g, d, t, os'⟩ := s'
  obtain rfl : os' = s.os := os
  exact ⟨v, H', I.call (h' := hh) (g' := g) (d' := d) (t' := t) (ch := []) un hok bare (fun b z => absurd z (by simp)), r, q⟩
end

/-! ### calls -/
/-- f(..): the written arguments, then the defaults dvs; E: what is wanted of an exception -/
def tCall (sp : Sp) (dvs : List V) (E : XK) (t : TA) : TE := fun σ H Q => t σ H fun vs H1 => sp (vs ++ dvs) H1 Q E
/-- o.m(..) of an instance of the class at C -/
def tMeth (C : Addr) (m : Str) (sp : Sp) (dvs : List V) (E : XK) (ta : TE) (t : TA) : TE := fun σ H Q => ta σ H fun x H1 => ∃ a dx fs, x = .ref a ∧ H1 a = some (.ins C dx fs) ∧ fs.lookup m = none ∧
  t σ H1 fun vs H2 => sp (x :: (vs ++ dvs)) H2 Q E
/-- C(..): a new instance and its dict, then __init__ -/
def tMake (C : Addr) (sp : Sp) (dvs : List V) (E : XK) (t : TA) : TE := fun σ H Q => t σ H fun vs H1 => ∀ x dx, H1 x = none → H1 dx = none → dx ≠ x →
  sp (.ref x :: (vs ++ dvs)) (upd (upd H1 dx (.own x)) x (.ins C dx [])) (fun v H2 => v = .non ∧ Q (.ref x) H2) E

/-- how the parameters are bound: us the positional arguments, kw the keywords' values by name, ds the defaults that fill up -/
def Binds (K : PySem.W.Frag) (fd : FuncData) (ps : List Str) (ds : List Value) : Prop :=
  ∀ (s : Shared) (us : List Value), K.In s.heap → (us ++ ds).length = ps.length → BindsTo s fd ⟨us, []⟩ (ps.zip (us ++ ds))
/-- every parameter is given -/
theorem Binds.all {K : PySem.W.Frag} {fd : FuncData} {ps : List Str} (h : ∀ us : List Value, us.length = ps.length → bindArgs fd ⟨us, []⟩ = pure (ps.zip us)) : Binds K fd ps [] := fun s us _ hl => by
  rw [List.append_nil] at hl ⊢
  exact .of_eq (h us hl)

/-- an exception of a callee reaches what this body wants of exceptions -/
def Passes (CX : CXT) (X : Cx) (E : XK) : Prop := ∀ (pins : List (Addr × Obj)) (σ : St) (H : Hp) (s : Shared) (e : Value) (s' : Shared), Inv X pins σ H s → CX X.stack H s E e s' → X.xe e s'

section
variable {X : Cx} {CX : CXT} {k : Nat} {f C : Addr} {fd : FuncData} {ps : List Str} {sp : Sp} {dvs : List V} {ds : List Value} {E : XK} {x m : Str} {p pos apos : Pos} {e o : Expr} {es : List Expr} {ta : TE} {t : TA}

/-- the callee runs -/
theorem run_fn {pins : List (Addr × Obj)} {σ : St} {H : Hp} {s : Shared} {Q : VK} {us : List Value} {vs : List V} (F : FnOk X.prog X.w X.K X.mg X.base CX k f fd ps sp) (hr : Room k X.A) (hb : Binds X.K fd ps ds) (hd : Vals dvs ds) (hx : Passes CX X E)
    (I : Inv X pins σ H s) (r : Vals vs us) (h : sp (vs ++ dvs) H Q E) : wpAny (model X.prog X.w) X.A (call (.ref f) us) (EP X pins σ Q) X.xe s := by
  have r2 : Vals (vs ++ dvs) (us ++ ds) := r.append hd
  have hl : (us ++ ds).length = ps.length := by rw [← r2.length]; exact F.len _ _ _ _ h
  refine wpAny_call (codeAny_mono (F.run X.A X.stack s H ⟨us, []⟩ (us ++ ds) (vs ++ dvs) Q E hr I.env0 (hb s us I.kIn hl) r2 h) fun r s' hq => ?_)
  cases r with
  | error e => exact hx pins σ H s e s' I hq
  | ok fl =>
    cases fl with
    | ret u => exact I.after hq
    | next => exact False.elim hq
    | brk => exact False.elim hq
    | cont => exact False.elim hq

theorem pe_call (F : FnOk X.prog X.w X.K X.mg X.base CX k f fd ps sp) (hr : Room k X.A) (hg : Gl X x) (hm : X.mg x = some (.ref f)) (hk : PySem.W.keepIn X.K (.ref f) = true) (hb : Binds X.K fd ps ds) (hd : Vals dvs ds) (hx : Passes CX X E)
    (ha : PA X (e :: es) t) (hdb : (x == ("__debug__" : Str)) = false := by decide) (he : starEach (e :: es) X.env = (false, eval e X.env) :: starEach es X.env := by rfl) (hpl : (backTo pos (starEach es X.env)).any (·.1) = false := by rfl) :
    PE X (.Call (.Name x p) (e :: es) [] pos) (tCall sp dvs E t) := by
  intro pins s σ H Q I h
  refine wpAny_Call_Name_kw (ld_glob I hg hm ?_ hdb)
  refine PySem.W.callWith_K (h₀ := X.base) I.ok.mod.kin hk (thn (ha pos pins s σ H _ I h) fun us s1 ⟨vs, H1, I1, r, q⟩ => ⟨I1.kIn, ?_⟩) he hpl
  exact run_fn F hr hb hd hx I1 r q
theorem pe_call0 (F : FnOk X.prog X.w X.K X.mg X.base CX k f fd ps sp) (hr : Room k X.A) (hg : Gl X x) (hm : X.mg x = some (.ref f)) (hk : PySem.W.keepIn X.K (.ref f) = true) (hb : Binds X.K fd ps ds) (hd : Vals dvs ds) (hx : Passes CX X E)
    (hdb : (x == ("__debug__" : Str)) = false := by decide) : PE X (.Call (.Name x p) [] [] pos) (tCall sp dvs E tNil) := by
  intro pins s σ H Q I h
  refine wpAny_Call_Name_kw (ld_glob I hg hm ?_ hdb)
  exact PySem.W.callWith_K0 I.kIn hk (run_fn (us := []) F hr hb hd hx I .nil h)

/-- o.m(e, ..) -/
theorem pe_meth {pl : Sem Bool} (he : PE X o ta) (c : Cls X.K C) (hm : Meth X.K C m f) (F : FnOk X.prog X.w X.K X.mg X.base CX k f fd ps sp) (hr : Room k X.A) (hb : Binds X.K fd ps ds) (hd : Vals dvs ds) (hx : Passes CX X E) (ha : PA X (e :: es) t)
    (hst : starEach (e :: es) X.env = (false, eval e X.env) :: starEach es X.env := by rfl) (hpl : (backTo pos (starEach es X.env)).any (·.1) = false := by rfl)
    (ht : eval (.Call (.Attribute o m apos) (e :: es) [] pos) X.env = (do
      let ov ← eval o X.env
      standAt apos.atName
      let (f, first) ← holding [ov] (getMethod ov m pl)
      callWith pos f first (backTo pos (starEach (e :: es) X.env)) (backToKw pos (keywordEach [] X.env))) := by rfl) :
    PE X (.Call (.Attribute o m apos) (e :: es) [] pos) (tMeth C m sp dvs E ta t) := by
  intro pins s σ H Q I h
  refine PySem.W.methodCall_KW (pl := pl) (thn (he pins s σ H _ I h) fun u s1 ⟨x, H1, I1, rx, a, dx, fs, ex, ea, l, q⟩ => ?_) ht
  subst ex
  obtain rfl : u = Value.ref a := rx
  refine getmeth_ok I1 ea c hm l ?_
  refine PySem.W.callWith_K (first := [.ref a]) (h₀ := X.base) I.ok.mod.kin hm.kp (thn (ha pos pins s1 σ H1 _ I1 q) fun us s2 ⟨vs, H2, I2, r, q2⟩ => ⟨I2.kIn, ?_⟩) hst hpl
  exact run_fn (us := .ref a :: us) (vs := .ref a :: vs) F hr hb hd hx I2 (.cons rfl r) q2
/-- o.m() -/
theorem pe_meth0 {pl : Sem Bool} (he : PE X o ta) (c : Cls X.K C) (hm : Meth X.K C m f) (F : FnOk X.prog X.w X.K X.mg X.base CX k f fd ps sp) (hr : Room k X.A) (hb : Binds X.K fd ps ds) (hd : Vals dvs ds) (hx : Passes CX X E)
    (ht : eval (.Call (.Attribute o m apos) [] [] pos) X.env = (do
      let ov ← eval o X.env
      standAt apos.atName
      let (f, first) ← holding [ov] (getMethod ov m pl)
      callWith pos f first (backTo pos (starEach [] X.env)) (backToKw pos (keywordEach [] X.env))) := by rfl) :
    PE X (.Call (.Attribute o m apos) [] [] pos) (tMeth C m sp dvs E ta tNil) := by
  intro pins s σ H Q I h
  refine PySem.W.methodCall_KW (pl := pl) (thn (he pins s σ H _ I h) fun u s1 ⟨x, H1, I1, rx, a, dx, fs, ex, ea, l, q⟩ => ?_) ht
  subst ex
  obtain rfl : u = Value.ref a := rx
  refine getmeth_ok I1 ea c hm l ?_
  exact PySem.W.callWith_K0 (first := [.ref a]) I1.kIn hm.kp (run_fn (us := [.ref a]) (vs := [.ref a]) F hr hb hd hx I1 (.cons rfl .nil) q)

/-- what a class must have to be made -/
structure Mk (K : PySem.W.Frag) (C f : Addr) : Prop where
  makes : PySem.W.makesIn K C = true
  init : PySem.W.findIn K (.ref C) "__init__" = some (some (.ref f))
  fn : PySem.W.isFn K (.ref f) = true
  kp : PySem.W.keepIn K (.ref C) = true

theorem run_make {pins : List (Addr × Obj)} {σ : St} {H : Hp} {s : Shared} {Q : VK} {us : List Value} {vs : List V} (M : Mk X.K C f) (F : FnOk X.prog X.w X.K X.mg X.base CX k f fd ps sp) (hr : Room (k + 1) X.A) (hb : Binds X.K fd ps ds) (hd : Vals dvs ds)
    (hx : Passes CX X E) (I : Inv X pins σ H s) (r : Vals vs us)
    (h : ∀ x dx, H x = none → H dx = none → dx ≠ x → sp (.ref x :: (vs ++ dvs)) (upd (upd H dx (.own x)) x (.ins C dx [])) (fun v H2 => v = .non ∧ Q (.ref x) H2) E) :
    wpAny (model X.prog X.w) X.A (call (.ref C) us) (EP X pins σ Q) X.xe s := by
  have hq := h (s.heap.objs.size + 1) s.heap.objs.size (I.hok.fresh (Nat.le_succ _)) (I.hok.fresh (Nat.le_refl _)) (Nat.ne_of_lt (Nat.lt_succ_self _))
  have I2 := Inv.made (C := C) I
  have r2 : Vals (V.ref (s.heap.objs.size + 1) :: (vs ++ dvs)) (Value.ref (s.heap.objs.size + 1) :: (us ++ ds)) := .cons rfl (r.append hd)
  have hl : (Value.ref (s.heap.objs.size + 1) :: us ++ ds).length = ps.length := by
    have e := r2.length
    rw [F.len _ _ _ _ hq] at e
    exact e.symm
  refine wpAny_call (make_map (f := f) I.kIn M.makes M.init (beq_iff_eq.mp M.fn) (codeAny_mono (F.run _ X.stack _ _ ⟨Value.ref (s.heap.objs.size + 1) :: us, []⟩ (Value.ref (s.heap.objs.size + 1) :: (us ++ ds)) _ _ E (hr.make C us [])
    (I2.env0.make C us []) (hb _ (Value.ref (s.heap.objs.size + 1) :: us) I2.kIn hl) r2 hq) fun r s' hq' => ?_))
  cases r with
  | error e => exact hx pins σ _ _ e s' I2 hq'
  | ok fl =>
    cases fl with
    | ret u =>
      obtain ⟨v, H', I3, rv, ev, q3⟩ := I2.after hq'
      subst ev
      exact ⟨rv, ⟨V.ref (s.heap.objs.size + 1), H', I3, rfl, q3⟩⟩
    | next => exact False.elim hq'
    | brk => exact False.elim hq'
    | cont => exact False.elim hq'
theorem pe_make (M : Mk X.K C f) (F : FnOk X.prog X.w X.K X.mg X.base CX k f fd ps sp) (hr : Room (k + 1) X.A) (hg : Gl X x) (hm : X.mg x = some (.ref C)) (hb : Binds X.K fd ps ds) (hd : Vals dvs ds) (hx : Passes CX X E)
    (ha : PA X (e :: es) t) (hdb : (x == ("__debug__" : Str)) = false := by decide) (he : starEach (e :: es) X.env = (false, eval e X.env) :: starEach es X.env := by rfl) (hpl : (backTo pos (starEach es X.env)).any (·.1) = false := by rfl) :
    PE X (.Call (.Name x p) (e :: es) [] pos) (tMake C sp dvs E t) := by
  intro pins s σ H Q I h
  refine wpAny_Call_Name_kw (ld_glob I hg hm ?_ hdb)
  refine PySem.W.callWith_K (h₀ := X.base) I.ok.mod.kin M.kp (thn (ha pos pins s σ H _ I h) fun us s1 ⟨vs, H1, I1, r, q⟩ => ⟨I1.kIn, ?_⟩) he hpl
  exact run_make M F hr hb hd hx I1 r q
theorem pe_make0 (M : Mk X.K C f) (F : FnOk X.prog X.w X.K X.mg X.base CX k f fd ps sp) (hr : Room (k + 1) X.A) (hg : Gl X x) (hm : X.mg x = some (.ref C)) (hb : Binds X.K fd ps ds) (hd : Vals dvs ds) (hx : Passes CX X E)
    (hdb : (x == ("__debug__" : Str)) = false := by decide) : PE X (.Call (.Name x p) [] [] pos) (tMake C sp dvs E tNil) := by
  intro pins s σ H Q I h
  refine wpAny_Call_Name_kw (ld_glob I hg hm ?_ hdb)
  exact PySem.W.callWith_K0 I.kIn M.kp (run_make (us := []) M F hr hb hd hx I .nil h)
end

/-! ### keywords -/
/-- the values of the keywords, from the left -/
def PK (X : Cx) (kws : List Keyword) (t : TA) : Prop :=
  ∀ (pos : Pos) (pins : List (Addr × Obj)) (s : Shared) (σ : St) (H : Hp) (Q : List V → Hp → Prop), Inv X pins σ H s → t σ H Q → wpAny (model X.prog X.w) X.A (evalAll ((backToKw pos (keywordEach kws X.env)).map (·.2))) (AP X pins σ Q) X.xe s
section
variable {X : Cx} {CX : CXT} {k : Nat} {f C : Addr} {fd : FuncData} {ps ks : List Str} {sp : Sp} {E : XK} {x m : Str} {p pos apos kpos : Pos} {e o : Expr} {es : List Expr} {kws : List Keyword} {te ta : TE} {t tk : TA} {nm : Option Str}
theorem pk_nil : PK X [] tNil := fun _ _ _ _ H Q I h => wpAny_evalAll_nil ⟨[], H, I, .nil, h⟩
theorem pk_cons (ha : PE X e te) (hr : PK X kws t) : PK X (⟨nm, e, kpos⟩ :: kws) (tCons te t) := by
  intro pos pins s σ H Q I h
  show wpAny _ _ (evalAll ((do let v ← eval e X.env; standAt pos; pure v) :: (backToKw pos (keywordEach kws X.env)).map (·.2))) _ _ s
  refine wpAny_evalAll_cons (wpAny_bind (thn (ha pins s σ H _ I h) fun u s1 ⟨x, H1, I1, r1, q1⟩ => wpAny_bind (wpAny_standAt (wpAny_pure ?_))))
  exact thn (hr pos pins s1 σ H1 _ I1 q1) fun us s2 ⟨xs, H2, I2, r2, q2⟩ => ⟨x :: xs, H2, I2, .cons r1 r2, q2⟩

/-- how a call with keywords binds: g puts the positional values us and the keywords' values ws (names ks) in the parameters' order, defaults among them -/
structure KBinds (K : PySem.W.Frag) (fd : FuncData) (ps ks : List Str) (g : List Value → List Value → List Value) (gV : List V → List V → List V) : Prop where
  to : ∀ (s : Shared) (us ws : List Value), K.In s.heap → (g us ws).length = ps.length → BindsTo s fd ⟨us, ks.zip ws⟩ (ps.zip (g us ws))
  rel : ∀ {vs : List V} {us : List Value} {zs : List V} {ws : List Value}, Vals vs us → Vals zs ws → Vals (gV vs zs) (g us ws)
def tCallK (sp : Sp) (gV : List V → List V → List V) (E : XK) (t tk : TA) : TE := fun σ H Q => t σ H fun vs H1 => tk σ H1 fun zs H2 => sp (gV vs zs) H2 Q E
variable {g : List Value → List Value → List Value} {gV : List V → List V → List V}
theorem run_fnk {pins : List (Addr × Obj)} {σ : St} {H : Hp} {s : Shared} {Q : VK} {us ws : List Value} {vs zs : List V} (F : FnOk X.prog X.w X.K X.mg X.base CX k f fd ps sp) (hr : Room k X.A) (hb : KBinds X.K fd ps ks g gV) (hx : Passes CX X E)
    (I : Inv X pins σ H s) (r : Vals vs us) (rz : Vals zs ws) (h : sp (gV vs zs) H Q E) : wpAny (model X.prog X.w) X.A (call (.ref f) us (ks.zip ws)) (EP X pins σ Q) X.xe s := by
  have r2 := hb.rel r rz
  have hl : (g us ws).length = ps.length := by rw [← r2.length]; exact F.len _ _ _ _ h
  refine wpAny_call (codeAny_mono (F.run X.A X.stack s H ⟨us, ks.zip ws⟩ (g us ws) (gV vs zs) Q E hr I.env0 (hb.to s us ws I.kIn hl) r2 h) fun r s' hq => ?_)
  cases r with
  | error e => exact hx pins σ H s e s' I hq
  | ok fl =>
    cases fl with
    | ret u => exact I.after hq
    | next => exact False.elim hq
    | brk => exact False.elim hq
    | cont => exact False.elim hq
/-- f(e, .., k = v, ..) -/
theorem pe_callK (F : FnOk X.prog X.w X.K X.mg X.base CX k f fd ps sp) (hr : Room k X.A) (hg : Gl X x) (hm : X.mg x = some (.ref f)) (hk : PySem.W.keepIn X.K (.ref f) = true) (hb : KBinds X.K fd ps ks g gV) (hx : Passes CX X E)
    (ha : PA X (e :: es) t) (hkw : PK X kws tk) (hall : (backToKw pos (keywordEach kws X.env)).all (·.1.isSome) = true := by rfl) (hks : (backToKw pos (keywordEach kws X.env)).filterMap (·.1) = ks := by rfl)
    (hdb : (x == ("__debug__" : Str)) = false := by decide) (he : starEach (e :: es) X.env = (false, eval e X.env) :: starEach es X.env := by rfl)
    (hpl : ((backTo pos (starEach (e :: es) X.env)).any (·.1) || (backToKw pos (keywordEach kws X.env)).any (·.1.isNone)) = false := by rfl) :
    PE X (.Call (.Name x p) (e :: es) kws pos) (tCallK sp gV E t tk) := by
  intro pins s σ H Q I h
  refine wpAny_Call_Name_kw (ld_glob I hg hm ?_ hdb)
  refine PySem.W.callWith_KW (h₀ := X.base) I.ok.mod.kin hk hall (thn (ha pos pins s σ H _ I h) fun us s1 ⟨vs, H1, I1, r, q⟩ => ?_) hpl he
  refine thn (hkw pos pins s1 σ H1 _ I1 q) fun ws s2 ⟨zs, H2, I2, rz, q2⟩ => ⟨I2.kIn, ?_⟩
  rw [hks]
  exact run_fnk F hr hb hx I2 r rz q2
end

/-! ### a def's body keeps its promise -/
/-- names: the parameters first -/
structure FnScope (N P : List Str) (sc : Scope) : Prop where
  kind : sc.kind = .function
  co : sc.isCoroutine = false
  gen : sc.isGenerator = false
  nd : N.Nodup
  pre : N.take P.length = P
  par : ∀ x ∈ P, sc.names.lookup x = some .local ∨ sc.names.lookup x = some .cell
  nofree : ∀ y ∈ sc.names, y.2 ≠ .free

theorem bindL_out {kindOf : Str → Option NameKind} {x : Str} : ∀ {binds : List (Str × Value)} {m : Str → Option Value}, (∀ v, (x, v) ∉ binds) → bindL kindOf binds m x = m x
  | [], _, _ => rfl
  | (n, v) :: r, m, h => by
    unfold bindL
    rw [bindL_out fun w hw => h w (List.mem_cons_of_mem _ hw)]
    split
    · have : x ≠ n := by rintro rfl; exact h v List.mem_cons_self
      simp [this]
    · rfl
theorem bindC_out {kindOf : Str → Option NameKind} {x : Str} : ∀ {binds : List (Str × Value)} {m : Str → Option Value}, (∀ v, (x, v) ∉ binds) → bindC kindOf binds m x = m x
  | [], _, _ => rfl
  | (n, v) :: r, m, h => by
    unfold bindC
    rw [bindC_out fun w hw => h w (List.mem_cons_of_mem _ hw)]
    split
    · rfl
    · have : x ≠ n := by rintro rfl; exact h v List.mem_cons_self
      simp [this]
theorem bindL_get {kindOf : Str → Option NameKind} {x : Str} {v : Value} : ∀ {P : List Str} {vs : List Value} {i : Nat} {m : Str → Option Value}, P.Nodup → P[i]? = some x → vs[i]? = some v → kindOf x = some .local →
    bindL kindOf (P.zip vs) m x = some v
  | [], _, _, _, _, h, _, _ => by simp at h
  | _ :: _, [], _, _, _, _, h, _ => by simp at h
  | p :: P, w :: vs, 0, m, nd, h1, h2, hk => by
    simp at h1 h2; subst h1; subst h2
    show bindL kindOf ((p, w) :: P.zip vs) m p = _
    unfold bindL
    rw [bindL_out fun v hv => (List.nodup_cons.mp nd).1 (List.of_mem_zip hv).1, if_pos hk]
    simp
  | p :: P, w :: vs, i + 1, m, nd, h1, h2, hk => by
    show bindL kindOf ((p, w) :: P.zip vs) m x = _
    unfold bindL
    exact bindL_get (i := i) (List.nodup_cons.mp nd).2 (by simpa using h1) (by simpa using h2) hk
theorem bindC_get {kindOf : Str → Option NameKind} {x : Str} {v : Value} : ∀ {P : List Str} {vs : List Value} {i : Nat} {m : Str → Option Value}, P.Nodup → P[i]? = some x → vs[i]? = some v → kindOf x ≠ some .local →
    bindC kindOf (P.zip vs) m x = some v
  | [], _, _, _, _, h, _, _ => by simp at h
  | _ :: _, [], _, _, _, _, h, _ => by simp at h
  | p :: P, w :: vs, 0, m, nd, h1, h2, hk => by
    simp at h1 h2; subst h1; subst h2
    show bindC kindOf ((p, w) :: P.zip vs) m p = _
    unfold bindC
    rw [bindC_out fun v hv => (List.nodup_cons.mp nd).1 (List.of_mem_zip hv).1, if_neg hk]
    simp
  | p :: P, w :: vs, i + 1, m, nd, h1, h2, hk => by
    show bindC kindOf ((p, w) :: P.zip vs) m x = _
    unfold bindC
    exact bindC_get (i := i) (List.nodup_cons.mp nd).2 (by simpa using h1) (by simpa using h2) hk

/-- the names' values at the entry -/
def start (N : List Str) (vs : List V) : St := vs.map some ++ List.replicate (N.length - vs.length) none

/-- the context of a def's body, at its entry; an exception leaves the frame, then lies as CX says -/
def cxOf (CX : CXT) (P : Program) (w : World) (K : PySem.W.Frag) (mg : Str → Option Value) (base : Heap) (N : List Str) (qual : Str) (scope : Scope) (f : Addr) (cd : Value) (A : Around) (outer : List Env) (s : Shared) (H : Hp) (E : XK) : Cx where
  prog := P
  w := w
  K := K
  mg := mg
  base := base
  A := A.deeper (envOfC qual scope s.heap.objs.size f cd)
  N := N
  s_0 := s
  H_0 := H
  env := envOfC qual scope s.heap.objs.size f cd
  outer := outer
  stack := envOfC qual scope s.heap.objs.size f cd :: outer
  ex := []
  calm := true
  fn := fun _ => true
  pn := []
  xe := fun e s' => wpAny (model P w) (A.deeper (envOfC qual scope s.heap.objs.size f cd)) (leaving (envOfC qual scope s.heap.objs.size f cd) e) (fun _ s'' => CX outer H s E e s'') (fun e' s'' => CX outer H s E e' s'') s'

theorem cell_has {sc : Scope} {n : Nat} {x : Str} (h : sc.names.lookup x = some .cell) : ∃ c, (cellsFrom n sc.names []).lookup x = some c := by
  have q := PySem.W.cellsFrom_some sc.names n [] (.inl h)
  exact Option.isSome_iff_exists.mp q

theorem inv_start {CX : CXT} {P : Program} {w : World} {K : PySem.W.Frag} {mg : Str → Option Value} {base : Heap} {N ps : List Str} {qual : Str} {scope : Scope} {f : Addr} {cd : Value} {A : Around} {outer : List Env} {s s1 : Shared} {H : Hp} {E : XK} {us : List Value} {vs : List V}
    (S : FnScope N ps scope) (hd : A.handled = none) (e0 : Env0 P w K mg base A outer s H) (hl : vs.length = ps.length) (r : Vals vs us)
    (x : InCallC s s.heap.objs.size (bindL (envOfC qual scope s.heap.objs.size f cd).kindOf (ps.zip us) fun _ => none) (cellsFrom (s.heap.objs.size + 1) scope.names []) (bindC (envOfC qual scope s.heap.objs.size f cd).kindOf (ps.zip us) fun _ => none) s1) :
    Inv (cxOf CX P w K mg base N qual scope f cd A outer s H E) [] (start N vs) H s1 := by
  have hpl : ps.length ≤ N.length := by have := congrArg List.length S.pre; rw [List.length_take] at this; omega
  obtain ⟨h1, tk, rfl, hk⟩ := x.done
  have noA : ∀ b : Addr, b ∉ (cxOf CX P w K mg base N qual scope f cd A outer s H E).ex := fun b z => absurd (show b ∈ ([] : List Addr) from z) (by simp)
  refine ⟨⟨e0.mod, S.kind, rfl, rfl, Nat.le_refl _, fun y z c h1 h2 => ?_, fun y hy => ?_, fun y c _ h => ?_, fun _ => hd, Around.frames_deeper e0.frames, .inr ⟨rfl, rfl⟩, fun b z => absurd z (noA b), e0.bs, e0.bsz, fun b _ _ => noA b, fun b z => absurd z (noA b), e0.funs, e0.frf⟩,
    rfl, e0.bare, Un.kept hk, ⟨_, x.toInCall.ns, fun i y v h1 h2 h3 => ?_⟩, fun y c h => ⟨_, x.cell y c h⟩, e0.hok.fresh (Nat.le_refl _), fun y c h => ?_, fun p hp => absurd (show p ∈ ([] : List (Addr × Obj)) from hp) (by simp), e0.hok.kept hk, ?_⟩
  · exact name_of_addr x.apart (PySem.mem_of_lookup h1) (PySem.mem_of_lookup h2)
  · have hy : scope.names.lookup y = some .cell ∨ scope.names.lookup y = some .free := hy
    rcases hy with hy | hy
    · exact cell_has hy
    · exact absurd rfl (S.nofree _ (PySem.mem_of_lookup hy))
  · exact Nat.le_of_lt (x.above y c (PySem.mem_of_lookup h))
  · have hi : i < vs.length := by
      unfold start at h2
      by_cases hi : i < vs.length
      · exact hi
      · rw [List.getElem?_append_right (by simpa using hi)] at h2
        rw [List.getElem?_replicate] at h2
        split at h2 <;> cases h2
    have ha : vs[i]? = some v := by
      unfold start at h2
      rw [List.getElem?_append_left (by simpa using hi), List.getElem?_map] at h2
      cases e : vs[i]? with
      | none => rw [e] at h2; cases h2
      | some a => rw [e] at h2; cases h2; rfl
    obtain ⟨u, hu, rv⟩ := r.get ha
    have hp : ps[i]? = some y := by
      rw [← S.pre, List.getElem?_take_of_lt (by omega)]; exact h1
    have ndP : ps.Nodup := by rw [← S.pre]; exact S.nd.sublist (List.take_sublist _ _)
    refine ⟨u, rv, ?_⟩
    rcases S.par y (List.mem_of_getElem? hp) with k | k
    · exact .inl ⟨k, bindL_get ndP hp hu k⟩
    · obtain ⟨c, e⟩ := cell_has (n := s.heap.objs.size + 1) k
      refine .inr ⟨.inl k, c, e, ?_⟩
      have q := x.cell y c e
      rw [bindC_get ndP hp hu (by show scope.names.lookup y ≠ _; rw [k]; decide)] at q
      exact q
  · exact e0.hok.fresh (Nat.le_of_lt (x.above y c (PySem.mem_of_lookup h)))
  · unfold start
    show _ = N.length
    rw [List.length_append, List.length_map, List.length_replicate]
    omega

/-- THE RULE: a def (or a method) of the text, by its body. The body's reading t is chosen for each entry; it is run at the parameters' values -/
theorem fn_of {CX : CXT} {P : Program} {w : World} {K : PySem.W.Frag} {mg : Str → Option Value} {base : Heap} {k : Nat} {f : Addr} {name qual : Str} {params : Arguments} {body : List Stmt} {scope : Scope} {dV kV doc pm cdv ct oc : Value} {an od : Option Addr}
    {osl : Array (Option Value)} {N ps : List Str} {sp : Sp} (lk : K.lookup f = some ⟨oc, od, .func (PySem.W.fnOf name qual params body scope dV kV doc pm an cdv ct), osl⟩) (hcd : PySem.W.codeIn K cdv qual = true) (S : FnScope N ps scope)
    (len : ∀ vs H Q E, sp vs H Q E → vs.length = ps.length)
    (hbody : ∀ (A : Around) (outer : List Env) (s : Shared) (H : Hp) (vs : List V) (Q : VK) (E : XK), Room k (A.deeper (envOfC qual scope s.heap.objs.size f cdv)) → sp vs H Q E →
      ∃ t, PSs (cxOf CX P w K mg base N qual scope f cdv A outer s H E) body t ∧ t { nx := fun _ H' => Q .non H', rt := Q } (start N vs) H) :
    FnOk P w K mg base CX (k + 1) f (PySem.W.fnOf name qual params body scope dV kV doc pm an cdv ct) ps sp := by
  refine ⟨len, fun A outer s H args us vs Q E hr e0 hb r hsp => ?_⟩
  have hl := len _ _ _ _ hsp
  have KX : K.In s.heap := e0.mod.kin.keeps fun b o e => (e0.bs b o e).1
  have lim : s.heap.NoLimit := e0.mod.nolimit.keeps fun b o e => (e0.bs b o e).1
  have hkind : ∀ y ∈ ps.zip us, scope.names.lookup y.1 = some .local ∨ (scope.names.lookup y.1 = some .cell ∧ ((cellsFrom (s.heap.objs.size + 1) scope.names []).lookup y.1).isSome = true) := fun ⟨n, v⟩ hy => by
    rcases S.par n (List.of_mem_zip hy).1 with q | q
    · exact .inl q
    · exact .inr ⟨q, PySem.W.cellsFrom_some _ _ _ (.inl q)⟩
  refine codeAny_call_function hr.depth (KX _ _ lk) rfl S.co S.gen rfl (PySem.W.codeRec_of KX hcd) (hb _ _ _ _ ?_)
  refine wpAny_newFunctionEnv_cells S.kind hkind fun env he s1 x => ?_
  subst he
  refine ⟨lim.keeps x.toInCall.keep, codeAny_func ?_⟩
  obtain ⟨t, ht, hq⟩ := hbody A outer s H vs Q E (hr.deeper _) hsp
  have I : Inv (cxOf CX P w K mg base N qual scope f cdv A outer s H E) [] (start N vs) H s1 := inv_start S hr.hd e0 hl r x
  refine wpAny_mono (ht [] s1 (start N vs) H _ I hq) (fun fl s' hs => ?_) fun e s' hs => hs
  have fin : ∀ {σ' : St} {H' : Hp} {v : V} {u : Value}, Inv (cxOf CX P w K mg base N qual scope f cdv A outer s H E) [] σ' H' s' → RelV v u → Q v H' → CE outer P w H s Q u s' :=
    fun {σ' H' v u} J rv q => ⟨v, H', J.os, J.bare, J.base, J.hok, rv, q⟩
  cases fl with
  | ret u =>
    obtain ⟨v, σ', H', J, rv, q⟩ := hs
    exact fin J rv q
  | next =>
    obtain ⟨σ', H', J, q⟩ := hs
    exact fin (v := V.non) (u := Value.none) J rfl q
  | brk =>
    obtain ⟨_, _, _, q⟩ := hs
    exact False.elim q
  | cont =>
    obtain ⟨_, _, _, q⟩ := hs
    exact False.elim q
end L2

namespace L2
open PySem PySem.Spec PyProof.Rows
section
variable {X : Cx} {x : Str} {p pos : Pos} {e : Expr} {es : List Expr} {t : TA} {id T : String} {r : List V → Hp → VK → Prop}

def tCB (r : List V → Hp → VK → Prop) (t : TA) : TE := fun σ H Q => t σ H fun vs H1 => r vs H1 Q
/-- f(e, ..), f a built-in function -/
theorem pe_callB (hc : CallR X (.builtin id) r) (hg : Gl X x) (hm : X.mg x = none) (hv : bootBuiltins x = some (.builtin id)) (ha : PA X (e :: es) t) (hn : x ≠ "__name__" := by decide) (hdb : (x == ("__debug__" : Str)) = false := by decide)
    (he : starEach (e :: es) X.env = (false, eval e X.env) :: starEach es X.env := by rfl) (hpl : (backTo pos (starEach es X.env)).any (·.1) = false := by rfl) : PE X (.Call (.Name x p) (e :: es) [] pos) (tCB r t) := by
  intro pins s σ H Q I h
  refine wpAny_Call_Name_kw (ld_blt I hg hm hv ?_ hn hdb)
  exact PyProof.Rows.callWith_builtin1 (thn (ha pos pins s σ H _ I h) fun us s1 ⟨vs, H1, I1, r1, q1⟩ => hc pins s1 σ H1 vs us Q I1 r1 q1) he hpl
/-- T(e, ..), T a built-in type -/
theorem pe_callTy (hc : CallR X (.type T) r) (hg : Gl X x) (hm : X.mg x = none) (hv : bootBuiltins x = some (.type T)) (ha : PA X (e :: es) t) (hn : x ≠ "__name__" := by decide) (hdb : (x == ("__debug__" : Str)) = false := by decide)
    (he : starEach (e :: es) X.env = (false, eval e X.env) :: starEach es X.env := by rfl) (hpl : (backTo pos (starEach es X.env)).any (·.1) = false := by rfl) : PE X (.Call (.Name x p) (e :: es) [] pos) (tCB r t) := by
  intro pins s σ H Q I h
  refine wpAny_Call_Name_kw (ld_blt I hg hm hv ?_ hn hdb)
  exact PyProof.Rows.callWith_type1 (thn (ha pos pins s σ H _ I h) fun us s1 ⟨vs, H1, I1, r1, q1⟩ => hc pins s1 σ H1 vs us Q I1 r1 q1) he hpl
/-- T() -/
theorem pe_callTy0 (hc : CallR X (.type T) r) (hg : Gl X x) (hm : X.mg x = none) (hv : bootBuiltins x = some (.type T)) (hn : x ≠ "__name__" := by decide) (hdb : (x == ("__debug__" : Str)) = false := by decide) :
    PE X (.Call (.Name x p) [] [] pos) (tCB r tNil) := by
  intro pins s σ H Q I h
  refine wpAny_Call_Name_kw (ld_blt I hg hm hv ?_ hn hdb)
  exact PyProof.Rows.callWith_type0 (hc pins s σ H [] [] Q I .nil h)
end
end L2

namespace HT
open PySem PyProof.Rows

/-- t < u of tuples of ints -/
def lexLt : List Int → List Int → Bool
  | [], [] => false
  | [], _ :: _ => true
  | _ :: _, [] => false
  | x :: xs, y :: ys => if x = y then lexLt xs ys else decide (x < y)
theorem lexLt_cons (x y : Int) (xs ys : List Int) : lexLt (x :: xs) (y :: ys) = if x = y then lexLt xs ys else decide (x < y) := rfl
theorem lexLt_nil_nil : lexLt [] [] = false := rfl
theorem lexLt_nil_cons (y : Int) (ys : List Int) : lexLt [] (y :: ys) = true := rfl
theorem lexLt_cons_nil (x : Int) (xs : List Int) : lexLt (x :: xs) [] = false := rfl

theorem eqAt_int (A : Around) (s : Shared) (a : Int) (t : Tok) (c : Int) (u : Tok) : ∃ e, SeqAt.EqAt A s (.int a t) (.int c u) e ∧ (e = true ↔ a = c) :=
  ⟨(a == c), SeqAt.EqAt.int_int a t c u, by simp⟩
theorem rcLt_int (A : Around) (s : Shared) (a : Int) (t : Tok) (c : Int) (u : Tok) (prog : Program) (w : World) (E : Value → Shared → Prop) (Q : Value → Shared → Prop) (h : Q (.bool (decide (a < c))) s) :
    wpAny (model prog w) A (richCompare .Lt (.int a t) (.int c u)) Q E s :=
  (PyProof.Rows.lt_int h : wpAny (model prog w) A (compareOp .Lt (.int a t) (.int c u)) Q E s)

section
open PySem.SeqAt
open PySem.AutoSeq1 (wpAny_loadPart')
open PySem.MeetsSeq PySem.MeetsSeq2 PySem.MeetsSeq3

theorem tuple_lt_ints (l b : Addr) (items items2 : Array Value) (n n2 : Nat) (dd dd2 : Option Addr) (sl sl2 : Array (Option Value)) (ns ms : List Int) (hi : IntsAre items.toList ns) (hj : IntsAre items2.toList ms) :
    Meets (Builtin.«tuple.__lt__» ⟨[.ref l, .ref b], []⟩)
      (fun _ R s => s.heap.get? l = some { cls := .type "tuple", dict := dd, data := .seq items n, slots := sl } ∧ s.heap.get? b = some { cls := .type "tuple", dict := dd2, data := .seq items2 n2, slots := sl2 } ∧
        R (.ok (.ret (.bool (lexLt ns ms)))) s) :=
  .of_wp fun prog w A R s h => by
    obtain ⟨hp, g, d, tk, os⟩ := s; obtain ⟨hl, hb, h⟩ := h
    have f2 := AutoSeq1.sub_tuple_tuple
    have z1 : items.size = ns.length := by rw [← hi.length]; simp
    have z2 : items2.size = ms.length := by rw [← hj.length]; simp
    wp_walk using wpAny_loadPart' hl, wpAny_loadPart' hb, wpAny_forIn_list _ (fun rest b s' => b.1 = none ∧ s' = ⟨hp, g, d, tk, os⟩ ∧ ∃ (vs ws : List Value) (ns' ms' : List Int), rest = vs.zip ws ∧
      IntsAre vs ns' ∧ IntsAre ws ms' ∧ ns'.length + items2.size = ms'.length + items.size ∧ R (.ok (.ret (.bool (lexLt ns' ms')))) ⟨hp, g, d, tk, os⟩) _
    case turn =>
      rintro ⟨y, x⟩ rest b s' ⟨hb', rfl, vs, ws, ns', ms', hz, hvi, hwi, hlen, hR⟩
      cases hvi with
      | nil => rw [List.zip_nil_left] at hz; cases hz
      | cons a t hvi' =>
        cases hwi with
        | nil => rw [List.zip_nil_right] at hz; cases hz
        | cons c u hwi' =>
          rw [List.zip_cons_cons] at hz
          injection hz with hyx hrest
          injection hyx with hy hx
          subst hy hx
          rw [lexLt_cons] at hR
          simp only [List.length_cons] at hlen
          obtain ⟨e, he, hiff⟩ := eqAt_int A.in1 ⟨hp, g, d, tk, os⟩ a t c u
          refine wpAny_bind (he prog w _ _ ?_)
          cases e with
          | true =>
            rw [if_pos (hiff.mp rfl)] at hR
            wp_walk
            exact ⟨rfl, rfl, _, _, _, _, hrest, hvi', hwi', by omega, hR⟩
          | false =>
            rw [if_neg (fun q => absurd (hiff.mpr q) Bool.false_ne_true)] at hR
            have hri := rcLt_int A.in1 ⟨hp, g, d, tk, os⟩ a t c u prog w
            wp_walk using hri
            exact ⟨_, rfl, by simpa using hR⟩
    case fin =>
      rintro ⟨b1, b2⟩ s' ⟨hb', rfl, vs, ws, ns', ms', hz, hvi, hwi, hlen, hR⟩
      simp only at hb'
      subst hb'
      have hv : lexLt ns' ms' = decide (items.size < items2.size) := by
        cases hvi with
        | nil =>
          cases hwi with
          | nil =>
            simp only [List.length_nil] at hlen
            rw [lexLt_nil_nil]
            exact (decide_eq_false (by omega)).symm
          | cons c u hw =>
            simp only [List.length_nil, List.length_cons] at hlen
            rw [lexLt_nil_cons]
            exact (decide_eq_true (by omega)).symm
        | cons a t hv =>
          cases hwi with
          | nil =>
            simp only [List.length_nil, List.length_cons] at hlen
            rw [lexLt_cons_nil]
            exact (decide_eq_false (by omega)).symm
          | cons c u hw =>
            rw [List.zip_cons_cons] at hz
            cases hz
      rw [hv] at hR
      wp_walk
      exact ⟨_, rfl, by simpa [Builtin.Tuple.tupleCompareSizes] using hR⟩
    case h =>
      exact ⟨rfl, rfl, items.toList, items2.toList, ns, ms, rfl, hi, hj, by omega, h⟩
end

section
variable {prog : Program} {w : World} {A : Around} {E : Value → Shared → Prop} {s : Shared}

theorem lt_tupInts {l b : Addr} {items items2 : Array Value} {ns ms : List Int} {Q : Value → Shared → Prop} (hl : IsTup s.heap l items) (hb : IsTup s.heap b items2) (hi : IntsAre items.toList ns) (hj : IntsAre items2.toList ms)
    (hu : A.units < cLine) (h : Q (.bool (lexLt ns ms)) s) : wpAny (model prog w) A (compareOp .Lt (.ref l) (.ref b)) Q E s := by
  obtain ⟨⟨cls, dd, data, sl⟩, ho, hc, n, hd⟩ := id hl
  obtain ⟨⟨cls2, dd2, data2, sl2⟩, ho2, hc2, n2, hd2⟩ := id hb
  simp only at hc hd hc2 hd2
  subst hc hd hc2 hd2
  exact richCompare_meets_room (op := .Lt) ⟨_, ho, rfl⟩ ⟨_, ho2, rfl⟩ PySem.F.slot_tuple_lt PySem.F.entry_tuple_lt (PySem.F.args_tuple_lt_2 _ _) (tuple_lt_ints l b items items2 n n2 dd dd2 sl sl2 ns ms hi hj)
    ⟨ho, ho2, show Value.bool (lexLt ns ms) ≠ Value.notImplemented ∧ Q (.bool (lexLt ns ms)) s from ⟨(fun x => nomatch x), h⟩⟩ hu

/-- t + u, t not empty -/
theorem cat_tup {t b : Addr} {vs ws : List Value} {Q : Value → Shared → Prop} (ht : IsTup s.heap t vs.toArray) (hb : IsTup s.heap b ws.toArray) (hv : vs ≠ [])
    (h1 : ws = [] → Q (.ref t) s) (h2 : ws ≠ [] → Q (.ref s.heap.objs.size) { s with heap := s.heap.push { cls := .type "tuple", data := .seq (vs ++ ws).toArray } })
    (hsz : vs.length + ws.length ≤ sizeLine) : wpAny (model prog w) A (binaryOp .Add (.ref t) (.ref b)) Q E s := by
  obtain ⟨⟨cls, dd, data, sl⟩, ho, hc, n, hd⟩ := id ht
  obtain ⟨⟨cls2, dd2, data2, sl2⟩, ho2, hc2, n2, hd2⟩ := id hb
  simp only at hc hd hc2 hd2
  subst hc hd hc2 hd2
  have e : vs.toArray ++ ws.toArray = (vs ++ ws).toArray := by simp
  by_cases hw : ws = []
  · exact concat_meets ⟨_, ho, rfl⟩ ⟨_, ho2, rfl⟩ noFill_tuple_add seq_tuple_add PySem.F.slot_tuple_add PySem.F.entry_tuple_add (PySem.F.args_tuple_add_2 _ _)
      (tuple_addW1 t b vs.toArray ws.toArray n n2 dd dd2 sl sl2 (by simpa using hv) (by simp [hw])) ⟨ho, ho2, h1 hw⟩
  · refine concat_meets ⟨_, ho, rfl⟩ ⟨_, ho2, rfl⟩ noFill_tuple_add seq_tuple_add PySem.F.slot_tuple_add PySem.F.entry_tuple_add (PySem.F.args_tuple_add_2 _ _)
      (tuple_addW2 t b vs.toArray ws.toArray n n2 dd dd2 sl sl2 (by simpa using hv) (by simpa using hw) (by rw [List.size_toArray, List.size_toArray]; exact hsz)) ⟨ho, ho2, ?_⟩
    rw [e]
    exact h2 hw

/-! ### t[a:b], not the whole -/
/-- a slice's bound as a place among n (d where it is left out) -/
def sIx (n d : Nat) : Option Int → Nat
  | none => d
  | some v => if v < 0 then (v + (n : Int)).toNat else min v.toNat n
theorem sIx_none (n d : Nat) : sIx n d none = d := rfl
theorem sIx_nat (n d k : Nat) : sIx n d (some (k : Int)) = min k n := by
  show (if (k : Int) < 0 then ((k : Int) + (n : Int)).toNat else min (k : Int).toNat n) = min k n
  rw [if_neg (by omega), Int.toNat_natCast]
theorem sIx_le (n d : Nat) (hd : d ≤ n) (o : Option Int) : sIx n d o ≤ n := by
  cases o with
  | none => exact hd
  | some v =>
    show (if v < 0 then (v + (n : Int)).toNat else min v.toNat n) ≤ n
    by_cases hv : v < 0
    · rw [if_pos hv]; omega
    · rw [if_neg hv]; exact Nat.min_le_right _ _
theorem clip_eq (v : Int) (n d : Nat) : (if v < 0 then max (v + (n : Int)) 0 else min v (n : Int)) = ((sIx n d (some v) : Nat) : Int) := by
  show (if v < 0 then max (v + (n : Int)) 0 else min v (n : Int)) = (((if v < 0 then (v + (n : Int)).toNat else min v.toNat n) : Nat) : Int)
  by_cases hv : v < 0
  · simp only [if_pos hv]; omega
  · simp only [if_neg hv]; omega
theorem adjust_gen (lo hi : Option Int) (n : Nat) : Builtin.Slice.sliceAdjust lo hi 1 (n : Int) = (((sIx n 0 lo : Nat) : Int), ((sIx n n hi : Nat) : Int)) := by
  have h1 : ¬ ((1 : Int) < 0) := by omega
  unfold Builtin.Slice.sliceAdjust
  simp only [h1, if_false]
  refine Prod.ext ?_ ?_
  · cases lo with
    | none => rfl
    | some v => exact clip_eq v n 0
  · cases hi with
    | none => rfl
    | some v => exact clip_eq v n n
theorem places_gen (i j : Nat) : Builtin.Slice.slicePlaces (i : Int) (j : Int) 1 = j - i := by
  unfold Builtin.Slice.slicePlaces
  have h1 : (1 : Int) > 0 := by omega
  simp only [h1, if_true, Int.ediv_one]
  split <;> omega
theorem slicePart_ {v : Value} {o : Option Int} {Q : Option Int → Shared → Prop} (p : IsPart v o) (h : Q o s) : wpAny (model prog w) A (Builtin.Slice.slicePartIndex v) Q E s := by
  cases p with
  | none => exact slicePart_none h
  | int i t => exact slicePart_int h
theorem sliceApplied_gen {sl : Addr} {vl vu : Value} {lo hi : Option Int} {n : Nat} {Q : Int × Int × Nat → Shared → Prop} (hs : s.heap.IsSliceOf sl vl vu .none) (pl : IsPart vl lo) (pu : IsPart vu hi)
    (h : Q (((sIx n 0 lo : Nat) : Int), 1, sIx n n hi - sIx n 0 lo) s) : wpAny (model prog w) A (Builtin.Slice.sliceApplied (.ref sl) (pure (n : Int))) Q E s := by
  obtain ⟨os, hos, hcs, hds⟩ := id hs
  unfold Builtin.Slice.sliceApplied Builtin.Slice.sliceFields
  refine wpAny_bind (wpAny_bind (wpAny_field hos hds (x := vl) rfl (wpAny_bind (wpAny_field hos hds (x := vu) rfl (wpAny_bind (wpAny_field hos hds (x := .none) rfl (wpAny_pure ?_)))))))
  refine wpAny_bind (slicePart_none ?_)
  show wpAny _ _ (if ((1 : Int) == 0) = true then _ else _) _ _ s
  rw [if_neg (by decide)]
  refine wpAny_bind (slicePart_ pl (wpAny_bind (slicePart_ pu (wpAny_bind (wpAny_pure ?_)))))
  show wpAny _ _ (match Builtin.Slice.sliceAdjust lo hi 1 (n : Int) with | (lo, hi) => pure (lo, (1 : Int), Builtin.Slice.slicePlaces lo hi 1)) _ _ s
  rw [adjust_gen lo hi n]
  show wpAny _ _ (pure (((sIx n 0 lo : Nat) : Int), (1 : Int), Builtin.Slice.slicePlaces ((sIx n 0 lo : Nat) : Int) ((sIx n n hi : Nat) : Int) 1)) _ _ s
  rw [places_gen]
  exact wpAny_pure h
theorem pick_gen (xs : Array Value) (i k : Nat) : ((List.range k).filterMap fun (m : Nat) => xs[((i : Int) + (m : Int) * 1).toNat]?).toArray = ((xs.toList.drop i).take k).toArray := by
  have e : (fun (m : Nat) => xs[((i : Int) + (m : Int) * 1).toNat]?) = fun m => xs[i + m]? := by
    funext m
    have : ((i : Int) + (m : Int) * 1).toNat = i + m := by omega
    rw [this]
  rw [e]
  have := pick_run xs i k
  rw [List.filterMap_map] at this
  have e2 : ((fun x => xs[x]?) ∘ fun x => i + x) = fun m => xs[i + m]? := rfl
  rw [e2] at this
  rw [this]

theorem getItem_tuple_cut {t sl : Addr} {items : Array Value} {vl vu : Value} {lo hi : Option Int} {Q : Value → Shared → Prop} (ht : IsTup s.heap t items) (hs : s.heap.IsSliceOf sl vl vu .none) (pl : IsPart vl lo) (pu : IsPart vu hi)
    (hw : ¬ (sIx items.size 0 lo = 0 ∧ sIx items.size items.size hi = items.size))
    (h : Q (.ref s.heap.objs.size) { s with heap := s.heap.push { cls := .type "tuple", data := .seq ((items.toList.drop (sIx items.size 0 lo)).take (sIx items.size items.size hi - sIx items.size 0 lo)).toArray } })
    (hsz : items.size ≤ sizeLine) : wpAny (model prog w) A (getItem (.ref t) (.ref sl)) Q E s := by
  have htake : sizeOk (.seq ((items.toList.drop (sIx items.size 0 lo)).take (sIx items.size items.size hi - sIx items.size 0 lo)).toArray) := by
    show ((items.toList.drop (sIx items.size 0 lo)).take (sIx items.size items.size hi - sIx items.size 0 lo)).toArray.size ≤ sizeLine
    rw [List.size_toArray, List.length_take, List.length_drop, Array.length_toList]
    omega
  have hj : sIx items.size items.size hi ≤ items.size := sIx_le _ _ (Nat.le_refl _) hi
  obtain ⟨os, hos, hcs, hds⟩ := id hs
  have hTs : s.TypeIs (.ref sl) "slice" := ⟨os, hos, hcs⟩
  unfold getItem
  try with_reducible refine wpAny_holding ?_
  first | refine wpAny_bind (wpAny_pure ?_) | skip
  refine wpAny_bind (wpAny_sequenceKey ht.typeIs (by decide) ?_)
  refine wpAny_bind (wpAny_callSpecial?_slot (name := Str.ofString "__getitem__") ht.typeIs PyProof.Rows.slot_tuple_getitem
    (wpAny_call_entry PyProof.Rows.slot_tuple_getitem ht.typeIs entry_tuple_getitem ?_ (args_tuple_getitem _ _)))
  show wpAny _ _ (Builtin.Tuple.tupleItemsOf (.ref t) >>= _) _ _ s
  refine wpAny_bind (tupleItemsOf_ ht ?_)
  refine wpAny_bind (wpAny_typeOf hTs ?_)
  rw [if_pos (by decide)]
  refine wpAny_bind (sliceApplied_gen hs pl pu ?_)
  have hno : ¬ ((((sIx items.size 0 lo : Nat) : Int) == 0 && (1 : Int) == 1 && (sIx items.size items.size hi - sIx items.size 0 lo) == items.size) = true) := by
    intro q
    rw [Bool.and_eq_true, Bool.and_eq_true] at q
    have q1 : ((sIx items.size 0 lo : Nat) : Int) = 0 := eq_of_beq q.1.1
    have q2 : sIx items.size items.size hi - sIx items.size 0 lo = items.size := eq_of_beq q.2
    exact hw ⟨by omega, by omega⟩
  show wpAny _ _ (if (((sIx items.size 0 lo : Nat) : Int) == 0 && (1 : Int) == 1 && (sIx items.size items.size hi - sIx items.size 0 lo) == items.size) = true then _ else _) _ _ s
  rw [if_neg hno, pick_gen]
  first
    | exact wpAny_bind (m := Builtin.Tuple.tupleExact _) (wpAny_newObj_type (wpAny_pure ⟨_, rfl, wpAny_pure h⟩) htake)
    | exact wpAny_bind (m := Builtin.Tuple.tupleExact _) (wpAny_newObj_type (wpAny_bind (wpAny_pure (wpAny_pure ⟨_, rfl, wpAny_pure h⟩))) htake)
    | exact wpAny_bind (wpAny_bind (m := Builtin.Tuple.tupleExact _) (wpAny_newObj_type (wpAny_pure (wpAny_pure ⟨_, rfl, wpAny_pure h⟩)) htake))
    | exact wpAny_bind (wpAny_bind (m := Builtin.Tuple.tupleExact _) (wpAny_newObj_type (wpAny_pure ⟨_, rfl, wpAny_pure h⟩) htake))
end
end HT

namespace L2
open PySem PySem.Spec PyProof.Rows

/-! ### the parts of a slice -/
abbrev TO := St → Hp → (Option Int → Hp → Prop) → Prop
/-- a slice's part (left out, or an int) -/
def PO (X : Cx) (e : Option Expr) (t : TO) : Prop :=
  ∀ (pins : List (Addr × Obj)) (s : Shared) (σ : St) (H : Hp) (Q : Option Int → Hp → Prop), Inv X pins σ H s → t σ H Q →
    wpAny (model X.prog X.w) X.A (evalPart e X.env) (fun u s' => ∃ o H', Inv X pins σ H' s' ∧ IsPart u o ∧ Q o H') X.xe s
def tNoPart : TO := fun _ H Q => Q none H
def tPart (t : TE) : TO := fun σ H Q => t σ H fun x H1 => ∃ i, x = .int i ∧ Q (some i) H1

theorem intsAre_of {ns : List Int} : ∀ {us : List Value}, Vals (ns.map V.int) us → IntsAre us ns := by
  induction ns with
  | nil => intro us r; rw [List.map_nil] at r; cases r; exact .nil
  | cons n ns ih =>
    intro us r
    rw [List.map_cons] at r
    cases r with
    | cons r1 r2 =>
      obtain ⟨t, e⟩ := r1
      subst e
      exact .cons n t (ih r2)

section
variable {X : Cx} {e : Expr} {te : TE} {lo hi : Option Expr} {tl th : TO} {pos p2 : Pos}

theorem po_none : PO X none tNoPart := by
  intro pins s σ H Q I h
  rw [evalPart_none]
  exact wpAny_pure ⟨none, H, I, .none, h⟩
theorem po_some (h : PE X e te) : PO X (some e) (tPart te) := by
  intro pins s σ H Q I hw
  rw [evalPart_some]
  refine thn (h pins s σ H _ I hw) fun u s1 ⟨x, H1, I1, r1, q1⟩ => ?_
  obtain ⟨i, rfl, q⟩ := q1
  obtain ⟨t, rfl⟩ := r1
  exact ⟨some i, H1, I1, .int i t, q⟩

/-- what a slice of a value is, by values: the slice object stands at sl -/
def SlR (X : Cx) (r : V → Option Int → Option Int → Hp → VK → Prop) : Prop :=
  ∀ (pins : List (Addr × Obj)) (s : Shared) (σ : St) (H : Hp) (x : V) (v vl vu : Value) (lo hi : Option Int) (sl : Addr) (Q : VK), Inv X pins σ H s → RelV x v → s.heap.IsSliceOf sl vl vu .none → IsPart vl lo → IsPart vu hi → r x lo hi H Q →
    ∃ T id, typeLookup (.type T) "__getitem__" = pure (some (.builtin id)) ∧ s.TypeIs v T ∧ wpAny (model X.prog X.w) X.A (getItem v (.ref sl)) (EP X pins σ Q) X.xe s
theorem SlR.or {r r' : V → Option Int → Option Int → Hp → VK → Prop} (h : SlR X r) (h' : SlR X r') : SlR X (fun x lo hi H Q => r x lo hi H Q ∨ r' x lo hi H Q) := by
  intro pins s σ H x v vl vu lo hi sl Q I rx hs pl pu q
  rcases q with q | q
  · exact h pins s σ H x v vl vu lo hi sl Q I rx hs pl pu q
  · exact h' pins s σ H x v vl vu lo hi sl Q I rx hs pl pu q
def tSl (r : V → Option Int → Option Int → Hp → VK → Prop) (te : TE) (tl th : TO) : TE := fun σ H Q => te σ H fun x H1 => tl σ H1 fun l H2 => th σ H2 fun u H3 => r x l u H3 Q
/-- a[lo:hi], any a -/
theorem pe_slice {r : V → Option Int → Option Int → Hp → VK → Prop} (hr : SlR X r) (he : PE X e te) (hl : PO X lo tl) (hu : PO X hi th) : PE X (.Subscript e (.Slice lo hi none p2) pos) (tSl r te tl th) := by
  intro pins s σ H Q I h
  refine Subscript_ (thn (he pins s σ H _ I h) fun v s1 ⟨x, H1, I1, r1, q1⟩ => ?_)
  refine wpAny_Slice (thn (hl pins s1 σ H1 _ I1 q1) fun vl s2 ⟨l, H2, I2, pl, q2⟩ => thn (hu pins s2 σ H2 _ I2 q2) fun vu s3 ⟨u, H3, I3, pu, q3⟩ => ?_)
  rw [evalPart_none]
  refine wpAny_pure ?_
  have I4 : Inv X pins σ H3 { s3 with heap := s3.heap.push { cls := .type "slice", data := .fields #[vl, vu, .none] } } := I3.kept (t' := s3.toks) fun b ob q => Heap.get?_push_of_some _ q
  obtain ⟨T, id, hT, ht, hg⟩ := hr pins { s3 with heap := s3.heap.push { cls := .type "slice", data := .fields #[vl, vu, .none] } } σ H3 x v vl vu l u s3.heap.objs.size Q I4 r1 (Heap.IsSliceOf.new ..) pl pu q3
  show wpAny (model X.prog X.w) X.A (subscriptTail e (.Slice lo hi none p2) v (.ref s3.heap.objs.size)) (EP X pins σ Q) X.xe { s3 with heap := s3.heap.push { cls := .type "slice", data := .fields #[vl, vu, .none] } }
  exact tail_any (ops := [.ref s3.heap.objs.size, v]) ht hT hg (by with_unfolding_all rfl)

/-- the items of xs[lo:hi] -/
def cutV (xs : List V) (lo hi : Option Int) : List V := (xs.drop (HT.sIx xs.length 0 lo)).take (HT.sIx xs.length xs.length hi - HT.sIx xs.length 0 lo)
theorem cutV_length (xs : List V) (lo hi : Option Int) : (cutV xs lo hi).length ≤ xs.length := by
  unfold cutV
  rw [List.length_take, List.length_drop]
  omega
/-- t[lo:hi], not the whole of it (the whole would be t itself) -/
def rSlT (K : PySem.W.Frag) : V → Option Int → Option Int → Hp → VK → Prop := fun x lo hi H Q => ∃ a xs, x = .ref a ∧ SqT K H a xs ∧
  ¬ (HT.sIx xs.length 0 lo = 0 ∧ HT.sIx xs.length xs.length hi = xs.length) ∧ ∀ p, H p = none → Q (.ref p) (upd H p (.tup (cutV xs lo hi)))
theorem sl_tup : SlR X (rSlT X.K) := by
  intro pins s σ H x v vl vu lo hi sl Q I rx hs pl pu h
  obtain ⟨a, xs, rfl, hx, hw, q⟩ := h
  cases rx
  obtain ⟨its, r, ht, hz⟩ := I.tuple hx
  have hlen : its.toArray.size = xs.length := by rw [List.size_toArray]; exact r.length.symm
  refine ⟨"tuple", _, PyProof.Rows.slot_tuple_getitem.lookup, ht.typeIs, ?_⟩
  refine HT.getItem_tuple_cut ht hs pl pu (by rw [hlen]; exact hw) ?_ (by rw [hlen]; exact hz)
  rw [hlen]
  refine ⟨.ref s.heap.objs.size, _, I.laid (t' := s.toks) (o := .tup (cutV xs lo hi)) (fun b ob q => Heap.get?_push_of_some _ q) (Nat.le_refl _) ?_, rfl, q _ (I.hok.fresh (Nat.le_refl _))⟩
  exact ⟨Nat.le_trans (cutV_length xs lo hi) hz, _, (r.drop (HT.sIx xs.length 0 lo)).take (HT.sIx xs.length xs.length hi - HT.sIx xs.length 0 lo), IsTup.new _ _⟩

/-! ### t < u, t + u -/
def rLtT (K : PySem.W.Frag) : R2 := fun x y H Q => ∃ a b ns ms, x = .ref a ∧ y = .ref b ∧ SqT K H a (ns.map V.int) ∧ SqT K H b (ms.map V.int) ∧ Q (.bl (HT.lexLt ns ms)) H
theorem op_ltT (hu : X.A.units < cLine) : OpR X (compareOp .Lt) (rLtT X.K) := by
  intro pins s σ H x y v u Q I rx ry h
  obtain ⟨a, b, ns, ms, rfl, rfl, ha, hb, q⟩ := h
  cases rx
  cases ry
  obtain ⟨its, r1, p1, _⟩ := I.tuple ha
  obtain ⟨its2, r2, p2, _⟩ := I.tuple hb
  have i1 : IntsAre its.toArray.toList ns := intsAre_of r1
  have i2 : IntsAre its2.toArray.toList ms := intsAre_of r2
  exact HT.lt_tupInts p1 p2 i1 i2 hu ⟨.bl (HT.lexLt ns ms), H, I, rfl, q⟩
/-- t + u, t not empty: u empty gives t itself -/
def rCatT (K : PySem.W.Frag) : R2 := fun x y H Q => ∃ a b xs ys, x = .ref a ∧ y = .ref b ∧ SqT K H a xs ∧ SqT K H b ys ∧ xs ≠ [] ∧ xs.length + ys.length ≤ sizeLine ∧
  (ys = [] → Q (.ref a) H) ∧ (ys ≠ [] → ∀ p, H p = none → Q (.ref p) (upd H p (.tup (xs ++ ys))))
theorem Vals.nil_iff {xs : List V} {us : List Value} (r : Vals xs us) : us = [] ↔ xs = [] := by
  cases r with
  | nil => simp
  | cons _ _ => simp
theorem op_catT : OpR X (binaryOp .Add) (rCatT X.K) := by
  intro pins s σ H x y v u Q I rx ry h
  obtain ⟨a, b, xs, ys, rfl, rfl, ha, hb, hx, hz, q1, q2⟩ := h
  cases rx
  cases ry
  obtain ⟨its, r1, p1, _⟩ := I.tuple ha
  obtain ⟨its2, r2, p2, _⟩ := I.tuple hb
  refine HT.cat_tup p1 p2 (fun z => hx (r1.nil_iff.mp z)) (fun z => ⟨.ref a, H, I, rfl, q1 (r2.nil_iff.mp z)⟩) (fun z => ?_) (by rw [← r1.length, ← r2.length]; exact hz)
  refine ⟨.ref s.heap.objs.size, _, I.laid (t' := s.toks) (o := .tup (xs ++ ys)) (fun b ob q => Heap.get?_push_of_some _ q) (Nat.le_refl _) ?_, rfl, q2 (fun w => z (r2.nil_iff.mpr w)) _ (I.hok.fresh (Nat.le_refl _))⟩
  exact ⟨by rw [List.length_append]; exact hz, _, r1.append r2, IsTup.new _ _⟩
/-- tuple(t) -/
theorem call_tupleT : CallR X (.type "tuple") (fun xs H Q => ∃ a ys, xs = [.ref a] ∧ SqT X.K H a ys ∧ Q (.ref a) H) := by
  intro pins s σ H xs us Q I r h
  obtain ⟨a, ys, rfl, ha, q⟩ := h
  obtain ⟨u, rfl, ru⟩ := vals1 r
  cases ru
  obtain ⟨its, _, p1, _⟩ := I.tuple ha
  exact call_tuple_same (items := its.toArray) p1 ⟨.ref a, H, I, rfl, q⟩
end
end L2

namespace L2
open PySem PySem.Spec PyProof.Rows

/-! ### places -/
/-- the place that an index of any sign means -/
def ixN (n : Nat) (i : Int) : Option Nat := if 0 ≤ i then (if i < n then some i.toNat else none) else if -(n : Int) ≤ i then some (i + n).toNat else none
def atI {α : Type} (xs : List α) (i : Int) : Option α := (ixN xs.length i).bind fun j => xs[j]?
theorem ixN_seq {n : Nat} {i : Int} {j : Nat} (h : ixN n i = some j) : seqIndex? i n = some j ∧ j < n ∧ -(n : Int) ≤ i ∧ i < n := by
  unfold ixN at h
  by_cases h0 : 0 ≤ i
  · rw [if_pos h0] at h
    by_cases h1 : i < n
    · rw [if_pos h1] at h
      have e : i.toNat = j := Option.some.inj h
      exact ⟨by rw [seqIndex_of h0 h1, e], by omega, by omega, h1⟩
    · rw [if_neg h1] at h; cases h
  · rw [if_neg h0] at h
    by_cases h1 : -(n : Int) ≤ i
    · rw [if_pos h1] at h
      have e : (i + n).toNat = j := Option.some.inj h
      exact ⟨by rw [seqIndex_neg (by omega) h1, e], by omega, h1, by omega⟩
    · rw [if_neg h1] at h; cases h
theorem atI_get {α : Type} {xs : List α} {i : Int} {v : α} (h : atI xs i = some v) : ∃ j, seqIndex? i xs.length = some j ∧ xs[j]? = some v ∧ j < xs.length ∧ -(xs.length : Int) ≤ i ∧ i < xs.length := by
  unfold atI at h
  cases e : ixN xs.length i with
  | none => rw [e] at h; cases h
  | some j =>
    rw [e] at h
    obtain ⟨h1, h2, h3, h4⟩ := ixN_seq e
    exact ⟨j, h1, h, h2, h3, h4⟩
theorem atI_nat {α : Type} {xs : List α} {j : Nat} {v : α} (h : xs[j]? = some v) : atI xs (j : Int) = some v := by
  have hj : j < xs.length := (List.getElem?_eq_some_iff.mp h).1
  have e : ixN xs.length (j : Int) = some j := by
    unfold ixN
    rw [if_pos (by omega), if_pos (by omega)]; simp
  unfold atI; rw [e]; exact h
theorem atI_last {α : Type} (xs : List α) (v : α) : atI (xs ++ [v]) (-1) = some v := by
  have hl : (xs ++ [v]).length = xs.length + 1 := by simp
  have e : ixN (xs ++ [v]).length (-1) = some xs.length := by
    unfold ixN
    rw [hl, if_neg (by decide), if_pos (by omega)]
    congr 1
    omega
  unfold atI
  rw [e]
  show (xs ++ [v])[xs.length]? = some v
  simp

/-! ### what may be subscripted -/
/-- what stands as an index of a plain subscript -/
def PlainIx (b : Expr) : Prop := ∀ o i, subscripted b false o i = operate [o, i] (getItem o i)
/-- a subscript by values -/
def IxR (X : Cx) (r : R2) : Prop :=
  ∀ (value slice : Expr) (pins : List (Addr × Obj)) (s : Shared) (σ : St) (H : Hp) (x y : V) (v u : Value) (Q : VK), Inv X pins σ H s → RelV x v → RelV y u → r x y H Q →
    subscripted slice false v u = operate [v, u] (getItem v u) → wpAny (model X.prog X.w) X.A (subscriptTail value slice v u) (EP X pins σ Q) X.xe s
/-- a call of a builtin's method by values: the receiver, the arguments -/
def MtR (X : Cx) (id : String) (r : V → List V → Hp → VK → Prop) : Prop :=
  ∀ (pins : List (Addr × Obj)) (s : Shared) (σ : St) (H : Hp) (x : V) (xs : List V) (v : Value) (us : List Value) (Q : VK), Inv X pins σ H s → RelV x v → Vals xs us → r x xs H Q →
    wpAny (model X.prog X.w) X.A (call (.builtin id) (v :: us)) (EP X pins σ Q) X.xe s
section
variable {X : Cx} {a b : Expr} {ta tb : TE} {pos : Pos}
theorem IxR.or {r r' : R2} (h : IxR X r) (h' : IxR X r') : IxR X (fun x y H Q => r x y H Q ∨ r' x y H Q) := by
  intro value slice pins s σ H x y v u Q I rx ry q hs
  rcases q with q | q
  · exact h value slice pins s σ H x y v u Q I rx ry q hs
  · exact h' value slice pins s σ H x y v u Q I rx ry q hs
theorem MtR.or {id : String} {r r' : V → List V → Hp → VK → Prop} (h : MtR X id r) (h' : MtR X id r') : MtR X id (fun x xs H Q => r x xs H Q ∨ r' x xs H Q) := by
  intro pins s σ H x xs v us Q I rx rs q
  rcases q with q | q
  · exact h pins s σ H x xs v us Q I rx rs q
  · exact h' pins s σ H x xs v us Q I rx rs q
/-- a[b] -/
theorem pe_ix {r : R2} (hr : IxR X r) (ha : PE X a ta) (hb : PE X b tb) (hs : PlainIx b) : PE X (.Subscript a b pos) (tOp r ta tb) := by
  intro pins s σ H Q I h
  exact Subscript_ (binT ha hb I h fun v u s2 x y H2 I2 rx ry q => hr a b pins s2 σ H2 x y v u Q I2 rx ry q (hs _ _))

def rIxL (K : PySem.W.Frag) : R2 := fun x y H Q => ∃ p xs i v, x = .ref p ∧ y = .int i ∧ SqL K H p xs ∧ atI xs i = some v ∧ Q v H
def rIxT (K : PySem.W.Frag) : R2 := fun x y H Q => ∃ p xs i v, x = .ref p ∧ y = .int i ∧ SqT K H p xs ∧ atI xs i = some v ∧ Q v H
def rIxS : R2 := fun x y H Q => ∃ z i c, x = .str z ∧ y = .int i ∧ z.length ≤ sizeLine ∧ atI z.cps.toList i = some c ∧ Q (.str ⟨#[c]⟩) H
theorem ix_list : IxR X (rIxL X.K) := by
  intro value slice pins s σ H x y v u Q I rx ry h hs
  obtain ⟨p, xs, i, z, rfl, rfl, hq, he, q⟩ := h
  cases rx
  obtain ⟨t, rfl⟩ := ry
  obtain ⟨its, r, pl, hz⟩ := I.list hq
  obtain ⟨j, h1, h2, h3, h4, h5⟩ := atI_get he
  obtain ⟨w, ew, rw'⟩ := r.get h2
  have hl := r.length
  have hn := line63
  have fin : EP X pins σ Q w s := ⟨z, H, I, rw', q⟩
  by_cases h0 : 0 ≤ i
  · have hj : i.toNat = j := by
      rw [seqIndex_of h0 h5] at h1
      exact Option.some.inj h1
    exact item_listR pl.isList h0 (by omega) (by rw [hj]; simpa using ew) fin hs
  · have hj : (i + (its.toArray.size : Int)).toNat = j := by
      rw [seqIndex_neg (by omega) h4] at h1
      rw [List.size_toArray, ← hl]
      exact Option.some.inj h1
    exact subscriptTail_builtinR (x := w) pl.isList.typeIs slot_list_getitem.lookup
      (wpAny_getItem_list_neg (Q := fun r s' => r = w ∧ EP X pins σ Q r s') pl.isList (by omega) (by rw [List.size_toArray] <;> omega) (by omega) (by rw [hj]; simpa using ew) ⟨rfl, fin⟩) hs
theorem ix_tup : IxR X (rIxT X.K) := by
  intro value slice pins s σ H x y v u Q I rx ry h hs
  obtain ⟨p, xs, i, z, rfl, rfl, hq, he, q⟩ := h
  cases rx
  obtain ⟨t, rfl⟩ := ry
  obtain ⟨its, r, pl, hz⟩ := I.tuple hq
  obtain ⟨j, h1, h2, h3, h4, h5⟩ := atI_get he
  obtain ⟨w, ew, rw'⟩ := r.get h2
  have hl := r.length
  have hn := line63
  have fin : EP X pins σ Q w s := ⟨z, H, I, rw', q⟩
  exact subscriptTail_builtinR (x := w) pl.typeIs slot_tuple_getitem.lookup
    (getItem_tuple (j := j) (Q := fun r s' => r = w ∧ EP X pins σ Q r s') pl (by omega) (by omega) (by rw [List.size_toArray, ← hl]; exact h1) (by simpa using ew) ⟨rfl, fin⟩) hs
theorem ix_str : IxR X rIxS := by
  intro value slice pins s σ H x y v u Q I rx ry h hs
  obtain ⟨z, i, c, rfl, rfl, hz, he, q⟩ := h
  obtain ⟨t, rfl⟩ := rx
  obtain ⟨t', rfl⟩ := ry
  obtain ⟨j, h1, h2, h3, h4, h5⟩ := atI_get he
  have hl : z.cps.toList.length = z.length := by simp [Str.length]
  rw [hl] at h1 h4 h5
  have hn := line63
  exact tail_any (typeIs_str s z t) slot_str_getitem.lookup (getItem_str (c := c) (by
    have e1 : decide (i < -(2 ^ 63 : Int)) = false := decide_eq_false (by omega)
    have e2 : decide (i ≥ 2 ^ 63) = false := decide_eq_false (by omega)
    rw [e1, e2, Bool.or_false]) (by rw [h1]; simpa using h2) ⟨.str ⟨#[c]⟩, H, I.tok _, ⟨_, rfl⟩, q⟩) hs
/-- list, tuple or str -/
def rIx (K : PySem.W.Frag) : R2 := fun x y H Q => rIxL K x y H Q ∨ rIxT K x y H Q ∨ rIxS x y H Q
theorem ix_seq : IxR X (rIx X.K) := ix_list.or (ix_tup.or ix_str)

/-! ### xs[i] = v, any sign -/
/-- the list's object behind a store -/
theorem mapSeq_set (its : List Value) (n j : Nat) (u : Value) : Obj.mapSeq (·.setIfInBounds j u) { cls := .type "list", data := .seq its.toArray n } = { cls := .type "list", data := .seq (its.set j u).toArray n } := by
  simp [Obj.mapSeq]
theorem Inv.lst {pins : List (Addr × Obj)} {σ : St} {H : Hp} {s : Shared} {p : Addr} {xs : List V} (I : Inv X pins σ H s) (h : H p = some (.lst xs)) :
    ∃ (its : List Value) (n : Nat), Vals xs its ∧ s.heap.get? p = some { cls := .type "list", data := .seq its.toArray n } ∧ xs.length ≤ sizeLine := by
  obtain ⟨z, its, n, r, e⟩ := I.hok p _ h
  exact ⟨its, n, r, e, z⟩
/-- the list at p is written by an update of its object -/
theorem Inv.lstUpd {pins : List (Addr × Obj)} {σ : St} {H : Hp} {s : Shared} {p : Addr} {xs ys : List V} {its its' : List Value} {n n' : Nat} {f : Obj → Obj} (I : Inv X pins σ H s) (h : H p = some (.lst xs))
    (ho : s.heap.get? p = some { cls := .type "list", data := .seq its.toArray n }) (hf : f { cls := .type "list", data := .seq its.toArray n } = { cls := .type "list", data := .seq its'.toArray n' }) (r : Vals ys its') (hz : ys.length ≤ sizeLine) (t : Nat) :
    Inv X pins σ (upd H p (.lst ys)) { s with heap := s.heap.update p f, toks := t } := by
  have e : (s.heap.update p f).get? p = some { cls := .type "list", data := .seq its'.toArray n' } := by
    rw [Heap.get?_update_self f ho (by rw [hf] <;> rfl), hf]
  refine I.write (x := p) (e := p) (by rw [h]; trivial) (.inl rfl) (fun b u hb q => (Heap.get?_update_other _ _ (Ne.symm hb)).trans q) ⟨_, e⟩ ?_
  exact ⟨hz, its', n', r, e⟩
def rSetL : V → V → V → Hp → (Hp → Prop) → Prop := fun o i v H Q => ∃ p xs k j, o = .ref p ∧ i = .int k ∧ H p = some (.lst xs) ∧ ixN xs.length k = some j ∧ Q (upd H p (.lst (xs.set j v)))
theorem set_list : PSet X rSetL := by
  intro pins s σ H o i v ov iv u Q I ro ri rv h
  obtain ⟨p, xs, k, j, rfl, rfl, hp, hj, q⟩ := h
  cases ro
  obtain ⟨t, rfl⟩ := ri
  obtain ⟨its, n, r, ho, hz⟩ := I.lst hp
  obtain ⟨h1, h2, h3, h4⟩ := ixN_seq hj
  have hl := r.length
  have hn := line63
  have I' : Inv X pins σ (upd H p (.lst (xs.set j v))) { s with heap := s.heap.update p (Obj.mapSeq (·.setIfInBounds j u)) } :=
    I.lstUpd hp ho (mapSeq_set its n j u) (r.set rv j) (by rw [List.length_set]; exact hz) s.toks
  by_cases h0 : 0 ≤ k
  · have hk : k.toNat = j := by
      rw [seqIndex_of h0 h4] at h1
      exact Option.some.inj h1
    exact PySem.W.ki_setAt ho h0 (by omega) (by rw [List.size_toArray, ← hl]; exact h4) (by rw [hk]; exact ⟨_, I', q⟩)
  · have hk : (k + (its.toArray.size : Int)).toNat = j := by
      rw [seqIndex_neg (by omega) h3] at h1
      rw [List.size_toArray, ← hl]
      exact Option.some.inj h1
    exact PySem.W.ki_setBack ho (by omega) (by rw [List.size_toArray, ← hl]; exact h3) (by omega) (by rw [hk]; exact ⟨_, I', q⟩)

/-! ### slices -/
theorem slice_bounds (lo hi : Option Int) (n : Nat) : (sliceBounds lo hi none n).1 = ((HT.sIx n 0 lo : Nat) : Int) ∧ (sliceBounds lo hi none n).2.1 = ((HT.sIx n n hi : Nat) : Int) ∧ (sliceBounds lo hi none n).2.2 = 1 := by
  refine ⟨?_, ?_, rfl⟩
  · cases lo with
    | none => simp [sliceBounds, HT.sIx]
    | some i =>
      simp only [sliceBounds, HT.sIx, Option.getD_none, show (1 : Int) > 0 by decide, if_true]
      by_cases h : i < 0
      · simp only [h, if_true] <;> omega
      · simp only [h, if_false] <;> omega
  · cases hi with
    | none => simp [sliceBounds, HT.sIx]
    | some i =>
      simp only [sliceBounds, HT.sIx, Option.getD_none, show (1 : Int) > 0 by decide, if_true]
      by_cases h : i < 0
      · simp only [h, if_true] <;> omega
      · simp only [h, if_false] <;> omega
theorem slicePick_cut (its : List Value) (lo hi : Option Int) : slicePick its.toArray lo hi none = ((its.drop (HT.sIx its.length 0 lo)).take (HT.sIx its.length its.length hi - HT.sIx its.length 0 lo)).toArray := by
  obtain ⟨h1, h2, h3⟩ := slice_bounds lo hi its.toArray.size
  unfold slicePick
  rw [h1, h2, h3]
  simp only [sliceRange_one, pick_run, List.size_toArray] <;> rfl
/-- xs[lo:hi] of a list: a new list -/
def rSlL (K : PySem.W.Frag) : V → Option Int → Option Int → Hp → VK → Prop := fun x lo hi H Q => ∃ a xs, x = .ref a ∧ SqL K H a xs ∧ ∀ p, H p = none → Q (.ref p) (upd H p (.lst (cutV xs lo hi)))
theorem sl_list : SlR X (rSlL X.K) := by
  intro pins s σ H x v vl vu lo hi sl Q I rx hs pl pu h
  obtain ⟨a, xs, rfl, hx, q⟩ := h
  cases rx
  obtain ⟨its, r, ht, hz⟩ := I.list hx
  have hlen := r.length
  refine ⟨"list", _, slot_list_getitem.lookup, ht.isList.typeIs, ?_⟩
  refine wpAny_getItem_list_slice ht.isList hs pl pu .none (by simp) ?_ (by rw [List.size_toArray] <;> omega)
  rw [slicePick_cut, ← hlen]
  refine ⟨.ref s.heap.objs.size, _, I.laid (t' := s.toks) (o := .lst (cutV xs lo hi)) (fun b ob q => Heap.get?_push_of_some _ q) (Nat.le_refl _) ?_, rfl, q _ (I.hok.fresh (Nat.le_refl _))⟩
  exact ⟨Nat.le_trans (cutV_length xs lo hi) hz, _, 0, (r.drop (HT.sIx xs.length 0 lo)).take (HT.sIx xs.length xs.length hi - HT.sIx xs.length 0 lo), Heap.get?_push_size _ rfl⟩

/-! ### in, not in: flat items -/
def flatV : V → Bool
  | .non => true
  | .bl _ => true
  | .int _ => true
  | .str _ => true
  | _ => false
/-- == of flat values -/
def eqV : V → V → Bool
  | .non, .non => true
  | .bl a, .bl b => a == b
  | .bl a, .int b => (if a then 1 else 0) == b
  | .int a, .bl b => a == (if b then 1 else 0)
  | .int a, .int b => a == b
  | .str a, .str b => a == b
  | _, _ => false
theorem eqAt_V {A : Around} {s : Shared} {y x : V} {u v : Value} (ry : RelV y u) (rx : RelV x v) (fy : flatV y = true) (fx : flatV x = true) : SeqAt.EqAt A s u v (eqV y x) := by
  cases y with
  | non =>
    cases ry
    cases x with
    | non => cases rx; exact SeqAt.EqAt.same _
    | bl b => cases rx; exact SeqAt.EqAt.none_bool b
    | int b => obtain ⟨t, rfl⟩ := rx; exact SeqAt.EqAt.none_int b t
    | str b => obtain ⟨t, rfl⟩ := rx; exact SeqAt.EqAt.none_str b t
    | _ => exact absurd (show false = true from fx) Bool.false_ne_true
  | bl a =>
    cases ry
    cases x with
    | non => cases rx; exact SeqAt.EqAt.bool_none a
    | bl b => cases rx; exact SeqAt.EqAt.bool_bool a b
    | int b => obtain ⟨t, rfl⟩ := rx; exact SeqAt.EqAt.bool_int a b t
    | str b => obtain ⟨t, rfl⟩ := rx; exact SeqAt.EqAt.bool_str a b t
    | _ => exact absurd (show false = true from fx) Bool.false_ne_true
  | int a =>
    obtain ⟨t', rfl⟩ := ry
    cases x with
    | non => cases rx; exact SeqAt.EqAt.int_none a t'
    | bl b => cases rx; exact SeqAt.EqAt.int_bool a t' b
    | int b => obtain ⟨t, rfl⟩ := rx; exact SeqAt.EqAt.int_int a t' b t
    | str b => obtain ⟨t, rfl⟩ := rx; exact SeqAt.EqAt.int_str a t' b t
    | _ => exact absurd (show false = true from fx) Bool.false_ne_true
  | str a =>
    obtain ⟨t', rfl⟩ := ry
    cases x with
    | non => cases rx; exact SeqAt.EqAt.str_none a t'
    | bl b => cases rx; exact SeqAt.EqAt.str_bool a t' b
    | int b => obtain ⟨t, rfl⟩ := rx; exact SeqAt.EqAt.str_int a t' b t
    | str b => obtain ⟨t, rfl⟩ := rx; exact SeqAt.EqAt.str_str a t' b t
    | _ => exact absurd (show false = true from fx) Bool.false_ne_true
  | _ => exact absurd (show false = true from fy) Bool.false_ne_true
/-- the items' answers, read off the values (a value's own answer does not lean on its token) -/
def eqU (x : V) (u : Value) : Bool := match u with
  | .none => eqV .non x
  | .bool b => eqV (.bl b) x
  | .int i _ => eqV (.int i) x
  | .str z _ => eqV (.str z) x
  | _ => false
theorem eqU_of {x y : V} {u : Value} (r : RelV y u) (f : flatV y = true) : eqU x u = eqV y x := by
  cases y with
  | non => cases r; rfl
  | bl b => cases r; rfl
  | int i => obtain ⟨t, rfl⟩ := r; rfl
  | str z => obtain ⟨t, rfl⟩ := r; rfl
  | _ => exact absurd (show false = true from f) Bool.false_ne_true
theorem any_eqU {x : V} : ∀ {xs : List V} {us : List Value}, Vals xs us → xs.all flatV = true → us.any (eqU x) = xs.any fun y => eqV y x
  | _, _, .nil, _ => rfl
  | y :: xs, u :: us, .cons r t, f => by
    rw [List.all_cons, Bool.and_eq_true] at f
    rw [List.any_cons, List.any_cons, eqU_of r f.1, any_eqU t f.2]
theorem mem_eqAt {A : Around} {s : Shared} {x : V} {v : Value} (rx : RelV x v) (fx : flatV x = true) : ∀ {xs : List V} {us : List Value}, Vals xs us → xs.all flatV = true → ∀ u ∈ us, SeqAt.EqAt A s u v (eqU x u)
  | _, _, .nil, _ => fun u hu => by cases hu
  | y :: xs, u :: us, .cons r t, f => fun u' hu => by
    rw [List.all_cons, Bool.and_eq_true] at f
    rcases List.mem_cons.mp hu with rfl | hu
    · rw [eqU_of r f.1]; exact eqAt_V r rx f.1 fx
    · exact mem_eqAt rx fx t f.2 u' hu
def inV (x : V) (xs : List V) : Bool := xs.any fun y => eqV y x
/-- x in a list or tuple of flat items -/
def rIn (K : PySem.W.Frag) (neg : Bool) : R2 := fun x y H Q => ∃ p xs, y = .ref p ∧ (SqL K H p xs ∨ SqT K H p xs) ∧ flatV x = true ∧ xs.all flatV = true ∧ Q (.bl (if neg then !inV x xs else inV x xs)) H
theorem op_in_seq : OpR X (compareOp .In) (rIn X.K false) := by
  intro pins s σ H x y v u Q I rx ry h
  obtain ⟨p, xs, rfl, hq, fx, fs, q⟩ := h
  cases ry
  rcases hq with hq | hq
  · obtain ⟨its, r, pl, hz⟩ := I.list hq
    refine SeqAt.in_listAt (eqU x) pl.isList (fun w hw => mem_eqAt rx fx r fs w (by simpa using hw)) ⟨.bl _, H, I, rfl, ?_⟩
    rw [show its.toArray.any (eqU x) = its.any (eqU x) by simp, any_eqU r fs]
    exact q
  · obtain ⟨its, r, pl, hz⟩ := I.tuple hq
    refine SeqAt.in_tupleAt (eqU x) pl (fun w hw => mem_eqAt rx fx r fs w (by simpa using hw)) ⟨.bl _, H, I, rfl, ?_⟩
    rw [show its.toArray.any (eqU x) = its.any (eqU x) by simp, any_eqU r fs]
    exact q
theorem op_notIn_seq : OpR X (compareOp .NotIn) (rIn X.K true) := by
  intro pins s σ H x y v u Q I rx ry h
  obtain ⟨p, xs, rfl, hq, fx, fs, q⟩ := h
  cases ry
  rcases hq with hq | hq
  · obtain ⟨its, r, pl, hz⟩ := I.list hq
    refine SeqAt.notIn_listAt (eqU x) pl.isList (fun w hw => mem_eqAt rx fx r fs w (by simpa using hw)) ⟨.bl _, H, I, rfl, ?_⟩
    rw [show its.toArray.any (eqU x) = its.any (eqU x) by simp, any_eqU r fs]
    exact q
  · obtain ⟨its, r, pl, hz⟩ := I.tuple hq
    refine SeqAt.notIn_tupleAt (eqU x) pl (fun w hw => mem_eqAt rx fx r fs w (by simpa using hw)) ⟨.bl _, H, I, rfl, ?_⟩
    rw [show its.toArray.any (eqU x) = its.any (eqU x) by simp, any_eqU r fs]
    exact q
theorem op_notIn_str : OpR X (compareOp .NotIn) (fun x y H Q => ∃ i j, x = .str i ∧ y = .str j ∧ Q (.bl (!(!(Builtin.Str.occurrences j i 0 j.length 1).isEmpty))) H) := by
  intro pins s σ H x y v u Q I rx ry h
  obtain ⟨i, j, rfl, rfl, q⟩ := h
  obtain ⟨t, rfl⟩ := rx
  obtain ⟨t', rfl⟩ := ry
  exact notIn_str ⟨.bl _, H, I, rfl, q⟩

/-! ### len, list(x), tuple(x) of any list or tuple that is read -/
theorem call_len_seq : CallR X (.builtin "len") (fun xs H Q => ∃ p ys, xs = [.ref p] ∧ (SqL X.K H p ys ∨ SqT X.K H p ys) ∧ Q (.int ys.length) H) := by
  intro pins s σ H xs us Q I r h
  obtain ⟨p, ys, rfl, hq, q⟩ := h
  obtain ⟨u, rfl, rx⟩ := vals1 r
  cases rx
  have hn := line63
  rcases hq with hq | hq
  · obtain ⟨its, r', pl, hz⟩ := I.list hq
    have hlen := r'.length
    exact Calls.call_len_list pl.isList (by simp only [List.size_toArray] <;> omega) ⟨.int ys.length, H, I.tok _, ⟨s.toks + 1, by rw [List.size_toArray, hlen]⟩, q⟩
  · obtain ⟨its, r', pl, hz⟩ := I.tuple hq
    have hlen := r'.length
    exact len_tuple pl (by simp only [List.size_toArray] <;> omega) ⟨.int ys.length, H, I.tok _, ⟨s.toks + 1, by rw [List.size_toArray, hlen]⟩, q⟩
theorem call_len_str : CallR X (.builtin "len") (fun xs H Q => ∃ z, xs = [.str z] ∧ z.length ≤ sizeLine ∧ Q (.int z.length) H) := by
  intro pins s σ H xs us Q I r h
  obtain ⟨z, rfl, hz, q⟩ := h
  obtain ⟨u, rfl, t, rfl⟩ := vals1 r
  have hn := line63
  exact len_str (by omega) ⟨.int z.length, H, I.tok _, ⟨_, rfl⟩, q⟩
theorem CallR.or {f : Value} {r r' : List V → Hp → VK → Prop} (h : CallR X f r) (h' : CallR X f r') : CallR X f (fun xs H Q => r xs H Q ∨ r' xs H Q) := by
  intro pins s σ H xs us Q I rs q
  rcases q with q | q
  · exact h pins s σ H xs us Q I rs q
  · exact h' pins s σ H xs us Q I rs q
theorem call_list_of : CallR X (.type "list") (fun xs H Q => ∃ p ys, xs = [.ref p] ∧ (SqL X.K H p ys ∨ SqT X.K H p ys) ∧ ∀ l, H l = none → Q (.ref l) (upd H l (.lst ys))) := by
  intro pins s σ H xs us Q I r h
  obtain ⟨p, ys, rfl, hq, q⟩ := h
  obtain ⟨u, rfl, rx⟩ := vals1 r
  cases rx
  have fin : ∀ (its : List Value), Vals ys its → ys.length ≤ sizeLine → ∀ (h' : Heap) (c' : Nat), (∀ b o', s.heap.get? b = some o' → h'.get? b = some o') →
      h'.get? s.heap.objs.size = some { cls := .type "list", dict := none, data := .seq its.toArray c', slots := #[] } → EP X pins σ Q (.ref s.heap.objs.size) { s with heap := h' } := fun its r' hz h' c' kp e =>
    ⟨.ref s.heap.objs.size, _, I.laid (t' := s.toks) kp (Nat.le_refl _) (show ObjOk X.prog X.w _ h' _ (.lst ys) from ⟨hz, its, c', r', e⟩), rfl, q _ (I.hok.fresh (Nat.le_refl _))⟩
  rcases hq with hq | hq
  · obtain ⟨its, r', pl, hz⟩ := I.list hq
    have hlen := r'.length
    obtain ⟨o, ho, hc, n, hd⟩ := pl.isList
    exact call_list_seq p (.inl rfl) ho hc hd (fun h' c' kp e => fin its r' hz h' c' kp e) (by simp only [List.size_toArray] <;> omega)
  · obtain ⟨its, r', pl, hz⟩ := I.tuple hq
    have hlen := r'.length
    obtain ⟨o, ho, hc, n, hd⟩ := pl
    exact call_list_seq p (.inr rfl) ho hc hd (fun h' c' kp e => fin its r' hz h' c' kp e) (by simp only [List.size_toArray] <;> omega)
theorem call_tuple_of : CallR X (.type "tuple") (fun xs H Q => ∃ p ys, xs = [.ref p] ∧ ((SqL X.K H p ys ∧ ∀ l, H l = none → Q (.ref l) (upd H l (.tup ys))) ∨ (SqT X.K H p ys ∧ Q (.ref p) H))) := by
  intro pins s σ H xs us Q I r h
  obtain ⟨p, ys, rfl, h⟩ := h
  obtain ⟨u, rfl, rx⟩ := vals1 r
  cases rx
  rcases h with ⟨hq, q⟩ | ⟨hq, q⟩
  · obtain ⟨its, r', pl, hz⟩ := I.list hq
    have hlen := r'.length
    refine call_tuple_list pl.isList (fun h' kp => ?_) (by simp only [List.size_toArray] <;> omega)
    have I1 : Inv X pins σ H { s with heap := h' } := I.kept (t' := s.toks) kp
    have I2 : Inv X pins σ (upd H h'.objs.size (.tup ys)) { s with heap := h'.push { cls := .type "tuple", data := .seq its.toArray } } :=
      I1.laid (t' := s.toks) (fun b o e => Heap.get?_push_of_some _ e) (Nat.le_refl _) (show ObjOk X.prog X.w _ _ _ (.tup ys) from ⟨hz, its, r', IsTup.new _ _⟩)
    exact ⟨.ref h'.objs.size, _, I2, rfl, q _ (I1.hok.fresh (Nat.le_refl _))⟩
  · obtain ⟨its, r', pl, hz⟩ := I.tuple hq
    exact call_tuple_same pl ⟨.ref p, H, I, rfl, q⟩

/-! ### the call of a builtin's method: o.m(..) -/
/-- the value is of that builtin type -/
def tyV (K : PySem.W.Frag) (T : String) (x : V) (H : Hp) : Prop := match x with
  | .str _ => T = "str"
  | .int _ => T = "int"
  | .ref p => (T = "list" ∧ ∃ xs, SqL K H p xs) ∨ (T = "tuple" ∧ ∃ o, K.lookup p = some o ∧ o.cls = .type "tuple" ∧ o.dict = none) ∨
      (T = "dict" ∧ ((∃ kvs, H p = some (.dK kvs)) ∨ ∃ kvs, H p = some (.dT kvs))) ∨ (T = "set" ∧ ∃ S n, H p = some (.set S n))
  | _ => False
theorem tyV_is {pins : List (Addr × Obj)} {σ : St} {H : Hp} {s : Shared} {T : String} {x : V} {v : Value} (I : Inv X pins σ H s) (r : RelV x v) (ty : tyV X.K T x H) :
    s.TypeIs v T ∧ ∀ a, v = .ref a → ∃ ob, s.heap.get? a = some ob ∧ ob.dict = none := by
  cases x with
  | str z =>
    obtain ⟨t, rfl⟩ := r
    cases (show T = "str" from ty)
    exact ⟨typeIs_str s z t, fun _ e => nomatch e⟩
  | int i =>
    obtain ⟨t, rfl⟩ := r
    cases (show T = "int" from ty)
    exact ⟨typeIs_int s i t, fun _ e => nomatch e⟩
  | ref p =>
    cases r
    rcases ty with ⟨rfl, xs, hq⟩ | ⟨rfl, o, hk, hc, hd⟩ | ⟨rfl, hk⟩ | ⟨rfl, S, n, hk⟩
    · obtain ⟨its, _, pl, _⟩ := I.list hq
      refine ⟨pl.isList.typeIs, fun a e => ?_⟩
      cases e
      obtain ⟨o, n, e, c, hd, _⟩ := pl
      exact ⟨o, e, hd⟩
    · refine ⟨⟨o, I.kIn p o hk, hc⟩, fun a e => ?_⟩
      cases e
      exact ⟨o, I.kIn _ o hk, hd⟩
    · have z : ∃ o, s.heap.get? p = some o ∧ o.ExactDict := by
        rcases hk with ⟨kvs, hk⟩ | ⟨kvs, hk⟩
        · obtain ⟨_, _, _, _, o, _, _, e, ex, _⟩ := I.hok p _ hk
          exact ⟨o, e, ex⟩
        · obtain ⟨_, _, _, _, o, _, _, e, ex, _⟩ := I.hok p _ hk
          exact ⟨o, e, ex⟩
      obtain ⟨o, e, ex⟩ := z
      refine ⟨⟨o, e, ex.1⟩, fun a e2 => ?_⟩
      cases e2
      exact ⟨o, e, ex.2.1⟩
    · obtain ⟨o, _, _, _, e, ex, _⟩ := I.hok p _ hk
      refine ⟨⟨o, e, ex.1⟩, fun a e2 => ?_⟩
      cases e2
      exact ⟨o, e, ex.2.1⟩
  | _ => exact False.elim ty
def tBM0 (K : PySem.W.Frag) (T : String) (r : V → List V → Hp → VK → Prop) (to : TE) : TE := fun σ H Q => to σ H fun x H1 => tyV K T x H1 ∧ r x [] H1 Q
def tBM (K : PySem.W.Frag) (T : String) (r : V → List V → Hp → VK → Prop) (to : TE) (t : TA) : TE := fun σ H Q => to σ H fun x H1 => tyV K T x H1 ∧ t σ H1 fun xs H2 => r x xs H2 Q
variable {o e : Expr} {es : List Expr} {to : TE} {t : TA} {name : Str} {apos cpos : Pos} {T id : String} {r : V → List V → Hp → VK → Prop}
theorem pe_bm0 (pa : PlainAttrs T) (slot : Slot T name id) (hty : typeOf (.builtin id) = pure (.type "method_descriptor")) (hm : MtR X id r) (ho : PE X o to)
    (hbase : attributeBase o name X.env (eval o X.env) = eval o X.env := by rfl) (hline : (apos.endLine == cpos.line) = true := by rfl) : PE X (.Call (.Attribute o name apos) [] [] cpos) (tBM0 X.K T r to) := by
  intro pins s σ H Q I h
  refine wpAny_Call_method0_late hbase hline (thn (ho pins s σ H _ I h) fun v s1 ⟨x, H1, I1, r1, ty, q1⟩ => ?_)
  obtain ⟨h1, h2⟩ := tyV_is I1 r1 ty
  exact ⟨T, id, pa, slot, hty, h1, h2, Calls.callWith_builtin rfl (PySem.evalArgs_none (hm pins s1 σ H1 x [] v [] Q I1 r1 .nil q1))⟩
theorem pe_bm (pa : PlainAttrs T) (slot : Slot T name id) (hty : typeOf (.builtin id) = pure (.type "method_descriptor")) (hm : MtR X id r) (ho : PE X o to) (ha : PA X (e :: es) t)
    (hbase : attributeBase o name X.env (eval o X.env) = eval o X.env := by rfl)
    (hfew : ((backTo cpos (starEach (e :: es) X.env)).all (fun x => !x.1) && (backToKw cpos (keywordEach [] X.env)).all (fun x => x.1.isSome)
      && decide ((e :: es).length + ([] : List Keyword).length + (if ([] : List Keyword).isEmpty then 0 else 1) < 30)) = true := by rfl)
    (hline : (apos.endLine == cpos.line) = true := by rfl) (hs : starEach (e :: es) X.env = (false, eval e X.env) :: starEach es X.env := by rfl) (hplain : (backTo cpos (starEach es X.env)).any (·.1) = false := by rfl) :
    PE X (.Call (.Attribute o name apos) (e :: es) [] cpos) (tBM X.K T r to t) := by
  intro pins s σ H Q I h
  refine wpAny_Call_method_late hbase hfew hline rfl (thn (ho pins s σ H _ I h) fun v s1 ⟨x, H1, I1, r1, ty, q1⟩ => ?_)
  obtain ⟨h1, h2⟩ := tyV_is I1 r1 ty
  refine ⟨T, id, pa, slot, hty, h1, h2, ?_⟩
  have hA := ha cpos pins s1 σ H1 _ I1 q1
  rw [hs] at hA ⊢
  refine Calls.callWith_builtin (by show (false || (backTo cpos (starEach es X.env)).any (·.1)) = false; rw [hplain] <;> rfl) (Calls.evalArgs_plain ?_)
  exact thn hA fun us s2 ⟨vs, H2, I2, r2, q2⟩ => hm pins s2 σ H2 x vs v us Q I2 r1 r2 q2
/- xs.append(e), list.index on a module's tuple .. are MtR facts of 06m -/
end
end L2

namespace L2
open PySem PySem.Spec PyProof.Rows

def MtM (X : Cx) (id : String) (r : V → List V → Hp → VK → Prop) : Prop :=
  ∀ (pins : List (Addr × Obj)) (s : Shared) (σ : St) (H : Hp) (x : V) (xs : List V) (v : Value) (us : List Value) (Q : VK), Inv X pins σ H s → RelV x v → Vals xs us → r x xs H Q →
    wpAny (model X.prog X.w) X.A (call (.builtin id) (v :: us)) (EP X pins σ Q) X.xe s

/-! ### lists of values -/
theorem Vals.one : ∀ {x : V} {us : List Value}, Vals [x] us → ∃ u, us = [u] ∧ RelV x u
  | _, _, .cons r .nil => ⟨_, rfl, r⟩
theorem Vals.two : ∀ {x y : V} {us : List Value}, Vals [x, y] us → ∃ u v, us = [u, v] ∧ RelV x u ∧ RelV y v
  | _, _, _, .cons r (.cons q .nil) => ⟨_, _, rfl, r, q⟩
theorem Vals.zero : ∀ {us : List Value}, Vals [] us → us = []
  | _, .nil => rfl
theorem Vals.dropLast {xs : List V} {us : List Value} (h : Vals xs us) : Vals xs.dropLast us.dropLast := by
  induction h with
  | nil => exact .nil
  | cons r t ih =>
    cases t with
    | nil => exact .nil
    | cons q t' => exact .cons r ih
theorem Vals.eraseIdx : ∀ {xs : List V} {us : List Value} (i : Nat), Vals xs us → Vals (xs.eraseIdx i) (us.eraseIdx i)
  | _, _, _, .nil => .nil
  | _, _, 0, .cons _ t => t
  | _, _, i + 1, .cons r t => .cons r (Vals.eraseIdx i t)
theorem Vals.reverse {xs : List V} {us : List Value} (h : Vals xs us) : Vals xs.reverse us.reverse := by
  induction h with
  | nil => exact .nil
  | cons r t ih => rw [List.reverse_cons, List.reverse_cons]; exact Vals.append ih (.cons r .nil)
theorem Vals.rep {xs : List V} {us : List Value} (h : Vals xs us) : ∀ k : Nat, Vals (List.replicate k xs).flatten (List.replicate k us).flatten
  | 0 => .nil
  | k + 1 => by
    rw [List.replicate_succ, List.replicate_succ, List.flatten_cons, List.flatten_cons]
    exact Vals.append h (Vals.rep h k)
theorem erase_last {α : Type} (l : List α) : l.eraseIdx (l.length - 1) = l.dropLast := by
  induction l with
  | nil => rfl
  | cons a r ih =>
    cases r with
    | nil => rfl
    | cons b r =>
      have e : (a :: b :: r).length - 1 = ((b :: r).length - 1) + 1 := by
        have h1 : (a :: b :: r).length = r.length + 2 := rfl
        have h2 : (b :: r).length = r.length + 1 := rfl
        omega
      rw [e, List.eraseIdx_cons_succ, ih]
      all_goals rfl
theorem len_erase {α : Type} : ∀ (l : List α) (i : Nat), (l.eraseIdx i).length ≤ l.length
  | [], _ => Nat.le_refl _
  | _ :: _, 0 => Nat.le_succ _
  | _ :: r, i + 1 => Nat.succ_le_succ (len_erase r i)
theorem foldl_rep (its : List Value) : ∀ (k : Nat) (acc : List Value),
    List.foldl (fun x1 x2 => x1 ++ x2) acc.toArray (List.replicate k its.toArray) = (acc ++ (List.replicate k its).flatten).toArray
  | 0, acc => by simp
  | k + 1, acc => by
    have e : acc.toArray ++ its.toArray = (acc ++ its).toArray := by simp
    have e2 : (acc ++ its) ++ (List.replicate k its).flatten = acc ++ (List.replicate (k + 1) its).flatten := by
      rw [List.replicate_succ, List.flatten_cons, List.append_assoc]
    rw [← e2, ← foldl_rep its k (acc ++ its), ← e, List.replicate_succ, List.foldl_cons]

section
variable {X : Cx} {pins : List (Addr × Obj)} {σ : St} {H : Hp} {s : Shared} {l b : Addr} {xs ys zs : List V}

/-! ### the two steps: a tracked list is rewritten, a new list is laid -/
theorem Inv.lset {its its' : List Value} {n : Nat} {f : Array Value → Array Value} {t' : Nat} (I : Inv X pins σ H s) (hH : H l = some (.lst xs))
    (e : s.heap.get? l = some { cls := .type "list", data := .seq its.toArray n }) (hf : f its.toArray = its'.toArray) (hv : Vals ys its') (hz : ys.length ≤ sizeLine) :
    Inv X pins σ (upd H l (.lst ys)) { s with heap := s.heap.update l (Obj.mapSeq f), toks := t' } := by
  have q := PySem.IsL.update e f
  rw [hf] at q
  refine I.write (x := l) (e := l) (by rw [hH]; exact trivial) (.inl rfl) (fun b' u hb hu => (Heap.get?_update_other s.heap (Obj.mapSeq f) (Ne.symm hb)).trans hu) ⟨_, q⟩ ?_
  exact ⟨hz, its', _, hv, q⟩
theorem Inv.lnew {its : List Value} {t' : Nat} (I : Inv X pins σ H s) (hv : Vals ys its) (hz : ys.length ≤ sizeLine) :
    Inv X pins σ (upd H s.heap.objs.size (.lst ys)) { s with heap := s.heap.push { cls := .type "list", data := .seq its.toArray }, toks := t' } :=
  I.laid (fun _ _ q => Heap.get?_push_of_some _ q) (Nat.le_refl _) ⟨hz, its, 0, hv, Heap.get?_push_size _ rfl⟩
theorem Inv.fresh (I : Inv X pins σ H s) : H s.heap.objs.size = none := I.hok.fresh (Nat.le_refl _)
theorem Inv.lstM (I : Inv X pins σ H s) (hH : H l = some (.lst xs)) : xs.length ≤ sizeLine ∧ ∃ (its : List Value) (n : Nat), Vals xs its ∧ xs.length = its.length ∧ s.heap.get? l = some { cls := .type "list", data := .seq its.toArray n } := by
  obtain ⟨z, its, n, r, e⟩ := I.hok l _ hH
  exact ⟨z, its, n, r, r.length, e⟩

theorem notLongL {n : Nat} (h : n ≤ sizeLine) : Builtin.List.listTooLong n = false := by
  unfold Builtin.List.listTooLong
  exact decide_eq_false (by omega)
end

section
variable {X : Cx}

/-! ### methods -/
def rAppend : V → List V → Hp → VK → Prop := fun x vs H Q => ∃ l xs y, x = .ref l ∧ vs = [y] ∧ H l = some (.lst xs) ∧ xs.length < sizeLine ∧ Q .non (upd H l (.lst (xs ++ [y])))
theorem mt_append : MtM X "list.append" rAppend := by
  intro pins s σ H x vs v us Q I rx rv h
  obtain ⟨l, xs, y, rfl, rfl, hH, hz, q⟩ := h
  cases rx
  obtain ⟨u, rfl, ru⟩ := rv.one
  obtain ⟨z, its, n, r, hl, e⟩ := I.lstM hH
  refine call_meets F.slot_list_append ⟨_, e, rfl⟩ F.entry_list_append (F.args_list_append_2 _ _) (PySem.list_append l its.toArray n u (by rw [List.size_toArray]; omega)) ⟨e, ?_⟩
  refine ⟨.non, _, I.lset (its' := its ++ [u]) hH e (by simp) (r.append (.cons ru .nil)) ?_, rfl, q⟩
  rw [List.length_append, List.length_singleton]
  omega

def rExtend : V → List V → Hp → VK → Prop := fun x vs H Q => ∃ l b xs zs, x = .ref l ∧ vs = [.ref b] ∧ H l = some (.lst xs) ∧ H b = some (.lst zs) ∧ xs.length + zs.length ≤ sizeLine ∧ Q .non (upd H l (.lst (xs ++ zs)))
theorem mt_extend : MtM X "list.extend" rExtend := by
  intro pins s σ H x vs v us Q I rx rv h
  obtain ⟨l, b, xs, zs, rfl, rfl, hH, hB, hz, q⟩ := h
  cases rx
  obtain ⟨u, rfl, ru⟩ := rv.one
  cases ru
  obtain ⟨z, its, n, r, hl, e⟩ := I.lstM hH
  obtain ⟨z2, its2, n2, r2, hl2, e2⟩ := I.lstM hB
  have hsz : its.toArray.size + its2.toArray.size ≤ sizeLine := by rw [List.size_toArray, List.size_toArray]; omega
  have hlong : ¬ (!its.toArray.isEmpty && Builtin.List.listTooLong (its.toArray.size + its2.toArray.size)) = true := by
    rw [notLongL hsz, Bool.and_false]
    exact Bool.false_ne_true
  refine call_meets F.slot_list_extend ⟨_, e, rfl⟩ F.entry_list_extend (F.args_list_extend_2 _ _)
    (AutoSeq1.list_extend_list_list_0 l its.toArray n b its2.toArray n2 hlong (by rw [List.size_toArray]; omega) (by omega)) ⟨e, e2, ?_⟩
  refine ⟨.non, _, I.lset (its' := its ++ its2) hH e (by simp) (r.append r2) ?_, rfl, q⟩
  rw [List.length_append]
  omega

def rPop : V → List V → Hp → VK → Prop := fun x vs H Q => ∃ l xs y, x = .ref l ∧ vs = [] ∧ H l = some (.lst xs) ∧ xs[xs.length - 1]? = some y ∧ Q y (upd H l (.lst xs.dropLast))
theorem mt_pop : MtM X "list.pop" rPop := by
  intro pins s σ H x vs v us Q I rx rv h
  obtain ⟨l, xs, y, rfl, rfl, hH, hy, q⟩ := h
  cases rx
  have hus := rv.zero
  subst hus
  obtain ⟨z, its, n, r, hl, e⟩ := I.lstM hH
  obtain ⟨u, hu, ru⟩ := r.get hy
  have hy' : its.toArray[its.toArray.size - 1]? = some u := by
    show its.toArray[its.length - 1]? = some u
    rw [← Array.getElem?_toList, ← hl]
    exact hu
  refine call_meets F.slot_list_pop ⟨_, e, rfl⟩ F.entry_list_pop (F.args_list_pop_1 _) (MeetsSeq.list_pop_last l its.toArray n u hy' (by rw [List.size_toArray]; omega)) ⟨e, ?_⟩
  refine ⟨y, _, I.lset (its' := its.dropLast) hH e ?_ r.dropLast ?_, ru, q⟩
  · show its.toArray.eraseIdxIfInBounds (its.toArray.size - 1) = its.dropLast.toArray
    rw [List.size_toArray, List.eraseIdxIfInBounds_toArray, erase_last]
  · rw [List.length_dropLast]
    omega

def rPopAt : V → List V → Hp → VK → Prop := fun x vs H Q => ∃ l xs i k y, x = .ref l ∧ vs = [.int i] ∧ H l = some (.lst xs) ∧ -(2 ^ 63) ≤ i ∧ i < 2 ^ 63 ∧ seqIndex? i xs.length = some k ∧ xs[k]? = some y ∧ Q y (upd H l (.lst (xs.eraseIdx k)))
theorem mt_popAt : MtM X "list.pop" rPopAt := by
  intro pins s σ H x vs v us Q I rx rv h
  obtain ⟨l, xs, i, k, y, rfl, rfl, hH, h1, h2, hk, hy, q⟩ := h
  cases rx
  obtain ⟨u, rfl, ru⟩ := rv.one
  obtain ⟨t, rfl⟩ := ru
  obtain ⟨z, its, n, r, hl, e⟩ := I.lstM hH
  obtain ⟨w, hw, rw'⟩ := r.get hy
  refine call_meets F.slot_list_pop ⟨_, e, rfl⟩ F.entry_list_pop (F.args_list_pop_2 _ _)
    (MeetsSeq.list_pop_at l its.toArray n i t k w (fitsIndex_both h1 h2) (by rw [List.size_toArray, ← hl]; exact hk) (by rw [← Array.getElem?_toList]; exact hw) (by rw [List.size_toArray]; omega)) ⟨e, ?_⟩
  refine ⟨y, _, I.lset (its' := its.eraseIdx k) hH e ?_ (r.eraseIdx k) ?_, rw', q⟩
  · show its.toArray.eraseIdxIfInBounds k = (its.eraseIdx k).toArray
    rw [List.eraseIdxIfInBounds_toArray]
  · have := len_erase xs k
    omega

def rReverse : V → List V → Hp → VK → Prop := fun x vs H Q => ∃ l xs, x = .ref l ∧ vs = [] ∧ H l = some (.lst xs) ∧ Q .non (upd H l (.lst xs.reverse))
theorem mt_reverse : MtM X "list.reverse" rReverse := by
  intro pins s σ H x vs v us Q I rx rv h
  obtain ⟨l, xs, rfl, rfl, hH, q⟩ := h
  cases rx
  have hus := rv.zero
  subst hus
  obtain ⟨z, its, n, r, hl, e⟩ := I.lstM hH
  refine call_meets F.slot_list_reverse ⟨_, e, rfl⟩ F.entry_list_reverse (F.args_list_reverse_1 _) (AutoSeq1.list_reverse_list_0 l its.toArray n (by rw [List.size_toArray]; omega)) ⟨e, ?_⟩
  refine ⟨.non, _, I.lset (its' := its.reverse) hH e (by simp) r.reverse ?_, rfl, q⟩
  rw [List.length_reverse]
  omega

def rClear : V → List V → Hp → VK → Prop := fun x vs H Q => ∃ l xs, x = .ref l ∧ vs = [] ∧ H l = some (.lst xs) ∧ Q .non (upd H l (.lst []))
theorem mt_clear : MtM X "list.clear" rClear := by
  intro pins s σ H x vs v us Q I rx rv h
  obtain ⟨l, xs, rfl, rfl, hH, q⟩ := h
  cases rx
  have hus := rv.zero
  subst hus
  obtain ⟨z, its, n, r, hl, e⟩ := I.lstM hH
  refine call_meets F.slot_list_clear ⟨_, e, rfl⟩ F.entry_list_clear (F.args_list_clear_1 _) (AutoSeq1.list_clear_list_0 l its.toArray n (by rw [List.size_toArray]; omega)) ⟨e, ?_⟩
  exact ⟨.non, _, I.lset (its' := []) (ys := []) hH e rfl .nil (Nat.zero_le _), rfl, q⟩

/-! ### list + list, list += list, list * int -/
def rCat : R2 := fun x y H Q => ∃ l b xs zs, x = .ref l ∧ y = .ref b ∧ H l = some (.lst xs) ∧ H b = some (.lst zs) ∧ xs.length + zs.length ≤ sizeLine ∧ ∀ p, H p = none → Q (.ref p) (upd H p (.lst (xs ++ zs)))
theorem op_cat : OpR X (binaryOp .Add) rCat := by
  intro pins s σ H x y v u Q I rx ry h
  obtain ⟨l, b, xs, zs, rfl, rfl, hH, hB, hz, q⟩ := h
  cases rx
  cases ry
  obtain ⟨z, its, n, r, hl, e⟩ := I.lstM hH
  obtain ⟨z2, its2, n2, r2, hl2, e2⟩ := I.lstM hB
  refine PySem.P.add_list e e2 ?_ (by rw [List.size_toArray, List.size_toArray]; omega)
  have ea : its.toArray ++ its2.toArray = (its ++ its2).toArray := by simp
  rw [ea]
  exact ⟨.ref _, _, I.lnew (t' := s.toks) (r.append r2) (by rw [List.length_append]; omega), rfl, q _ I.fresh⟩
/-- a list times an int (a negative one is nothing) -/
def rRep : R2 := fun x y H Q => ∃ l k xs, x = .ref l ∧ y = .int k ∧ H l = some (.lst xs) ∧ -(2 ^ 63) ≤ k ∧ k < 2 ^ 63 ∧ xs.length * k.toNat ≤ sizeLine ∧
  ∀ p, H p = none → Q (.ref p) (upd H p (.lst (List.replicate k.toNat xs).flatten))
theorem len_rep {α : Type} (xs : List α) (k : Nat) : (List.replicate k xs).flatten.length = k * xs.length := by
  induction k with
  | zero => simp
  | succ k ih => rw [List.replicate_succ, List.flatten_cons, List.length_append, ih, Nat.succ_mul, Nat.add_comm]
theorem op_rep : OpR X (binaryOp .Mult) rRep := by
  intro pins s σ H x y v u Q I rx ry h
  obtain ⟨l, k, xs, rfl, rfl, hH, h1, h2, hz, q⟩ := h
  cases rx
  obtain ⟨t, rfl⟩ := ry
  obtain ⟨z, its, n, r, hl, e⟩ := I.lstM hH
  have hlen : its.toArray.size * k.toNat ≤ sizeLine := by rw [List.size_toArray, ← hl]; exact hz
  have hcap : ¬ its.toArray.size * k.toNat > (2 ^ 63 - 1) / 8 := by
    have : (sizeLine : Nat) ≤ (2 ^ 63 - 1) / 8 := by decide
    omega
  have hfit : ¬ (!Builtin.List.listFitsIndex k) = true := by
    rw [fitsIndex_both h1 h2]
    exact Bool.false_ne_true
  have hlong : ¬ Builtin.List.listTooLong (its.toArray.size * k.toNat) = true := by
    rw [notLongL hlen]
    exact Bool.false_ne_true
  have hnew : List.foldl (fun x1 x2 => x1 ++ x2) #[] (List.replicate (if its.toArray.isEmpty = true then 0 else k.toNat) its.toArray) = (List.replicate k.toNat its).flatten.toArray := by
    have f0 : ∀ m : Nat, List.foldl (fun x1 x2 => x1 ++ x2) #[] (List.replicate m its.toArray) = (List.replicate m its).flatten.toArray := fun m => by
      have := foldl_rep its m []
      rw [List.nil_append] at this
      exact this
    rw [f0]
    cases its with
    | nil => simp
    | cons a r' => rw [if_neg (by simp)]
  refine wpAny_binaryOp_repeat_ref (T := "list") (U := "int") (by decide) ⟨_, e, rfl⟩ (fun s' => typeIs_int s' k t) noFill_list_mul F.fills_int_mul F.slot_int_rmul repeat_list F.slot_int_index.lookup
    (call_meets F.slot_int_rmul (typeIs_int s k t) F.entry_int_rmul (F.args_int_rmul_2 _ _) (int___rmul___int_list k t l its.toArray n)
      ⟨e, rfl, ⟨_, e, rfl⟩, call_meets F.slot_list_mul ⟨_, e, rfl⟩ F.entry_list_mul (F.args_list_mul_2 _ _) (AutoListH.list___mul___list_int_3 l its.toArray n k t hfit hcap hlong) ⟨e, ?_⟩⟩)
  rw [hnew]
  exact ⟨.ref _, _, I.lnew (t' := s.toks) (r.rep k.toNat) (by rw [len_rep, Nat.mul_comm]; exact hz), rfl, q _ I.fresh⟩

/-! ### del xs[i] -/
theorem del_list {pins : List (Addr × Obj)} {s : Shared} {σ : St} {H : Hp} {l : Addr} {xs : List V} {i : Int} {t : Tok} {k : Nat} {Q : Unit → Shared → Prop} (I : Inv X pins σ H s) (hH : H l = some (.lst xs))
    (h1 : -(2 ^ 63) ≤ i) (h2 : i < 2 ^ 63) (hk : seqIndex? i xs.length = some k) (h : ∀ s', Inv X pins σ (upd H l (.lst (xs.eraseIdx k))) s' → Q () s') :
    wpAny (model X.prog X.w) X.A (delItem (.ref l) (.int i t)) Q X.xe s := by
  obtain ⟨z, its, n, r, hl, e⟩ := I.lstM hH
  refine PySem.P.delItem_list (k := k) e (fitsIndex_both h1 h2) (by rw [List.size_toArray, ← hl]; exact hk) (h _ ?_) (by rw [List.size_toArray]; omega)
  refine I.lset (its' := its.eraseIdx k) (t' := s.toks) hH e ?_ (r.eraseIdx k) ?_
  · show its.toArray.eraseIdxIfInBounds k = (its.eraseIdx k).toArray
    rw [List.eraseIdxIfInBounds_toArray]
  · have := len_erase xs k
    omega
end

/-! ### xs[a:b] = ys -/
section
variable {prog : Program} {w : World} {A : Around} {E : Value → Shared → Prop} {s : Shared}
theorem splice_eq (its its2 : List Value) (a c : Nat) : its.toArray.extract 0 a ++ its2.toArray ++ its.toArray.extract c its.toArray.size = (its.take a ++ its2 ++ its.drop c).toArray := by
  apply Array.toList_inj.mp
  first
    | (simp
       exact List.take_of_length_le (by simp))
    | simp [List.take_of_length_le]
    | simp
theorem bounds_run {a c n : Nat} (hac : a ≤ c) (hc : c ≤ n) : sliceBounds (some (a : Int)) (some (c : Int)) none n = ((a : Int), (c : Int), 1) := by
  simp only [sliceBounds, Option.getD_none]
  have h1 : ¬ ((a : Int) < 0) := by omega
  have h2 : ¬ ((c : Int) < 0) := by omega
  simp only [h1, h2, if_false, show (1 : Int) > 0 by decide, if_true]
  congr 1
  · omega
  · congr 1; omega
set_option maxRecDepth 100000 in
/-- list.__setitem__ with a slice of step one and another list -/
theorem setItem_slice {l b sl : Addr} {items new : Array Value} {n n2 : Nat} {vl vu : Value} {a c : Nat} {Q : Unit → Shared → Prop}
    (e : s.heap.get? l = some { cls := .type "list", data := .seq items n }) (e2 : s.heap.get? b = some { cls := .type "list", data := .seq new n2 }) (hne : l ≠ b)
    (hs : s.heap.IsSliceOf sl vl vu .none) (pl : IsPart vl (some (a : Int))) (pu : IsPart vu (some (c : Int))) (hac : a ≤ c) (hc : c ≤ items.size)
    (hsz : items.size + new.size ≤ sizeLine) (h : Q () { s with heap := s.heap.update l (Obj.mapSeq fun xs => xs.extract 0 a ++ new ++ xs.extract c xs.size) }) :
    wpAny (model prog w) A (setItem (.ref l) (.ref sl) (.ref b)) Q E s := by
  have hl : s.heap.IsList l items := PySem.IsL.isList e
  have hb : s.heap.IsList b new := PySem.IsL.isList e2
  obtain ⟨os, hos, hcs, hds⟩ := id hs
  have hTs : s.TypeIs (.ref sl) "slice" := ⟨os, hos, hcs⟩
  have hstep : ¬ ((rawPart none == rawInt 0) = true) := Bool.false_ne_true
  have hsame : Builtin.List.listSameRef (.ref l) (.ref b) = false := by
    unfold Builtin.List.listSameRef
    exact beq_eq_false_iff_ne.mpr hne
  have hmax : (max (a : Int) (c : Int)).toNat = c := by omega
  have hz' : ((fun xs : Array Value => xs.extract 0 a ++ new ++ xs.extract c xs.size) items).size ≤ sizeLine + 1 := by
    simp only [Array.size_append, Array.size_extract]
    omega
  unfold setItem
  try with_reducible refine wpAny_holding ?_
  first | refine wpAny_bind (wpAny_pure ?_) | skip
  refine wpAny_bind (wpAny_sequenceKey hl.typeIs (by decide) ?_)
  refine wpAny_bind (wpAny_callSpecial?_slot (name := Str.ofString "__setitem__") hl.typeIs slot_list_setitem
    (wpAny_call_entry slot_list_setitem hl.typeIs entry_list_setitem ?_ (args_list_setitem _ _ _)))
  show wpAny _ _ (Builtin.List.listSubscript? (.ref sl) >>= _) _ _ s
  refine wpAny_bind ?_
  unfold Builtin.List.listSubscript?
  refine wpAny_bind (wpAny_specialOf hTs slice_no_index ?_)
  simp only [Option.isNone_none, if_true]
  refine wpAny_pure ?_
  show wpAny _ _ (typeOf (.ref sl) >>= _) _ _ s
  refine wpAny_bind (wpAny_typeOf hTs ?_)
  first
    | rw [if_neg (by decide)]
    | refine PySem.W.KFB.if_not (by decide) ?_
  rw [listSliceParts_eq]
  refine wpAny_bind (wpAny_bind (wpAny_field hos hds (x := .none) rfl (wpAny_bind (wpAny_listPart .none ?_))))
  rw [if_neg hstep]
  refine wpAny_bind (wpAny_field hos hds (x := vl) rfl (wpAny_bind (wpAny_listPart pl ?_)))
  refine wpAny_bind (wpAny_field hos hds (x := vu) rfl (wpAny_bind (wpAny_listPart pu (wpAny_pure ?_))))
  first
    | simp only [hsame, Bool.false_eq_true, if_false]
    | refine PySem.W.KFB.if_not hsame ?_
    | (dsimp only
       rw [if_neg (by rw [hsame]; exact Bool.false_ne_true)])
  refine wpAny_bind (m := Builtin.List.listAllItems (.ref b) "must assign iterable to extended slice") ?_
  unfold Builtin.List.listAllItems
  refine wpAny_bind (wpAny_typeOf hb.typeIs ?_)
  first
    | refine PySem.W.KFB.if_so (by decide) ?_
    | rw [if_pos (by decide)]
    | simp only [beq_self_eq_true, Bool.true_or, if_true]
  unfold Builtin.List.listItems
  refine wpAny_bind (wpAny_seqItems e2 rfl (wpAny_pure ?_))
  refine wpAny_bind (wpAny_bind (wpAny_seqItems e rfl (wpAny_pure ?_)))
  refine wpAny_bind (wpAny_of_eq ((sliceIndices_raw (some (a : Int)) (some (c : Int)) none items.size (by simp)).trans (congrArg (pure : Int × Int × Int → Sem (Int × Int × Int)) (bounds_run hac hc))) ?_)
  show wpAny _ _ (if ((1 : Int) == 1) = true then _ else _) _ _ s
  rw [if_pos (by decide)]
  refine wpAny_bind (wpAny_rule ?_)
  first
    | simp only [notLongL hsz, Bool.false_eq_true, if_false]
    | refine PySem.W.KFB.if_not (notLongL hsz) ?_
  first | refine wpAny_bind (wpAny_pure ?_) | skip
  show wpAny _ _ (updateSeq l (fun xs => xs.extract 0 ((a : Int)).toNat ++ new ++ xs.extract (max (a : Int) (c : Int)).toNat xs.size) >>= _) _ _ s
  rw [hmax, Int.toNat_natCast]
  refine wpAny_bind (wpAny_updateSeq (hz := Nat.le_trans (Nat.le_add_right _ _) hsz) (_hz' := hz') e rfl ?_)
  refine wpAny_bind (wpAny_letGo ?_)
  first
    | exact wpAny_bind (wpAny_pure (wpAny_pure ⟨.none, rfl, wpAny_pure h⟩))
    | exact wpAny_pure ⟨.none, rfl, wpAny_pure h⟩
end

section
variable {X : Cx}
/-- xs[a:c] = ys of another list, at the value level: sl is the slice object that was just made -/
theorem set_slice {pins : List (Addr × Obj)} {s : Shared} {σ : St} {H : Hp} {l b sl : Addr} {xs ys : List V} {a c : Int} {vl vu : Value} {Q : Unit → Shared → Prop} (I : Inv X pins σ H s)
    (hH : H l = some (.lst xs)) (hB : H b = some (.lst ys)) (hne : l ≠ b) (hs : s.heap.IsSliceOf sl vl vu .none) (ra : RelV (.int a) vl) (rc : RelV (.int c) vu) (h0 : 0 ≤ a) (hac : a ≤ c) (hc : c ≤ xs.length)
    (hz : xs.length + ys.length ≤ sizeLine) (h : ∀ s', Inv X pins σ (upd H l (.lst (xs.take a.toNat ++ ys ++ xs.drop c.toNat))) s' → Q () s') :
    wpAny (model X.prog X.w) X.A (setItem (.ref l) (.ref sl) (.ref b)) Q X.xe s := by
  obtain ⟨ta, rfl⟩ := ra
  obtain ⟨tc, rfl⟩ := rc
  obtain ⟨z, its, n, r, hl, e⟩ := I.lstM hH
  obtain ⟨z2, its2, n2, r2, hl2, e2⟩ := I.lstM hB
  obtain ⟨a', rfl⟩ := Int.eq_ofNat_of_zero_le h0
  obtain ⟨c', rfl⟩ := Int.eq_ofNat_of_zero_le (Int.le_trans h0 hac)
  simp only [Int.toNat_natCast] at h
  refine setItem_slice (a := a') (c := c') e e2 hne hs (.int _ _) (.int _ _) (by omega) (by rw [List.size_toArray]; omega) (by rw [List.size_toArray, List.size_toArray]; omega) (h _ ?_)
  refine I.lset (its' := its.take a' ++ its2 ++ its.drop c') (t' := s.toks) hH e ?_ (Vals.append (Vals.append (r.take _) r2) (r.drop _)) ?_
  · exact splice_eq its its2 a' c'
  · rw [List.length_append, List.length_append, List.length_take, List.length_drop]
    omega
end
end L2

namespace L2
open PySem PySem.Spec PyProof.Rows

theorem Vals.ints : ∀ {ns : List Int} {us : List Value}, Vals (ns.map V.int) us → IntsAre us ns
  | [], us, h => by
    rw [List.map_nil] at h
    cases h
    exact IntsAre.nil
  | n :: ns, us, h => by
    rw [List.map_cons] at h
    cases h with
    | cons r t =>
      obtain ⟨k, rfl⟩ := r
      exact IntsAre.cons n k (Vals.ints t)
theorem vals_of_ints : ∀ {us : List Value} {ns : List Int}, IntsAre us ns → Vals (ns.map V.int) us
  | _, _, .nil => by rw [List.map_nil]; exact Paired.nil
  | _, _, .cons n t h => by rw [List.map_cons]; exact Paired.cons (show RelV (V.int n) (Value.int n t) from ⟨t, rfl⟩) (vals_of_ints h)
theorem Vals.strs : ∀ {xs : List Str} {us : List Value}, Vals (xs.map V.str) us → StrsAre us xs
  | [], us, h => by
    rw [List.map_nil] at h
    cases h
    exact StrsAre.nil
  | x :: xs, us, h => by
    rw [List.map_cons] at h
    cases h with
    | cons r t =>
      obtain ⟨k, rfl⟩ := r
      exact StrsAre.cons x k (Vals.strs t)
theorem vals_of_strs : ∀ {us : List Value} {xs : List Str}, StrsAre us xs → Vals (xs.map V.str) us
  | _, _, .nil => by rw [List.map_nil]; exact Paired.nil
  | _, _, .cons x t h => by rw [List.map_cons]; exact Paired.cons (show RelV (V.str x) (Value.str x t) from ⟨t, rfl⟩) (vals_of_strs h)
theorem Vals.bls : ∀ {bs : List Bool} {us : List Value}, Vals (bs.map V.bl) us → us = bs.map Value.bool
  | [], us, h => by
    rw [List.map_nil] at h
    cases h
    rfl
  | b :: bs, us, h => by
    rw [List.map_cons] at h
    cases h with
    | cons r t =>
      cases r
      rw [Vals.bls t, List.map_cons]
theorem Vals.ref1 {a : Addr} {us : List Value} (r : Vals [V.ref a] us) : us = [Value.ref a] := by
  cases r with
  | cons r t =>
    cases t
    cases r
    rfl
theorem Vals.int2 {i j : Int} {us : List Value} (r : Vals [V.int i, V.int j] us) : ∃ t u, us = [Value.int i t, Value.int j u] := by
  cases r with
  | cons r t =>
    cases t with
    | cons r2 t2 =>
      cases t2
      obtain ⟨t, rfl⟩ := r
      obtain ⟨u, rfl⟩ := r2
      exact ⟨t, u, rfl⟩

/-! ### the library's walks over a list of ints, kept objects alone -/
section
variable {prog : Program} {w : World} {A : Around} {E : Value → Shared → Prop} {s : Shared} {l : Addr} {its : List Value} {ns : List Int} {Q : Value → Shared → Prop}
theorem sum_raw (hh : A.handled = none) (hl : s.heap.IsList l its.toArray) (hi : IntsAre its ns)
    (h : ∀ h' tk t', (∀ b o, s.heap.get? b = some o → h'.get? b = some o) → Q (.int ns.sum t') { s with heap := h', toks := tk }) : wpAny (model prog w) A (call (.builtin "sum") [.ref l]) Q E s := by
  obtain ⟨xs, e⟩ := hi.allInts.items
  have hn : numsOf (intItems xs).toList = ns := by rw [← e]; exact hi.numsOf
  rw [nums_intItems] at hn
  rw [e] at hl
  refine PySem.sum_intListG hh hl fun h' tk t' hk => ?_
  have := h h' tk t' hk
  rw [preSum_eq, List.take_of_length_le (by simp), hn]; exact this
theorem max_raw (hh : A.handled = none) (hl : s.heap.IsList l its.toArray) (hi : IntsAre its ns) (hne : 0 < ns.length)
    (h : ∀ h' tk M t', (∀ b o, s.heap.get? b = some o → h'.get? b = some o) → M ∈ ns → (∀ a, a ∈ ns → a ≤ M) → Q (.int M t') { s with heap := h', toks := tk }) : wpAny (model prog w) A (call (.builtin "max") [.ref l]) Q E s := by
  obtain ⟨xs, e⟩ := hi.allInts.items
  have hn : numsOf (intItems xs).toList = ns := by rw [← e]; exact hi.numsOf
  rw [nums_intItems] at hn
  subst hn
  rw [e] at hl
  have hsz : 0 < xs.size := by simpa using hne
  refine PySem.max_intList hh hl hsz fun v h' tk hv hk => ?_
  obtain ⟨t, rfl⟩ := intItems_at hv
  obtain ⟨h1, h2⟩ := argBest_gt (numAt xs) (xs.size - 1)
  refine h h' tk _ t hk ?_ fun a ha => ?_
  · rw [numAt_eq]; exact PySem.getD_mem (by rw [List.length_map, Array.length_toList]; omega)
  · obtain ⟨j, hj, rfl⟩ := mem_getD ha
    rw [List.length_map, Array.length_toList] at hj
    rw [← numAt_eq]; exact h2 j (by omega)
theorem min_raw (hh : A.handled = none) (hl : s.heap.IsList l its.toArray) (hi : IntsAre its ns) (hne : 0 < ns.length)
    (h : ∀ h' tk M t', (∀ b o, s.heap.get? b = some o → h'.get? b = some o) → M ∈ ns → (∀ a, a ∈ ns → M ≤ a) → Q (.int M t') { s with heap := h', toks := tk }) : wpAny (model prog w) A (call (.builtin "min") [.ref l]) Q E s := by
  obtain ⟨xs, e⟩ := hi.allInts.items
  have hn : numsOf (intItems xs).toList = ns := by rw [← e]; exact hi.numsOf
  rw [nums_intItems] at hn
  subst hn
  rw [e] at hl
  have hsz : 0 < xs.size := by simpa using hne
  refine PySem.min_intList hh hl hsz fun v h' tk hv hk => ?_
  obtain ⟨t, rfl⟩ := intItems_at hv
  obtain ⟨h1, h2⟩ := argBest_lt (numAt xs) (xs.size - 1)
  refine h h' tk _ t hk ?_ fun a ha => ?_
  · rw [numAt_eq]; exact PySem.getD_mem (by rw [List.length_map, Array.length_toList]; omega)
  · obtain ⟨j, hj, rfl⟩ := mem_getD ha
    rw [List.length_map, Array.length_toList] at hj
    rw [← numAt_eq]; exact h2 j (by omega)
end

/-! ### the calls, by values (CallR of 03t; MtR of 06l) -/
section
variable {X : Cx}
/-- sum(xs) of a list of ints -/
def rSum (K : PySem.W.Frag) : List V → Hp → VK → Prop := fun vs H Q => ∃ (a : Addr) (ns : List Int), vs = [V.ref a] ∧ SqL K H a (ns.map V.int) ∧ Q (.int ns.sum) H
/-- max(xs), min(xs) of a list of ints -/
def rMax (K : PySem.W.Frag) : List V → Hp → VK → Prop := fun vs H Q => ∃ (a : Addr) (ns : List Int), vs = [V.ref a] ∧ SqL K H a (ns.map V.int) ∧ 0 < ns.length ∧ ∀ m, m ∈ ns → (∀ y, y ∈ ns → y ≤ m) → Q (.int m) H
def rMin (K : PySem.W.Frag) : List V → Hp → VK → Prop := fun vs H Q => ∃ (a : Addr) (ns : List Int), vs = [V.ref a] ∧ SqL K H a (ns.map V.int) ∧ 0 < ns.length ∧ ∀ m, m ∈ ns → (∀ y, y ∈ ns → m ≤ y) → Q (.int m) H
theorem cr_sum (hc : X.calm = true) : CallR X (.builtin "sum") (rSum X.K) := by
  intro pins s σ H vs us Q I r h
  obtain ⟨a, ns, rfl, hs, q⟩ := h
  obtain ⟨its, rv, hl, _⟩ := I.list hs
  rw [Vals.ref1 r]
  exact sum_raw (I.ok.hd hc) hl.isList rv.ints fun h' tk t' hk => ⟨.int _, H, I.kept hk, ⟨_, rfl⟩, q⟩
theorem cr_max (hc : X.calm = true) : CallR X (.builtin "max") (rMax X.K) := by
  intro pins s σ H vs us Q I r h
  obtain ⟨a, ns, rfl, hs, hne, q⟩ := h
  obtain ⟨its, rv, hl, _⟩ := I.list hs
  rw [Vals.ref1 r]
  exact max_raw (I.ok.hd hc) hl.isList rv.ints hne fun h' tk m t' hk h1 h2 => ⟨.int _, H, I.kept hk, ⟨_, rfl⟩, q m h1 h2⟩
theorem cr_min (hc : X.calm = true) : CallR X (.builtin "min") (rMin X.K) := by
  intro pins s σ H vs us Q I r h
  obtain ⟨a, ns, rfl, hs, hne, q⟩ := h
  obtain ⟨its, rv, hl, _⟩ := I.list hs
  rw [Vals.ref1 r]
  exact min_raw (I.ok.hd hc) hl.isList rv.ints hne fun h' tk m t' hk h1 h2 => ⟨.int _, H, I.kept hk, ⟨_, rfl⟩, q m h1 h2⟩

/-! sorted, sort (fewer than 64 items: the library's own bound) -/
def rSorted (K : PySem.W.Frag) : List V → Hp → VK → Prop := fun vs H Q => ∃ (a : Addr) (ns : List Int), vs = [V.ref a] ∧ SqL K H a (ns.map V.int) ∧ ns.length < 64 ∧
  ∀ (ns' : List Int) (p : Addr), ns'.Perm ns → ns'.Pairwise (· ≤ ·) → H p = none → Q (.ref p) (upd H p (.lst (ns'.map V.int)))
def rSortedS (K : PySem.W.Frag) : List V → Hp → VK → Prop := fun vs H Q => ∃ (a : Addr) (xs : List Str), vs = [V.ref a] ∧ SqL K H a (xs.map V.str) ∧ xs.length < 64 ∧
  ∀ (ys : List Str) (p : Addr), ys.Perm xs → sortedS ys = true → H p = none → Q (.ref p) (upd H p (.lst (ys.map V.str)))
theorem small64 {n : Nat} (h : n < 64) : n ≤ sizeLine := by rw [sizeLine_eq]; omega
theorem cr_sorted : CallR X (.builtin "sorted") (rSorted X.K) := by
  intro pins s σ H vs us Q I r h
  obtain ⟨a, ns, rfl, hs, h64, q⟩ := h
  obtain ⟨its, rv, hl, _⟩ := I.list hs
  rw [Vals.ref1 r]
  have hi := rv.ints
  refine PyProof.Rows.sorted_ints hl.isList hi (by rw [hi.length]; exact h64) fun out ns' h1 h2 h3 => ?_
  obtain ⟨ep, he'⟩ := PyProof.Rows.sortedAll_at s.heap its out
  have hlen : (ns'.map V.int).length ≤ sizeLine := by rw [List.length_map, h2.length_eq]; exact small64 h64
  exact ⟨.ref _, upd H (s.heap.objs.size + 1) (.lst (ns'.map V.int)), I.laid (t' := s.toks) (fun _ _ => PyProof.Rows.sortedAll_old) (Nat.le_succ _) ⟨hlen, out.toList, ep, vals_of_ints h1, he'⟩, rfl, q ns' _ h2 h3 (I.hok.fresh (Nat.le_succ _))⟩
theorem cr_sortedS : CallR X (.builtin "sorted") (rSortedS X.K) := by
  intro pins s σ H vs us Q I r h
  obtain ⟨a, xs, rfl, hs, h64, q⟩ := h
  obtain ⟨its, rv, hl, _⟩ := I.list hs
  rw [Vals.ref1 r]
  have hlen0 := rv.length
  rw [List.length_map] at hlen0
  refine PyProof.Rows.sorted_strs hl.isList rv.strs (by rw [← hlen0]; exact h64) fun out ys h1 h2 h3 => ?_
  obtain ⟨ep, he'⟩ := PyProof.Rows.sortedAll_at s.heap its out
  have hlen : (ys.map V.str).length ≤ sizeLine := by rw [List.length_map, h2.length_eq]; exact small64 h64
  exact ⟨.ref _, upd H (s.heap.objs.size + 1) (.lst (ys.map V.str)), I.laid (t' := s.toks) (fun _ _ => PyProof.Rows.sortedAll_old) (Nat.le_succ _) ⟨hlen, out.toList, ep, vals_of_strs h1, he'⟩, rfl, q ys _ h2 h3 (I.hok.fresh (Nat.le_succ _))⟩
/-- xs.sort(), ints -/
def rSort : V → List V → Hp → VK → Prop := fun x xs H Q => ∃ (a : Addr) (ns : List Int), x = V.ref a ∧ xs = [] ∧ H a = some (.lst (ns.map V.int)) ∧ ns.length < 64 ∧
  ∀ ns' : List Int, ns'.Perm ns → ns'.Pairwise (· ≤ ·) → Q .non (upd H a (.lst (ns'.map V.int)))
theorem mt_sort : MtR X "list.sort" rSort := by
  intro pins s σ H x xs v us Q I rx rxs h
  obtain ⟨a, ns, rfl, rfl, ha, h64, q⟩ := h
  cases rx
  cases rxs
  obtain ⟨hz, its, n, rv, hob⟩ := I.hok a _ ha
  have hi := rv.ints
  refine wpAny_call_entry PyProof.Rows.slot_list_sort ⟨_, hob, rfl⟩ PyProof.Rows.entry_list_sort
    (PyProof.Rows.list_sort_tree hob hi (by rw [hi.length]; exact h64) fun out ns' h1 h2 h3 => ⟨.none, rfl, ?_⟩) (PyProof.Rows.args_list_sort _)
  obtain ⟨ep, he'⟩ := PyProof.Rows.sortedHeap_at (vs := its) (out := out) hob
  have hlen : (ns'.map V.int).length ≤ sizeLine := by rw [List.length_map, h2.length_eq]; exact small64 h64
  refine ⟨.non, upd H a (.lst (ns'.map V.int)), I.write (e := a) (t' := s.toks) (by rw [ha]; trivial) (.inl rfl) (fun b u hb hu => ?_) ⟨_, he'⟩ ⟨hlen, out.toList, ep, vals_of_ints h1, he'⟩, rfl, q ns' h2 h3⟩
  rw [PyProof.Rows.sortedHeap_old hb (Heap.lt_size hu)]; exact hu
end

/-! ### list.index, flat items -/
section
variable {X : Cx}
def rIndex (K : PySem.W.Frag) : V → List V → Hp → VK → Prop := fun x xs H Q => ∃ (a : Addr) (ys : List V) (y : V) (j : Nat) (z : V), x = V.ref a ∧ xs = [y] ∧ SqL K H a ys ∧ flatV y = true ∧ ys.all flatV = true ∧ ys[j]? = some z ∧ eqV z y = true ∧
  (∀ (m : Nat) (z' : V), m < j → ys[m]? = some z' → eqV z' y = false) ∧ Q (.int (j : Nat)) H
theorem flat_at {ys : List V} (f : ys.all flatV = true) {j : Nat} {z : V} (h : ys[j]? = some z) : flatV z = true := List.all_eq_true.mp f z (List.mem_of_getElem? h)
theorem mt_index : MtR X "list.index" (rIndex X.K) := by
  intro pins s σ H x xs v us Q I rx rxs h
  obtain ⟨a, ys, y, j, z, rfl, rfl, hs, fy, fys, hz, hzj, hno, q⟩ := h
  cases rx
  cases rxs with
  | cons ry rt =>
    rename_i uy ut
    cases rt
    obtain ⟨its, rv, ⟨⟨cls, dd, data, sl⟩, n, ho, hc, hdn, hd⟩, hlen⟩ := I.list hs
    simp only at hc hd
    subst hc hd
    obtain ⟨u, hu, ru⟩ := rv.get hz
    obtain ⟨hjl, hje⟩ := List.getElem?_eq_some_iff.mp hu
    have hvl := rv.length
    have hj : j < its.toArray.size := by simpa using hjl
    have hsl := sizeLine_eq
    refine call_meets PySem.F.slot_list_index ⟨_, ho, rfl⟩ PySem.F.entry_list_index (PySem.F.args_list_index_2 _ _)
      (SeqAt.list_indexAt a its.toArray n dd sl uy (eqU y) j hj (by omega) ?_ ?_) ⟨ho, fun u' hu' => mem_eqAt ry fy rv fys u' (by simpa using hu'), ?_⟩
    · have e1 : its.toArray[j] = u := by simpa using hje
      rw [e1, eqU_of ru (flat_at fys hz)]
      exact hzj
    · intro m hm hmj
      have hml : m < its.length := by simpa using hm
      have hmy : m < ys.length := by omega
      have hy' : ys[m]? = some ys[m] := List.getElem?_eq_getElem hmy
      obtain ⟨u2, hu2, ru2⟩ := rv.get hy'
      obtain ⟨_, hme⟩ := List.getElem?_eq_some_iff.mp hu2
      have e1 : its.toArray[m] = u2 := by simpa using hme
      rw [e1, eqU_of ru2 (flat_at fys hy')]
      exact hno m _ hmj hy'
    · exact ⟨.int (j : Nat), H, I.tok _, ⟨_, rfl⟩, q⟩
end

/-! ### type(x) of an own instance; is, is not of a module's class -/
section
variable {X : Cx}
theorem cr_type : CallR X (.type "type") (fun xs H Q => ∃ a C dx fs, xs = [V.ref a] ∧ H a = some (.ins C dx fs) ∧ Q (.ref C) H) := by
  intro pins s σ H xs us Q I r h
  obtain ⟨a, C, dx, fs, rfl, ha, q⟩ := h
  rw [Vals.ref1 r]
  obtain ⟨mA, O, _⟩ := ins_get I.hok ha
  obtain ⟨od, J, _⟩ := O.look
  exact PySem.W.kto_own J ⟨.ref C, H, I, rfl, q⟩
/-- an object of the module whose class is no tuple: a class of the text (makesIn says that its type is a type's heir) -/
theorem cls_there {K : PySem.W.Frag} {C : Addr} (h : PySem.W.makesIn K C = true) : ∃ o, K.lookup C = some o ∧ o.cls ≠ .type "tuple" := by
  unfold PySem.W.makesIn at h
  split at h
  · rename_i oc od cd sl ho
    refine ⟨_, ho, fun e => ?_⟩
    rw [Bool.and_eq_true] at h
    have h2 : PySem.W.instIn K (.ref C) (.type "type") = some true := beq_iff_eq.mp h.2
    have e2 : oc = .type "tuple" := e
    have h3 : PySem.W.instIn K (.ref C) (.type "type") = PySem.W.subIn K oc (.type "type") := by
      show ((K.lookup C).map (fun o => o.cls)).bind (fun t => PySem.W.subIn K t (.type "type")) = _
      rw [ho]
      all_goals rfl
    rw [h3, e2] at h2
    have h4 : PySem.W.subIn K (.type "tuple") (.type "type") = some false := by
      show (fastBuiltinMro "tuple").map (·.contains (.type "type")) = some false
      decide +kernel
    rw [h4] at h2
    cases h2
  · cases h
theorem op_is_cls : OpR X (compareOp .Is) (fun x y H Q => ∃ a b, x = V.ref a ∧ y = V.ref b ∧ (a = b ∨ (PySem.W.makesIn X.K a = true ∧ PySem.W.makesIn X.K b = true)) ∧ Q (.bl (decide (a = b))) H) := by
  intro pins s σ H x y v u Q I rx ry h
  obtain ⟨a, b, rfl, rfl, hab, q⟩ := h
  cases rx
  cases ry
  by_cases z : a = b
  · subst z
    exact wpAny_is_ref_self ⟨.bl _, H, I, by simp [RelV], q⟩
  · rcases hab with e | ⟨h1, h2⟩
    · exact absurd e z
    · obtain ⟨o1, e1, n1⟩ := cls_there h1
      obtain ⟨o2, e2, _⟩ := cls_there h2
      exact wpAny_is_ref_other z (I.kIn _ _ e1) (I.kIn _ _ e2) n1 ⟨.bl _, H, I, by simp [RelV, z], q⟩
theorem op_isnot_cls : OpR X (compareOp .IsNot) (fun x y H Q => ∃ a b, x = V.ref a ∧ y = V.ref b ∧ (a = b ∨ (PySem.W.makesIn X.K a = true ∧ PySem.W.makesIn X.K b = true)) ∧ Q (.bl (!decide (a = b))) H) := by
  intro pins s σ H x y v u Q I rx ry h
  obtain ⟨a, b, rfl, rfl, hab, q⟩ := h
  cases rx
  cases ry
  by_cases z : a = b
  · subst z
    exact wpAny_isNot_ref_self ⟨.bl _, H, I, by simp [RelV], q⟩
  · rcases hab with e | ⟨h1, h2⟩
    · exact absurd e z
    · obtain ⟨o1, e1, n1⟩ := cls_there h1
      obtain ⟨o2, e2, _⟩ := cls_there h2
      exact wpAny_isNot_ref_other z (I.kIn _ _ e1) (I.kIn _ _ e2) n1 ⟨.bl _, H, I, by simp [RelV, z], q⟩
end

/-! ### any(xs), all(xs) of a list of bools -/
theorem iter_any {prog : Program} {w : World} {A : Around} {E : Value → Shared → Prop} {s : Shared} {l : Addr} {items : Array Value} {Q : Value → Shared → Prop} (hl : s.heap.IsList l items)
    (h : ∀ s₂ : Shared, s₂ = { s with heap := s.heap.push { cls := .type "list_iterator", data := .fields #[.ref l, .int 0 0] } } →
      (s₂.heap.IsListIter s.heap.objs.size l 0 ∧ s₂.heap.IsList l items) → l ≠ s.heap.objs.size → Q (.ref s.heap.objs.size) s₂) : wpAny (model prog w) A (pyIter (.ref l)) Q E s := by
  have hlt : l < s.heap.objs.size := by obtain ⟨_, e, _⟩ := hl; exact Heap.lt_size e
  exact wpAny_pyIter_list hl (h _ rfl ⟨⟨_, Heap.get?_push_size _ rfl, rfl, rfl⟩, hl.push _⟩ (Nat.ne_of_lt hlt))
theorem truth_bools {prog : Program} {w : World} {A : Around} {bs : List Bool} {its : List Value} (e : its = bs.map Value.bool) :
    TruthOf prog w A (fun i v => its.toArray[i]? = some v) (fun i => bs.getD i false) := fun i v s Q E hv hq => by
  have hv' : its[i]? = some v := by simpa using hv
  rw [e, List.getElem?_map] at hv'
  obtain ⟨b, hb, rfl⟩ := Option.map_eq_some_iff.mp hv'
  have hg : bs.getD i false = b := by rw [List.getD_eq_getElem?_getD, hb] <;> rfl
  have hq' : Q (bs.getD i false) s := hq
  rw [hg] at hq'
  exact wpAny_truthy_bool hq'
theorem any_range : ∀ bs : List Bool, (List.range bs.length).any (fun i => bs.getD i false) = bs.any id
  | [] => rfl
  | b :: bs => by
    rw [List.length_cons, List.range_succ_eq_map, List.any_cons, List.any_map, List.any_cons, ← any_range bs]
    all_goals rfl
theorem all_range : ∀ bs : List Bool, (List.range bs.length).all (fun i => bs.getD i false) = bs.all id
  | [] => rfl
  | b :: bs => by
    rw [List.length_cons, List.range_succ_eq_map, List.all_cons, List.all_map, List.all_cons, ← all_range bs]
    all_goals rfl
section
variable {X : Cx}
def rAny (K : PySem.W.Frag) : List V → Hp → VK → Prop := fun vs H Q => ∃ (a : Addr) (bs : List Bool), vs = [V.ref a] ∧ SqL K H a (bs.map V.bl) ∧ Q (.bl (bs.any id)) H
def rAll (K : PySem.W.Frag) : List V → Hp → VK → Prop := fun vs H Q => ∃ (a : Addr) (bs : List Bool), vs = [V.ref a] ∧ SqL K H a (bs.map V.bl) ∧ Q (.bl (bs.all id)) H
theorem cr_any (hc : X.calm = true) : CallR X (.builtin "any") (rAny X.K) := by
  intro pins s σ H vs us Q I r h
  obtain ⟨a, bs, rfl, hs, q⟩ := h
  obtain ⟨its, rv, hl, _⟩ := I.list hs
  rw [Vals.ref1 r]
  have hb := rv.bls
  refine call_any_walk (iter_any hl.isList fun s₂ e2 st hne => ?_)
  subst e2
  refine ⟨_, _, _, _, _, _, _, rfl, Walks.list (A := X.A.in1) (I.ok.hd hc) _ a hne its.toArray, st, truth_bools hb, fun h' tk hk => ?_⟩
  refine ⟨.bl _, H, I.kept fun b o eo => hk b o (fun hmem => ?_) (Heap.get?_push_of_some _ eo), ?_, q⟩
  · rcases List.mem_cons.mp hmem with e1 | hmem
    · exact absurd (e1 ▸ Heap.lt_size eo) (Nat.lt_irrefl _)
    · cases hmem
  · show Value.bool _ = Value.bool _
    rw [← any_range, hb, List.size_toArray, List.length_map]
theorem cr_all (hc : X.calm = true) : CallR X (.builtin "all") (rAll X.K) := by
  intro pins s σ H vs us Q I r h
  obtain ⟨a, bs, rfl, hs, q⟩ := h
  obtain ⟨its, rv, hl, _⟩ := I.list hs
  rw [Vals.ref1 r]
  have hb := rv.bls
  refine call_all_walk (iter_any hl.isList fun s₂ e2 st hne => ?_)
  subst e2
  refine ⟨_, _, _, _, _, _, _, rfl, Walks.list (A := X.A.in1) (I.ok.hd hc) _ a hne its.toArray, st, truth_bools hb, fun h' tk hk => ?_⟩
  refine ⟨.bl _, H, I.kept fun b o eo => hk b o (fun hmem => ?_) (Heap.get?_push_of_some _ eo), ?_, q⟩
  · rcases List.mem_cons.mp hmem with e1 | hmem
    · exact absurd (e1 ▸ Heap.lt_size eo) (Nat.lt_irrefl _)
    · cases hmem
  · show Value.bool _ = Value.bool _
    rw [← all_range, hb, List.size_toArray, List.length_map]
end

/-! ### == and != of data at any depth: none, bools, ints, texts, lists, tuples -/
mutual
inductive Dp (K : PySem.W.Frag) (H : Hp) : V → PyData → Prop
  | non : Dp K H .non .none
  | bl (b : Bool) : Dp K H (.bl b) (.bool b)
  | int (i : Int) : Dp K H (.int i) (.int i)
  | str (x : Str) : Dp K H (.str x) (.str x)
  | lst {a : Addr} {xs : List V} {ds : List PyData} : SqL K H a xs → DpAll K H xs ds → Dp K H (.ref a) (.list ds)
  | tup {a : Addr} {xs : List V} {ds : List PyData} : SqT K H a xs → DpAll K H xs ds → Dp K H (.ref a) (.tuple ds)
inductive DpAll (K : PySem.W.Frag) (H : Hp) : List V → List PyData → Prop
  | nil : DpAll K H [] []
  | cons {v : V} {vs : List V} {d : PyData} {ds : List PyData} : Dp K H v d → DpAll K H vs ds → DpAll K H (v :: vs) (d :: ds)
end
section
variable {X : Cx} {pins : List (Addr × Obj)} {σ : St} {H : Hp} {s : Shared}
mutual
theorem Dp.reads (I : Inv X pins σ H s) : ∀ (d : PyData) (v : V) (u : Value), Dp X.K H v d → RelV v u → ∃ as, Reads s.heap u d as
  | .none, _, _, h, r => by
    cases h
    cases r
    exact ⟨_, Reads.none⟩
  | .bool b, _, _, h, r => by
    cases h
    cases r
    exact ⟨_, Reads.bool b⟩
  | .int i, _, _, h, r => by
    cases h
    obtain ⟨t, rfl⟩ := r
    exact ⟨_, Reads.int i t⟩
  | .str x, _, _, h, r => by
    cases h
    obtain ⟨t, rfl⟩ := r
    exact ⟨_, Reads.str x t⟩
  | .list ds, _, _, h, r => by
    cases h with
    | lst hs ha =>
      cases r
      obtain ⟨its, rv, ⟨o, n, ho, hc, _, hd⟩, _⟩ := I.list hs
      obtain ⟨as, hr⟩ := Dp.readsAll I ds _ its ha rv
      exact ⟨_, Reads.list ho hc hd hr⟩
  | .tuple ds, _, _, h, r => by
    cases h with
    | tup hs ha =>
      cases r
      obtain ⟨its, rv, ⟨o, ho, hc, n, hd⟩, _⟩ := I.tuple hs
      obtain ⟨as, hr⟩ := Dp.readsAll I ds _ its ha rv
      exact ⟨_, Reads.tuple ho hc hd hr⟩
  | .dict _, _, _, h, _ => by cases h
theorem Dp.readsAll (I : Inv X pins σ H s) : ∀ (ds : List PyData) (vs : List V) (us : List Value), DpAll X.K H vs ds → Vals vs us → ∃ as, ReadsAll s.heap us ds as
  | [], _, _, h, r => by
    cases h
    cases r
    exact ⟨_, ReadsAll.nil⟩
  | d :: ds, _, _, h, r => by
    cases h with
    | cons h1 h2 =>
      cases r with
      | cons r1 r2 =>
        obtain ⟨as, q1⟩ := Dp.reads I d _ _ h1 r1
        obtain ⟨bs, q2⟩ := Dp.readsAll I ds _ _ h2 r2
        exact ⟨_, ReadsAll.cons q1 q2⟩
end
end
section
variable {X : Cx}
def rEqD (K : PySem.W.Frag) : R2 := fun x y H Q => ∃ d e, Dp K H x d ∧ Dp K H y e ∧ SeqAt.shaped d = true ∧ SeqAt.shaped e = true ∧ Q (.bl (PyData.eqv d e)) H
def rNeD (K : PySem.W.Frag) : R2 := fun x y H Q => ∃ d e, Dp K H x d ∧ Dp K H y e ∧ SeqAt.shaped d = true ∧ SeqAt.shaped e = true ∧ Q (.bl (!PyData.eqv d e)) H
theorem op_eqD (hu : X.A.units + 64 < cLine) : OpR X (compareOp .Eq) (rEqD X.K) := by
  intro pins s σ H x y v u Q I rx ry h
  obtain ⟨d, e, hd, he, sd, se, q⟩ := h
  obtain ⟨as, r1⟩ := Dp.reads I d x v hd rx
  obtain ⟨bs, r2⟩ := Dp.reads I e y u he ry
  exact SeqAt.compareEq_shaped r1 r2 sd se hu ⟨.bl _, H, I, rfl, q⟩
theorem op_neD (hu : X.A.units + 64 < cLine) : OpR X (compareOp .NotEq) (rNeD X.K) := by
  intro pins s σ H x y v u Q I rx ry h
  obtain ⟨d, e, hd, he, sd, se, q⟩ := h
  obtain ⟨as, r1⟩ := Dp.reads I d x v hd rx
  obtain ⟨bs, r2⟩ := Dp.reads I e y u he ry
  exact SeqAt.compareNe_shaped r1 r2 sd se hu ⟨.bl _, H, I, rfl, q⟩
end
end L2

namespace L2
open PySem PySem.Spec PyProof.Rows
abbrev CellAt (h : Heap) (c : Addr) (v : Option Value) : Prop := h.IsCell c v
def relS (scope sc : Scope) : Scope :=
  { scope with names := scope.names.map fun (n, k) => if (k == .free && sc.kind == .function && sc.names.lookup n == some .cell) then (n, .cell) else (n, k) }

def cloFrom (cells : List (Str × Addr)) : List (Str × NameKind) → List (Str × Addr) → List (Str × Addr)
  | [], acc => acc
  | (n, k) :: r, acc => if k == .free then cloFrom cells r ((n, (cells.lookup n).getD 0) :: acc) else cloFrom cells r acc

theorem closure_loop (env : Env) (f : Str × NameKind → List (Str × Addr) → Sem (ForInStep (List (Str × Addr))))
    (hf : ∀ n k c, f (n, k) c = if k == .free then (do let a ← cellOf env n; pure (.yield ((n, a) :: c))) else pure (.yield c)) :
    ∀ (names : List (Str × NameKind)) (acc : List (Str × Addr)), (∀ y ∈ names, y.2 = .free → ∃ c, env.cells.lookup y.1 = some c) → forIn names acc f = pure (cloFrom env.cells names acc)
  | [], acc, _ => by rw [List.forIn_nil]; rfl
  | (n, k) :: r, acc, h => by
    rw [List.forIn_cons, hf]
    have ih := fun acc => closure_loop env f hf r acc fun y hy => h y (List.mem_cons_of_mem _ hy)
    unfold cloFrom
    by_cases hk : (k == NameKind.free) = true
    · rw [if_pos hk, if_pos hk]
      obtain ⟨c, hc⟩ := h (n, k) List.mem_cons_self (by simpa using hk)
      have e : cellOf env n = pure c := by unfold cellOf; rw [hc]
      rw [e]
      have e2 : (env.cells.lookup n).getD 0 = c := by rw [hc]; rfl
      rw [e2]
      exact ih _
    · rw [if_neg hk, if_neg hk]
      exact ih _
theorem closure_ok {scope : Scope} {env : Env} (h : ∀ y ∈ scope.names, y.2 = .free → ∃ c, env.cells.lookup y.1 = some c) : closureFor scope env = pure (cloFrom env.cells scope.names []) := by
  simp only [closureFor]
  rw [closure_loop env _ (fun n k c => rfl) scope.names [] h]
  rfl

theorem mem_lookup {α : Type} : ∀ {l : List (Str × α)} {n : Str} {c : α}, (n, c) ∈ l → ∃ c', l.lookup n = some c'
  | (k, v) :: r, n, c, h => by
    rw [List.lookup_cons]
    cases hb : n == k with
    | true => exact ⟨_, rfl⟩
    | false =>
      rcases List.mem_cons.mp h with e | h
      · cases e; simp at hb
      · exact mem_lookup h

theorem cloFrom_mem {cells : List (Str × Addr)} : ∀ {names : List (Str × NameKind)} {acc : List (Str × Addr)} {n : Str} {c : Addr}, (n, c) ∈ cloFrom cells names acc → (n, c) ∈ acc ∨ ((n, .free) ∈ names ∧ c = (cells.lookup n).getD 0)
  | [], _, _, _, h => .inl h
  | (m, k) :: r, acc, n, c, h => by
    unfold cloFrom at h
    split at h
    · rename_i hk
      have hk : k = .free := by simpa using hk
      rcases cloFrom_mem h with h | ⟨h1, h2⟩
      · rcases List.mem_cons.mp h with e | h
        · cases e; exact .inr ⟨hk ▸ List.mem_cons_self, rfl⟩
        · exact .inl h
      · exact .inr ⟨List.mem_cons_of_mem _ h1, h2⟩
    · rcases cloFrom_mem h with h | ⟨h1, h2⟩
      · exact .inl h
      · exact .inr ⟨List.mem_cons_of_mem _ h1, h2⟩
theorem cloFrom_acc {cells : List (Str × Addr)} : ∀ {names : List (Str × NameKind)} {acc : List (Str × Addr)} {p : Str × Addr}, p ∈ acc → p ∈ cloFrom cells names acc
  | [], _, _, h => h
  | (m, k) :: r, acc, p, h => by
    unfold cloFrom
    split
    · exact cloFrom_acc (List.mem_cons_of_mem _ h)
    · exact cloFrom_acc h
theorem cloFrom_has {cells : List (Str × Addr)} : ∀ {names : List (Str × NameKind)} {acc : List (Str × Addr)} {n : Str}, (n, .free) ∈ names → (n, (cells.lookup n).getD 0) ∈ cloFrom cells names acc
  | (m, k) :: r, acc, n, h => by
    unfold cloFrom
    rcases List.mem_cons.mp h with e | h
    · cases e
      exact cloFrom_acc List.mem_cons_self
    · split
      · exact cloFrom_has h
      · exact cloFrom_has h

theorem cells_mem : ∀ {names : List (Str × NameKind)} {h : Heap} {acc : List (Str × Addr)} {x : Str} {c : Addr}, (x, c) ∈ cellsFrom h.objs.size names acc →
    (x, c) ∈ acc ∨ ((x, .cell) ∈ names ∧ h.objs.size ≤ c ∧ CellAt (pushCells h names) c none)
  | [], _, _, _, _, h => .inl h
  | (n, k) :: r, h, acc, x, c, hm => by
    unfold cellsFrom at hm
    unfold pushCells
    split at hm
    · rename_i hk
      rw [if_pos hk]
      have hk : k = .cell := by simpa using hk
      rw [← Heap.size_push h { cls := .type "cell", data := .cell none }] at hm
      rcases cells_mem hm with hm | ⟨h1, h2, h3⟩
      · rcases List.mem_cons.mp hm with e | hm
        · cases e
          exact .inr ⟨hk ▸ List.mem_cons_self, Nat.le_refl _, _, pushCells_keeps r _ _ _ (Heap.get?_push_size _ rfl), rfl⟩
        · exact .inl hm
      · rw [Heap.size_push] at h2
        exact .inr ⟨List.mem_cons_of_mem _ h1, Nat.le_of_succ_le h2, h3⟩
    · rename_i hk
      rw [if_neg hk]
      rcases cells_mem hm with hm | ⟨h1, h2, h3⟩
      · exact .inl hm
      · exact .inr ⟨List.mem_cons_of_mem _ h1, h2, h3⟩
theorem cells_acc : ∀ {names : List (Str × NameKind)} {n : Nat} {acc : List (Str × Addr)} {p : Str × Addr}, p ∈ acc → p ∈ cellsFrom n names acc
  | [], _, _, _, h => h
  | (m, k) :: r, n, acc, p, h => by
    unfold cellsFrom
    split
    · exact cells_acc (List.mem_cons_of_mem _ h)
    · exact cells_acc h
theorem cells_has : ∀ {names : List (Str × NameKind)} {n : Nat} {acc : List (Str × Addr)} {x : Str}, (x, .cell) ∈ names → ∃ c, (x, c) ∈ cellsFrom n names acc
  | (m, k) :: r, n, acc, x, h => by
    unfold cellsFrom
    rcases List.mem_cons.mp h with e | h
    · cases e
      exact ⟨n, cells_acc List.mem_cons_self⟩
    · split
      · exact cells_has h
      · exact cells_has h
theorem cells_inj : ∀ {names : List (Str × NameKind)} {h : Heap} {acc : List (Str × Addr)} {x y : Str} {c : Addr}, (∀ p ∈ acc, p.2 < h.objs.size) → (∀ x y c, (x, c) ∈ acc → (y, c) ∈ acc → x = y) →
    (x, c) ∈ cellsFrom h.objs.size names acc → (y, c) ∈ cellsFrom h.objs.size names acc → x = y
  | [], _, _, _, _, _, _, hi, h1, h2 => hi _ _ _ h1 h2
  | (n, k) :: r, h, acc, x, y, c, hl, hi, h1, h2 => by
    unfold cellsFrom at h1 h2
    split at h1
    · rename_i hk
      rw [if_pos hk] at h2
      rw [← Heap.size_push h { cls := .type "cell", data := .cell none }] at h1 h2
      refine cells_inj (h := h.push _) (fun p hp => ?_) (fun x y c a b => ?_) h1 h2
      · rw [Heap.size_push]
        rcases List.mem_cons.mp hp with rfl | hp
        · exact Nat.lt_succ_self _
        · exact Nat.lt_succ_of_lt (hl p hp)
      · rcases List.mem_cons.mp a with e | a <;> rcases List.mem_cons.mp b with e' | b
        · cases e; cases e'; rfl
        · cases e; exact absurd (hl _ b) (Nat.lt_irrefl _)
        · cases e'; exact absurd (hl _ a) (Nat.lt_irrefl _)
        · exact hi _ _ _ a b
    · rename_i hk
      rw [if_neg hk] at h2
      exact cells_inj hl hi h1 h2

theorem newEnv_comp {M : Model} {A : Around} {E : Value → Shared → Prop} {s : Shared} {scope : Scope} {globals : Addr} {closure : List (Str × Addr)} {qual : Str} {func : Option Addr} {code : Value} {around : Env} {builtins : Addr} {Q : Env → Shared → Prop}
    (h : Q (newEnv scope s.heap.objs.size globals (cellsFrom (s.heap.objs.size + 1) scope.names closure) qual func code (some around) builtins)
      { s with heap := pushCells (s.heap.push { cls := .type "dict", data := .dict #[] }) scope.names }) :
    wpAny M A (newFunctionEnv scope globals closure [] qual func code (some around) builtins) Q E s := by
  simp only [newFunctionEnv, Option.isSome_some, if_true]
  refine wpAny_bind (wpAny_alloc ?_)
  refine wpAny_bind (wpAny_layCells _ (fun n k c => rfl) scope.names closure _ _ ?_)
  rw [show ({ s with heap := s.heap.push { cls := .type "dict", data := .dict #[] } } : Shared).heap.objs.size = s.heap.objs.size + 1 from Heap.size_push ..]
  rw [List.forIn_nil]
  exact wpAny_bind (wpAny_pure (wpAny_pure h))

/-- every name of the written scope, in the scope that runs -/
theorem lookup_relS {sc : Scope} : ∀ {names : List (Str × NameKind)} {x : Str} {k : NameKind},
    (names.map fun (n, k) => if (k == NameKind.free && sc.kind == .function && sc.names.lookup n == some .cell) then (n, NameKind.cell) else (n, k)).lookup x = some k →
    ∃ k', names.lookup x = some k' ∧ (k = k' ∨ (k' = .free ∧ k = .cell))
  | [], _, _, h => by simp at h
  | (n, k₀) :: r, x, k, h => by
    have ih := @lookup_relS sc r x k
    have h' : List.lookup x ((if (k₀ == NameKind.free && sc.kind == .function && sc.names.lookup n == some .cell) = true then (n, NameKind.cell) else (n, k₀)) :: (r.map _)) = some k := h
    cases hx : x == n with
    | true =>
      simp only [List.lookup_cons, hx]
      by_cases hc : (k₀ == NameKind.free && sc.kind == .function && sc.names.lookup n == some .cell) = true
      · rw [if_pos hc] at h'
        simp only [List.lookup_cons, hx] at h'
        cases h'
        simp only [Bool.and_eq_true, beq_iff_eq] at hc
        exact ⟨k₀, rfl, .inr ⟨hc.1.1, rfl⟩⟩
      · rw [if_neg hc] at h'
        simp only [List.lookup_cons, hx] at h'
        cases h'
        exact ⟨_, rfl, .inl rfl⟩
    | false =>
      simp only [List.lookup_cons, hx]
      by_cases hc : (k₀ == NameKind.free && sc.kind == .function && sc.names.lookup n == some .cell) = true
      · rw [if_pos hc] at h'
        simp only [List.lookup_cons, hx] at h'
        exact ih h'
      · rw [if_neg hc] at h'
        simp only [List.lookup_cons, hx] at h'
        exact ih h'
theorem lookup_relS_keep {sc : Scope} : ∀ {names : List (Str × NameKind)} {x : Str} {k : NameKind}, k ≠ .free → names.lookup x = some k →
    (names.map fun (n, k) => if (k == NameKind.free && sc.kind == .function && sc.names.lookup n == some .cell) then (n, NameKind.cell) else (n, k)).lookup x = some k
  | [], _, _, _, h => by simp at h
  | (n, k₀) :: r, x, k, hk, h => by
    have ih := @lookup_relS_keep sc r x k hk
    show List.lookup x ((if (k₀ == NameKind.free && sc.kind == .function && sc.names.lookup n == some .cell) = true then (n, NameKind.cell) else (n, k₀)) :: (r.map _)) = some k
    cases hx : x == n with
    | true =>
      simp only [List.lookup_cons, hx] at h
      cases h
      have : ¬ (k₀ == NameKind.free && sc.kind == .function && sc.names.lookup n == some .cell) = true := by simp [hk]
      rw [if_neg this]
      simp only [List.lookup_cons, hx]
    | false =>
      simp only [List.lookup_cons, hx] at h
      by_cases hc : (k₀ == NameKind.free && sc.kind == .function && sc.names.lookup n == some .cell) = true
      · rw [if_pos hc]; simp only [List.lookup_cons, hx]; exact ih h
      · rw [if_neg hc]; simp only [List.lookup_cons, hx]; exact ih h

theorem pushCells_size : ∀ (names : List (Str × NameKind)) (h : Heap), h.objs.size ≤ (pushCells h names).objs.size
  | [], _ => Nat.le_refl _
  | (_, k) :: r, h => by
    unfold pushCells
    split
    · refine Nat.le_trans ?_ (pushCells_size r _)
      rw [Heap.size_push]; exact Nat.le_succ _
    · exact pushCells_size r h


/-- the names of a comprehension's block: its own (with their places in N), or captured -/
structure BlkOk (N : List Str) (sc scope : Scope) (own : List (Str × Nat)) : Prop where
  kind : scope.kind = .function
  uniq : ∀ y ∈ scope.names, scope.names.lookup y.1 = some y.2
  ix : ∀ p ∈ own, N[p.2]? = some p.1
  free : ∀ y ∈ scope.names, y.2 = .free → sc.names.lookup y.1 = some .cell ∨ sc.names.lookup y.1 = some .free
  own : ∀ y ∈ scope.names, y.2 = .local ∨ y.2 = .cell → y.1 ∈ own.map (·.1) ∨ y.1 ∉ N
/-- the slots of the block's own names forgotten -/
def wipe (σ : St) : List Nat → St
  | [] => σ
  | v :: vs => (wipe σ vs).set v none
theorem wipe_length (σ : St) : ∀ vs : List Nat, (wipe σ vs).length = σ.length
  | [] => rfl
  | v :: vs => by unfold wipe; rw [List.length_set, wipe_length σ vs]
theorem wipe_some {σ : St} {i : Nat} {x : V} : ∀ {vs : List Nat}, (wipe σ vs)[i]? = some (some x) → σ[i]? = some (some x) ∧ i ∉ vs
  | [], h => ⟨h, by simp⟩
  | v :: vs, h => by
    unfold wipe at h
    by_cases hi : v = i
    · subst hi
      by_cases hv : v < (wipe σ vs).length
      · rw [List.getElem?_set_self hv] at h; cases h
      · rw [List.getElem?_eq_none (by simpa using hv)] at h; cases h
    · rw [List.getElem?_set_ne hi] at h
      obtain ⟨h1, h2⟩ := wipe_some h
      exact ⟨h1, by simp only [List.mem_cons, not_or]; exact ⟨fun e => hi e.symm, h2⟩⟩

/-- the context of a block that starts at s, its iterator's objects at fp -/
abbrev Cx.blk (X : Cx) (s : Shared) (H : Hp) (scope : Scope) (cenv : Env) (fp : List Addr) : Cx := { X with s_0 := s, H_0 := H, env := cenv, outer := X.stack, ex := fp, fn := fun x => scope.names.lookup x == some .cell, pn := [], xe := fun _ _ => False }
section
variable {X : Cx} {pins : List (Addr × Obj)} {σ : St} {H : Hp} {s : Shared}
theorem block_start {scope : Scope} {own : List (Str × Nat)} {fp : List Addr} (I : Inv X pins σ H s) (ok : BlkOk X.N X.env.scope scope own) (hN : X.N.Nodup) (hfp : ∀ b ∈ fp, FpOk X pins H b ∧ b < s.heap.objs.size) :
    Inv (X.blk s H scope (compEnvC scope (cellsFrom (s.heap.objs.size + 1) scope.names (cloFrom X.env.cells scope.names [])) s.heap.objs.size X.env) fp) [] (wipe σ (own.map (·.2))) H { s with heap := pushCells (s.heap.push { cls := .type "dict", data := .dict #[] }) scope.names } := by
  have hfree : ∀ y ∈ scope.names, y.2 = .free → ∃ c, X.env.cells.lookup y.1 = some c := fun y hy e => by
    rcases ok.free y hy e with k | k
    · exact I.ok.has _ (.inl k)
    · exact I.ok.has _ (.inr k)
  generalize hcenv : compEnvC scope (cellsFrom (s.heap.objs.size + 1) scope.names (cloFrom X.env.cells scope.names [])) s.heap.objs.size X.env = cenv
  have kp : ∀ b o, s.heap.get? b = some o → (pushCells (s.heap.push { cls := .type "dict", data := .dict #[] }) scope.names).get? b = some o := fun b o e => pushCells_keeps _ _ _ _ (Heap.get?_push_of_some _ e)
  have hL : cenv.locals = s.heap.objs.size := by rw [← hcenv]; rfl
  have hcl : cenv.cells = cellsFrom (s.heap.objs.size + 1) scope.names (cloFrom X.env.cells scope.names []) := by rw [← hcenv]; rfl
  have hsc : cenv.scope = relS scope X.env.scope := by rw [← hcenv]; rfl
  rw [← Heap.size_push s.heap { cls := .type "dict", data := .dict #[] }] at hcl
  have cm : ∀ {y c}, (y, c) ∈ cloFrom X.env.cells scope.names [] → X.env.cells.lookup y = some c ∧ c < s.heap.objs.size := fun {y c} hm => by
    rcases cloFrom_mem hm with hm | ⟨h1, rfl⟩
    · cases hm
    · obtain ⟨c, hc⟩ := hfree _ h1 rfl
      rw [hc]
      obtain ⟨w, z⟩ := I.cell _ _ hc
      exact ⟨rfl, z.lt⟩
  have mem : ∀ {y c}, cenv.cells.lookup y = some c → (X.env.cells.lookup y = some c ∧ c < s.heap.objs.size) ∨ (s.heap.objs.size + 1 ≤ c ∧ CellAt (pushCells (s.heap.push { cls := .type "dict", data := .dict #[] }) scope.names) c none) := fun {y c} e => by
    rw [hcl] at e
    rcases cells_mem (PySem.mem_of_lookup e) with hm | ⟨_, h2, h3⟩
    · exact .inl (cm hm)
    · rw [Heap.size_push] at h2; exact .inr ⟨h2, h3⟩
  have look : ∀ {y}, scope.names.lookup y = some .free → ∃ c, cenv.cells.lookup y = some c ∧ X.env.cells.lookup y = some c := fun {y} hl => by
    have hy : (y, NameKind.free) ∈ scope.names := PySem.mem_of_lookup hl
    obtain ⟨c', e'⟩ := mem_lookup (cells_acc (names := scope.names) (n := (s.heap.push { cls := .type "dict", data := .dict #[] }).objs.size) (cloFrom_has (cells := X.env.cells) (acc := []) hy))
    rw [← hcl] at e'
    refine ⟨c', e', ?_⟩
    rw [hcl] at e'
    rcases cells_mem (PySem.mem_of_lookup e') with hm | ⟨h1, _, _⟩
    · exact (cm hm).1
    · have := ok.uniq _ h1
      rw [hl] at this; cases this
  have okB : (X.blk s H scope cenv fp).Ok := by
    refine ⟨I.ok.mod, by show cenv.scope.kind = _; rw [hsc]; exact ok.kind, by show cenv.globals = _; rw [← hcenv]; exact I.ok.glob, by show cenv.builtins = _; rw [← hcenv]; exact I.ok.blt, by show s.heap.objs.size ≤ cenv.locals; rw [hL]; exact Nat.le_refl _,
      fun y z c e1 e2 => ?_, fun y hy => ?_, fun y c z e => ?_, I.ok.hd, I.ok.frames, .inl rfl, fun b hb => ⟨?_, fun y c e z => ?_⟩, I.bs, Nat.le_trans I.ok.bsz I.sz, fun b o e hb => ?_, fun b hb z => ?_, I.stack, I.stkFree⟩
    · have e1 : cenv.cells.lookup y = some c := e1
      have e2 : cenv.cells.lookup z = some c := e2
      rw [hcl] at e1 e2
      refine cells_inj (fun p hp => ?_) (fun y z c a b => I.ok.inj y z c (cm a).1 (cm b).1) (PySem.mem_of_lookup e1) (PySem.mem_of_lookup e2)
      rw [Heap.size_push]
      exact Nat.lt_succ_of_lt (cm (y := p.1) (c := p.2) hp).2
    · show ∃ c, cenv.cells.lookup y = some c
      have key : ∀ k, cenv.kindOf y = some k → (k = .cell ∨ k = .free) → ∃ c, cenv.cells.lookup y = some c := fun k hk hk' => by
        unfold Env.kindOf at hk
        rw [hsc] at hk
        obtain ⟨k', e, r⟩ := lookup_relS hk
        have : k' = .cell ∨ k' = .free := by
          rcases r with rfl | ⟨rfl, _⟩
          · exact hk'
          · exact .inr rfl
        rcases this with rfl | rfl
        · obtain ⟨c, hm⟩ := cells_has (n := (s.heap.push { cls := .type "dict", data := .dict #[] }).objs.size) (acc := cloFrom X.env.cells scope.names []) (PySem.mem_of_lookup e)
          obtain ⟨c', e'⟩ := mem_lookup hm
          exact ⟨c', by rw [hcl]; exact e'⟩
        · obtain ⟨c, h1, _⟩ := look e
          exact ⟨c, h1⟩
      rcases hy with hy | hy
      · exact key _ hy (.inl rfl)
      · exact key _ hy (.inr rfl)
    · have z : (scope.names.lookup y == some NameKind.cell) = true := z
      have z : scope.names.lookup y = some .cell := by simpa using z
      have e : cenv.cells.lookup y = some c := e
      rw [hcl] at e
      rcases cells_mem (PySem.mem_of_lookup e) with hm | ⟨_, h2, _⟩
      · rcases cloFrom_mem hm with hm | ⟨h1, _⟩
        · cases hm
        · have q := ok.uniq _ h1
          rw [z] at q; cases q
      · rw [Heap.size_push] at h2
        exact Nat.le_of_succ_le h2
    · show b ≠ cenv.locals
      rw [hL]; exact Nat.ne_of_lt (hfp b hb).2
    · have e : cenv.cells.lookup y = some c := e
      rcases mem e with ⟨h1, _⟩ | ⟨h1, _⟩
      · exact (hfp b hb).1.2.2.2.2.1 y c h1 z
      · have h2 : s.heap.objs.size + 1 ≤ b := by rw [← z]; exact h1
        exact absurd (Nat.lt_of_lt_of_le (hfp b hb).2 (Nat.le_of_succ_le h2)) (Nat.lt_irrefl _)
    · rcases (hfp b hb).1.2.2.2.1 with z | z
      · exact I.ok.noex b o e z
      · exact absurd (Nat.lt_of_lt_of_le (Heap.lt_size e) (Nat.le_trans I.ok.bsz z)) (Nat.lt_irrefl _)
    · rcases List.mem_cons.mp (I.stkSub b z) with z | z
      · exact (hfp b hb).1.2.1 z
      · exact (hfp b hb).1.2.2.1 z
  refine ⟨okB, rfl, I.bare, Un.kept kp, ⟨fun _ => none, ?_, fun i y av e1 e2 e3 => ?_⟩, fun y c e => ?_, ?_, fun y c e => ?_, fun p hp => ?_, I.hok.kept kp, by rw [wipe_length]; exact I.len⟩
  · show Heap.Ns _ cenv.locals _
    rw [hL]
    exact Heap.Ns.keeps (Heap.Ns.new ..) fun b o e => pushCells_keeps _ _ _ _ e
  · obtain ⟨e2, hne⟩ := wipe_some e2
    have hfr : scope.names.lookup y = some .free ∧ (cenv.kindOf y = some .cell ∨ cenv.kindOf y = some .free) := by
      have key : ∀ k, cenv.scope.names.lookup y = some k → k = .local ∨ k = .cell ∨ k = .free → scope.names.lookup y = some .free ∧ (cenv.kindOf y = some .cell ∨ cenv.kindOf y = some .free) := fun k hk hk' => by
        have hk0 := hk
        rw [hsc] at hk
        obtain ⟨k', e, r⟩ := lookup_relS hk
        have no : ¬ (k' = .local ∨ k' = .cell) := fun hh => by
          rcases ok.own _ (PySem.mem_of_lookup e) hh with e' | e'
          · obtain ⟨p, hp, hpy⟩ := List.mem_map.mp e'
            have e3 := ok.ix p hp
            have : p.1 = y := hpy
            rw [this] at e3
            exact hne (List.mem_map.mpr ⟨p, hp, nodup_ix hN e3 e1⟩)
          · exact e' (List.mem_of_getElem? e1)
        rcases r with rfl | ⟨rfl, rfl⟩
        · rcases hk' with rfl | rfl | rfl
          · exact absurd (.inl rfl) no
          · exact absurd (.inr rfl) no
          · exact ⟨e, .inr hk0⟩
        · exact ⟨e, .inl hk0⟩
      have e3 : Vis cenv.scope y := e3
      rcases e3 with e3 | e3 | e3
      · exact key _ e3 (.inl rfl)
      · exact key _ e3 (.inr (.inl rfl))
      · exact key _ e3 (.inr (.inr rfl))
    obtain ⟨m, hn, hl⟩ := I.loc
    have hvis : Vis X.env.scope y := (ok.free _ (PySem.mem_of_lookup hfr.1) rfl).elim (fun k => .inr (.inl k)) (fun k => .inr (.inr k))
    obtain ⟨w, r, q⟩ := hl i y av e1 e2 hvis
    refine ⟨w, r, .inr ⟨hfr.2, ?_⟩⟩
    obtain ⟨c, h1, h2⟩ := look hfr.1
    rcases q with ⟨k, _⟩ | ⟨_, c', e', z⟩
    · have k : X.env.scope.names.lookup y = some .local := k
      rcases ok.free _ (PySem.mem_of_lookup hfr.1) rfl with k' | k' <;> rw [show X.env.scope.names.lookup y = _ from k'] at k <;> cases k
    · rw [h2] at e'; cases e'
      exact ⟨c, h1, z.keeps kp⟩
  · have e : cenv.cells.lookup y = some c := e
    rcases mem e with ⟨h1, _⟩ | ⟨_, z⟩
    · obtain ⟨w, z⟩ := I.cell y c h1
      exact ⟨w, z.keeps kp⟩
    · exact ⟨_, z⟩
  · show H cenv.locals = none
    rw [hL]; exact I.hok.fresh (Nat.le_refl _)
  · have e : cenv.cells.lookup y = some c := e
    rcases mem e with ⟨h1, _⟩ | ⟨h1, _⟩
    · exact I.freeC y c h1
    · exact I.hok.fresh (Nat.le_of_succ_le h1)
  · exact absurd (show p ∈ ([] : List (Addr × Obj)) ++ [] from hp) (by simp)

/-- an item appended to a tracked list -/
theorem app_ok {E : Value → Shared → Prop} {D : Addr} {xs : List V} {y : V} {v : Value} {Q : Value → Shared → Prop} (I : Inv X pins σ H s) (hD : H D = some (.lst xs)) (hz : xs.length < sizeLine) (r : RelV y v)
    (h : ∀ s', Inv X pins σ (upd H D (.lst (xs ++ [y]))) s' → Q .none s') : wpAny (model X.prog X.w) X.A (call (.builtin "list.append") [.ref D, v]) Q E s := by
  obtain ⟨hz', its, n, ri, e⟩ := I.hok D _ hD
  have hl := ri.length
  refine append_at (hsz := by rw [List.size_toArray]; omega) e fun h' sb ho' => ?_
  refine h { s with heap := h' } (I.write (t' := s.toks) (by rw [hD]; trivial) (.inl rfl) (fun b u hb q => (sb.2 b hb).trans q) ⟨_, ho'⟩ ⟨by rw [List.length_append]; exact hz, its ++ [v], n + 1, ri.append (.cons r .nil), ?_⟩)
  rw [ho']
  simp

/-- a clause's tests -/
def PTs (X : Cx) (ifs : List Expr) (t : TT) : Prop :=
  ∀ (pins : List (Addr × Obj)) (s : Shared) (σ : St) (H : Hp) (Q : Bool → Hp → Prop), Inv X pins σ H s → t σ H Q →
    wpAny (model X.prog X.w) X.A (forIn ifs true fun c r => if r = true then do let ok ← isTrue c X.env (eval c X.env); pure (ForInStep.yield ok) else pure (ForInStep.yield r)) (TP X pins σ Q) X.xe s
def tYes : TT := fun _ H Q => Q true H
theorem pts_nil : PTs X [] tYes := fun _ _ _ H _ I h => wpAny_tests_nil ⟨H, I, h⟩
theorem pts_one {c : Expr} {t : TT} (h : PT X c t) : PTs X [c] t := fun pins s σ H Q I hw => wpAny_tests_one (h pins s σ H Q I hw)
end

theorem thnF {α : Type} {t : Sem α} {Q Q' : α → Shared → Prop} {M : Model} {A : Around} {E : Value → Shared → Prop} {s : Shared} (h : wpAny M A t Q (fun _ _ => False) s) (hQ : ∀ a s, Q a s → Q' a s) : wpAny M A t Q' E s := wpAny_mono h hQ fun _ _ z => False.elim z

/-- the loop of a list comprehension's block, the target of any form (codeAny_compLoop_tests asks a target that no tuple goes to; statement and proof follow it, PyProof/CompMap.lean:41-61, with the step letOwnedTupleGo kept) -/
theorem compLoop_any {prog : Program} {w : World} {A : Around} {R : Result → Shared → Prop} {s : Shared} {elt target iter : Expr} {ifs : List Expr} {scope : Scope} {pos : Pos} {it acc : Value} {env : Env} (I : Nat → Shared → Prop)
    (turn : ∀ n s, I n s → wpAny (model prog w) A (pyNext it) (fun r s₁ => match r with
      | none => R (.ok .next) s₁
      | some v => wpAny (model prog w) A (letOwnedTupleGo target it v) (fun _ s₁' => wpAny (model prog w) A (assign target env v) (fun _ s₂ =>
          wpAny (model prog w) A (forIn ifs true fun c r => if r = true then do let ok ← isTrue c env (eval c env); pure (ForInStep.yield ok) else pure (ForInStep.yield r)) (fun ok s₃ =>
            if ok = true then wpAny (model prog w) A (eval elt env) (fun x s₄ =>
              wpAny (model prog w) A (call (.builtin "list.append") [acc, x]) (fun _ s₅ => ∃ m, m < n ∧ I m s₅) (notedBy (model prog w) A env fun e s' => R (.error e) s') s₄) (notedBy (model prog w) A env fun e s' => R (.error e) s') s₃
            else ∃ m, m < n ∧ I m s₃) (notedBy (model prog w) A env fun e s' => R (.error e) s') s₂) (notedBy (model prog w) A env fun e s' => R (.error e) s') s₁') (notedBy (model prog w) A env fun e s' => R (.error e) s') s₁) (notedBy (model prog w) A env fun e s' => R (.error e) s') s)
    (n : Nat) (h : I n s) :
    codeAny (model prog w) A (.compLoop (.ListComp elt [⟨target, iter, ifs, 0⟩] scope pos) 0 it acc env) R s := by
  refine codeAny_loop rfl I (fun n s hI => ?_) n h
  show wpAny _ A ((compTurn (.ListComp elt [⟨target, iter, ifs, 0⟩] scope pos) 0 it acc env).onRaise (fun x => do noteFrame x env; theTreesLotGoes x)) _ _ s
  refine wpAny_noted ?_
  rw [compTurn_list]
  refine wpAny_bind (wpAny_standAt (wpAny_bind (wpAny_mono (turn n s hI) (fun r s₁ h₁ => ?_) fun _ _ h' => h')))
  cases r with
  | none => exact wpAny_pure h₁
  | some v =>
    refine wpAny_bind (wpAny_mono h₁ (fun _ s₁' h₁' => ?_) fun _ _ h' => h')
    refine wpAny_bind (wpAny_mono h₁' (fun _ s₂ h₂ => wpAny_bind (wpAny_mono h₂ (fun ok s₃ h₃ => ?_) fun _ _ h' => h')) fun _ _ h' => h')
    cases ok with
    | false => exact wpAny_pure ⟨rfl, h₃⟩
    | true =>
      exact wpAny_bind (wpAny_bind (wpAny_mono h₃ (fun x s₄ h₄ => wpAny_bind (wpAny_mono h₄ (fun _ s₅ h₅ => wpAny_pure (wpAny_pure ⟨rfl, h₅⟩)) fun _ _ h' => h')) fun _ _ h' => h'))

section
variable {X : Cx}
/-- [elt for target in iter if ..]: D the new list; W by the turn and a measure, Nx what a turn is to reach -/
def tLc (wi : TI) (g : TG) (tt : TT) (te : TE) (vs : List Nat) : TE := fun σ H Q => wi σ H fun J H1 => ∀ D, H1 D = none → ∃ W : Nat → Nat → Hp → Prop, (∃ m, W 0 m (upd H1 D (.lst []))) ∧ ∀ i m H, W i m H →
  (J.stop i H ∧ Q (.ref D) H) ∨ (J.go i H ∧ ∃ Nx : Hp → Prop, (∀ H', Nx H' → ∃ m', m' < m ∧ W (i + 1) m' H') ∧ ∀ x H', J.yld i H x H' → g x (wipe σ vs) H' fun σ2 H2 => wipe σ2 vs = wipe σ vs ∧ tt σ2 H2 fun b H3 =>
    if b = true then te σ2 H3 fun y H4 => ∃ acc, H4 D = some (.lst acc) ∧ acc.length < sizeLine ∧ Nx (upd H4 D (.lst (acc ++ [y]))) else Nx H3)
theorem lc_core {pins : List (Addr × Obj)} {s : Shared} {σ : St} {H : Hp} {Q : VK} {elt tg iter : Expr} {ifs : List Expr} {scope : Scope} {own : List (Str × Nat)} {pos pos' : Pos} {wi : TI} {g : TG} {tt : TT} {te : TE} {use : Option (Value → Sem Unit)} {Qf : Value → Shared → Prop}
    (hc : X.calm = true) (hN : X.N.Nodup) (I : Inv X pins σ H s) (hi : PI X tg iter wi) (ok : BlkOk X.N X.env.scope scope own)
    (hg : ∀ (s : Shared) (H : Hp) (C : Addr) (cl : List (Str × Addr)) (fp : List Addr), PG (X.blk s H scope (compEnvC scope cl C X.env) fp) tg g) (ht : ∀ (s : Shared) (H : Hp) (C : Addr) (cl : List (Str × Addr)) (fp : List Addr), PTs (X.blk s H scope (compEnvC scope cl C X.env) fp) ifs tt)
    (he : ∀ (s : Shared) (H : Hp) (C : Addr) (cl : List (Str × Addr)) (fp : List Addr), PE (X.blk s H scope (compEnvC scope cl C X.env) fp) elt te) (hs : ∀ x, foldedSetIterable iter X.env x = pure x)
    (h : tLc wi g tt te (own.map (·.2)) σ H Q)
    (hRR : ∀ D C s' m H', Inv X pins σ H' s' → Q (.ref D) H' → s'.heap.Ns C m → FpOk X pins H' C → compPost (model X.prog X.w) X.A X.xe use Qf (.ref D) C (.ok .next) s') :
    wpAny (model X.prog X.w) X.A (comprehension (.ListComp elt [⟨tg, iter, ifs, 0⟩] scope pos) scope X.env pos' (newList []) false (eval iter X.env) use) Qf X.xe s := by
  have hfree : ∀ y ∈ scope.names, y.2 = .free → ∃ c, X.env.cells.lookup y.1 = some c := fun y hy e => by
    rcases ok.free y hy e with k | k
    · exact I.ok.has _ (.inl k)
    · exact I.ok.has _ (.inr k)
  refine wpAny_comprehension_free (use := use) rfl hs (closure_ok hfree) ok.kind (fun y hy e => by rw [ok.uniq y hy, e])
    (thn (hi pins s σ H _ I h) fun xv s1 hx => thn hx fun itv s2 h2 => ?_)
  obtain ⟨it, fp, tn, J, H2, e, I2, T, st2, f2, q⟩ := h2
  subst e
  refine wpAny_newObj_type (newEnv_comp ?_) (by show 0 ≤ sizeLine; decide)
  generalize hD : s2.heap.objs.size = D
  have hDn : H2 D = none := I2.hok.fresh (Nat.le_of_eq hD)
  obtain ⟨W, ⟨m0, w0⟩, turn⟩ := q D hDn
  -- the new list
  generalize hs3 : ({ s2 with heap := s2.heap.push { cls := .type "list", data := .seq ([] : List Value).toArray } } : Shared) = s3
  have I3 : Inv X pins σ (upd H2 D (.lst [])) s3 := by
    rw [← hs3]
    refine I2.laid (t' := s2.toks) (fun b o e => Heap.get?_push_of_some _ e) (Nat.le_of_eq hD) ⟨Nat.zero_le _, [], 0, .nil, ?_⟩
    rw [← hD]
    exact Heap.get?_push_size _ rfl
  have h3 : s3.heap = s2.heap.push { cls := .type "list", data := .seq ([] : List Value).toArray } := by rw [← hs3]
  have sz : ∀ b ∈ fp, b < s2.heap.objs.size := fun b hb => by
    obtain ⟨o, e, _⟩ := T.obj _ _ st2 b hb
    exact Heap.lt_size e
  have f3 : ∀ b ∈ fp, FpOk X pins (upd H2 D (.lst [])) b ∧ b < s3.heap.objs.size := fun b hb => by
    have hlt := sz b hb
    refine ⟨⟨?_, (f2 b hb).2⟩, by rw [h3, Heap.size_push]; exact Nat.lt_succ_of_lt hlt⟩
    rw [upd_ne (by rw [← hD]; exact Nat.ne_of_lt hlt)]
    exact (f2 b hb).1
  have st3 : tn 0 s3.heap := T.keep _ _ _ st2 fun b _ o e => by rw [h3]; exact Heap.get?_push_of_some _ e
  have I4 := block_start I3 ok hN f3
  have pg := hg s3 (upd H2 D (.lst [])) s3.heap.objs.size (cellsFrom (s3.heap.objs.size + 1) scope.names (cloFrom X.env.cells scope.names [])) fp
  have pt := ht s3 (upd H2 D (.lst [])) s3.heap.objs.size (cellsFrom (s3.heap.objs.size + 1) scope.names (cloFrom X.env.cells scope.names [])) fp
  have pe := he s3 (upd H2 D (.lst [])) s3.heap.objs.size (cellsFrom (s3.heap.objs.size + 1) scope.names (cloFrom X.env.cells scope.names [])) fp
  show codeAny _ _ (.compStart (.ListComp elt [⟨tg, iter, ifs, 0⟩] scope pos) 0 (.ref it) (.ref D) (compEnvC scope (cellsFrom (s3.heap.objs.size + 1) scope.names (cloFrom X.env.cells scope.names [])) s3.heap.objs.size X.env)) (compPost (model X.prog X.w) X.A X.xe use Qf (.ref D) s3.heap.objs.size) { s3 with heap := pushCells (s3.heap.push { cls := .type "dict", data := .dict #[] }) scope.names }
  have nfp : ∀ b ∈ fp, (upd H2 D (.lst [])) b = none := fun b hb => (f3 b hb).1.1
  generalize hce : compEnvC scope (cellsFrom (s3.heap.objs.size + 1) scope.names (cloFrom X.env.cells scope.names [])) s3.heap.objs.size X.env = ce at I4 pg pt pe ⊢
  have cL : ce.locals = s3.heap.objs.size := by subst hce; rfl
  generalize hH3 : upd H2 D (.lst []) = H3 at I3 I4 pg pt pe w0 nfp f3
  generalize hs4 : ({ s3 with heap := pushCells (s3.heap.push { cls := .type "dict", data := .dict #[] }) scope.names } : Shared) = s4 at I4 ⊢
  have st4 : tn 0 s4.heap := T.keep _ _ _ st3 fun b _ o e => by rw [← hs4]; exact pushCells_keeps _ _ _ _ (Heap.get?_push_of_some _ e)
  have stat : ∀ {σ' : St} {H' : Hp} {s' : Shared}, Inv (X.blk s3 H3 scope ce fp) [] σ' H' s' → (∀ b ∈ fp, H' b = none) → ∀ b ∈ fp, FpOk (X.blk s3 H3 scope ce fp) [] H' b := fun {σ' H' s'} I' hn b hb =>
    ⟨hn b hb, (I'.ok.exf b hb).1, I'.ok.exfs b hb, .inl hb, fun x c e => (I'.ok.exf b hb).2 x c e, fun p hp => absurd (show p ∈ ([] : List (Addr × Obj)) ++ [] from hp) (by simp)⟩
  have loop : codeAny (model X.prog X.w) X.A (.compLoop (.ListComp elt [⟨tg, iter, ifs, 0⟩] scope pos) 0 (.ref it) (.ref D) ce) (compPost (model X.prog X.w) X.A X.xe use Qf (.ref D) s3.heap.objs.size) s4 := by
    refine compLoop_any (fun n s' => ∃ i H', Inv (X.blk s3 H3 scope ce fp) [] (wipe σ (own.map (·.2))) H' s' ∧ tn i s'.heap ∧ (∀ b ∈ fp, H' b = none) ∧ W i n H') ?_ m0 ⟨0, H3, I4, st4, nfp, w0⟩
    rintro n s5 ⟨i, H5, I5, st5, n5, w5⟩
    rcases turn i n H5 w5 with ⟨stop, qq⟩ | ⟨go, Nx, hNx, step⟩
    · have td := T.done (X.blk s3 H3 scope ce fp) rfl rfl rfl hc i [] s5 _ H5 (fun _ _ => False) I5 (stat I5 n5) st5 stop
      refine thnF td fun r s6 ⟨hr, I6⟩ => ?_
      subst hr
      -- back in the def's context
      have I7 : Inv X pins σ H5 s6 := I3.call' (ch := fp) I6.os I6.base I6.hok I6.bare fun b hb => ⟨(f3 b hb).1.2.2.2.1, (f3 b hb).1.2.1, (f3 b hb).1.2.2.2.2.1, (f3 b hb).1.2.2.2.2.2⟩
      have nC : H5 s3.heap.objs.size = none := by
        have z : H5 ce.locals = none := I6.free
        rw [cL] at z
        exact z
      obtain ⟨m, hn, _⟩ := I6.loc
      have hn : s6.heap.Ns ce.locals m := hn
      rw [cL] at hn
      exact hRR D s3.heap.objs.size s6 m H5 I7 qq hn (I3.fpOk (Nat.le_refl _) nC)
    · have ti := T.item (X.blk s3 H3 scope ce fp) rfl rfl rfl hc i [] s5 _ H5 (fun _ _ => False) I5 (stat I5 n5) st5 go
      refine thnF ti fun r s6 ⟨u, hr, h6⟩ => ?_
      subst hr
      refine thnF h6 fun _ s7 ⟨x, H7, I7, r7, y7, st7, n7⟩ => ?_
      have I7' := I7.pinned (stat I7 n7) (T.obj _ _ st7)
      refine thnF (pg _ s7 _ H7 x u _ I7' r7 (step x H7 y7)) fun _ s8 ⟨σ8, H8, I8, hw8, q8⟩ => ?_
      refine thnF (pt _ s8 σ8 H8 _ I8 q8) fun b s9 ⟨H9, I9, q9⟩ => ?_
      -- the turn's end
      have fin : ∀ {s' : Shared} {H' : Hp}, Inv (X.blk s3 H3 scope ce fp) ([] ++ pinsAt fp s7.heap) σ8 H' s' → Nx H' → ∃ m, m < n ∧ ∃ i H', Inv (X.blk s3 H3 scope ce fp) [] (wipe σ (own.map (·.2))) H' s' ∧ tn i s'.heap ∧ (∀ b ∈ fp, H' b = none) ∧ W i m H' := fun {s' H'} I' nx => by
        obtain ⟨m', hm, w'⟩ := hNx H' nx
        have pin' : ∀ b ∈ fp, ∀ o, s7.heap.get? b = some o → s'.heap.get? b = some o ∧ H' b = none := fun b hb o e =>
          let z := I'.pin (b, o) (List.mem_append_right _ (List.mem_append_right _ (mem_pinsAt hb e)))
          ⟨z.1, z.2.1⟩
        have hl : (wipe σ (own.map (·.2))).length = σ8.length := by rw [← hw8, wipe_length]
        refine ⟨m', hm, i + 1, H', (I'.unpinned (pins := [])).weak hl (fun j v e => ?_), T.keep _ _ _ st7 fun b hb o e => (pin' b hb o e).1, fun b hb => ?_, w'⟩
        · rw [← hw8] at e
          exact (wipe_some e).1
        · obtain ⟨o, e, _⟩ := T.obj _ _ st7 b hb
          exact (pin' b hb o e).2
      cases b with
      | false =>
        simp only [Bool.false_eq_true, if_false] at q9 ⊢
        exact fin I9 q9
      | true =>
        simp only [if_true] at q9 ⊢
        refine thnF (pe _ s9 σ8 H9 _ I9 q9) fun z s10 ⟨yv, H10, I10, r10, acc, hD10, hz10, nx⟩ => ?_
        exact app_ok (X := X.blk s3 H3 scope ce fp) I10 hD10 hz10 r10 fun s11 I11 => fin I11 nx
  exact codeAny_compStart_list loop (T.self X.A 0 _ _ _ st4 loop)
/-- as a value -/
theorem pe_lc {elt tg iter : Expr} {ifs : List Expr} {scope : Scope} {own : List (Str × Nat)} {pos : Pos} {wi : TI} {g : TG} {tt : TT} {te : TE} (hc : X.calm = true) (hN : X.N.Nodup) (hi : PI X tg iter wi) (ok : BlkOk X.N X.env.scope scope own)
    (hg : ∀ (s : Shared) (H : Hp) (C : Addr) (cl : List (Str × Addr)) (fp : List Addr), PG (X.blk s H scope (compEnvC scope cl C X.env) fp) tg g) (ht : ∀ (s : Shared) (H : Hp) (C : Addr) (cl : List (Str × Addr)) (fp : List Addr), PTs (X.blk s H scope (compEnvC scope cl C X.env) fp) ifs tt)
    (he : ∀ (s : Shared) (H : Hp) (C : Addr) (cl : List (Str × Addr)) (fp : List Addr), PE (X.blk s H scope (compEnvC scope cl C X.env) fp) elt te) (hs : ∀ x, foldedSetIterable iter X.env x = pure x := by intro _; rfl) :
    PE X (.ListComp elt [⟨tg, iter, ifs, 0⟩] scope pos) (tLc wi g tt te (own.map (·.2))) := by
  intro pins s σ H Q I h
  rw [eval_ListComp]
  refine lc_core hc hN I hi ok hg ht he hs h fun D C s' m H' I' q hn f => ⟨m, hn, fun h'' sb => ?_⟩
  obtain ⟨f0, f1, f2, f3, f4, f5⟩ := f
  exact ⟨.ref D, H', I'.turned (t' := s'.toks) (fun b o hb e => (sb.2 b hb).trans e) f0 f1 f3 f4 f5, rfl, q⟩
/-- name = [..] on one line, the name a local -/
theorem ps_setLc {i : Nat} {y : Str} {py : Pos} {elt tg iter : Expr} {ifs : List Expr} {scope : Scope} {own : List (Str × Nat)} {pos spos : Pos} {wi : TI} {g : TG} {tt : TT} {te : TE} (hc : X.calm = true) (hN : X.N.Nodup) (hy : X.N[i]? = some y) (hyl : X.env.scope.names.lookup y = some .local)
    (hsw : swapsWith (.ListComp elt [⟨tg, iter, ifs, 0⟩] scope pos) (some (.Name y py)) spos.line X.env = pure true) (hi : PI X tg iter wi) (ok : BlkOk X.N X.env.scope scope own)
    (hg : ∀ (s : Shared) (H : Hp) (C : Addr) (cl : List (Str × Addr)) (fp : List Addr), PG (X.blk s H scope (compEnvC scope cl C X.env) fp) tg g) (ht : ∀ (s : Shared) (H : Hp) (C : Addr) (cl : List (Str × Addr)) (fp : List Addr), PTs (X.blk s H scope (compEnvC scope cl C X.env) fp) ifs tt)
    (he : ∀ (s : Shared) (H : Hp) (C : Addr) (cl : List (Str × Addr)) (fp : List Addr), PE (X.blk s H scope (compEnvC scope cl C X.env) fp) elt te) (hs : ∀ x, foldedSetIterable iter X.env x = pure x := by intro _; rfl) :
    PS X (.Assign [.Name y py] (.ListComp elt [⟨tg, iter, ifs, 0⟩] scope pos) spos) (tAsg (tLc wi g tt te (own.map (·.2))) (gName i)) := by
  intro pins s σ H D I h
  rw [exec_Assign_Name_used _ _ _ _ hsw]
  refine wpAny_bind (wpAny_standAt (wpAny_bind ?_))
  show wpAny _ X.A (do let _ ← comprehension (.ListComp elt [⟨tg, iter, ifs, 0⟩] scope pos) scope X.env (firstIterPos [⟨tg, iter, ifs, 0⟩] pos) (newList []) false (eval iter X.env) (some (assign (.Name y py) X.env))) _ _ s
  have h : tLc wi g tt te (own.map (·.2)) σ H (fun x H1 => gName i x σ H1 D.nx) := h
  refine wpAny_bind (thn (lc_core (Qf := fun _ s' => SP X pins D .next s') hc hN I hi ok hg ht he hs h fun L C s' m H' I' q hn f => ?_) fun _ s' hq => wpAny_pure (wpAny_pure hq))
  show wpAny _ _ (assign (.Name y py) X.env (.ref L)) _ _ _
  refine wpAny_assign_Name (store_ok2 (v := V.ref L) I' hN hy (.inl hyl) rfl (fun s2 I2 ⟨a, sb, ha⟩ => ?_) (.inr hyl))
  obtain ⟨f0, f1, f2, f3, f4, f5⟩ := f
  have haC : C ≠ a := by
    rcases ha with z | z
    · rw [z]; exact f1
    · exact fun e => f4 y a z e.symm
  refine ⟨m, hn.sameBut sb haC, fun h3 sb3 => ?_⟩
  exact ⟨_, H', I2.turned (t' := s2.toks) (fun b o hb e => (sb3.2 b hb).trans e) f0 f1 f3 f4 f5, q⟩
theorem sw_true {elt : Expr} {gs : List Comprehension} {scope : Scope} {pos py : Pos} {y : Str} {l : Nat} {env : Env} (hk : env.scope.kind = .function) (hy : env.scope.names.lookup y = some .local) (hl : (py.line == pos.line) = true)
    (ha : (scope.names.any fun (n, k) => n == y && (k == .local || k == .cell)) = false) : swapsWith (.ListComp elt gs scope pos) (some (.Name y py)) l env = pure true := by
  have ky : env.kindOf y = some .local := hy
  have hb : env.blockKind = .function := by unfold Env.blockKind; rw [hk]; rfl
  unfold swapsWith
  simp only [hb, ky, ha, Expr.pos, hl]
  rfl
end

/-! ### the forms one uses -/
/-- over a range: Pv by the turn and the heap (the new list at D within) -/
theorem lc_range {lo : Int} {n : Nat} {g : TG} {tt : TT} {te : TE} {vs : List Nat} {σ : St} {H1 : Hp} {D : Addr} {Qd : Hp → Prop} (Pv : Nat → Hp → Prop) (h0 : Pv 0 (upd H1 D (.lst [])))
    (hs : ∀ i H, i < n → Pv i H → g (.int (lo + i)) (wipe σ vs) H fun σ2 H2 => wipe σ2 vs = wipe σ vs ∧ tt σ2 H2 fun b H3 =>
      if b = true then te σ2 H3 fun y H4 => ∃ acc, H4 D = some (.lst acc) ∧ acc.length < sizeLine ∧ Pv (i + 1) (upd H4 D (.lst (acc ++ [y]))) else Pv (i + 1) H3) (hd : ∀ H, Pv n H → Qd H) :
    ∃ W : Nat → Nat → Hp → Prop, (∃ m, W 0 m (upd H1 D (.lst []))) ∧ ∀ i m H, W i m H →
      ((Itr lo n).stop i H ∧ Qd H) ∨ ((Itr lo n).go i H ∧ ∃ Nx : Hp → Prop, (∀ H', Nx H' → ∃ m', m' < m ∧ W (i + 1) m' H') ∧ ∀ x H', (Itr lo n).yld i H x H' → g x (wipe σ vs) H' fun σ2 H2 => wipe σ2 vs = wipe σ vs ∧ tt σ2 H2 fun b H3 =>
        if b = true then te σ2 H3 fun y H4 => ∃ acc, H4 D = some (.lst acc) ∧ acc.length < sizeLine ∧ Nx (upd H4 D (.lst (acc ++ [y]))) else Nx H3) := by
  refine ⟨fun i m H => m = n - i ∧ i ≤ n ∧ Pv i H, ⟨n, by simp, Nat.zero_le _, h0⟩, ?_⟩
  rintro i m H ⟨rfl, hi, p⟩
  by_cases hlt : i < n
  · refine .inr ⟨hlt, Pv (i + 1), fun H' p' => ⟨n - (i + 1), by omega, rfl, hlt, p'⟩, fun x H' y => ?_⟩
    obtain ⟨e, y⟩ := y
    subst e y
    exact hs i _ hlt p
  · have e : i = n := by omega
    subst e
    exact .inl ⟨Nat.le_refl _, hd H p⟩
/-- over a list that the block leaves as it is -/
theorem lc_list {K : PySem.W.Frag} {a : Addr} {xs : List V} {g : TG} {tt : TT} {te : TE} {vs : List Nat} {σ : St} {H1 : Hp} {D : Addr} {Qd : Hp → Prop} (Pv : Nat → Hp → Prop) (h0 : Pv 0 (upd H1 D (.lst []))) (hl : ∀ i H, i ≤ xs.length → Pv i H → SqL K H a xs)
    (hs : ∀ i x H, xs[i]? = some x → Pv i H → g x (wipe σ vs) H fun σ2 H2 => wipe σ2 vs = wipe σ vs ∧ tt σ2 H2 fun b H3 =>
      if b = true then te σ2 H3 fun y H4 => ∃ acc, H4 D = some (.lst acc) ∧ acc.length < sizeLine ∧ Pv (i + 1) (upd H4 D (.lst (acc ++ [y]))) else Pv (i + 1) H3) (hd : ∀ H, Pv xs.length H → Qd H) :
    ∃ W : Nat → Nat → Hp → Prop, (∃ m, W 0 m (upd H1 D (.lst []))) ∧ ∀ i m H, W i m H →
      ((Itl K a).stop i H ∧ Qd H) ∨ ((Itl K a).go i H ∧ ∃ Nx : Hp → Prop, (∀ H', Nx H' → ∃ m', m' < m ∧ W (i + 1) m' H') ∧ ∀ x H', (Itl K a).yld i H x H' → g x (wipe σ vs) H' fun σ2 H2 => wipe σ2 vs = wipe σ vs ∧ tt σ2 H2 fun b H3 =>
        if b = true then te σ2 H3 fun y H4 => ∃ acc, H4 D = some (.lst acc) ∧ acc.length < sizeLine ∧ Nx (upd H4 D (.lst (acc ++ [y]))) else Nx H3) := by
  refine ⟨fun i m H => m = xs.length - i ∧ i ≤ xs.length ∧ Pv i H, ⟨xs.length, by simp, Nat.zero_le _, h0⟩, ?_⟩
  rintro i m H ⟨rfl, hi, p⟩
  have q := hl i H hi p
  by_cases hlt : i < xs.length
  · refine .inr ⟨⟨xs, xs[i], q, by simp [hlt]⟩, Pv (i + 1), fun H' p' => ⟨xs.length - (i + 1), by omega, rfl, hlt, p'⟩, fun x H' y => ?_⟩
    obtain ⟨e, y⟩ := y
    subst e
    exact hs i x _ (y xs q) p
  · have e : i = xs.length := by omega
    subst e
    exact .inl ⟨⟨xs, q, Nat.le_refl _⟩, hd H p⟩
/-- over a tuple -/
theorem lc_tup {K : PySem.W.Frag} {a : Addr} {xs : List V} {g : TG} {tt : TT} {te : TE} {vs : List Nat} {σ : St} {H1 : Hp} {D : Addr} {Qd : Hp → Prop} (Pv : Nat → Hp → Prop) (h0 : Pv 0 (upd H1 D (.lst []))) (hl : ∀ i H, i ≤ xs.length → Pv i H → SqT K H a xs)
    (hs : ∀ i x H, xs[i]? = some x → Pv i H → g x (wipe σ vs) H fun σ2 H2 => wipe σ2 vs = wipe σ vs ∧ tt σ2 H2 fun b H3 =>
      if b = true then te σ2 H3 fun y H4 => ∃ acc, H4 D = some (.lst acc) ∧ acc.length < sizeLine ∧ Pv (i + 1) (upd H4 D (.lst (acc ++ [y]))) else Pv (i + 1) H3) (hd : ∀ H, Pv xs.length H → Qd H) :
    ∃ W : Nat → Nat → Hp → Prop, (∃ m, W 0 m (upd H1 D (.lst []))) ∧ ∀ i m H, W i m H →
      ((Itt K a).stop i H ∧ Qd H) ∨ ((Itt K a).go i H ∧ ∃ Nx : Hp → Prop, (∀ H', Nx H' → ∃ m', m' < m ∧ W (i + 1) m' H') ∧ ∀ x H', (Itt K a).yld i H x H' → g x (wipe σ vs) H' fun σ2 H2 => wipe σ2 vs = wipe σ vs ∧ tt σ2 H2 fun b H3 =>
        if b = true then te σ2 H3 fun y H4 => ∃ acc, H4 D = some (.lst acc) ∧ acc.length < sizeLine ∧ Nx (upd H4 D (.lst (acc ++ [y]))) else Nx H3) := by
  refine ⟨fun i m H => m = xs.length - i ∧ i ≤ xs.length ∧ Pv i H, ⟨xs.length, by simp, Nat.zero_le _, h0⟩, ?_⟩
  rintro i m H ⟨rfl, hi, p⟩
  have q := hl i H hi p
  by_cases hlt : i < xs.length
  · refine .inr ⟨⟨xs, xs[i], q, by simp [hlt]⟩, Pv (i + 1), fun H' p' => ⟨xs.length - (i + 1), by omega, rfl, hlt, p'⟩, fun x H' y => ?_⟩
    obtain ⟨e, y⟩ := y
    subst e
    exact hs i x _ (y xs q) p
  · have e : i = xs.length := by omega
    subst e
    exact .inl ⟨⟨xs, q, Nat.le_refl _⟩, hd H p⟩
def blkC (N : List Str) (sc scope : Scope) (own : List (Str × Nat)) : Bool :=
  (match scope.kind with | .function => true | _ => false) && (scope.names.all fun y => decide (scope.names.lookup y.1 = some y.2)) && (own.all fun p => decide (N[p.2]? = some p.1)) &&
    (scope.names.all fun y => match y.2 with
      | .free => (match sc.names.lookup y.1 with | some .cell => true | some .free => true | _ => false)
      | .local => decide (y.1 ∈ own.map (·.1)) || decide (y.1 ∉ N)
      | .cell => decide (y.1 ∈ own.map (·.1)) || decide (y.1 ∉ N)
      | _ => true)
theorem blkOk_by {N : List Str} {sc scope : Scope} {own : List (Str × Nat)} (h : blkC N sc scope own = true) : BlkOk N sc scope own := by
  unfold blkC at h
  simp only [Bool.and_eq_true, List.all_eq_true, decide_eq_true_eq] at h
  obtain ⟨⟨⟨h1, h2⟩, h3⟩, h4⟩ := h
  refine ⟨?_, h2, h3, fun y hy e => ?_, fun y hy e => ?_⟩
  · split at h1
    · assumption
    · cases h1
  · have q := h4 y hy
    simp only [e] at q
    split at q <;> first | exact .inl (by assumption) | exact .inr (by assumption) | cases q
  · have q := h4 y hy
    rcases e with e | e <;> (simp only [e, Bool.or_eq_true, decide_eq_true_eq] at q; exact q)
end L2

namespace L2
open PySem PySem.Spec PyProof.Rows

theorem compTurn2_out (elt t0 i0 t1 i1 : Expr) (ifs0 ifs1 : List Expr) (scope : Scope) (pos : Pos) (it acc : Value) (env : Env) :
    compTurn (.ListComp elt [⟨t0, i0, ifs0, 0⟩, ⟨t1, i1, ifs1, 0⟩] scope pos) 0 it acc env = (do
      standAt i0.pos
      match ← pyNext it with
      | none => pure (.done .next)
      | some v =>
        letOwnedTupleGo t0 it v
        assign t0 env v
        let mut ok := true
        for c in ifs0 do
          if ok then ok ← isTrue c env (eval c env)
        if ok then
          let x ← eval i1 env
          standAt i1.pos
          let x ← foldedSetIterable i1 env x
          let _ ← runOwn (.compStart (.ListComp elt [⟨t0, i0, ifs0, 0⟩, ⟨t1, i1, ifs1, 0⟩] scope pos) 1 (← holding [x] (pyIter x)) acc env) env
        again (.compLoop (.ListComp elt [⟨t0, i0, ifs0, 0⟩, ⟨t1, i1, ifs1, 0⟩] scope pos) 0 it acc env)) := by rfl
theorem compTurn2_in (elt t0 i0 t1 i1 : Expr) (ifs0 ifs1 : List Expr) (scope : Scope) (pos : Pos) (it acc : Value) (env : Env) :
    compTurn (.ListComp elt [⟨t0, i0, ifs0, 0⟩, ⟨t1, i1, ifs1, 0⟩] scope pos) 1 it acc env = (do
      standAt i1.pos
      match ← pyNext it with
      | none => pure (.done .next)
      | some v =>
        letOwnedTupleGo t1 it v
        assign t1 env v
        let mut ok := true
        for c in ifs1 do
          if ok then ok ← isTrue c env (eval c env)
        if ok then
          (do let _ ← call (.builtin "list.append") [acc, ← eval elt env])
        again (.compLoop (.ListComp elt [⟨t0, i0, ifs0, 0⟩, ⟨t1, i1, ifs1, 0⟩] scope pos) 1 it acc env)) := by rfl

section
variable {prog : Program} {w : World} {A : Around} {R : Result → Shared → Prop} {s : Shared} {elt t0 i0 t1 i1 : Expr} {ifs0 ifs1 : List Expr} {scope : Scope} {pos : Pos} {it acc : Value} {env : Env}
/-- the loop of the first clause -/
theorem compLoop2_out (hs : ∀ x, foldedSetIterable i1 env x = pure x) (I : Nat → Shared → Prop)
    (turn : ∀ n s, I n s → wpAny (model prog w) A (pyNext it) (fun r s₁ => match r with
      | none => R (.ok .next) s₁
      | some v => wpAny (model prog w) A (letOwnedTupleGo t0 it v) (fun _ s₁' => wpAny (model prog w) A (assign t0 env v) (fun _ s₂ =>
          wpAny (model prog w) A (forIn ifs0 true fun c r => if r = true then do let ok ← isTrue c env (eval c env); pure (ForInStep.yield ok) else pure (ForInStep.yield r)) (fun ok s₃ =>
            if ok = true then wpAny (model prog w) A (eval i1 env) (fun x s₄ => wpAny (model prog w) A (pyIter x) (fun it1 s₅ =>
              codeAny (model prog w) A (.compStart (.ListComp elt [⟨t0, i0, ifs0, 0⟩, ⟨t1, i1, ifs1, 0⟩] scope pos) 1 it1 acc env) (fun r s' => match r with
                | .ok _ => ∃ m, m < n ∧ I m s'
                | .error _ => False) s₅) (notedBy (model prog w) A env fun e s' => R (.error e) s') s₄) (notedBy (model prog w) A env fun e s' => R (.error e) s') s₃
            else ∃ m, m < n ∧ I m s₃) (notedBy (model prog w) A env fun e s' => R (.error e) s') s₂) (notedBy (model prog w) A env fun e s' => R (.error e) s') s₁') (notedBy (model prog w) A env fun e s' => R (.error e) s') s₁) (notedBy (model prog w) A env fun e s' => R (.error e) s') s)
    (n : Nat) (h : I n s) :
    codeAny (model prog w) A (.compLoop (.ListComp elt [⟨t0, i0, ifs0, 0⟩, ⟨t1, i1, ifs1, 0⟩] scope pos) 0 it acc env) R s := by
  refine codeAny_loop rfl I (fun n s hI => ?_) n h
  show wpAny _ A ((compTurn (.ListComp elt [⟨t0, i0, ifs0, 0⟩, ⟨t1, i1, ifs1, 0⟩] scope pos) 0 it acc env).onRaise (fun x => do noteFrame x env; theTreesLotGoes x)) _ _ s
  refine wpAny_noted ?_
  rw [compTurn2_out]
  refine wpAny_bind (wpAny_standAt (wpAny_bind (wpAny_mono (turn n s hI) (fun r s₁ h₁ => ?_) fun _ _ h' => h')))
  cases r with
  | none => exact wpAny_pure h₁
  | some v =>
    refine wpAny_bind (wpAny_mono h₁ (fun _ s₁' h₁' => ?_) fun _ _ h' => h')
    refine wpAny_bind (wpAny_mono h₁' (fun _ s₂ h₂ => wpAny_bind (wpAny_mono h₂ (fun ok s₃ h₃ => ?_) fun _ _ h' => h')) fun _ _ h' => h')
    cases ok with
    | false => exact wpAny_pure ⟨rfl, h₃⟩
    | true =>
      refine wpAny_bind (wpAny_mono h₃ (fun x s₄ h₄ => ?_) fun _ _ h' => h')
      refine wpAny_bind (wpAny_standAt (wpAny_bind (wpAny_of_eq (hs x) (wpAny_bind (wpAny_holding (wpAny_mono h₄ (fun it1 s₅ h₅ => ?_) fun _ _ h' => h'))))))
      refine wpAny_bind (wpAny_runOwn ?_)
      rw [Around.mark_none]
      refine codeAny_mono h₅ fun r s' hr => ?_
      cases r with
      | ok f =>
        first
          | exact wpAny_pure ⟨rfl, hr⟩
          | exact wpAny_bind (wpAny_pure (wpAny_pure ⟨rfl, hr⟩))
      | error e => exact hr.elim
/-- the loop of the second -/
theorem compLoop2_in (I : Nat → Shared → Prop)
    (turn : ∀ n s, I n s → wpAny (model prog w) A (pyNext it) (fun r s₁ => match r with
      | none => R (.ok .next) s₁
      | some v => wpAny (model prog w) A (letOwnedTupleGo t1 it v) (fun _ s₁' => wpAny (model prog w) A (assign t1 env v) (fun _ s₂ =>
          wpAny (model prog w) A (forIn ifs1 true fun c r => if r = true then do let ok ← isTrue c env (eval c env); pure (ForInStep.yield ok) else pure (ForInStep.yield r)) (fun ok s₃ =>
            if ok = true then wpAny (model prog w) A (eval elt env) (fun x s₄ =>
              wpAny (model prog w) A (call (.builtin "list.append") [acc, x]) (fun _ s₅ => ∃ m, m < n ∧ I m s₅) (notedBy (model prog w) A env fun e s' => R (.error e) s') s₄) (notedBy (model prog w) A env fun e s' => R (.error e) s') s₃
            else ∃ m, m < n ∧ I m s₃) (notedBy (model prog w) A env fun e s' => R (.error e) s') s₂) (notedBy (model prog w) A env fun e s' => R (.error e) s') s₁') (notedBy (model prog w) A env fun e s' => R (.error e) s') s₁) (notedBy (model prog w) A env fun e s' => R (.error e) s') s)
    (n : Nat) (h : I n s) :
    codeAny (model prog w) A (.compLoop (.ListComp elt [⟨t0, i0, ifs0, 0⟩, ⟨t1, i1, ifs1, 0⟩] scope pos) 1 it acc env) R s := by
  refine codeAny_loop rfl I (fun n s hI => ?_) n h
  show wpAny _ A ((compTurn (.ListComp elt [⟨t0, i0, ifs0, 0⟩, ⟨t1, i1, ifs1, 0⟩] scope pos) 1 it acc env).onRaise (fun x => do noteFrame x env; theTreesLotGoes x)) _ _ s
  refine wpAny_noted ?_
  rw [compTurn2_in]
  refine wpAny_bind (wpAny_standAt (wpAny_bind (wpAny_mono (turn n s hI) (fun r s₁ h₁ => ?_) fun _ _ h' => h')))
  cases r with
  | none => exact wpAny_pure h₁
  | some v =>
    refine wpAny_bind (wpAny_mono h₁ (fun _ s₁' h₁' => ?_) fun _ _ h' => h')
    refine wpAny_bind (wpAny_mono h₁' (fun _ s₂ h₂ => wpAny_bind (wpAny_mono h₂ (fun ok s₃ h₃ => ?_) fun _ _ h' => h')) fun _ _ h' => h')
    cases ok with
    | false => exact wpAny_pure ⟨rfl, h₃⟩
    | true =>
      exact wpAny_bind (wpAny_bind (wpAny_mono h₃ (fun x s₄ h₄ => wpAny_bind (wpAny_mono h₄ (fun _ s₅ h₅ => wpAny_pure (wpAny_pure ⟨rfl, h₅⟩)) fun _ _ h' => h')) fun _ _ h' => h'))
/-- the second clause's start -/
theorem compStart1_ok (h0 : codeAny (model prog w) A (.compLoop (.ListComp elt [⟨t0, i0, ifs0, 0⟩, ⟨t1, i1, ifs1, 0⟩] scope pos) 1 it acc env) R s)
    (h : wpAny (model prog w) A (pyIter it) (fun it' s' => codeAny (model prog w) A (.compLoop (.ListComp elt [⟨t0, i0, ifs0, 0⟩, ⟨t1, i1, ifs1, 0⟩] scope pos) 1 it' acc env) R s')
      (notedBy (model prog w) A env fun x s' => R (.error x) s') s) :
    codeAny (model prog w) A (.compStart (.ListComp elt [⟨t0, i0, ifs0, 0⟩, ⟨t1, i1, ifs1, 0⟩] scope pos) 1 it acc env) R s := by
  refine codeAny_of_tree ?_
  show wpAny _ _ ((compStart (.ListComp elt [⟨t0, i0, ifs0, 0⟩, ⟨t1, i1, ifs1, 0⟩] scope pos) 1 it acc env).onRaise (fun x => do noteFrame x env; standAt theWindowsPlace)) _ _ s
  refine wpAny_notedAt ?_
  unfold compStart
  show wpAny _ _ (ask >>= _) _ _ s
  refine wpAny_bind (wpAny_askSetting (wpAny_ite ?_))
  split
  · first
      | exact wpAny_bind (wpAny_pure (wpAny_pure (And.intro rfl h0)))
      | exact wpAny_pure (And.intro rfl h0)
  · first
      | exact wpAny_bind (wpAny_rule (wpAny_bind (wpAny_standAt (wpAny_bind (wpAny_mono h (fun it' s' h' => wpAny_pure (And.intro rfl h')) fun _ _ x => x)))))
      | (refine wpAny_bind (wpAny_rule ?_); show wpAny _ _ (standAt i1.pos >>= _) _ _ s; exact wpAny_bind (wpAny_standAt (wpAny_bind (wpAny_mono h (fun it' s' h' => wpAny_pure (And.intro rfl h')) fun _ _ x => x))))
end

theorem wipe_out {σ : St} {i : Nat} : ∀ {vs : List Nat}, i ∉ vs → (wipe σ vs)[i]? = σ[i]?
  | [], _ => rfl
  | v :: vs, h => by
    have h1 : v ≠ i := fun e => h (by rw [e]; exact List.mem_cons_self)
    have h2 : i ∉ vs := fun m => h (List.mem_cons_of_mem _ m)
    unfold wipe
    rw [List.getElem?_set_ne h1]
    exact wipe_out h2
section
variable {X : Cx}
/-- [elt for tg in iter if .. for tg1 in iter1 if ..]: behind the first clause's store and tests the second source's own loop, from which Nx is reached. vs: the block's names; vs1: those of the second target -/
def tLc2 (wi : TI) (g : TG) (tt : TT) (wi1 : TI) (g1 : TG) (tt1 : TT) (te : TE) (vs vs1 : List Nat) : TE := fun σ H Q => wi σ H fun J H1 => ∀ D, H1 D = none → ∃ W : Nat → Nat → Hp → Prop, (∃ m, W 0 m (upd H1 D (.lst []))) ∧ ∀ i m H, W i m H →
  (J.stop i H ∧ Q (.ref D) H) ∨ (J.go i H ∧ ∃ Nx : Hp → Prop, (∀ H', Nx H' → ∃ m', m' < m ∧ W (i + 1) m' H') ∧ ∀ x H', J.yld i H x H' → g x (wipe σ vs) H' fun σ2 H2 => wipe σ2 vs = wipe σ vs ∧ tt σ2 H2 fun b H3 =>
    if b = true then wi1 σ2 H3 fun J1 H4 => ∃ W1 : Nat → Nat → Hp → Prop, (∃ m, W1 0 m H4) ∧ ∀ j k H, W1 j k H →
      (J1.stop j H ∧ Nx H) ∨ (J1.go j H ∧ ∃ Nx1 : Hp → Prop, (∀ H', Nx1 H' → ∃ k', k' < k ∧ W1 (j + 1) k' H') ∧ ∀ x H', J1.yld j H x H' → g1 x (wipe σ2 vs1) H' fun σ3 H5 => wipe σ3 vs1 = wipe σ2 vs1 ∧ tt1 σ3 H5 fun b H6 =>
        if b = true then te σ3 H6 fun y H7 => ∃ acc, H7 D = some (.lst acc) ∧ acc.length < sizeLine ∧ Nx1 (upd H7 D (.lst (acc ++ [y]))) else Nx1 H6)
    else Nx H3)
theorem lc2_core {pins : List (Addr × Obj)} {s : Shared} {σ : St} {H : Hp} {Q : VK} {elt tg iter tg1 iter1 : Expr} {ifs ifs1 : List Expr} {scope : Scope} {own : List (Str × Nat)} {vs1 : List Nat} {pos pos' : Pos} {wi wi1 : TI} {g g1 : TG} {tt tt1 : TT} {te : TE} {use : Option (Value → Sem Unit)} {Qf : Value → Shared → Prop}
    (hc : X.calm = true) (hN : X.N.Nodup) (I : Inv X pins σ H s) (hi : PI X tg iter wi) (ok : BlkOk X.N X.env.scope scope own) (hv : ∀ i ∈ vs1, i ∈ own.map (·.2))
    (hg : ∀ (s : Shared) (H : Hp) (C : Addr) (cl : List (Str × Addr)) (fp : List Addr), PG (X.blk s H scope (compEnvC scope cl C X.env) fp) tg g) (ht : ∀ (s : Shared) (H : Hp) (C : Addr) (cl : List (Str × Addr)) (fp : List Addr), PTs (X.blk s H scope (compEnvC scope cl C X.env) fp) ifs tt)
    (he : ∀ (s : Shared) (H : Hp) (C : Addr) (cl : List (Str × Addr)) (fp : List Addr), PE (X.blk s H scope (compEnvC scope cl C X.env) fp) elt te) (hs : ∀ x, foldedSetIterable iter X.env x = pure x)
    (hi1 : ∀ (s : Shared) (H : Hp) (C : Addr) (cl : List (Str × Addr)) (fp : List Addr), PI (X.blk s H scope (compEnvC scope cl C X.env) fp) tg1 iter1 wi1)
    (hg1 : ∀ (s : Shared) (H : Hp) (C : Addr) (cl : List (Str × Addr)) (fp : List Addr), PG (X.blk s H scope (compEnvC scope cl C X.env) fp) tg1 g1)
    (ht1 : ∀ (s : Shared) (H : Hp) (C : Addr) (cl : List (Str × Addr)) (fp : List Addr), PTs (X.blk s H scope (compEnvC scope cl C X.env) fp) ifs1 tt1)
    (hs1 : ∀ env x, foldedSetIterable iter1 env x = pure x)
    (h : tLc2 wi g tt wi1 g1 tt1 te (own.map (·.2)) vs1 σ H Q)
    (hRR : ∀ D C s' m H', Inv X pins σ H' s' → Q (.ref D) H' → s'.heap.Ns C m → FpOk X pins H' C → compPost (model X.prog X.w) X.A X.xe use Qf (.ref D) C (.ok .next) s') :
    wpAny (model X.prog X.w) X.A (comprehension (.ListComp elt [⟨tg, iter, ifs, 0⟩, ⟨tg1, iter1, ifs1, 0⟩] scope pos) scope X.env pos' (newList []) false (eval iter X.env) use) Qf X.xe s := by
  have hfree : ∀ y ∈ scope.names, y.2 = .free → ∃ c, X.env.cells.lookup y.1 = some c := fun y hy e => by
    rcases ok.free y hy e with k | k
    · exact I.ok.has _ (.inl k)
    · exact I.ok.has _ (.inr k)
  refine wpAny_comprehension_free (use := use) rfl hs (closure_ok hfree) ok.kind (fun y hy e => by rw [ok.uniq y hy, e])
    (thn (hi pins s σ H _ I h) fun xv s1 hx => thn hx fun itv s2 h2 => ?_)
  obtain ⟨it, fp, tn, J, H2, e, I2, T, st2, f2, q⟩ := h2
  subst e
  refine wpAny_newObj_type (newEnv_comp ?_) (by show 0 ≤ sizeLine; decide)
  generalize hD : s2.heap.objs.size = D
  have hDn : H2 D = none := I2.hok.fresh (Nat.le_of_eq hD)
  obtain ⟨W, ⟨m0, w0⟩, turn⟩ := q D hDn
  -- the new list
  generalize hs3 : ({ s2 with heap := s2.heap.push { cls := .type "list", data := .seq ([] : List Value).toArray } } : Shared) = s3
  have I3 : Inv X pins σ (upd H2 D (.lst [])) s3 := by
    rw [← hs3]
    refine I2.laid (t' := s2.toks) (fun b o e => Heap.get?_push_of_some _ e) (Nat.le_of_eq hD) ⟨Nat.zero_le _, [], 0, .nil, ?_⟩
    rw [← hD]
    exact Heap.get?_push_size _ rfl
  have h3 : s3.heap = s2.heap.push { cls := .type "list", data := .seq ([] : List Value).toArray } := by rw [← hs3]
  have sz : ∀ b ∈ fp, b < s2.heap.objs.size := fun b hb => by
    obtain ⟨o, e, _⟩ := T.obj _ _ st2 b hb
    exact Heap.lt_size e
  have f3 : ∀ b ∈ fp, FpOk X pins (upd H2 D (.lst [])) b ∧ b < s3.heap.objs.size := fun b hb => by
    have hlt := sz b hb
    refine ⟨⟨?_, (f2 b hb).2⟩, by rw [h3, Heap.size_push]; exact Nat.lt_succ_of_lt hlt⟩
    rw [upd_ne (by rw [← hD]; exact Nat.ne_of_lt hlt)]
    exact (f2 b hb).1
  have st3 : tn 0 s3.heap := T.keep _ _ _ st2 fun b _ o e => by rw [h3]; exact Heap.get?_push_of_some _ e
  have I4 := block_start I3 ok hN f3
  have pg := hg s3 (upd H2 D (.lst [])) s3.heap.objs.size (cellsFrom (s3.heap.objs.size + 1) scope.names (cloFrom X.env.cells scope.names [])) fp
  have pt := ht s3 (upd H2 D (.lst [])) s3.heap.objs.size (cellsFrom (s3.heap.objs.size + 1) scope.names (cloFrom X.env.cells scope.names [])) fp
  have pe := he s3 (upd H2 D (.lst [])) s3.heap.objs.size (cellsFrom (s3.heap.objs.size + 1) scope.names (cloFrom X.env.cells scope.names [])) fp
  have pi1 := hi1 s3 (upd H2 D (.lst [])) s3.heap.objs.size (cellsFrom (s3.heap.objs.size + 1) scope.names (cloFrom X.env.cells scope.names [])) fp
  have pg1 := hg1 s3 (upd H2 D (.lst [])) s3.heap.objs.size (cellsFrom (s3.heap.objs.size + 1) scope.names (cloFrom X.env.cells scope.names [])) fp
  have pt1 := ht1 s3 (upd H2 D (.lst [])) s3.heap.objs.size (cellsFrom (s3.heap.objs.size + 1) scope.names (cloFrom X.env.cells scope.names [])) fp
  show codeAny _ _ (.compStart (.ListComp elt [⟨tg, iter, ifs, 0⟩, ⟨tg1, iter1, ifs1, 0⟩] scope pos) 0 (.ref it) (.ref D) (compEnvC scope (cellsFrom (s3.heap.objs.size + 1) scope.names (cloFrom X.env.cells scope.names [])) s3.heap.objs.size X.env)) (compPost (model X.prog X.w) X.A X.xe use Qf (.ref D) s3.heap.objs.size) { s3 with heap := pushCells (s3.heap.push { cls := .type "dict", data := .dict #[] }) scope.names }
  have nfp : ∀ b ∈ fp, (upd H2 D (.lst [])) b = none := fun b hb => (f3 b hb).1.1
  generalize hce : compEnvC scope (cellsFrom (s3.heap.objs.size + 1) scope.names (cloFrom X.env.cells scope.names [])) s3.heap.objs.size X.env = ce at I4 pg pt pe pi1 pg1 pt1 ⊢
  have cL : ce.locals = s3.heap.objs.size := by subst hce; rfl
  generalize hH3 : upd H2 D (.lst []) = H3 at I3 I4 pg pt pe pi1 pg1 pt1 w0 nfp f3
  generalize hs4 : ({ s3 with heap := pushCells (s3.heap.push { cls := .type "dict", data := .dict #[] }) scope.names } : Shared) = s4 at I4 ⊢
  have st4 : tn 0 s4.heap := T.keep _ _ _ st3 fun b _ o e => by rw [← hs4]; exact pushCells_keeps _ _ _ _ (Heap.get?_push_of_some _ e)
  have stat : ∀ {σ' : St} {H' : Hp} {s' : Shared}, Inv (X.blk s3 H3 scope ce fp) [] σ' H' s' → (∀ b ∈ fp, H' b = none) → ∀ b ∈ fp, FpOk (X.blk s3 H3 scope ce fp) [] H' b := fun {σ' H' s'} I' hn b hb =>
    ⟨hn b hb, (I'.ok.exf b hb).1, I'.ok.exfs b hb, .inl hb, fun x c e => (I'.ok.exf b hb).2 x c e, fun p hp => absurd (show p ∈ ([] : List (Addr × Obj)) ++ [] from hp) (by simp)⟩
  have loop : codeAny (model X.prog X.w) X.A (.compLoop (.ListComp elt [⟨tg, iter, ifs, 0⟩, ⟨tg1, iter1, ifs1, 0⟩] scope pos) 0 (.ref it) (.ref D) ce) (compPost (model X.prog X.w) X.A X.xe use Qf (.ref D) s3.heap.objs.size) s4 := by
    refine compLoop2_out (hs1 ce) (fun n s' => ∃ i H', Inv (X.blk s3 H3 scope ce fp) [] (wipe σ (own.map (·.2))) H' s' ∧ tn i s'.heap ∧ (∀ b ∈ fp, H' b = none) ∧ W i n H') ?_ m0 ⟨0, H3, I4, st4, nfp, w0⟩
    rintro n s5 ⟨i, H5, I5, st5, n5, w5⟩
    rcases turn i n H5 w5 with ⟨stop, qq⟩ | ⟨go, Nx, hNx, step⟩
    · have td := T.done (X.blk s3 H3 scope ce fp) rfl rfl rfl hc i [] s5 _ H5 (fun _ _ => False) I5 (stat I5 n5) st5 stop
      refine thnF td fun r s6 ⟨hr, I6⟩ => ?_
      subst hr
      -- back in the def's context
      have I7 : Inv X pins σ H5 s6 := I3.call' (ch := fp) I6.os I6.base I6.hok I6.bare fun b hb => ⟨(f3 b hb).1.2.2.2.1, (f3 b hb).1.2.1, (f3 b hb).1.2.2.2.2.1, (f3 b hb).1.2.2.2.2.2⟩
      have nC : H5 s3.heap.objs.size = none := by
        have z : H5 ce.locals = none := I6.free
        rw [cL] at z
        exact z
      obtain ⟨m, hn, _⟩ := I6.loc
      have hn : s6.heap.Ns ce.locals m := hn
      rw [cL] at hn
      exact hRR D s3.heap.objs.size s6 m H5 I7 qq hn (I3.fpOk (Nat.le_refl _) nC)
    · have ti := T.item (X.blk s3 H3 scope ce fp) rfl rfl rfl hc i [] s5 _ H5 (fun _ _ => False) I5 (stat I5 n5) st5 go
      refine thnF ti fun r s6 ⟨u, hr, h6⟩ => ?_
      subst hr
      refine thnF h6 fun _ s7 ⟨x, H7, I7, r7, y7, st7, n7⟩ => ?_
      have I7' := I7.pinned (stat I7 n7) (T.obj _ _ st7)
      refine thnF (pg _ s7 _ H7 x u _ I7' r7 (step x H7 y7)) fun _ s8 ⟨σ8, H8, I8, hw8, q8⟩ => ?_
      refine thnF (pt _ s8 σ8 H8 _ I8 q8) fun b s9 ⟨H9, I9, q9⟩ => ?_
      -- the turn's end, from any slots that know what the block knew at its start
      have fin : ∀ {σ9 : St} {s' : Shared} {H' : Hp}, Inv (X.blk s3 H3 scope ce fp) ([] ++ pinsAt fp s7.heap) σ9 H' s' → (wipe σ (own.map (·.2))).length = σ9.length → (∀ (j : Nat) v, (wipe σ (own.map (·.2)))[j]? = some (some v) → σ9[j]? = some (some v)) → Nx H' →
          ∃ m, m < n ∧ ∃ i H', Inv (X.blk s3 H3 scope ce fp) [] (wipe σ (own.map (·.2))) H' s' ∧ tn i s'.heap ∧ (∀ b ∈ fp, H' b = none) ∧ W i m H' := fun {σ9 s' H'} I' hl hk nx => by
        obtain ⟨m', hm, w'⟩ := hNx H' nx
        have pin' : ∀ b ∈ fp, ∀ o, s7.heap.get? b = some o → s'.heap.get? b = some o ∧ H' b = none := fun b hb o e =>
          let z := I'.pin (b, o) (List.mem_append_right _ (List.mem_append_right _ (mem_pinsAt hb e)))
          ⟨z.1, z.2.1⟩
        refine ⟨m', hm, i + 1, H', (I'.unpinned (pins := [])).weak hl hk, T.keep _ _ _ st7 fun b hb o e => (pin' b hb o e).1, fun b hb => ?_, w'⟩
        obtain ⟨o, e, _⟩ := T.obj _ _ st7 b hb
        exact (pin' b hb o e).2
      have hl8 : (wipe σ (own.map (·.2))).length = σ8.length := by rw [← hw8, wipe_length]
      have hk8 : ∀ (j : Nat) v, (wipe σ (own.map (·.2)))[j]? = some (some v) → σ8[j]? = some (some v) := fun j v e => by
        rw [← hw8] at e
        exact (wipe_some e).1
      have hk9 : ∀ (j : Nat) v, (wipe σ (own.map (·.2)))[j]? = some (some v) → (wipe σ8 vs1)[j]? = some (some v) := fun j v e => by
        rw [← hw8] at e
        obtain ⟨e1, e2⟩ := wipe_some e
        rw [wipe_out fun z => e2 (hv j z)]
        exact e1
      cases b with
      | false =>
        simp only [Bool.false_eq_true, if_false] at q9 ⊢
        exact fin I9 hl8 hk8 q9
      | true =>
        simp only [if_true] at q9 ⊢
        refine thnF (pi1 _ s9 σ8 H9 _ I9 q9) fun xv s10 hx => thnF hx fun itv s11 h11 => ?_
        obtain ⟨it1, fp1, tn1, J1, H11, e1, I11, T1, st11, f11, W1, ⟨m1, w1⟩, turn1⟩ := h11
        subst e1
        -- the inner loop
        have stat1 : ∀ {H' : Hp}, (∀ b ∈ fp1, H' b = none) → ∀ b ∈ fp1, FpOk (X.blk s3 H3 scope ce fp) ([] ++ pinsAt fp s7.heap) H' b := fun hn b hb => ⟨hn b hb, (f11 b hb).2⟩
        have loop1 : codeAny (model X.prog X.w) X.A (.compLoop (.ListComp elt [⟨tg, iter, ifs, 0⟩, ⟨tg1, iter1, ifs1, 0⟩] scope pos) 1 (.ref it1) (.ref D) ce)
            (fun r s' => match r with
              | .ok _ => ∃ m, m < n ∧ ∃ i H', Inv (X.blk s3 H3 scope ce fp) [] (wipe σ (own.map (·.2))) H' s' ∧ tn i s'.heap ∧ (∀ b ∈ fp, H' b = none) ∧ W i m H'
              | .error _ => False) s11 := by
          refine compLoop2_in (fun k s' => ∃ j H', Inv (X.blk s3 H3 scope ce fp) ([] ++ pinsAt fp s7.heap) (wipe σ8 vs1) H' s' ∧ tn1 j s'.heap ∧ (∀ b ∈ fp1, H' b = none) ∧ W1 j k H') ?_ m1 ⟨0, H11, I11.weak (wipe_length _ _) (fun j v e => (wipe_some e).1), st11, fun b hb => (f11 b hb).1, w1⟩
          rintro k s12 ⟨j, H12, I12, st12, n12, w12⟩
          rcases turn1 j k H12 w12 with ⟨stop1, nx1⟩ | ⟨go1, Nx1, hNx1, step1⟩
          · refine thnF (T1.done (X.blk s3 H3 scope ce fp) rfl rfl rfl hc j _ s12 (wipe σ8 vs1) H12 (fun _ _ => False) I12 (stat1 n12) st12 stop1) fun r s13 ⟨hr, I13⟩ => ?_
            subst hr
            exact fin I13 (hl8.trans (wipe_length σ8 vs1).symm) hk9 nx1
          · refine thnF (T1.item (X.blk s3 H3 scope ce fp) rfl rfl rfl hc j _ s12 (wipe σ8 vs1) H12 (fun _ _ => False) I12 (stat1 n12) st12 go1) fun r s13 ⟨u1, hr, h13⟩ => ?_
            subst hr
            refine thnF h13 fun _ s14 ⟨x1, H14, I14, r14, y14, st14, n14⟩ => ?_
            have I14' := I14.pinned (stat1 n14) (T1.obj _ _ st14)
            refine thnF (pg1 _ s14 (wipe σ8 vs1) H14 x1 u1 _ I14' r14 (step1 x1 H14 y14)) fun _ s15 ⟨σ15, H15, I15, hw15, q15⟩ => ?_
            refine thnF (pt1 _ s15 σ15 H15 _ I15 q15) fun b1 s16 ⟨H16, I16, q16⟩ => ?_
            have fin1 : ∀ {s' : Shared} {H' : Hp}, Inv (X.blk s3 H3 scope ce fp) (([] ++ pinsAt fp s7.heap) ++ pinsAt fp1 s14.heap) σ15 H' s' → Nx1 H' → ∃ m, m < k ∧ ∃ j H', Inv (X.blk s3 H3 scope ce fp) ([] ++ pinsAt fp s7.heap) (wipe σ8 vs1) H' s' ∧ tn1 j s'.heap ∧ (∀ b ∈ fp1, H' b = none) ∧ W1 j m H' := fun {s' H'} I' nx => by
              obtain ⟨m', hm, w'⟩ := hNx1 H' nx
              have pin' : ∀ b ∈ fp1, ∀ o, s14.heap.get? b = some o → s'.heap.get? b = some o ∧ H' b = none := fun b hb o e =>
                let z := I'.pin (b, o) (List.mem_append_right _ (List.mem_append_right _ (mem_pinsAt hb e)))
                ⟨z.1, z.2.1⟩
              refine ⟨m', hm, j + 1, H', I'.unpinned.weak (by rw [← hw15, wipe_length]) (fun j v e => by rw [← hw15] at e; exact (wipe_some e).1), T1.keep _ _ _ st14 fun b hb o e => (pin' b hb o e).1, fun b hb => ?_, w'⟩
              obtain ⟨o, e, _⟩ := T1.obj _ _ st14 b hb
              exact (pin' b hb o e).2
            cases b1 with
            | false =>
              simp only [Bool.false_eq_true, if_false] at q16 ⊢
              exact fin1 I16 q16
            | true =>
              simp only [if_true] at q16 ⊢
              refine thnF (pe _ s16 σ15 H16 _ I16 q16) fun z s17 ⟨yv, H17, I17, r17, acc, hD17, hz17, nx⟩ => ?_
              exact app_ok (X := X.blk s3 H3 scope ce fp) I17 hD17 hz17 r17 fun s18 I18 => fin1 I18 nx
        exact compStart1_ok loop1 (T1.self X.A 0 _ _ _ st11 loop1)
  exact codeAny_compStart_list loop (T.self X.A 0 _ _ _ st4 loop)
/-- as a value -/
theorem pe_lc2 {elt tg iter tg1 iter1 : Expr} {ifs ifs1 : List Expr} {scope : Scope} {own : List (Str × Nat)} {vs1 : List Nat} {pos : Pos} {wi wi1 : TI} {g g1 : TG} {tt tt1 : TT} {te : TE} (hc : X.calm = true) (hN : X.N.Nodup) (hi : PI X tg iter wi) (ok : BlkOk X.N X.env.scope scope own) (hv : ∀ i ∈ vs1, i ∈ own.map (·.2))
    (hg : ∀ (s : Shared) (H : Hp) (C : Addr) (cl : List (Str × Addr)) (fp : List Addr), PG (X.blk s H scope (compEnvC scope cl C X.env) fp) tg g) (ht : ∀ (s : Shared) (H : Hp) (C : Addr) (cl : List (Str × Addr)) (fp : List Addr), PTs (X.blk s H scope (compEnvC scope cl C X.env) fp) ifs tt)
    (hi1 : ∀ (s : Shared) (H : Hp) (C : Addr) (cl : List (Str × Addr)) (fp : List Addr), PI (X.blk s H scope (compEnvC scope cl C X.env) fp) tg1 iter1 wi1)
    (hg1 : ∀ (s : Shared) (H : Hp) (C : Addr) (cl : List (Str × Addr)) (fp : List Addr), PG (X.blk s H scope (compEnvC scope cl C X.env) fp) tg1 g1) (ht1 : ∀ (s : Shared) (H : Hp) (C : Addr) (cl : List (Str × Addr)) (fp : List Addr), PTs (X.blk s H scope (compEnvC scope cl C X.env) fp) ifs1 tt1)
    (he : ∀ (s : Shared) (H : Hp) (C : Addr) (cl : List (Str × Addr)) (fp : List Addr), PE (X.blk s H scope (compEnvC scope cl C X.env) fp) elt te) (hs : ∀ x, foldedSetIterable iter X.env x = pure x := by intro _; rfl) (hs1 : ∀ env x, foldedSetIterable iter1 env x = pure x := by intro _ _; rfl) :
    PE X (.ListComp elt [⟨tg, iter, ifs, 0⟩, ⟨tg1, iter1, ifs1, 0⟩] scope pos) (tLc2 wi g tt wi1 g1 tt1 te (own.map (·.2)) vs1) := by
  intro pins s σ H Q I h
  rw [eval_ListComp]
  refine lc2_core hc hN I hi ok hv hg ht he hs hi1 hg1 ht1 hs1 h fun D C s' m H' I' q hn f => ⟨m, hn, fun h'' sb => ?_⟩
  obtain ⟨f0, f1, f2, f3, f4, f5⟩ := f
  exact ⟨.ref D, H', I'.turned (t' := s'.toks) (fun b o hb e => (sb.2 b hb).trans e) f0 f1 f3 f4 f5, rfl, q⟩
theorem ps_setLc2 {i : Nat} {y : Str} {py : Pos} {elt tg iter tg1 iter1 : Expr} {ifs ifs1 : List Expr} {scope : Scope} {own : List (Str × Nat)} {vs1 : List Nat} {pos spos : Pos} {wi wi1 : TI} {g g1 : TG} {tt tt1 : TT} {te : TE} (hc : X.calm = true) (hN : X.N.Nodup) (hy : X.N[i]? = some y) (hyl : X.env.scope.names.lookup y = some .local)
    (hsw : swapsWith (.ListComp elt [⟨tg, iter, ifs, 0⟩, ⟨tg1, iter1, ifs1, 0⟩] scope pos) (some (.Name y py)) spos.line X.env = pure true) (hi : PI X tg iter wi) (ok : BlkOk X.N X.env.scope scope own) (hv : ∀ i ∈ vs1, i ∈ own.map (·.2))
    (hg : ∀ (s : Shared) (H : Hp) (C : Addr) (cl : List (Str × Addr)) (fp : List Addr), PG (X.blk s H scope (compEnvC scope cl C X.env) fp) tg g) (ht : ∀ (s : Shared) (H : Hp) (C : Addr) (cl : List (Str × Addr)) (fp : List Addr), PTs (X.blk s H scope (compEnvC scope cl C X.env) fp) ifs tt)
    (hi1 : ∀ (s : Shared) (H : Hp) (C : Addr) (cl : List (Str × Addr)) (fp : List Addr), PI (X.blk s H scope (compEnvC scope cl C X.env) fp) tg1 iter1 wi1)
    (hg1 : ∀ (s : Shared) (H : Hp) (C : Addr) (cl : List (Str × Addr)) (fp : List Addr), PG (X.blk s H scope (compEnvC scope cl C X.env) fp) tg1 g1) (ht1 : ∀ (s : Shared) (H : Hp) (C : Addr) (cl : List (Str × Addr)) (fp : List Addr), PTs (X.blk s H scope (compEnvC scope cl C X.env) fp) ifs1 tt1)
    (he : ∀ (s : Shared) (H : Hp) (C : Addr) (cl : List (Str × Addr)) (fp : List Addr), PE (X.blk s H scope (compEnvC scope cl C X.env) fp) elt te) (hs : ∀ x, foldedSetIterable iter X.env x = pure x := by intro _; rfl) (hs1 : ∀ env x, foldedSetIterable iter1 env x = pure x := by intro _ _; rfl) :
    PS X (.Assign [.Name y py] (.ListComp elt [⟨tg, iter, ifs, 0⟩, ⟨tg1, iter1, ifs1, 0⟩] scope pos) spos) (tAsg (tLc2 wi g tt wi1 g1 tt1 te (own.map (·.2)) vs1) (gName i)) := by
  intro pins s σ H D I h
  rw [exec_Assign_Name_used _ _ _ _ hsw]
  refine wpAny_bind (wpAny_standAt (wpAny_bind ?_))
  show wpAny _ X.A (do let _ ← comprehension (.ListComp elt [⟨tg, iter, ifs, 0⟩, ⟨tg1, iter1, ifs1, 0⟩] scope pos) scope X.env (firstIterPos [⟨tg, iter, ifs, 0⟩, ⟨tg1, iter1, ifs1, 0⟩] pos) (newList []) false (eval iter X.env) (some (assign (.Name y py) X.env))) _ _ s
  have h : tLc2 wi g tt wi1 g1 tt1 te (own.map (·.2)) vs1 σ H (fun x H1 => gName i x σ H1 D.nx) := h
  refine wpAny_bind (thn (lc2_core (Qf := fun _ s' => SP X pins D .next s') hc hN I hi ok hv hg ht he hs hi1 hg1 ht1 hs1 h fun L C s' m H' I' q hn f => ?_) fun _ s' hq => wpAny_pure (wpAny_pure hq))
  show wpAny _ _ (assign (.Name y py) X.env (.ref L)) _ _ _
  refine wpAny_assign_Name (store_ok2 (v := V.ref L) I' hN hy (.inl hyl) rfl (fun s2 I2 ⟨a, sb, ha⟩ => ?_) (.inr hyl))
  obtain ⟨f0, f1, f2, f3, f4, f5⟩ := f
  have haC : C ≠ a := by
    rcases ha with z | z
    · rw [z]; exact f1
    · exact fun e => f4 y a z e.symm
  refine ⟨m, hn.sameBut sb haC, fun h3 sb3 => ?_⟩
  exact ⟨_, H', I2.turned (t' := s2.toks) (fun b o hb e => (sb3.2 b hb).trans e) f0 f1 f3 f4 f5, q⟩
end
end L2

namespace L2
open PySem PySem.Spec PyProof.Rows

/-! ### lists of pairs as tables -/
section
variable {κ : Type} [DecidableEq κ]
def valV (kvs : List (κ × V)) (k : κ) : Option V := (kvs.find? fun kv => decide (kv.1 = k)).map (·.2)
/-- in its place, or at the end -/
def putK (kvs : List (κ × V)) (k : κ) (v : V) : List (κ × V) :=
  if (kvs.any fun kv => decide (kv.1 = k)) = true then kvs.map (fun kv => if kv.1 = k then (kv.1, v) else kv) else kvs ++ [(k, v)]
def dropK (kvs : List (κ × V)) (k : κ) : List (κ × V) := kvs.filter fun kv => decide (kv.1 ≠ k)

theorem valV_nil {k : κ} : valV ([] : List (κ × V)) k = none := rfl
theorem valV_pos {p : κ × V} {r : List (κ × V)} {k : κ} (e : p.1 = k) : valV (p :: r) k = some p.2 := by simp [valV, List.find?_cons, e]
theorem valV_neg {p : κ × V} {r : List (κ × V)} {k : κ} (e : ¬ p.1 = k) : valV (p :: r) k = valV r k := by simp [valV, List.find?_cons, e]
theorem valV_any (k : κ) : ∀ kvs : List (κ × V), (kvs.any fun kv => decide (kv.1 = k)) = (valV kvs k).isSome
  | [] => rfl
  | p :: r => by
    rw [List.any_cons]
    by_cases e : p.1 = k
    · simp only [valV_pos e, decide_eq_true e, Bool.true_or, Option.isSome_some]
    · rw [valV_neg e, decide_eq_false e, Bool.false_or]; exact valV_any k r
theorem valV_map (k j : κ) (y : V) : ∀ kvs : List (κ × V), valV (kvs.map fun kv => if kv.1 = k then (kv.1, y) else kv) j = (valV kvs j).map fun x => if j = k then y else x
  | [] => rfl
  | p :: r => by
    have ih := valV_map k j y r
    rw [List.map_cons]
    by_cases h : p.1 = k
    · rw [if_pos h]
      by_cases e : p.1 = j
      · rw [valV_pos (p := (p.1, y)) e, valV_pos e, Option.map_some, if_pos (e.symm.trans h)]
      · rw [valV_neg (p := (p.1, y)) e, valV_neg e, ih]
    · rw [if_neg h]
      by_cases e : p.1 = j
      · rw [valV_pos (p := p) e, valV_pos e, Option.map_some, if_neg (fun z => h (e.trans z))]
      · rw [valV_neg (p := p) e, valV_neg e, ih]
theorem valV_snoc (k j : κ) (y : V) : ∀ kvs : List (κ × V), valV kvs k = none → valV (kvs ++ [(k, y)]) j = if j = k then some y else valV kvs j
  | [], _ => by
    by_cases e : k = j
    · rw [if_pos e.symm]; exact valV_pos (p := (k, y)) e
    · rw [if_neg (fun z => e z.symm)]; exact valV_neg (p := (k, y)) e
  | p :: r, hn => by
    rw [List.cons_append]
    have hk : ¬ p.1 = k := fun z => by rw [valV_pos z] at hn; cases hn
    rw [valV_neg hk] at hn
    have ih := valV_snoc k j y r hn
    by_cases e : p.1 = j
    · rw [valV_pos e, valV_pos e, if_neg (fun z => hk (e.trans z))]
    · rw [valV_neg e, valV_neg e, ih]
theorem valV_put (kvs : List (κ × V)) (k j : κ) (y : V) : valV (putK kvs k y) j = if j = k then some y else valV kvs j := by
  unfold putK
  by_cases a : (kvs.any fun kv => decide (kv.1 = k)) = true
  · rw [if_pos a, valV_map]
    rw [valV_any] at a
    by_cases e : j = k
    · obtain ⟨x, hx⟩ := Option.isSome_iff_exists.mp a
      rw [if_pos e, e, hx, Option.map_some, if_pos rfl]
    · rw [if_neg e]
      cases valV kvs j with
      | none => rfl
      | some x => rw [Option.map_some, if_neg e]
  · rw [if_neg a]
    refine valV_snoc k j y kvs ?_
    rw [valV_any] at a
    cases q : valV kvs k with
    | none => rfl
    | some x => rw [q] at a; exact (a rfl).elim
theorem length_putK (kvs : List (κ × V)) (k : κ) (v : V) : (putK kvs k v).length ≤ kvs.length + 1 := by
  unfold putK
  split
  · rw [List.length_map]; omega
  · rw [List.length_append, List.length_cons, List.length_nil]; omega
theorem putK_new {kvs : List (κ × V)} {k : κ} (v : V) (h : valV kvs k = none) : putK kvs k v = kvs ++ [(k, v)] := by
  unfold putK
  rw [valV_any, h]
  exact if_neg (by decide)

theorem RelO.isSome_eq {o : Option V} {u : Option Value} (r : RelO o u) : o.isSome = u.isSome := by
  cases o with
  | none => cases u with
    | none => rfl
    | some _ => exact (show False from r).elim
  | some _ => cases u with
    | none => exact (show False from r).elim
    | some _ => rfl
theorem RelO.getD {o : Option V} {u : Option Value} {d : V} {d' : Value} (r : RelO o u) (rd : RelV d d') : RelV (o.getD d) (u.getD d') := by
  cases o with
  | none => cases u with
    | none => exact rd
    | some _ => exact (show False from r).elim
  | some _ => cases u with
    | none => exact (show False from r).elim
    | some _ => exact r

/-- raw tables of the same keys -/
theorem KV.val {kvs : List (κ × V)} {vs : List (κ × Value)} (r : KV kvs vs) (k : κ) : RelO (valV kvs k) (valueAt vs k) := by
  unfold KV at r
  induction r with
  | nil => exact True.intro
  | @cons p q ps qs h t ih =>
    obtain ⟨h1, h2⟩ := h
    by_cases e : p.1 = k
    · have e' : q.1 = k := h1.symm.trans e
      have b : valueAt (q :: qs) k = some q.2 := by simp [valueAt, List.find?_cons, e']
      rw [valV_pos e, b]; exact h2
    · have e' : ¬ q.1 = k := fun z => e (h1.trans z)
      have b : valueAt (q :: qs) k = valueAt qs k := by simp [valueAt, List.find?_cons, e']
      rw [valV_neg e, b]; exact ih
theorem KV.any {kvs : List (κ × V)} {vs : List (κ × Value)} (r : KV kvs vs) (k : κ) : (kvs.any fun kv => decide (kv.1 = k)) = vs.any fun kv => decide (kv.1 = k) := by
  unfold KV at r
  induction r with
  | nil => rfl
  | cons h t ih => rw [List.any_cons, List.any_cons, ih, h.1]
theorem KV.repl {kvs : List (κ × V)} {vs : List (κ × Value)} (r : KV kvs vs) (k : κ) {y : V} {u : Value} (ry : RelV y u) :
    KV (kvs.map fun kv => if kv.1 = k then (kv.1, y) else kv) (vs.map fun kv => if kv.1 = k then (kv.1, u) else kv) := by
  unfold KV at r ⊢
  induction r with
  | nil => exact .nil
  | @cons p q ps qs h t ih =>
    rw [List.map_cons, List.map_cons]
    refine .cons ?_ ih
    obtain ⟨h1, h2⟩ := h
    by_cases e : p.1 = k
    · rw [if_pos e, if_pos (h1.symm.trans e)]; exact ⟨h1, ry⟩
    · rw [if_neg e, if_neg (fun z => e (h1.trans z))]; exact ⟨h1, h2⟩
theorem KV.put {kvs : List (κ × V)} {vs : List (κ × Value)} (r : KV kvs vs) (k : κ) {y : V} {u : Value} (ry : RelV y u) : KV (putK kvs k y) (stored vs k u) := by
  unfold putK stored
  rw [r.any k]
  by_cases e : (vs.any fun kv => decide (kv.1 = k)) = true
  · rw [if_pos e, if_pos e]; exact r.repl k ry
  · rw [if_neg e, if_neg e]; exact Paired.snoc r ⟨rfl, ry⟩
theorem KV.drop {kvs : List (κ × V)} {vs : List (κ × Value)} (r : KV kvs vs) (k : κ) : KV (dropK kvs k) (without vs k) := by
  unfold KV at r ⊢
  unfold dropK without
  induction r with
  | nil => exact .nil
  | @cons p q ps qs h t ih =>
    obtain ⟨h1, h2⟩ := h
    rw [List.filter_cons, List.filter_cons]
    by_cases e : p.1 = k
    · have a : ¬ decide (p.1 ≠ k) = true := by simp [e]
      have b : ¬ decide (q.1 ≠ k) = true := by simp [h1.symm.trans e]
      rw [if_neg a, if_neg b]; exact ih
    · have e' : ¬ q.1 = k := fun z => e (h1.trans z)
      have a : decide (p.1 ≠ k) = true := by simp [e]
      have b : decide (q.1 ≠ k) = true := by simp [e']
      rw [if_pos a, if_pos b]; exact .cons ⟨h1, h2⟩ ih
theorem KV.keys {kvs : List (κ × V)} {vs : List (κ × Value)} (r : KV kvs vs) : kvs.map (·.1) = vs.map (·.1) := by
  unfold KV at r
  induction r with
  | nil => rfl
  | cons h t ih => rw [List.map_cons, List.map_cons, ih, h.1]
theorem KV.length {kvs : List (κ × V)} {vs : List (κ × Value)} (r : KV kvs vs) : kvs.length = vs.length := Paired.length r
theorem dropK_le (kvs : List (κ × V)) (k : κ) : (dropK kvs k).length ≤ kvs.length := List.length_filter_le _ _
end


/-! ### a tracked dict, its keys ints and texts or tuples of these -/
theorem kV_is {P : Program} {w : World} {k : Key} {u : Value} (r : RelV (kV k) u) : (mixKind P w).is k u = true := by
  cases k with
  | inl i => obtain ⟨t, e⟩ := (show ∃ t, u = Value.int i t from r); subst e; exact mixKind_int P w i t
  | inr x => obtain ⟨t, e⟩ := (show ∃ t, u = Value.str x t from r); subst e; exact mixKind_str P w x t
theorem kV_inj {a b : Key} (e : kV a = kV b) : a = b := by
  cases a with
  | inl i => cases b with
    | inl j => have e' : V.int i = V.int j := e; injection e' with e'; rw [e']
    | inr y => exact nomatch (show V.int i = V.str y from e)
  | inr x => cases b with
    | inl j => exact nomatch (show V.str x = V.int j from e)
    | inr y => have e' : V.str x = V.str y := e; injection e' with e'; rw [e']
theorem kVs_inj : ∀ {a b : List Key}, a.map kV = b.map kV → a = b
  | [], [], _ => rfl
  | [], _ :: _, e => by simp at e
  | _ :: _, [], e => by simp at e
  | x :: xs, y :: ys, e => by
    rw [List.map_cons, List.map_cons] at e
    injection e with e1 e2
    rw [kV_inj e1, kVs_inj e2]
theorem items_are {P : Program} {w : World} : ∀ {ks : List Key} {us : List Value}, Vals (ks.map kV) us → ItemsAre (mixKind P w) ks us
  | [], _, r => by rw [List.map_nil] at r; cases r; exact .nil
  | k :: ks, _, r => by
    rw [List.map_cons] at r
    cases r with
    | cons h t => exact .cons (kV_is h) (items_are t)

/-- raw entries of a dict with tuple keys -/
abbrev KT (H : Hp) : List (List Key × V) → List (List Key × Addr × Value) → Prop := Paired fun p q => p.1 = q.1 ∧ H q.2.1 = some (.tup (p.1.map kV)) ∧ RelV p.2 q.2.2
theorem KT.val {H : Hp} {kvs : List (List Key × V)} {xs : List (List Key × Addr × Value)} (r : KT H kvs xs) (k : List Key) : RelO (valV kvs k) ((atKey xs k).map (·.2)) := by
  induction r with
  | nil => exact True.intro
  | @cons p q ps qs h t ih =>
    obtain ⟨h1, _, h2⟩ := h
    by_cases e : p.1 = k
    · have e' : q.1 = k := h1.symm.trans e
      have b : atKey (q :: qs) k = some q.2 := by simp [atKey, List.find?_cons, e']
      rw [valV_pos e, b]; exact h2
    · have e' : ¬ q.1 = k := fun z => e (h1.trans z)
      have b : atKey (q :: qs) k = atKey qs k := by simp [atKey, List.find?_cons, e']
      rw [valV_neg e, b]; exact ih
theorem KT.repl {H : Hp} {kvs : List (List Key × V)} {xs : List (List Key × Addr × Value)} (r : KT H kvs xs) (k : List Key) {y : V} {u : Value} (ry : RelV y u) :
    KT H (kvs.map fun kv => if kv.1 = k then (kv.1, y) else kv) (xs.map (putAt k u)) := by
  induction r with
  | nil => exact .nil
  | @cons p q ps qs h t ih =>
    rw [List.map_cons, List.map_cons]
    refine .cons ?_ ih
    obtain ⟨h1, h2, h3⟩ := h
    unfold putAt
    by_cases e : p.1 = k
    · rw [if_pos e, if_pos (h1.symm.trans e)]; exact ⟨h1, h2, ry⟩
    · rw [if_neg e, if_neg (fun z => e (h1.trans z))]; exact ⟨h1, h2, h3⟩
theorem KT.put {H : Hp} {kvs : List (List Key × V)} {xs : List (List Key × Addr × Value)} (r : KT H kvs xs) (k : List Key) {b : Addr} {y : V} {u : Value} (hb : H b = some (.tup (k.map kV))) (ry : RelV y u) :
    KT H (putK kvs k y) (storedH xs k b u) := by
  have e : (kvs.any fun kv => decide (kv.1 = k)) = (atKey xs k).isSome := by
    rw [valV_any, (r.val k).isSome_eq, Option.isSome_map]
  unfold putK storedH
  rw [e]
  by_cases q : (atKey xs k).isSome = true
  · rw [if_pos q, if_pos q]; exact r.repl k ry
  · rw [if_neg q, if_neg q]; exact Paired.snoc r ⟨rfl, hb, ry⟩
theorem KT.keeps {H H' : Hp} {kvs : List (List Key × V)} {xs : List (List Key × Addr × Value)} (r : KT H kvs xs) (ht : ∀ b ys, H b = some (.tup ys) → H' b = some (.tup ys)) : KT H' kvs xs :=
  Paired.mapP r fun _ _ z => ⟨z.1, ht _ _ z.2.1, z.2.2⟩

section
variable {P : Program} {w : World} {H : Hp} {h : Heap} {a : Addr}
theorem rd_of {u : HO} (ok : HOk P w H h) (e : Rd H a u) : ObjOk P w H h a u := e.ok ok
theorem dk_rd {kvs : List (Key × V)} (ok : HOk P w H h) (e : Rd H a (.dK kvs)) : kvs.length ≤ sizeLine ∧ (a == sysModules) = false ∧ ∃ vs, KV kvs vs ∧ h.DictOf (mixKind P w) a vs :=
  show ObjOk P w H h a (.dK kvs) from rd_of ok e
theorem dk_of {kvs : List (Key × V)} (ok : HOk P w H h) (e : H a = some (.dK kvs)) : kvs.length ≤ sizeLine ∧ (a == sysModules) = false ∧ ∃ vs, KV kvs vs ∧ h.DictOf (mixKind P w) a vs := dk_rd ok (.inl e)
/-- a tracked tuple of ints and texts is a key -/
theorem key_of {ks : List Key} (ok : HOk P w H h) (e : H a = some (.tup (ks.map kV))) : (tupleKind (mixKind P w)).is h ks a := by
  obtain ⟨_, its, r, o, h1, h2, n, h3⟩ := (show ObjOk P w H h a (.tup (ks.map kV)) from ok a _ e)
  exact ⟨o, its.toArray, n, h1, h2, h3, by simpa using items_are r⟩
theorem dt_rd {kvs : List (List Key × V)} (ok : HOk P w H h) (e : Rd H a (.dT kvs)) : kvs.length ≤ sizeLine ∧ (a == sysModules) = false ∧
    ∃ xs, KT H kvs xs ∧ h.DictOfH (tupleKind (mixKind P w)) a xs := by
  obtain ⟨z, y, xs, r, o, es, ep, h1, h2, h3, h4, h5⟩ := (show ObjOk P w H h a (.dT kvs) from rd_of ok e)
  refine ⟨z, y, xs, r, o, es, ep, h1, h2, h3, h4, fun x hx => ?_, h5⟩
  have all : ∀ {l : List (List Key × V)} {m : List (List Key × Addr × Value)}, KT H l m → ∀ x ∈ m, (tupleKind (mixKind P w)).is h x.1 x.2.1 := by
    intro l m q
    induction q with
    | nil => intro x hx; exact nomatch hx
    | @cons p q ps qs hq t ih =>
      intro x hx
      rcases List.mem_cons.mp hx with e | hx
      · subst e
        exact key_of ok (by rw [← hq.1]; exact hq.2.1)
      · exact ih x hx
  exact all r x hx
theorem dt_of {kvs : List (List Key × V)} (ok : HOk P w H h) (e : H a = some (.dT kvs)) : kvs.length ≤ sizeLine ∧ (a == sysModules) = false ∧
    ∃ xs, KT H kvs xs ∧ h.DictOfH (tupleKind (mixKind P w)) a xs := dt_rd ok (.inl e)
end

/-- what the dict at a holds at the key y -/
def DGet (H : Hp) (a : Addr) (y : V) (r : Option V) : Prop :=
  (∃ kvs k, Rd H a (.dK kvs) ∧ y = kV k ∧ r = valV kvs k) ∨ ∃ kvs k b, Rd H a (.dT kvs) ∧ y = .ref b ∧ H b = some (.tup (k.map kV)) ∧ r = valV kvs k
/-- the heap behind a[y] = v -/
def DPut (H : Hp) (a : Addr) (y v : V) (H' : Hp) : Prop :=
  (∃ kvs k, H a = some (.dK kvs) ∧ y = kV k ∧ kvs.length < sizeLine ∧ H' = upd H a (.dK (putK kvs k v))) ∨
  ∃ kvs k b, H a = some (.dT kvs) ∧ y = .ref b ∧ H b = some (.tup (k.map kV)) ∧ kvs.length < sizeLine ∧ H' = upd H a (.dT (putK kvs k v))
theorem DGet.k {H : Hp} {a : Addr} {kvs : List (Key × V)} {k : Key} (e : H a = some (.dK kvs)) : DGet H a (kV k) (valV kvs k) := .inl ⟨kvs, k, .inl e, rfl, rfl⟩
theorem DGet.t {H : Hp} {a b : Addr} {kvs : List (List Key × V)} {k : List Key} (e : H a = some (.dT kvs)) (eb : H b = some (.tup (k.map kV))) : DGet H a (.ref b) (valV kvs k) := .inr ⟨kvs, k, b, .inl e, rfl, eb, rfl⟩
theorem DPut.k {H : Hp} {a : Addr} {kvs : List (Key × V)} {k : Key} {v : V} (e : H a = some (.dK kvs)) (hl : kvs.length < sizeLine) : DPut H a (kV k) v (upd H a (.dK (putK kvs k v))) := .inl ⟨kvs, k, e, rfl, hl, rfl⟩
theorem DPut.t {H : Hp} {a b : Addr} {kvs : List (List Key × V)} {k : List Key} {v : V} (e : H a = some (.dT kvs)) (eb : H b = some (.tup (k.map kV))) (hl : kvs.length < sizeLine) :
    DPut H a (.ref b) v (upd H a (.dT (putK kvs k v))) := .inr ⟨kvs, k, b, e, rfl, eb, hl, rfl⟩


section
variable {X : Cx} {pins : List (Addr × Obj)} {σ : St} {H : Hp} {s : Shared} {a : Addr} {y v : V} {u r : Value} {o : Option V} {A : Around} {E : Value → Shared → Prop}

theorem Inv.big (I : Inv X pins σ H s) : sysModules < s.heap.objs.size := by
  have h : mainGlobals < s.heap.objs.size := (I.mod.glob.keeps I.bk).lt
  exact Nat.lt_trans (by decide) h

/-- d[y], there -/
theorem d_getItem {Q : Value → Shared → Prop} (hu : A.units + 1 < cLine) (I : Inv X pins σ H s) (g : DGet H a y (some v)) (ry : RelV y u) (h : ∀ w' s', Inv X pins σ H s' → RelV v w' → Q w' s') :
    wpAny (model X.prog X.w) A (getItem (.ref a) u) Q E s := by
  rcases g with ⟨kvs, k, e, ey, l⟩ | ⟨kvs, k, b, e, ey, eb, l⟩
  · subst ey
    obtain ⟨z, hd, vs, rel, dd⟩ := dk_rd I.hok e
    obtain ⟨w', hw, rw'⟩ := RelO.some_of (v := v) (o := valueAt vs k) (by rw [l]; exact rel.val k)
    exact wpAny_getItem_of (kV_is ry) dd.mapOf hw (h w' _ (I.tok _) rw')
  · subst ey
    cases (show u = Value.ref b from ry)
    obtain ⟨z, hd, xs, rel, dd⟩ := dt_rd I.hok e
    obtain ⟨w', hw, rw'⟩ := RelO.some_of (v := v) (o := (atKey xs k).map (·.2)) (by rw [l]; exact rel.val k)
    obtain ⟨p, hp, hp2⟩ := Option.map_eq_some_iff.mp hw
    refine wpAny_getItem_heap (tupleKind_room_in1 hu) (key_of I.hok eb) dd hp ?_
    rw [hp2]
    exact h w' _ (I.tok _) rw'
/-- y in d -/
theorem d_in {Q : Value → Shared → Prop} (hu : A.units + 1 < cLine) (I : Inv X pins σ H s) (g : DGet H a y o) (ry : RelV y u) (h : ∀ s', Inv X pins σ H s' → Q (.bool o.isSome) s') :
    wpAny (model X.prog X.w) A (compareOp .In u (.ref a)) Q E s := by
  rcases g with ⟨kvs, k, e, ey, l⟩ | ⟨kvs, k, b, e, ey, eb, l⟩
  · subst ey
    obtain ⟨z, hd, vs, rel, dd⟩ := dk_rd I.hok e
    refine wpAny_in_of (kV_is ry) hd dd.mapOf ?_
    rw [← (rel.val k).isSome_eq, ← l]
    exact h _ (I.tok _)
  · subst ey
    cases (show u = Value.ref b from ry)
    obtain ⟨z, hd, xs, rel, dd⟩ := dt_rd I.hok e
    refine wpAny_in_heap (tupleKind_room_in1 hu) (key_of I.hok eb) hd dd ?_
    have q := (rel.val k).isSome_eq
    rw [Option.isSome_map] at q
    rw [← q, ← l]
    exact h _ (I.tok _)
theorem d_notIn {Q : Value → Shared → Prop} (hu : A.units + 1 < cLine) (I : Inv X pins σ H s) (g : DGet H a y o) (ry : RelV y u) (h : ∀ s', Inv X pins σ H s' → Q (.bool (!o.isSome)) s') :
    wpAny (model X.prog X.w) A (compareOp .NotIn u (.ref a)) Q E s := by
  rcases g with ⟨kvs, k, e, ey, l⟩ | ⟨kvs, k, b, e, ey, eb, l⟩
  · subst ey
    obtain ⟨z, hd, vs, rel, dd⟩ := dk_rd I.hok e
    refine wpAny_notIn_of (kV_is ry) hd dd.mapOf ?_
    rw [← (rel.val k).isSome_eq, ← l]
    exact h _ (I.tok _)
  · subst ey
    cases (show u = Value.ref b from ry)
    obtain ⟨z, hd, xs, rel, dd⟩ := dt_rd I.hok e
    refine wpAny_notIn_heap (tupleKind_room_in1 hu) (key_of I.hok eb) hd dd ?_
    have q := (rel.val k).isSome_eq
    rw [Option.isSome_map] at q
    rw [← q, ← l]
    exact h _ (I.tok _)
/-- a dict's object is replaced -/
theorem d_write {h' : Heap} {t' : Nat} {ob : HO} (I : Inv X pins σ H s) (mu : Mut (H a)) (hs : Heap.SameBut a s.heap h') (he : ∃ q, h'.get? a = some q) (new : ObjOk X.prog X.w (upd H a ob) h' a ob) :
    Inv X pins σ (upd H a ob) { s with heap := h', toks := t' } :=
  I.write (x := a) (e := a) mu (.inl rfl) (fun b q hb z => (hs.2 b hb).trans z) he new
theorem dk_new {P : Program} {w : World} {H' : Hp} {h' : Heap} {kvs : List (Key × V)} {vs : List (Key × Value)} (z : kvs.length ≤ sizeLine) (hd : (a == sysModules) = false) (rel : KV kvs vs) (dd : h'.DictOf (mixKind P w) a vs) :
    ObjOk P w H' h' a (.dK kvs) := ⟨z, hd, vs, rel, dd⟩
/-- d[y] = v -/
theorem d_setItem {H' : Hp} {Q : Unit → Shared → Prop} (hu : A.units + 1 < cLine) (I : Inv X pins σ H s) (g : DPut H a y v H') (ry : RelV y u) (rv : RelV v r) (h : ∀ s', Inv X pins σ H' s' → Q () s') :
    wpAny (model X.prog X.w) A (setItem (.ref a) u r) Q E s := by
  rcases g with ⟨kvs, k, e, ey, l, eH⟩ | ⟨kvs, k, b, e, ey, eb, l, eH⟩
  · subst ey eH
    obtain ⟨z, hd, vs, rel, dd⟩ := dk_of I.hok e
    have hz : vs.length ≤ sizeLine := by rw [← rel.length]; exact z
    have hl : (putK kvs k v).length ≤ sizeLine := by have := length_putK kvs k v; omega
    refine wpAny_setItem_pairs (hsz := hz) (kV_is ry) dd fun h' dd' hs => h _ ?_
    have he : ∃ q, h'.get? a = some q := let ⟨q, _, _, hq, _⟩ := dd'; ⟨q, hq⟩
    exact d_write I (by rw [e]; exact True.intro) hs he (dk_new hl hd (rel.put k rv) dd')
  · subst ey eH
    cases (show u = Value.ref b from ry)
    obtain ⟨z, hd, xs, rel, dd⟩ := dt_of I.hok e
    have hz : xs.length ≤ sizeLine := by rw [← Paired.length rel]; exact z
    have hl : (putK kvs k v).length ≤ sizeLine := by have := length_putK kvs k v; omega
    refine wpAny_setItem_heap (hsz := hz) (tupleKind_room_in1 hu) (key_of I.hok eb) dd fun h' dd' hs => h _ ?_
    obtain ⟨q, es, ep, hq, h2, h3, h4, _, h5⟩ := dd'
    refine d_write I (by rw [e]; exact True.intro) hs ⟨q, hq⟩ ⟨hl, hd, _, (rel.put k eb rv).keeps fun c ys ec => ?_, q, es, ep, hq, h2, h3, h4, h5⟩
    rw [upd_ne (ne_of ec e (fun z => nomatch z))]
    exact ec
end

section
variable {X : Cx} {pins : List (Addr × Obj)} {σ : St} {H : Hp} {s : Shared} {a : Addr} {kvs : List (Key × V)} {k : Key} {u : Value} {A : Around} {E : Value → Shared → Prop}
/-- del d[k] -/
theorem d_delItem {Q : Unit → Shared → Prop} (I : Inv X pins σ H s) (e : H a = some (.dK kvs)) (ry : RelV (kV k) u) (l : (valV kvs k).isSome = true) (h : ∀ s', Inv X pins σ (upd H a (.dK (dropK kvs k))) s' → Q () s') :
    wpAny (model X.prog X.w) A (delItem (.ref a) u) Q E s := by
  obtain ⟨z, hd, vs, rel, dd⟩ := dk_of I.hok e
  refine wpAny_delItem_slot dd.typeIs (by decide) PySem.F.slot_dict_delitem
    (call_meetsIn PySem.F.slot_dict_delitem dd.typeIs PySem.F.entry_dict_delitem (PySem.F.args_dict_delitem_2 _ _) (meets_dict_delitem_pairs (mixKind X.prog X.w) a (kV_is ry)) ⟨vs, dd, by rw [← rel.length]; exact z, by rw [← (rel.val k).isSome_eq]; exact l, fun h' dd' hs => h _ ?_⟩)
  have he : ∃ q, h'.get? a = some q := let ⟨q, _, _, hq, _⟩ := dd'; ⟨q, hq⟩
  exact d_write I (by rw [e]; exact True.intro) hs he (dk_new (Nat.le_trans (dropK_le kvs k) z) hd (rel.drop k) dd')
/-- d.pop(k[, x]), there -/
theorem d_pop {v : V} {more : List Value} {Q : Value → Shared → Prop} (I : Inv X pins σ H s) (e : H a = some (.dK kvs)) (ry : RelV (kV k) u) (l : valV kvs k = some v) (hm : more = [] ∨ ∃ x, more = [x])
    (h : ∀ w' s', Inv X pins σ (upd H a (.dK (dropK kvs k))) s' → RelV v w' → Q w' s') : wpAny (model X.prog X.w) A (call (.builtin "dict.pop") (.ref a :: u :: more)) Q E s := by
  obtain ⟨z, hd, vs, rel, dd⟩ := dk_of I.hok e
  obtain ⟨w', hw, rw'⟩ := RelO.some_of (v := v) (o := valueAt vs k) (by rw [← l]; exact rel.val k)
  have hp : (keyPart u).isSome = true := by
    cases k with
    | inl i => obtain ⟨t, q⟩ := (show ∃ t, u = Value.int i t from ry); subst q; rfl
    | inr x => obtain ⟨t, q⟩ := (show ∃ t, u = Value.str x t from ry); subst q; rfl
  have ha : argsOk "dict.pop" ⟨.ref a :: u :: more, []⟩ := by
    rcases hm with q | ⟨x, q⟩
    · subst q; exact PySem.F.args_dict_pop_2 _ _
    · subst q; exact PySem.F.args_dict_pop_3 _ _ _
  refine call_meetsIn PySem.F.slot_dict_pop dd.typeIs PySem.F.entry_dict_pop ha (meets_dict_pop_there (mixKind X.prog X.w) a (kV_is ry) more hm hp)
    ⟨vs, w', dd, by rw [← rel.length]; exact z, hw, fun h' dd' hs => h w' _ ?_ rw'⟩
  have he : ∃ q, h'.get? a = some q := let ⟨q, _, _, hq, _⟩ := dd'; ⟨q, hq⟩
  exact d_write I (by rw [e]; exact True.intro) hs he (dk_new (Nat.le_trans (dropK_le kvs k) z) hd (rel.drop k) dd')
/-- d.pop(k, x), not there -/
theorem d_popD {r : Value} {Q : Value → Shared → Prop} (I : Inv X pins σ H s) (e : H a = some (.dK kvs)) (ry : RelV (kV k) u) (l : valV kvs k = none) (h : ∀ s', Inv X pins σ H s' → Q r s') :
    wpAny (model X.prog X.w) A (call (.builtin "dict.pop") [.ref a, u, r]) Q E s := by
  obtain ⟨z, hd, vs, rel, dd⟩ := dk_of I.hok e
  have hn : valueAt vs k = none := RelO.none_of (by rw [← l]; exact rel.val k)
  have hp : (keyPart u).isSome = true := by
    cases k with
    | inl i => obtain ⟨t, q⟩ := (show ∃ t, u = Value.int i t from ry); subst q; rfl
    | inr x => obtain ⟨t, q⟩ := (show ∃ t, u = Value.str x t from ry); subst q; rfl
  exact call_meetsIn PySem.F.slot_dict_pop dd.typeIs PySem.F.entry_dict_pop (PySem.F.args_dict_pop_3 _ _ _) (meets_dict_pop_default (mixKind X.prog X.w) a (kV_is ry) hd hp r) ⟨vs, dd, hn, h _ (I.tok _)⟩
/-- d.clear() -/
theorem d_clear {Q : Value → Shared → Prop} (I : Inv X pins σ H s) (e : H a = some (.dK kvs)) (h : ∀ s', Inv X pins σ (upd H a (.dK [])) s' → Q .none s') : wpAny (model X.prog X.w) A (call (.builtin "dict.clear") [.ref a]) Q E s := by
  obtain ⟨z, hd, vs, rel, dd⟩ := dk_of I.hok e
  refine call_meetsIn PySem.F.slot_dict_clear dd.typeIs PySem.F.entry_dict_clear (PySem.F.args_dict_clear_1 _) (meets_dict_clear (mixKind X.prog X.w) a) ⟨vs, dd, by rw [← rel.length]; exact z, fun h' dd' hs => h _ ?_⟩
  have he : ∃ q, h'.get? a = some q := let ⟨q, _, _, hq, _⟩ := dd'; ⟨q, hq⟩
  exact d_write (t' := s.toks) I (by rw [e]; exact True.intro) hs he (dk_new (Nat.zero_le _) hd .nil dd')
/-- len(d) -/
theorem d_len {Q : Value → Shared → Prop} (I : Inv X pins σ H s) (e : Rd H a (.dK kvs)) (h : ∀ t s', Inv X pins σ H s' → Q (.int kvs.length t) s') : wpAny (model X.prog X.w) A (call (.builtin "len") [.ref a]) Q E s := by
  obtain ⟨z, hd, vs, rel, dd⟩ := dk_rd I.hok e
  refine call_len_dict hd dd (by rw [← rel.length]; rw [sizeLine_eq] at z; omega) ?_
  rw [← rel.length]
  exact h _ _ (I.tok _)
/-- if d -/
theorem d_truth {Q : Bool → Shared → Prop} (I : Inv X pins σ H s) (e : Rd H a (.dK kvs)) (h : ∀ s', Inv X pins σ H s' → Q (!kvs.isEmpty) s') : wpAny (model X.prog X.w) A (truthy (.ref a)) Q E s := by
  obtain ⟨z, hd, vs, rel, dd⟩ := dk_rd I.hok e
  refine wpAny_truthy_dict hd dd (by rw [← rel.length]; rw [sizeLine_eq] at z; omega) ?_
  have q : kvs.isEmpty = vs.isEmpty := by cases rel <;> rfl
  rw [← q]
  exact h _ (I.tok _)
end


/-! ### readings and rules -/
/-- the element of a subscription, not a slice -/
def NoSl (i : Expr) : Prop := ∀ ov iv, subscripted i false ov iv = operate [ov, iv] (getItem ov iv)
theorem subD_of {prog : Program} {w : World} {A : Around} {E : Value → Shared → Prop} {s : Shared} {env : Env} {value slice : Expr} {pos : Pos} {T id : String} {Q : Value → Shared → Prop}
    (hl : typeLookup (.type T) "__getitem__" = pure (some (.builtin id))) (hs : NoSl slice)
    (h : wpAny (model prog w) A (eval value env) (fun o s₁ => wpAny (model prog w) A (eval slice env) (fun i s₂ => s₂.TypeIs o T ∧ wpAny (model prog w) A (getItem o i) Q E s₂) E s₁) E s) :
    wpAny (model prog w) A (eval (.Subscript value slice pos) env) Q E s := by
  refine Subscript_ (wpAny_mono h (fun o s₁ h₁ => wpAny_mono h₁ (fun i s₂ h₂ => ?_) fun _ _ x => x) fun _ _ x => x)
  obtain ⟨hT, h₂⟩ := h₂
  unfold subscriptTail
  refine wpAny_bind ?_
  rw [getitemInPython_of_ne hT.not_modules]
  refine wpAny_bind (wpAny_specialOf hT hl ?_)
  have fin : wpAny (model prog w) A (subscripted slice false o i) (fun r s₃ => wpAny (model prog w) A (letTemporaryGo value o r >>= fun _ => pure r) Q E s₃) E s₂ := by
    rw [hs o i]
    exact wpAny_operating (wpAny_mono h₂ (fun r s₃ h₃ => wpAny_bind (wpAny_letTemporaryGo (wpAny_pure h₃))) fun _ _ x => x)
  first
    | exact wpAny_pure (wpAny_bind fin)
    | exact wpAny_bind (wpAny_pure (wpAny_bind fin))
    | exact wpAny_bind fin

theorem dict_typeIs {X : Cx} {pins : List (Addr × Obj)} {σ : St} {H : Hp} {s : Shared} {a : Addr} {y : V} {o : Option V} (I : Inv X pins σ H s) (g : DGet H a y o) : s.TypeIs (.ref a) "dict" := by
  rcases g with ⟨kvs, k, e, _, _⟩ | ⟨kvs, k, b, e, _, _, _⟩
  · obtain ⟨_, _, vs, _, dd⟩ := dk_rd I.hok e
    exact dd.typeIs
  · obtain ⟨_, _, xs, _, dd⟩ := dt_rd I.hok e
    exact dd.typeIs
theorem dict_noDict {X : Cx} {pins : List (Addr × Obj)} {σ : St} {H : Hp} {s : Shared} {a : Addr} {y : V} {o : Option V} (I : Inv X pins σ H s) (g : DGet H a y o) :
    ∀ b, Value.ref a = .ref b → ∃ ob, s.heap.get? b = some ob ∧ ob.dict = none := fun b q => by
  cases q
  rcases g with ⟨kvs, k, e, _, _⟩ | ⟨kvs, k, b, e, _, _, _⟩
  · obtain ⟨_, _, vs, _, ob, _, _, h1, h2, _⟩ := dk_rd I.hok e
    exact ⟨ob, h1, h2.2.1⟩
  · obtain ⟨_, _, xs, _, ob, _, _, h1, h2, _⟩ := dt_rd I.hok e
    exact ⟨ob, h1, h2.2.1⟩

/-- d[y] -/
def tDGet (td ty : TE) : TE := fun σ H Q => td σ H fun x H1 => ty σ H1 fun y H2 => ∃ a v, x = .ref a ∧ DGet H2 a y (some v) ∧ Q v H2
/-- y in d, y not in d -/
def tDIn (ty td : TE) : TE := fun σ H Q => ty σ H fun y H1 => td σ H1 fun x H2 => ∃ a o, x = .ref a ∧ DGet H2 a y o ∧ Q (.bl o.isSome) H2
def tDNotIn (ty td : TE) : TE := fun σ H Q => ty σ H fun y H1 => td σ H1 fun x H2 => ∃ a o, x = .ref a ∧ DGet H2 a y o ∧ Q (.bl (!o.isSome)) H2
/-- d[y] = v -/
def sDPut (td ty tv : TE) : TS := fun D σ H => tv σ H fun v H1 => td σ H1 fun x H2 => ty σ H2 fun y H3 => ∃ a H4, x = .ref a ∧ DPut H3 a y v H4 ∧ D.nx σ H4
/-- d[y] op= v -/
def sDAug (td ty tv : TE) (rd : V → V → Hp → VK → Prop) : TS := fun D σ H => td σ H fun x H1 => ty σ H1 fun y H2 => ∃ a v, x = .ref a ∧ DGet H2 a y (some v) ∧
  tv σ H2 fun y2 H3 => rd v y2 H3 fun z H4 => ∃ H5, DPut H4 a y z H5 ∧ D.nx σ H5
/-- del d[y] -/
def sDDel (td ty : TE) : TS := fun D σ H => td σ H fun x H1 => ty σ H1 fun y H2 => ∃ a kvs k, x = .ref a ∧ H2 a = some (.dK kvs) ∧ y = kV k ∧ (valV kvs k).isSome = true ∧ D.nx σ (upd H2 a (.dK (dropK kvs k)))

section
variable {X : Cx} {o i e value : Expr} {pos pos' tpos : Pos} {td ty tv : TE}
theorem pe_dget (hu : X.A.units + 1 < cLine) (ho : PE X o td) (hi : PE X i ty) (hs : NoSl i) : PE X (.Subscript o i pos) (tDGet td ty) := by
  intro pins s σ H Q I h
  refine subD_of PySem.F.slot_dict_getitem.lookup hs (thn (ho pins s σ H _ I h) fun u s1 ⟨x, H1, I1, rx, q1⟩ => thn (hi pins s1 σ H1 _ I1 q1) fun iv s2 ⟨y, H2, I2, ry, a, v, ex, g, q2⟩ => ?_)
  subst ex
  obtain rfl : u = Value.ref a := rx
  exact ⟨dict_typeIs I2 g, d_getItem hu I2 g ry fun w' s3 I3 rw' => ⟨v, H2, I3, rw', q2⟩⟩
theorem pc_din (hu : X.A.units + 1 < cLine) (hi : PE X i ty) (ho : PE X o td) : PC X .In i o (tDIn ty td) := by
  intro pins s σ H Q I h
  refine thn (hi pins s σ H _ I h) fun iv s1 ⟨y, H1, I1, ry, q1⟩ => thn (ho pins s1 σ H1 _ I1 q1) fun u s2 ⟨x, H2, I2, rx, a, ov, ex, g, q2⟩ => ?_
  subst ex
  obtain rfl : u = Value.ref a := rx
  exact d_in hu I2 g ry fun s3 I3 => ⟨.bl ov.isSome, H2, I3, rfl, q2⟩
theorem pc_dnotin (hu : X.A.units + 1 < cLine) (hi : PE X i ty) (ho : PE X o td) : PC X .NotIn i o (tDNotIn ty td) := by
  intro pins s σ H Q I h
  refine thn (hi pins s σ H _ I h) fun iv s1 ⟨y, H1, I1, ry, q1⟩ => thn (ho pins s1 σ H1 _ I1 q1) fun u s2 ⟨x, H2, I2, rx, a, ov, ex, g, q2⟩ => ?_
  subst ex
  obtain rfl : u = Value.ref a := rx
  exact d_notIn hu I2 g ry fun s3 I3 => ⟨.bl (!ov.isSome), H2, I3, rfl, q2⟩
theorem ps_dput (hu : X.A.units + 1 < cLine) (ho : PE X o td) (hi : PE X i ty) (hv : PE X value tv) (hs : swapsWith value (some (.Subscript o i pos')) pos.line X.env = pure false) :
    PS X (.Assign [.Subscript o i pos'] value pos) (sDPut td ty tv) := by
  intro pins s σ H D I h
  refine wpAny_Assign_Subscript (thn (hv pins s σ H _ I h) fun r s1 ⟨v, H1, I1, rv, q1⟩ => thn (ho pins s1 σ H1 _ I1 q1) fun u s2 ⟨x, H2, I2, rx, q2⟩ => thn (hi pins s2 σ H2 _ I2 q2) fun iv s3 ⟨y, H3, I3, ry, a, H4, ex, g, q3⟩ => ?_) hs
  subst ex
  obtain rfl : u = Value.ref a := rx
  exact d_setItem hu I3 g ry rv fun s4 I4 => ⟨σ, H4, I4, q3⟩
theorem ps_daug {op : Operator} {rd : V → V → Hp → VK → Prop} (hu : X.A.units + 1 < cLine) (ho : PE X o td) (hi : PE X i ty) (hv : PE X value tv) (hop : InOp X op rd)
    (ha : ∀ ov iv new, augStore i ov iv new = (do holding [new, ov, iv] (setItem ov iv new); release [new, ov, iv] []; pure .next)) : PS X (.AugAssign (.Subscript o i tpos) op value pos) (sDAug td ty tv rd) := by
  intro pins s σ H D I h
  refine wpAny_AugAssign_SubscriptAny (thn (ho pins s σ H _ I h) fun u s1 ⟨x, H1, I1, rx, q1⟩ => thn (hi pins s1 σ H1 _ I1 q1) fun iv s2 ⟨y, H2, I2, ry, a, v, ex, g, q2⟩ => ?_) ha
  subst ex
  obtain rfl : u = Value.ref a := rx
  refine d_getItem hu I2 g ry fun w' s3 I3 rw' => thn (hv pins s3 σ H2 _ I3 q2) fun w2 s4 ⟨y2, H3, I4, ry2, q3⟩ => thn (hop pins s4 σ H3 v y2 w' w2 _ I4 rw' ry2 q3) fun w3 s5 ⟨z, H4, I5, rz, H5, g5, q4⟩ => ?_
  exact d_setItem hu I5 g5 ry rz fun s6 I6 => ⟨σ, H5, I6, q4⟩
theorem ps_ddel (ho : PE X o td) (hi : PE X i ty) : PS X (.Delete [.Subscript o i tpos] pos) (sDDel td ty) := by
  intro pins s σ H D I h
  refine wpAny_Delete (wpAny_deleteEach_cons (wpAny_delete_Subscript (thn (ho pins s σ H _ I h) fun u s1 ⟨x, H1, I1, rx, q1⟩ => thn (hi pins s1 σ H1 _ I1 q1) fun iv s2 ⟨y, H2, I2, ry, a, kvs, k, ex, e, ey, l, q2⟩ => ?_)))
  subst ex ey
  obtain rfl : u = Value.ref a := rx
  exact d_delItem I2 e ry l fun s3 I3 => wpAny_deleteEach_nil ⟨σ, _, I3, q2⟩
end


/-! ### displays -/
theorem dk_empty {P : Program} {w : World} {H : Hp} (h : Heap) (hb : sysModules < h.objs.size) : ObjOk P w H (h.push { cls := .type "dict", data := .dict #[] }) h.objs.size (.dK []) :=
  ⟨Nat.zero_le _, beq_eq_false_iff_ne.mpr (Ne.symm (Nat.ne_of_lt hb)), [], .nil, Heap.DictOf.new h⟩
theorem dt_empty {P : Program} {w : World} {H : Hp} (h : Heap) (hb : sysModules < h.objs.size) : ObjOk P w H (h.push { cls := .type "dict", data := .dict #[] }) h.objs.size (.dT []) :=
  ⟨Nat.zero_le _, beq_eq_false_iff_ne.mpr (Ne.symm (Nat.ne_of_lt hb)), [], .nil, _, #[], 0, Heap.get?_push_size _ rfl, ⟨rfl, rfl, rfl⟩, rfl, rfl, List.nodup_nil⟩
/-- {}, to be a dict of the kind that is wanted -/
def tDNewK : TE := fun _ H Q => ∀ p, H p = none → Q (.ref p) (upd H p (.dK []))
def tDNewT : TE := fun _ H Q => ∀ p, H p = none → Q (.ref p) (upd H p (.dT []))
section
variable {X : Cx} {pos : Pos}
theorem pe_dnewK : PE X (.Dict [] [] pos) tDNewK := fun pins s σ H Q I h =>
  wpAny_Dict_empty ⟨.ref s.heap.objs.size, _, I.laid (a := s.heap.objs.size) (o := .dK []) (t' := s.toks) (fun _ _ q => Heap.get?_push_of_some _ q) (Nat.le_refl _) (dk_empty s.heap I.big), rfl, h _ (I.hok.fresh (Nat.le_refl _))⟩
theorem pe_dnewT : PE X (.Dict [] [] pos) tDNewT := fun pins s σ H Q I h =>
  wpAny_Dict_empty ⟨.ref s.heap.objs.size, _, I.laid (a := s.heap.objs.size) (o := .dT []) (t' := s.toks) (fun _ _ q => Heap.get?_push_of_some _ q) (Nat.le_refl _) (dt_empty s.heap I.big), rfl, h _ (I.hok.fresh (Nat.le_refl _))⟩
end

/-- the pairs of a display, from the left -/
def tPairs : List (TE × TE) → St → Hp → (List (V × V) → Hp → Prop) → Prop
  | [], _, H, Q => Q [] H
  | (tk, tv) :: r, σ, H, Q => tk σ H fun x H1 => tv σ H1 fun y H2 => tPairs r σ H2 fun ps H3 => Q ((x, y) :: ps) H3
abbrev VV : List (V × V) → List (Value × Value) → Prop := Paired fun p q => RelV p.1 q.1 ∧ RelV p.2 q.2
def PPs (X : Cx) (pos : Pos) (keys : List (Option Expr)) (values : List Expr) (trs : List (TE × TE)) : Prop :=
  ∀ (pins : List (Addr × Obj)) (s : Shared) (σ : St) (H : Hp) (Q : List (V × V) → Hp → Prop), Inv X pins σ H s → tPairs trs σ H Q →
    wpAny (model X.prog X.w) X.A (evalPairs (pairTrees keys values X.env pos)) (fun vs s' => ∃ ps H', Inv X pins σ H' s' ∧ VV ps vs ∧ Q ps H') X.xe s
theorem pps_nil {X : Cx} {pos : Pos} : PPs X pos [] [] [] := fun pins s σ H Q I h => pairTrees_nil_walk ⟨[], H, I, .nil, h⟩
theorem pps_cons {X : Cx} {pos : Pos} {k v : Expr} {ks : List (Option Expr)} {vs : List Expr} {tk tv : TE} {trs : List (TE × TE)} (hk : PE X k tk) (hv : PE X v tv) (hr : PPs X pos ks vs trs) :
    PPs X pos (some k :: ks) (v :: vs) ((tk, tv) :: trs) := fun pins s σ H Q I h =>
  pairTrees_cons_walk (thn (hk pins s σ H _ I h) fun u s1 ⟨x, H1, I1, rx, q1⟩ => thn (hv pins s1 σ H1 _ I1 q1) fun w2 s2 ⟨y, H2, I2, ry, q2⟩ =>
    thn (hr pins s2 σ H2 _ I2 q2) fun ws s3 ⟨ps, H3, I3, rel, q3⟩ => ⟨(x, y) :: ps, H3, I3, .cons ⟨rx, ry⟩ rel, q3⟩)

def mergeK (kvs more : List (Key × V)) : List (Key × V) := more.foldl (fun acc kv => putK acc kv.1 kv.2) kvs
theorem KV.merge : ∀ {more : List (Key × V)} {rs : List (Key × Value)} {kvs : List (Key × V)} {vs : List (Key × Value)}, KV more rs → KV kvs vs → KV (mergeK kvs more) (merged vs rs) := by
  intro more rs kvs vs r
  unfold KV at r
  induction r generalizing kvs vs with
  | nil => intro q; exact q
  | @cons p q ps qs h t ih =>
    intro r0
    have e : KV (putK kvs p.1 p.2) (stored vs q.1 q.2) := by
      have := r0.put p.1 h.2
      rw [← h.1]; exact this
    exact ih e
theorem length_mergeK : ∀ (more kvs : List (Key × V)), (mergeK kvs more).length ≤ kvs.length + more.length
  | [], kvs => by show kvs.length ≤ kvs.length + 0; omega
  | p :: r, kvs => by
    have h1 := length_mergeK r (putK kvs p.1 p.2)
    have h2 := length_putK kvs p.1 p.2
    show (mergeK (putK kvs p.1 p.2) r).length ≤ _
    rw [List.length_cons]; omega
theorem carries_of {P : Program} {w : World} : ∀ {kvs : List (Key × V)} {ws : List (Value × Value)}, VV (kvs.map fun kv => (kV kv.1, kv.2)) ws → ∃ rs, Carries (mixKind P w) ws rs ∧ KV kvs rs
  | [], _, r => by rw [List.map_nil] at r; cases r; exact ⟨[], True.intro, .nil⟩
  | p :: kvs, _, r => by
    rw [List.map_cons] at r
    cases r with
    | @cons a b as bs h t =>
      obtain ⟨rs, c, q⟩ := carries_of (P := P) (w := w) t
      obtain ⟨b1, b2⟩ := b
      exact ⟨(p.1, b2) :: rs, ⟨kV_is h.1, rfl, c⟩, .cons ⟨rfl, h.2⟩ q⟩
/-- {k: v, ..} with keys ints and texts; the new dict stands empty while the pairs are made -/
def tDisp (trs : List (TE × TE)) : TE := fun σ H Q => ∀ p, H p = none → tPairs trs σ (upd H p (.dK [])) fun ps H2 => H2 p = some (.dK []) ∧ ∃ kvs : List (Key × V), ps = kvs.map (fun kv => (kV kv.1, kv.2)) ∧ kvs.length ≤ 15 ∧ Q (.ref p) (upd H2 p (.dK (mergeK [] kvs)))
theorem pe_disp {X : Cx} {pos : Pos} {keys : List (Option Expr)} {values : List Expr} {trs : List (TE × TE)} (h : PPs X pos keys values trs) (hall : keys.all (·.isSome) = true) (hl : keys.length = values.length) (h0 : keys ≠ [])
    (h15 : keys.length ≤ 15) : PE X (.Dict keys values pos) (tDisp trs) := by
  intro pins s σ H Q I q
  have hn := I.hok.fresh (Nat.le_refl s.heap.objs.size)
  have I1 := I.laid (a := s.heap.objs.size) (o := .dK []) (h' := s.heap.push { cls := .type "dict", data := .dict #[] }) (t' := s.toks) (fun _ _ q => Heap.get?_push_of_some _ q) (Nat.le_refl _) (dk_empty s.heap I.big)
  refine wpAny_Dict_walk (knd := mixKind X.prog X.w) hall hl h0 h15 (thn (h pins _ σ _ _ I1 (q _ hn)) fun ws s2 ⟨ps, H2, I2, rel, e, kvs, ep, lk, q2⟩ => ?_)
  subst ep
  obtain ⟨rs, c, rk⟩ := carries_of (P := X.prog) (w := X.w) rel
  obtain ⟨z, hd, vs0, r0, dd⟩ := dk_of I2.hok e
  cases r0
  refine ⟨rs, c, dd, fun h' dd' hs => ⟨.ref s.heap.objs.size, _, ?_, rfl, q2⟩⟩
  have hz : (mergeK [] kvs).length ≤ sizeLine := by
    have h1 := length_mergeK kvs []
    rw [List.length_nil] at h1
    rw [sizeLine_eq]; omega
  have he : ∃ q, h'.get? s.heap.objs.size = some q := let ⟨q, _, _, hq, _⟩ := dd'; ⟨q, hq⟩
  exact d_write I2 (by rw [e]; exact True.intro) hs he (dk_new hz hd (rk.merge .nil) dd')


/-! ### methods -/
/-- a method call o.m(e) of a built-in, with one argument: what must be seen of the text -/
structure M1 (X : Cx) (o : Expr) (m : Str) (apos : Pos) (e : Expr) (cpos : Pos) : Prop where
  base : attributeBase o m X.env (eval o X.env) = eval o X.env
  few : ((backTo cpos (starEach [e] X.env)).all (fun x => !x.1) && (backToKw cpos (keywordEach [] X.env)).all (fun x => x.1.isSome)
    && decide (([e] : List Expr).length + ([] : List Keyword).length + (if ([] : List Keyword).isEmpty then 0 else 1) < 30)) = true
  line : (apos.endLine == cpos.line) = true
  trees : backTo cpos (starEach [e] X.env) = [(false, eval e X.env)]
structure M2 (X : Cx) (o : Expr) (m : Str) (apos : Pos) (e f : Expr) (cpos : Pos) : Prop where
  base : attributeBase o m X.env (eval o X.env) = eval o X.env
  few : ((backTo cpos (starEach [e, f] X.env)).all (fun x => !x.1) && (backToKw cpos (keywordEach [] X.env)).all (fun x => x.1.isSome)
    && decide (([e, f] : List Expr).length + ([] : List Keyword).length + (if ([] : List Keyword).isEmpty then 0 else 1) < 30)) = true
  line : (apos.endLine == cpos.line) = true
  trees : backTo cpos (starEach [e, f] X.env) = [(false, eval e X.env), (false, eval f X.env)]

/-- a is a dict, whatever its keys -/
def IsD (H : Hp) (a : Addr) : Prop := (∃ kvs, Rd H a (.dK kvs)) ∨ ∃ kvs, Rd H a (.dT kvs)
theorem isD_at {X : Cx} {pins : List (Addr × Obj)} {σ : St} {H : Hp} {s : Shared} {a : Addr} (I : Inv X pins σ H s) (d : IsD H a) :
    s.TypeIs (.ref a) "dict" ∧ (∀ b, Value.ref a = .ref b → ∃ ob, s.heap.get? b = some ob ∧ ob.dict = none) ∧ (a == sysModules) = false := by
  rcases d with ⟨kvs, e⟩ | ⟨kvs, e⟩
  · obtain ⟨_, hd, vs, _, dd⟩ := dk_rd I.hok e
    refine ⟨dd.typeIs, fun b q => ?_, hd⟩
    cases q
    obtain ⟨ob, _, _, h1, h2, _⟩ := dd
    exact ⟨ob, h1, h2.2.1⟩
  · obtain ⟨_, hd, xs, _, dd⟩ := dt_rd I.hok e
    refine ⟨dd.typeIs, fun b q => ?_, hd⟩
    cases q
    obtain ⟨ob, _, _, h1, h2, _⟩ := dd
    exact ⟨ob, h1, h2.2.1⟩

section
variable {X : Cx} {pins : List (Addr × Obj)} {σ : St} {H : Hp} {s : Shared} {a : Addr} {y d : V} {u r : Value} {o : Option V} {A : Around} {E : Value → Shared → Prop}
/-- d.get(y) -/
theorem d_get1 {Q : Value → Shared → Prop} (hu : A.units + 1 < cLine) (I : Inv X pins σ H s) (g : DGet H a y o) (ry : RelV y u) (h : ∀ w' s', Inv X pins σ H s' → RelV (o.getD .non) w' → Q w' s') :
    wpAny (model X.prog X.w) A (call (.builtin "dict.get") [.ref a, u]) Q E s := by
  rcases g with ⟨kvs, k, e, ey, l⟩ | ⟨kvs, k, b, e, ey, eb, l⟩
  · subst ey
    obtain ⟨z, hd, vs, rel, dd⟩ := dk_rd I.hok e
    refine call_meetsIn PySem.F.slot_dict_get dd.typeIs PySem.F.entry_dict_get (PySem.F.args_dict_get_2 _ _) (meets_dict_get (mixKind X.prog X.w) a (kV_is ry) hd) ⟨_, dd.mapOf, h _ _ (I.tok _) ?_⟩
    rw [l]
    exact (rel.val k).getD rfl
  · subst ey
    cases (show u = Value.ref b from ry)
    obtain ⟨z, hd, xs, rel, dd⟩ := dt_rd I.hok e
    refine call_meetsIn PySem.F.slot_dict_get dd.typeIs PySem.F.entry_dict_get (PySem.F.args_dict_get_2 _ _) (meetsH_dict_get (tupleKind (mixKind X.prog X.w)) a b hd) ⟨tupleKind_room_in1 hu, k, xs, key_of I.hok eb, dd, h _ _ (I.tok _) ?_⟩
    rw [l]
    exact (rel.val k).getD rfl
/-- d.get(y, x) -/
theorem d_get2 {Q : Value → Shared → Prop} (hu : A.units + 1 < cLine) (I : Inv X pins σ H s) (g : DGet H a y o) (ry : RelV y u) (rd : RelV d r) (h : ∀ w' s', Inv X pins σ H s' → RelV (o.getD d) w' → Q w' s') :
    wpAny (model X.prog X.w) A (call (.builtin "dict.get") [.ref a, u, r]) Q E s := by
  rcases g with ⟨kvs, k, e, ey, l⟩ | ⟨kvs, k, b, e, ey, eb, l⟩
  · subst ey
    obtain ⟨z, hd, vs, rel, dd⟩ := dk_rd I.hok e
    refine call_meetsIn PySem.F.slot_dict_get dd.typeIs PySem.F.entry_dict_get (PySem.F.args_dict_get_3 _ _ _) (meets_dict_get_default (mixKind X.prog X.w) a (kV_is ry) hd r) ⟨_, dd.mapOf, h _ _ (I.tok _) ?_⟩
    rw [l]
    exact (rel.val k).getD rd
  · subst ey
    cases (show u = Value.ref b from ry)
    obtain ⟨z, hd, xs, rel, dd⟩ := dt_rd I.hok e
    refine call_meetsIn PySem.F.slot_dict_get dd.typeIs PySem.F.entry_dict_get (PySem.F.args_dict_get_3 _ _ _) (meetsH_dict_get_default (tupleKind (mixKind X.prog X.w)) a b hd r) ⟨tupleKind_room_in1 hu, k, xs, key_of I.hok eb, dd, h _ _ (I.tok _) ?_⟩
    rw [l]
    exact (rel.val k).getD rd
end

def tDGet1 (td ty : TE) : TE := fun σ H Q => td σ H fun x H1 => ∃ a, x = .ref a ∧ IsD H1 a ∧ ty σ H1 fun y H2 => ∃ o, DGet H2 a y o ∧ Q (o.getD .non) H2
def tDGet2 (td ty tx : TE) : TE := fun σ H Q => td σ H fun x H1 => ∃ a, x = .ref a ∧ IsD H1 a ∧ ty σ H1 fun y H2 => tx σ H2 fun z H3 => ∃ o, DGet H3 a y o ∧ Q (o.getD z) H3
/-- d.pop(k): there; d.pop(k, x): there or not -/
def tDPop1 (td ty : TE) : TE := fun σ H Q => td σ H fun x H1 => ∃ a, x = .ref a ∧ IsD H1 a ∧ ty σ H1 fun y H2 => ∃ kvs k v, H2 a = some (.dK kvs) ∧ y = kV k ∧ valV kvs k = some v ∧ Q v (upd H2 a (.dK (dropK kvs k)))
def tDPop2 (td ty tx : TE) : TE := fun σ H Q => td σ H fun x H1 => ∃ a, x = .ref a ∧ IsD H1 a ∧ ty σ H1 fun y H2 => tx σ H2 fun z H3 => ∃ kvs k, H3 a = some (.dK kvs) ∧ y = kV k ∧
  (∀ v, valV kvs k = some v → Q v (upd H3 a (.dK (dropK kvs k)))) ∧ (valV kvs k = none → Q z H3)
section
variable {X : Cx} {o e f : Expr} {apos cpos : Pos} {td ty tx : TE}
theorem pe_dget1 (hu : X.A.units + 1 < cLine) (ho : PE X o td) (he : PE X e ty) (m : M1 X o "get" apos e cpos) : PE X (.Call (.Attribute o "get" apos) [e] [] cpos) (tDGet1 td ty) := by
  intro pins s σ H Q I h
  refine wpAny_Call_method m.base m.few m.line PySem.F.plainAttrs_dict PySem.F.slot_dict_get PySem.F.type_dict_get (thn (ho pins s σ H _ I h) fun u s1 ⟨x, H1, I1, rx, a, ex, d, q1⟩ => ?_)
  subst ex
  obtain rfl : u = Value.ref a := rx
  obtain ⟨t1, t2, _⟩ := isD_at I1 d
  refine ⟨t1, t2, ?_⟩
  rw [m.trees]
  refine Calls.callWith_builtin rfl (Calls.evalArgs_plain (Calls.spliced_cons (thn (he pins s1 σ H1 _ I1 q1) fun iv s2 ⟨y, H2, I2, ry, ov, g, q2⟩ => Calls.spliced_nil ?_)))
  exact d_get1 hu I2 g ry fun w' s3 I3 rw' => ⟨_, H2, I3, rw', q2⟩
theorem pe_dget2 (hu : X.A.units + 1 < cLine) (ho : PE X o td) (he : PE X e ty) (hf : PE X f tx) (m : M2 X o "get" apos e f cpos) : PE X (.Call (.Attribute o "get" apos) [e, f] [] cpos) (tDGet2 td ty tx) := by
  intro pins s σ H Q I h
  refine wpAny_Call_method m.base m.few m.line PySem.F.plainAttrs_dict PySem.F.slot_dict_get PySem.F.type_dict_get (thn (ho pins s σ H _ I h) fun u s1 ⟨x, H1, I1, rx, a, ex, d, q1⟩ => ?_)
  subst ex
  obtain rfl : u = Value.ref a := rx
  obtain ⟨t1, t2, _⟩ := isD_at I1 d
  refine ⟨t1, t2, ?_⟩
  rw [m.trees]
  refine Calls.callWith_builtin rfl (Calls.evalArgs_plain (Calls.spliced_cons (thn (he pins s1 σ H1 _ I1 q1) fun iv s2 ⟨y, H2, I2, ry, q2⟩ =>
    Calls.spliced_cons (thn (hf pins s2 σ H2 _ I2 q2) fun fv s3 ⟨z, H3, I3, rz, ov, g, q3⟩ => Calls.spliced_nil ?_))))
  exact d_get2 hu I3 g ry rz fun w' s4 I4 rw' => ⟨_, H3, I4, rw', q3⟩
theorem pe_dpop1 (ho : PE X o td) (he : PE X e ty) (m : M1 X o "pop" apos e cpos) : PE X (.Call (.Attribute o "pop" apos) [e] [] cpos) (tDPop1 td ty) := by
  intro pins s σ H Q I h
  refine wpAny_Call_method m.base m.few m.line PySem.F.plainAttrs_dict PySem.F.slot_dict_pop PySem.F.type_dict_pop (thn (ho pins s σ H _ I h) fun u s1 ⟨x, H1, I1, rx, a, ex, d, q1⟩ => ?_)
  subst ex
  obtain rfl : u = Value.ref a := rx
  obtain ⟨t1, t2, _⟩ := isD_at I1 d
  refine ⟨t1, t2, ?_⟩
  rw [m.trees]
  refine Calls.callWith_builtin rfl (Calls.evalArgs_plain (Calls.spliced_cons (thn (he pins s1 σ H1 _ I1 q1) fun iv s2 ⟨y, H2, I2, ry, kvs, k, v, ea, ey, l, q2⟩ => Calls.spliced_nil ?_)))
  subst ey
  exact d_pop I2 ea ry l (.inl rfl) fun w' s3 I3 rw' => ⟨v, _, I3, rw', q2⟩
theorem pe_dpop2 (ho : PE X o td) (he : PE X e ty) (hf : PE X f tx) (m : M2 X o "pop" apos e f cpos) : PE X (.Call (.Attribute o "pop" apos) [e, f] [] cpos) (tDPop2 td ty tx) := by
  intro pins s σ H Q I h
  refine wpAny_Call_method m.base m.few m.line PySem.F.plainAttrs_dict PySem.F.slot_dict_pop PySem.F.type_dict_pop (thn (ho pins s σ H _ I h) fun u s1 ⟨x, H1, I1, rx, a, ex, d, q1⟩ => ?_)
  subst ex
  obtain rfl : u = Value.ref a := rx
  obtain ⟨t1, t2, _⟩ := isD_at I1 d
  refine ⟨t1, t2, ?_⟩
  rw [m.trees]
  refine Calls.callWith_builtin rfl (Calls.evalArgs_plain (Calls.spliced_cons (thn (he pins s1 σ H1 _ I1 q1) fun iv s2 ⟨y, H2, I2, ry, q2⟩ =>
    Calls.spliced_cons (thn (hf pins s2 σ H2 _ I2 q2) fun fv s3 ⟨z, H3, I3, rz, kvs, k, ea, ey, q3, q4⟩ => Calls.spliced_nil ?_))))
  subst ey
  cases l : valV kvs k with
  | some v => exact d_pop I3 ea ry l (.inr ⟨fv, rfl⟩) fun w' s4 I4 rw' => ⟨v, _, I4, rw', q3 v l⟩
  | none => exact d_popD I3 ea ry l fun s4 I4 => ⟨z, H3, I4, rz, q4 l⟩
end

/-! ### dict(d): a copy -/
section
variable {X : Cx} {pins : List (Addr × Obj)} {σ : St} {H : Hp} {s : Shared} {a : Addr} {kvs : List (Key × V)} {A : Around} {E : Value → Shared → Prop}
theorem d_copyOf {Q : Value → Shared → Prop} (I : Inv X pins σ H s) (e : Rd H a (.dK kvs)) (h : ∀ p s', H p = none → Inv X pins σ (upd H p (.dK kvs)) s' → Q (.ref p) s') : wpAny (model X.prog X.w) A (call (.type "dict") [.ref a]) Q E s := by
  obtain ⟨z, hd, vs, rel, dd⟩ := dk_rd I.hok e
  refine kt_call_dict hd dd (by rw [← rel.length]; exact z) fun h' dd' hs => ?_
  refine h _ _ (I.hok.fresh (Nat.le_refl _)) (I.laid (a := s.heap.objs.size) (o := .dK kvs) (t' := s.toks) (fun b q hq => ?_) (Nat.le_refl _) (dk_new z (beq_eq_false_iff_ne.mpr (Ne.symm (Nat.ne_of_lt I.big))) rel dd'))
  exact (hs.2 b (Nat.ne_of_lt (Heap.lt_size hq))).trans (Heap.get?_push_of_some _ hq)
end


section
variable {X : Cx} {pins : List (Addr × Obj)} {σ : St} {H : Hp} {s : Shared} {a : Addr} {y : V} {u : Value} {A : Around} {E : Value → Shared → Prop}
/-- d[y], not there: a KeyError -/
theorem d_missing {Q : Value → Shared → Prop} (hu : A.units + 1 < cLine) (hh : A.handled = none) (I : Inv X pins σ H s) (g : DGet H a y none) (ry : RelV y u)
    (h : ∀ h' e t', Heap.NewExc s.heap h' e "KeyError" → E (.ref e) { s with heap := h', toks := t' }) : wpAny (model X.prog X.w) A (getItem (.ref a) u) Q E s := by
  rcases g with ⟨kvs, k, e, ey, l⟩ | ⟨kvs, k, b, e, ey, eb, l⟩
  · subst ey
    obtain ⟨z, hd, vs, rel, dd⟩ := dk_rd I.hok e
    have hn : valueAt vs k = none := RelO.none_of (by rw [l]; exact rel.val k)
    exact wpAny_getItem_missing_of (kV_is ry) hd hh dd.mapOf hn fun h' ex ne => h h' ex _ ne
  · subst ey
    cases (show u = Value.ref b from ry)
    obtain ⟨z, hd, xs, rel, dd⟩ := dt_rd I.hok e
    have hn : (atKey xs k).map (·.2) = none := RelO.none_of (by rw [l]; exact rel.val k)
    exact wpAny_getItem_missing_heap (tupleKind_room_in1 hu) (key_of I.hok eb) hd hh dd (Option.map_eq_none_iff.mp hn) fun h' ex ne => h h' ex _ ne
end
end L2

namespace L2
open PySem PySem.Spec PyProof.Rows

theorem list_keys_none : typeLookup (.type "list") "keys" = pure none := am_miss_of_fast (by first | decide +kernel | rfl)
theorem ud_entry : entryFor table "dict.update.loop" = some Builtin.«dict.update.loop» := entryFor_of_tree (by kernel_rfl)
theorem ud_plain : plainId "dict.update.loop" = true := by decide +kernel

section
variable {prog : Program} {w : World} {A : Around} {E : Value → Shared → Prop}
/-- a list has no attribute 'keys': an AttributeError is made, and forgotten -/
theorem miss_list {s : Shared} {a : Addr} {o : Obj} {xs : Array Value} {k : Nat} {Q : Option Value → Shared → Prop} (hx : s.heap.get? a = some o) (hc : o.cls = .type "list") (hdat : o.data = .seq xs k) (hd : o.dict = none) (hA : A.handled = none)
    (h : ∀ h' tk, (∀ b ob, s.heap.get? b = some ob → h'.get? b = some ob) → Q none { s with heap := h', toks := tk }) : wpAny (model prog w) A (getAttr? (.ref a) "keys") Q E s := by
  obtain ⟨c, dct, dat, sl⟩ := o
  simp only at hc hdat hd
  subst hc hdat hd
  obtain ⟨hp, g, d, tk, os⟩ := s
  have hT : ∀ tk', (⟨hp, g, d, tk', os⟩ : Shared).TypeIs (.ref a) "list" := fun _ => ⟨_, hx, rfl⟩
  have hmiss := list_keys_none
  have hname : (["__module__", "__name__", "__qualname__", "__doc__", "__annotations__"] : List Str).contains "keys" = false := by decide +kernel
  have hsz : ("keys" : Str).length + 100 ≤ sizeLine := by first | size_fits | decide +kernel
  have f1 := sub_AttributeError
  have f3 := PySem.F.slot_list_getattribute.lookup
  have f4 := PySem.F.slot_list_getattribute.bind (.ref a)
  have f5 := am_list_getattr_none
  unfold getAttr? getAttrBy? getAttrBy
  repeat (any_goals (first | assumption | exact hT _ | ((with_reducible show wpAny _ _ (call (Value.builtin "list.__getattribute__") _ _) _ _ _); refine call_meets PySem.F.slot_list_getattribute (hT _) am_entry_list_getattribute (PySem.F.args_list_getattribute_2 _ _) (meets_getattribute_miss_list a xs k sl "keys" _ hmiss hname hsz) ⟨hx, hA, fun h' tk' e hx' => ?_⟩) | wp_step))
  obtain ⟨t', u', he⟩ := hx'.there
  show wpAny _ _ (getattributeRaised _ _ _ _ _ _ _) _ _ _
  unfold getattributeRaised
  repeat (any_goals (first | assumption | wp_step))
  all_goals first | exact h _ _ hx'.keeps | (dsimp only; repeat (any_goals (first | assumption | exact h _ _ hx'.keeps | wp_step)))

/-- the walk over the pairs -/
theorem upd_loop {R : Result → Shared → Prop} {S I l : Addr} {items : Array Value} {res : Value} (hh : A.handled = none) (hlI : l ≠ I) (hSI : S ≠ I) (hSl : S ≠ l) :
    ∀ (rest : List (Key × Value)) (i : Nat) (acc : List (Key × Value)) (ix : Int) (t : Tok) (s : Shared), items.size = i + rest.length → acc.length + rest.length ≤ sizeLine →
      (∀ (j : Nat) (q : Key × Value), rest[j]? = some q → ∃ (b : Addr) (u : Value), items[i + j]? = some (.ref b) ∧ b ≠ S ∧ b ≠ I ∧ IsTup s.heap b #[u, q.2] ∧ keyIs q.1 u = true) →
      s.heap.IsListIter I l i → s.heap.IsList l items → s.heap.DictOf (mixKind prog w) S acc →
      (∀ h' tk, h'.DictOf (mixKind prog w) S (merged acc rest) → (∀ b o, b ≠ S → b ≠ I → s.heap.get? b = some o → h'.get? b = some o) → R (.ok (.ret res)) { s with heap := h', toks := tk }) →
      codeAny (model prog w) A (.builtin "dict.update.loop" ⟨[.ref S, .ref I, .int ix t, res], []⟩) R s
  | [], i, acc, ix, t, s, hsz, hln, ht, hit, hl, hm, hR => by
    refine codeAny_builtin ud_entry ?_
    rw [Around.under_plainId ud_plain _]
    show wpAny _ A.in1 (pyNext (.ref I) >>= _) _ _ s
    refine wpAny_bind (wpAny_pyNext_list_end (A := A.in1) hh hit hl (by first | exact Array.getElem?_eq_none (Nat.le_of_eq hsz) | (simp at hsz; simp; omega)) fun h' he => ?_)
    show wpAny _ A.in1 (Builtin.Dict.addKeywords S [] >>= _) _ _ _
    refine wpAny_bind (wpAny_pure (wpAny_pure ?_))
    exact hR h' s.toks (hm.extBut he hSI) fun b o _ hb e => he b o hb e
  | q :: rest, i, acc, ix, t, s, hsz, hln, ht, hit, hl, hm, hR => by
    obtain ⟨b, u, hb, hbS, hbI, htup, hk⟩ := ht 0 q rfl
    rw [List.length_cons] at hsz hln
    refine codeAny_builtin ud_entry ?_
    rw [Around.under_plainId ud_plain _]
    show wpAny _ A.in1 (pyNext (.ref I) >>= _) _ _ s
    refine wpAny_bind (wpAny_pyNext_list_item (x := .ref b) hit hl (by simpa using hb) fun h1 hit1 hs1 => ?_)
    have ht1 : IsTup h1 b #[u, q.2] := htup.extBut hs1.extBut hbI
    have hl1 : h1.IsList l items := hl.extBut hs1.extBut hlI
    have hm1 : h1.DictOf (mixKind prog w) S acc := hm.extBut hs1.extBut hSI
    obtain ⟨o, ho, hc, n, hd⟩ := id ht1
    show wpAny _ A.in1 (holding [Value.ref b] _ >>= _) _ _ _
    refine wpAny_bind (wpAny_holding ?_)
    refine wpAny_bind (wpAny_tryCatch ?_)
    unfold Builtin.Dict.pairItems
    refine wpAny_bind (wpAny_typeOf (T := "tuple") ⟨o, ho, hc⟩ ?_)
    rw [if_pos (by first | decide | rfl | simp)]
    refine wpAny_bind (wpAny_seqItems ho hd (wpAny_pure ?_))
    show wpAny _ A.in1 (holding [u, q.2] (dictSet S u q.2)) _ _ _
    refine wpAny_holding (wpAny_dictSet_pairs (knd := mixKind prog w) (k := q.1) hk hm1 (fun h2 hm2 hs2 => ?_) (by omega))
    refine wpAny_pure ⟨plainId_quiet ud_plain _, upd_loop (items := items) hh hlI hSI hSl rest (i + 1) (stored acc q.1 q.2) (ix + 1) 0 _ (show items.size = i + 1 + rest.length by omega) ?_ (fun j q' e => ?_) ?_ ?_ hm2 fun h' tk hd' k => ?_⟩
    · have z := stored_length_le acc q.1 q.2
      omega
    · obtain ⟨b', u', hb', hbS', hbI', htup', hk'⟩ := ht (j + 1) q' (by simpa using e)
      refine ⟨b', u', ?_, hbS', hbI', (htup'.extBut hs1.extBut hbI').extBut hs2.extBut hbS', hk'⟩
      rw [show i + 1 + j = i + (j + 1) by omega]
      exact hb'
    · exact hit1.at fun o' e => hs2.extBut I o' (Ne.symm hSI) e
    · exact hl1.extBut hs2.extBut (Ne.symm hSl)
    · exact hR h' tk hd' fun c oc h3 h4 e => k c oc h3 h4 (hs2.extBut c oc h3 (hs1.extBut c oc h4 e))

/-- dict(l) of a list of pairs -/
theorem call_dict_pairs {s : Shared} {l : Addr} {ol : Obj} {items : Array Value} {n : Nat} {prs : List (Key × Value)} {Q : Value → Shared → Prop} (hh : A.handled = none) (hl : s.heap.get? l = some ol) (hc : ol.cls = .type "list") (hd : ol.dict = none)
    (hdat : ol.data = .seq items n) (hsz : items.size = prs.length) (hln : prs.length ≤ sizeLine)
    (ht : ∀ (j : Nat) (q : Key × Value), prs[j]? = some q → ∃ (b : Addr) (u : Value), items[j]? = some (.ref b) ∧ IsTup s.heap b #[u, q.2] ∧ keyIs q.1 u = true)
    (h : ∀ h' tk, h'.DictOf (mixKind prog w) s.heap.objs.size (merged [] prs) → (∀ b o, s.heap.get? b = some o → h'.get? b = some o) → Q (.ref s.heap.objs.size) { s with heap := h', toks := tk }) :
    wpAny (model prog w) A (call (.type "dict") [.ref l]) Q E s := by
  refine callType_codes (Q₁ := fun obj s₁ => obj = .ref s.heap.objs.size ∧ s₁ = { s with heap := s.heap.push { cls := .type "dict", data := .dict #[] } }) PySem.F.kt_called_dict (PySem.F.kt_typeCall_dict_1 _) PySem.F.entry_dict_init (kt_code_dict_new _ ⟨rfl, rfl⟩) ?_
  rintro obj s₁ ⟨rfl, rfl⟩
  have hnew : (s.heap.push { cls := .type "dict", data := .dict #[] }).DictOf (mixKind prog w) s.heap.objs.size [] := Heap.DictOf.new s.heap
  have k0 : ∀ b o, s.heap.get? b = some o → (s.heap.push { cls := .type "dict", data := .dict #[] }).get? b = some o := fun b o e => Heap.get?_push_of_some _ e
  refine ⟨hnew.typeIs, PySem.F.args_dict_init_2 _ _, ?_⟩
  unfold Builtin.«dict.__init__»
  refine wpAny_bind ?_
  unfold Builtin.Dict.selfAndRest
  refine wpAny_bind (wpAny_notOrdered_dict hnew.typeIs ?_)
  show wpAny _ _ (pure (s.heap.objs.size, [Value.ref l])) _ _ _
  refine wpAny_pure ?_
  show wpAny _ _ (Builtin.Dict.updateFrom "dict.__init__" s.heap.objs.size (.ref l) [] .none) _ _ _
  unfold Builtin.Dict.updateFrom
  refine wpAny_bind (wpAny_typeOf (T := "list") ⟨ol, k0 _ _ hl, hc⟩ ?_)
  rw [if_pos (by first | decide | rfl | simp)]
  refine wpAny_bind (miss_list (k0 _ _ hl) hc hdat hd hh fun h1 tk1 hk1 => ?_)
  rw [if_pos (show (none : Option Value).isNone = true from rfl)]
  refine wpAny_bind (wpAny_rule ?_)
  have hl1 : h1.IsList l items := ⟨ol, hk1 _ _ (k0 _ _ hl), hc, n, hdat⟩
  have hS1 : s.heap.objs.size < h1.objs.size := by
    have e : (s.heap.push { cls := .type "dict", data := .dict #[] }).get? s.heap.objs.size = some { cls := .type "dict", data := .dict #[] } := Heap.get?_push_size _ rfl
    exact Heap.lt_size (hk1 _ _ e)
  refine wpAny_bind (wpAny_pyIter_list hl1 ?_)
  have k2 : ∀ b o, h1.get? b = some o → (h1.push { cls := .type "list_iterator", data := .fields #[.ref l, .int 0 0] }).get? b = some o := fun b o e => Heap.get?_push_of_some _ e
  have hlt : l < s.heap.objs.size := Heap.lt_size hl
  have key := upd_loop (prog := prog) (w := w) (A := A.in1) (R := wants (fun r s₂ => r = .none ∧ Q (.ref s.heap.objs.size) s₂) E) (S := s.heap.objs.size) (I := h1.objs.size) (l := l) (items := items) (res := Value.none) hh
    (Nat.ne_of_lt (Nat.lt_trans hlt hS1)) (Nat.ne_of_lt hS1) (Nat.ne_of_gt hlt) prs 0 [] 0 0
    { s with heap := h1.push { cls := .type "list_iterator", data := .fields #[.ref l, .int 0 0] }, toks := tk1 } (by rw [hsz, Nat.zero_add]) (by rw [List.length_nil, Nat.zero_add]; exact hln)
    (fun j q e => by
      obtain ⟨b, u, e1, e2, e3⟩ := ht j q e
      have hb : b < s.heap.objs.size := e2.lt
      exact ⟨b, u, by rw [Nat.zero_add]; exact e1, Nat.ne_of_lt hb, Nat.ne_of_lt (Nat.lt_trans hb hS1), e2.keeps fun c o z => k2 _ _ (hk1 _ _ (k0 _ _ z)), e3⟩)
    ⟨_, Heap.get?_push_size _ rfl, rfl, rfl⟩ (hl1.at fun o e => k2 _ _ e) ((hnew.at fun o e => hk1 _ _ e).at fun o e => k2 _ _ e)
    (fun h' tk hd' k => ⟨rfl, h h' tk hd' fun b o e => k b o (Nat.ne_of_lt (Heap.lt_size e)) (Nat.ne_of_lt (Nat.lt_trans (Heap.lt_size e) hS1)) (k2 _ _ (hk1 _ _ (k0 _ _ e)))⟩)
  first
    | exact wpAny_pure ⟨plainId_quiet ud_plain _, key⟩
    | exact wpAny_bind (wpAny_pure (wpAny_pure ⟨plainId_quiet ud_plain _, key⟩))
end

section
variable {X : Cx}
theorem pairs_of {pins : List (Addr × Obj)} {σ : St} {H : Hp} {s : Shared} (I : Inv X pins σ H s) : ∀ {ps : List Addr} {kvs : List (Key × V)}, Paired (fun p kv => SqT X.K H p [kV kv.1, kv.2]) ps kvs →
    ∃ prs : List (Key × Value), KV kvs prs ∧ prs.length = ps.length ∧ ∀ (j : Nat) (q : Key × Value), prs[j]? = some q → ∃ (b : Addr) (u : Value), ps[j]? = some b ∧ IsTup s.heap b #[u, q.2] ∧ keyIs q.1 u = true
  | _, _, .nil => ⟨[], .nil, rfl, fun j q e => by simp at e⟩
  | _, _, .cons (a := p) (b := kv) h t => by
    obtain ⟨prs, r, hl, hp⟩ := pairs_of I t
    obtain ⟨its, rv, ht, _⟩ := I.tuple h
    obtain ⟨u, y, ei, ru, ry⟩ := vals2 rv
    subst ei
    refine ⟨(kv.1, y) :: prs, .cons ⟨rfl, ry⟩ r, by rw [List.length_cons, List.length_cons, hl], fun j q e => ?_⟩
    cases j with
    | zero =>
      have e' : (kv.1, y) = q := Option.some.inj e
      subst e'
      exact ⟨p, u, rfl, ht, kV_is (P := X.prog) (w := X.w) ru⟩
    | succ j =>
      obtain ⟨b, u', e1, e2, e3⟩ := hp j q (by simpa using e)
      exact ⟨b, u', by simpa using e1, e2, e3⟩
theorem refs_at : ∀ {ps : List Addr} {us : List Value}, Vals (ps.map V.ref) us → us = ps.map Value.ref
  | [], us, r => by
    rw [List.map_nil] at r
    cases r
    rfl
  | p :: ps, us, r => by
    rw [List.map_cons] at r
    cases r with
    | cons h t =>
      cases h
      rw [List.map_cons, ← refs_at t]
/-- dict(xs) of a list of pairs (key, value): later pairs win, the place is the first one's -/
theorem call_dictP (hcalm : X.calm = true) : CallR X (.type "dict") (fun xs H Q => ∃ (a : Addr) (ps : List Addr) (kvs : List (Key × V)), xs = [.ref a] ∧ SqL X.K H a (ps.map V.ref) ∧ Paired (fun p kv => SqT X.K H p [kV kv.1, kv.2]) ps kvs ∧
    ∀ p, H p = none → Q (.ref p) (upd H p (.dK (mergeK [] kvs)))) := by
  intro pins s σ H xs us Q I r q
  obtain ⟨a, ps, kvs, ex, hq, hp, q⟩ := q
  subst ex
  obtain ⟨u, eu, rx⟩ := vals1 r
  subst eu
  cases rx
  obtain ⟨its, rv, pl, hz⟩ := I.list hq
  have ei := refs_at rv
  subst ei
  rw [List.length_map] at hz
  obtain ⟨prs, rel, hl, hpr⟩ := pairs_of I hp
  obtain ⟨o, n, ho, hc, hd, hdat⟩ := pl
  refine call_dict_pairs (prs := prs) (I.ok.hd hcalm) ho hc hd hdat (by simp [hl]) (by rw [hl]; exact hz) (fun j q' e => ?_) fun h' tk hd' k => ?_
  · obtain ⟨b, u, e1, e2, e3⟩ := hpr j q' e
    exact ⟨b, u, by simp [e1], e2, e3⟩
  · have hm : (s.heap.objs.size == sysModules) = false := beq_eq_false_iff_ne.mpr (Nat.ne_of_gt I.big)
    have hlen : (mergeK [] kvs).length ≤ sizeLine := by
      refine Nat.le_trans (length_mergeK kvs []) ?_
      rw [List.length_nil, Nat.zero_add, rel.length, hl]
      exact hz
    exact ⟨.ref s.heap.objs.size, upd H s.heap.objs.size (.dK (mergeK [] kvs)), I.laid (t' := tk) k (Nat.le_refl _) (show ObjOk X.prog X.w _ _ _ (.dK (mergeK [] kvs)) from ⟨hlen, hm, merged [] prs, KV.merge rel .nil, hd'⟩), rfl, q _ (I.hok.fresh (Nat.le_refl _))⟩
end
end L2

namespace L2
open PySem PySem.Spec PyProof.Rows

theorem boot_reversed5 : bootBuiltins "reversed" = some (.type "reversed") := by decide +kernel

section
variable {X : Cx} {pins : List (Addr × Obj)} {σ : St} {H : Hp} {s : Shared} {h' : Heap}
/-- several records of ours have turned -/
theorem Inv.turnedL {t' : Nat} {ch : List Addr} (I : Inv X pins σ H s) (k : ∀ b o, b ∉ ch → s.heap.get? b = some o → h'.get? b = some o) (hf : ∀ b ∈ ch, FpOk X pins H b) : Inv X pins σ H { s with heap := h', toks := t' } := by
  have nit : ∀ b u, H b = some u → b ∉ ch := fun b u e z => by
    have q := (hf b z).1
    rw [q] at e; cases e
  refine I.step (g' := s.gens) (d' := s.drawn) (ch := ch) (fun b hb => ⟨(hf b hb).2.2.2.1, (hf b hb).2.1, (hf b hb).2.2.2.2.1, (hf b hb).2.2.2.2.2⟩) (fun b o _ _ hc e _ => k b o hc e) (fun b o _ _ hc e _ => ⟨o.slots, k b o hc e⟩)
    (fun _ _ _ _ n => n) (fun b o hc e => ⟨o, k b o hc e⟩) (fun _ _ e => e) (fun _ _ _ e => e) (fun b ps e => ⟨#[], by rw [e]; simp⟩) (fun m hm => ?_) (fun b u e => ?_) I.bare
  · obtain ⟨o, es, ep, ho, r⟩ := hm
    exact ⟨o, es, ep, k _ o (fun z => (hf _ z).2.1 rfl) ho, r⟩
  · refine (I.hok b u e).stay (fun c v hc q => k c v ?_ q) (fun _ q => q) fun _ _ q => q
    rcases hc with z | z
    · rw [z]; exact nit b u e
    · exact nit c _ z
/-- .. and one new object is laid -/
theorem Inv.turnedNew {t' : Nat} {ch : List Addr} {T : Addr} {ob : HO} (I : Inv X pins σ H s) (k : ∀ b o, b ∉ ch → s.heap.get? b = some o → h'.get? b = some o) (hf : ∀ b ∈ ch, FpOk X pins H b) (hT : s.heap.objs.size ≤ T)
    (new : ObjOk X.prog X.w (upd H T ob) h' T ob) : Inv X pins σ (upd H T ob) { s with heap := h', toks := t' } := by
  have hn : H T = none := I.hok.fresh hT
  have nit : ∀ b u, H b = some u → b ∉ ch := fun b u e z => by
    have q := (hf b z).1
    rw [q] at e; cases e
  refine I.step (g' := s.gens) (d' := s.drawn) (ch := ch) (fun b hb => ⟨(hf b hb).2.2.2.1, (hf b hb).2.1, (hf b hb).2.2.2.2.1, (hf b hb).2.2.2.2.2⟩) (fun b o _ _ hc e _ => k b o hc e) (fun b o _ _ hc e _ => ⟨o.slots, k b o hc e⟩)
    (fun b o _ e n => ?_) (fun b o hc e => ⟨o, k b o hc e⟩) (fun b xs e => ?_) (fun b o u e => ?_) (fun b ps e => ⟨#[], ?_⟩) (fun m hm => ?_) (fun b u e => ?_) I.bare
  · rw [upd_ne (Nat.ne_of_lt (Nat.lt_of_lt_of_le (Heap.lt_size e) hT))]; exact n
  · rw [upd_ne (ne_of_none e hn)]; exact e
  · rw [upd_ne (ne_of_none e hn)]; exact e
  · rw [upd_ne (ne_of_none e hn), e]; simp
  · obtain ⟨o, es, ep, ho, r⟩ := hm
    exact ⟨o, es, ep, k _ o (fun z => (hf _ z).2.1 rfl) ho, r⟩
  · by_cases hb : b = T
    · subst hb
      rw [upd_same] at e
      cases e
      exact new
    · rw [upd_ne hb] at e
      refine (I.hok b u e).stay (fun c v hc q => k c v ?_ q) (fun c q => by rw [upd_ne (ne_of_none q hn)]; exact q) fun c xs q => by rw [upd_ne (ne_of_none q hn)]; exact q
      rcases hc with z | z
      · rw [z]; exact nit b u e
      · exact nit c _ z

/-! ### locking a thing while a statement runs -/
theorem Inv.lock {d : Addr} {u : HO} (I : Inv X pins σ H s) (h : H d = some u) (mu : Mut (some u)) : ∃ od, Inv X pins σ (upd H d (.frz od u)) s := by
  have x := I.hok d u h
  have ex : ∃ od, s.heap.get? d = some od := by
    cases u with
    | lst xs => obtain ⟨_, _, _, _, e⟩ := x; exact ⟨_, e⟩
    | dK kvs => obtain ⟨_, _, _, _, o, _, _, e, _⟩ := x; exact ⟨o, e⟩
    | dT kvs => obtain ⟨_, _, _, _, o, _, _, e, _⟩ := x; exact ⟨o, e⟩
    | set S n => obtain ⟨o, _, _, _, e, _⟩ := x; exact ⟨o, e⟩
    | ins C dx fs => obtain ⟨_, _, _, e, _⟩ := x; exact ⟨_, e⟩
    | ext φ => obtain ⟨_, ⟨_, e⟩, _⟩ := x; exact ⟨_, e⟩
    | _ => exact False.elim mu
  obtain ⟨od, e⟩ := ex
  have new : ObjOk X.prog X.w (upd H d (.frz od u)) s.heap d (.frz od u) := by
    refine ⟨e, x.stay (fun b v _ q => q) (fun b q => ?_) fun b xs q => ?_⟩
    · rw [upd_ne (fun z => by rw [z, h] at q; cases q; exact mu)]; exact q
    · rw [upd_ne (fun z => by rw [z, h] at q; cases q; exact mu)]; exact q
  exact ⟨od, I.write (x := d) (e := d) (t' := s.toks) (h' := s.heap) (by rw [h]; exact mu) (.inl rfl) (fun b v _ q => q) ⟨od, e⟩ new⟩
theorem Inv.nofrz {d : Addr} {u : HO} (I : Inv X pins σ H s) (h : H d = some u) (mu : Mut (some u)) : ∀ o' u', X.H_0 d ≠ some (.frz o' u') := fun o' u' e => by
  have q := I.base.frzs d o' u' e
  rw [h] at q
  cases q
  exact mu
theorem Inv.unlock {d : Addr} {od : Obj} {u : HO} (I : Inv X pins σ H s) (h : H d = some (.frz od u)) (hn : ∀ o' u', X.H_0 d ≠ some (.frz o' u')) : Inv X pins σ (upd H d u) s := by
  have neH : ∀ b o, H b = some o → (∀ o' u', o ≠ .frz o' u') → b ≠ d := fun b o e hne z => by
    rw [z, h] at e
    cases e
    exact hne _ _ rfl
  have neN : ∀ b, H b = none → b ≠ d := fun b e z => by rw [z, h] at e; cases e
  refine ⟨I.ok, I.os, I.bare, ⟨I.base.keep, I.base.slot, fun b o e n hx => ?_, I.base.there, fun b xs e => ?_, fun b o x e => ?_, fun b ps e => ?_⟩, I.loc, I.cell, ?_, fun x c e => ?_, fun p hp => ?_, fun b o e => ?_, I.len⟩
  · rw [upd_ne (neN b (I.base.free b o e n hx))]; exact I.base.free b o e n hx
  · have q := I.base.tups b xs e
    rw [upd_ne (neH b _ q (fun _ _ z => nomatch z))]; exact q
  · have q := I.base.frzs b o x e
    rw [upd_ne (fun z => by rw [z] at e; exact hn _ _ e)]; exact q
  · obtain ⟨m, q⟩ := I.base.tbls b ps e
    exact ⟨m, by rw [upd_ne (neH b _ q (fun _ _ z => nomatch z))]; exact q⟩
  · rw [upd_ne (neN _ I.free)]; exact I.free
  · rw [upd_ne (neN c (I.freeC x c e))]; exact I.freeC x c e
  · obtain ⟨e, n, r⟩ := I.pin p hp
    exact ⟨e, by rw [upd_ne (neN _ n)]; exact n, r⟩
  · by_cases hb : b = d
    · rw [hb, upd_same] at e
      cases e
      rw [hb]
      obtain ⟨_, x⟩ := I.hok d _ h
      exact x.stay (fun c v _ q => q) (fun c q => by rw [upd_ne (neH c _ q (fun _ _ z => nomatch z))]; exact q) fun c xs q => by rw [upd_ne (neH c _ q (fun _ _ z => nomatch z))]; exact q
    · rw [upd_ne hb] at e
      exact (I.hok b o e).stay (fun c v _ q => q) (fun c q => by rw [upd_ne (neH c _ q (fun _ _ z => nomatch z))]; exact q) fun c xs q => by rw [upd_ne (neH c _ q (fun _ _ z => nomatch z))]; exact q
end
/-- the statement runs while the thing at d is locked (read, not written); d and what stands there are the reading's choice -/
def tLock (t : TS) : TS := fun D σ H => ∃ d u, H d = some u ∧ Mut (some u) ∧ ∀ od, t ⟨fun σ' H' => H' d = some (.frz od u) ∧ D.nx σ' (upd H' d u), fun v H' => H' d = some (.frz od u) ∧ D.rt v (upd H' d u), fun σ' H' => H' d = some (.frz od u) ∧ D.bk σ' (upd H' d u), fun σ' H' => H' d = some (.frz od u) ∧ D.ct σ' (upd H' d u)⟩ σ (upd H d (.frz od u))
def tLockE (t : TE) : TE := fun σ H Q => ∃ d u, H d = some u ∧ Mut (some u) ∧ ∀ od, t σ (upd H d (.frz od u)) fun v H' => H' d = some (.frz od u) ∧ Q v (upd H' d u)
section
variable {X : Cx}
theorem ps_lock {st : Stmt} {t : TS} (h : PS X st t) : PS X st (tLock t) := by
  intro pins s σ H D I hw
  obtain ⟨d, u, hd, mu, hw⟩ := hw
  obtain ⟨od, I1⟩ := I.lock hd mu
  refine thn (h pins s σ _ _ I1 (hw od)) fun f s1 q => ?_
  cases f with
  | next => obtain ⟨σ', H', I2, e, q⟩ := q; exact ⟨σ', _, I2.unlock e (I.nofrz hd mu), q⟩
  | brk => obtain ⟨σ', H', I2, e, q⟩ := q; exact ⟨σ', _, I2.unlock e (I.nofrz hd mu), q⟩
  | cont => obtain ⟨σ', H', I2, e, q⟩ := q; exact ⟨σ', _, I2.unlock e (I.nofrz hd mu), q⟩
  | ret v => obtain ⟨x, σ', H', I2, r, e, q⟩ := q; exact ⟨x, σ', _, I2.unlock e (I.nofrz hd mu), r, q⟩
theorem pe_lock {e : Expr} {t : TE} (h : PE X e t) : PE X e (tLockE t) := by
  intro pins s σ H Q I hw
  obtain ⟨d, u, hd, mu, hw⟩ := hw
  obtain ⟨od, I1⟩ := I.lock hd mu
  refine thn (h pins s σ _ _ I1 (hw od)) fun v s1 ⟨x, H1, I2, r, e2, q⟩ => ?_
  exact ⟨x, _, I2.unlock e2 (I.nofrz hd mu), r, q⟩

/-! ### one iterator just laid -/
theorem pi_one {tg : Expr} {pins : List (Addr × Obj)} {σ : St} {H : Hp} {s : Shared} {R : It → Hp → Prop} {J : It} {tn : Nat → Heap → Prop} {tk : Nat} (I : Inv X pins σ H s) (o : Obj)
    (T : Turn X.prog X.w X.K tg J [s.heap.objs.size] s.heap.objs.size tn) (st : tn 0 (s.heap.push o)) (q : R J H) : PIE X pins σ tg R (.ref s.heap.objs.size) { s with heap := s.heap.push o, toks := tk } := by
  refine ⟨s.heap.objs.size, [s.heap.objs.size], tn, J, H, rfl, I.kept fun b ob e => Heap.get?_push_of_some _ e, T, st, fun b hb => ?_, q⟩
  have e : b = s.heap.objs.size := by simpa using hb
  subst e
  exact I.fpOk (Nat.le_refl _) (I.hok.fresh (Nat.le_refl _))
end

/-! ### range with a step -/
/-- lo, lo + c, .. (n of them) -/
def Itc (lo c : Int) (n : Nat) : It := ⟨fun i _ => i < n, fun i H x H' => H' = H ∧ x = .int (lo + (i : Nat) * c), fun i _ => n ≤ i⟩
theorem turn_rangeC {P : Program} {w : World} {K : PySem.W.Frag} {tg : Expr} (it : Addr) (lo c : Int) (n : Nat) : Turn P w K tg (Itc lo c n) [it] it (fun i h => IsRangeIter h it (lo + (i : Nat) * c) ((n : Int) - (i : Nat)) c) where
  mem := by simp
  obj := fun i h st b hb => by
    have e : b = it := by simpa using hb
    subst e
    exact ⟨_, st, fun v z => nomatch z⟩
  keep := fun i h h' st k => k it (by simp) _ st
  item := by
    intro X hP hw hK hc i pins s σ H E I hf st hg
    subst hP hw hK
    obtain ⟨f0, f1, f2, f3, f4, f5⟩ := hf it (by simp)
    have W := Walks.range (prog := X.prog) (w := X.w) (I.ok.hd hc) it lo c n
    refine W.item i s _ _ hg st fun v h' tk hv st' kk => ?_
    obtain ⟨t, rfl⟩ := hv
    have I1 : Inv X pins σ H { s with heap := h', toks := tk } := I.turned (fun b o hb e => kk b o (by simpa using hb) e) f0 f1 f3 f4 f5
    exact ⟨_, rfl, go_of (s := { s with heap := h', toks := tk }) (n := "range_iterator") st' rfl rfl (by decide) ⟨.int (lo + (i : Nat) * c), H, I1, ⟨t, rfl⟩, ⟨rfl, rfl⟩, st', fun b hb => (hf b hb).1⟩⟩
  done := by
    intro X hP hw hK hc i pins s σ H E I hf st hg
    subst hP hw hK
    obtain ⟨f0, f1, f2, f3, f4, f5⟩ := hf it (by simp)
    exact wpAny_pyNext_range_end (I.ok.hd hc) st (by have : n ≤ i := hg; omega) fun h' eb => ⟨rfl, I.turned (t' := s.toks) (fun b o hb e => eb b o hb e) f0 f1 f3 f4 f5⟩
  self := fun A i s Q E st h => wpAny_pyIter_rangeiter st h
/-- range(i, j, c): small bounds, n items -/
def RgC (i j c : Int) (n : Nat) : Prop := c ≠ 0 ∧ c.natAbs < 1073741824 ∧ Builtin.Range.small i j c = true ∧ Builtin.Range.rangeSize i j c = n
theorem RgC.neg {i j : Int} (ha : -(2 ^ 62) ≤ i) (ha' : i < 2 ^ 62) (hb : -(2 ^ 62) ≤ j) (hb' : j < 2 ^ 62) : RgC i j (-1) (i - j).toNat :=
  ⟨by decide, by decide, PySem.W.small_down ha ha' hb hb', PySem.W.rangeSize_downNat i j⟩
def iRng3 (ta : TA) : TI := fun σ H R => ta σ H fun vs H1 => ∃ (i j c : Int) (n : Nat), vs = [.int i, .int j, .int c] ∧ RgC i j c n ∧ R (Itc i c n) H1
section
variable {X : Cx} {tg : Expr}
theorem pi_range3 {a b c : Expr} {ta : TA} {p pos : Pos} (hg : Gl X "range") (hm : X.mg "range" = none) (ha : PA X [a, b, c] ta)
    (hs : starEach [a, b, c] X.env = (false, eval a X.env) :: starEach [b, c] X.env := by rfl) (hpl : (backTo pos (starEach [b, c] X.env)).any (·.1) = false := by rfl) :
    PI X tg (.Call (.Name "range" p) [a, b, c] [] pos) (iRng3 ta) := by
  intro pins s σ H R I h
  refine Call_ (ld_blt I hg hm boot_range (PyProof.Rows.callWith_type1 (thn (ha pos pins s σ H _ I h) fun us s1 ⟨vs, H1, I1, r1, q1⟩ => ?_) hs hpl))
  obtain ⟨i, j, k, n, e, ⟨c0, c1, c2, c3⟩, q⟩ := q1
  subst e
  cases r1 with
  | cons r rr =>
    cases rr with
    | cons r' rr =>
      cases rr with
      | cons r'' rr =>
        cases rr
        obtain ⟨t, rfl⟩ := r
        obtain ⟨t', rfl⟩ := r'
        obtain ⟨t'', rfl⟩ := r''
        refine call_range_3 c0 ?_ (.inl (PyProof.noPylong_small c1))
        refine wpAny_pyIter_range (IsRange.new ..) c2 ?_
        have I2 : Inv X pins σ H1 { s1 with heap := s1.heap.push { cls := .type "range", data := .fields #[.int i t, .int j t', .int k t''] } } := I1.kept (t' := s1.toks) fun b o e => Heap.get?_push_of_some _ e
        refine pi_one (tk := s1.toks) I2 _ (turn_rangeC _ i k n) ?_ q
        have e1 : i + ((0 : Nat) : Int) * k = i := by simp
        have e2 : (n : Int) - ((0 : Nat) : Int) = Builtin.Range.rangeSize i j k := by rw [c3]; simp
        show IsRangeIter _ _ (i + ((0 : Nat) : Int) * k) ((n : Int) - ((0 : Nat) : Int)) k
        rw [e1, e2]
        exact Heap.get?_push_size _ rfl
end
/-- the turns of a step range, for the for loop -/
theorem for_rangeC {lo c : Int} {n : Nat} {g : TG} {tb : TS} {D : Ends} {σ : St} {H : Hp} (Pv : Nat → St → Hp → Prop) (h0 : Pv 0 σ H)
    (hs : ∀ i σ H, i < n → Pv i σ H → g (.int (lo + (i : Nat) * c)) σ H fun σ2 H2 => tb { D with nx := Pv (i + 1), ct := Pv (i + 1), bk := D.nx } σ2 H2) (hd : ∀ σ H, Pv n σ H → D.nx σ H) :
    ∃ W : Nat → Nat → St → Hp → Prop, (∃ m, W 0 m σ H) ∧ ∀ i m σ H, W i m σ H →
      ((Itc lo c n).stop i H ∧ D.nx σ H) ∨ ((Itc lo c n).go i H ∧ ∃ N : St → Hp → Prop, (∀ σ' H', N σ' H' → ∃ m', m' < m ∧ W (i + 1) m' σ' H') ∧ ∀ x H', (Itc lo c n).yld i H x H' → g x σ H' fun σ2 H2 => tb { D with nx := N, ct := N, bk := D.nx } σ2 H2) := by
  refine ⟨fun i m σ H => m = n - i ∧ i ≤ n ∧ Pv i σ H, ⟨n, by simp, Nat.zero_le _, h0⟩, ?_⟩
  rintro i m σ H ⟨rfl, hi, p⟩
  by_cases hlt : i < n
  · refine .inr ⟨hlt, Pv (i + 1), fun σ' H' p' => ⟨n - (i + 1), by omega, rfl, hlt, p'⟩, fun x H' y => ?_⟩
    obtain ⟨e, y⟩ := y
    subst e y
    exact hs i σ _ hlt p
  · have e : i = n := by omega
    subst e
    exact .inl ⟨Nat.le_refl _, hd σ H p⟩

/-! ### reversed(list) -/
/-- the list at a (n items at the start, which the loop leaves there), from its end -/
def Itv (K : PySem.W.Frag) (a : Addr) (n : Nat) : It :=
  ⟨fun i H => i < n ∧ ∃ (xs : List V) (x : V), SqL K H a xs ∧ xs[n - 1 - i]? = some x, fun i H x H' => H' = H ∧ ∀ xs, SqL K H a xs → xs[n - 1 - i]? = some x, fun i _ => n ≤ i⟩
theorem turn_rev {P : Program} {w : World} {K : PySem.W.Frag} {tg : Expr} (a it : Addr) (n : Nat) : Turn P w K tg (Itv K a n) [it] it (fun i h => i ≤ n ∧ h.IsRevIter it a ((n : Int) - 1 - (i : Nat))) where
  mem := by simp
  obj := fun i h st b hb => by
    have e : b = it := by simpa using hb
    subst e
    obtain ⟨_, o, e, c, d⟩ := st
    exact ⟨o, e, fun v z => by rw [d] at z; cases z⟩
  keep := fun i h h' st k => ⟨st.1, st.2.at fun o e => k it (by simp) o e⟩
  item := by
    intro X hP hw hK hc i pins s σ H E I hf st hg
    subst hP hw hK
    obtain ⟨hin, xs, x, hq, hx⟩ := hg
    obtain ⟨its, rv, p, hz⟩ := I.list hq
    obtain ⟨u, hu, ru⟩ := rv.get hx
    obtain ⟨f0, f1, f2, f3, f4, f5⟩ := hf it (by simp)
    obtain ⟨_, hit⟩ := st
    have e1 : (n : Int) - 1 - ((i : Nat) : Int) = ((n - 1 - i : Nat) : Int) := by omega
    rw [e1] at hit
    refine wpAny_pyNext_rev_item hit p.isList (x := u) (by simpa using hu) fun h' st' sb => ?_
    have e2 : ((n - 1 - i : Nat) : Int) - 1 = (n : Int) - 1 - ((i + 1 : Nat) : Int) := by omega
    rw [e2] at st'
    have I1 : Inv X pins σ H { s with heap := h' } := I.turned (t' := s.toks) (fun b o hb e => (sb.2 b hb).trans e) f0 f1 f3 f4 f5
    obtain ⟨o, e, c, d⟩ := id st'
    exact ⟨u, rfl, go_of (s := { s with heap := h' }) e c d (by decide) ⟨x, H, I1, ru, ⟨rfl, fun ys hy => by rw [I.list_inj hy hq]; exact hx⟩, ⟨hin, st'⟩, fun b hb => (hf b hb).1⟩⟩
  done := by
    intro X hP hw hK hc i pins s σ H E I hf st hg
    subst hP hw hK
    obtain ⟨f0, f1, f2, f3, f4, f5⟩ := hf it (by simp)
    obtain ⟨hin, hit⟩ := st
    have hge : n ≤ i := hg
    have e1 : (n : Int) - 1 - ((i : Nat) : Int) = -1 := by omega
    rw [e1] at hit
    exact wpAny_pyNext_rev_end (I.ok.hd hc) hit fun h' eb => ⟨rfl, I.turned (t' := s.toks) (fun b o hb e => eb b o hb e) f0 f1 f3 f4 f5⟩
  self := fun A i s Q E st h => wpAny_pyIter_revIter st.2 h
def iRev (K : PySem.W.Frag) (ta : TA) : TI := fun σ H R => ta σ H fun vs H1 => ∃ (a : Addr) (xs : List V), vs = [.ref a] ∧ SqL K H1 a xs ∧ R (Itv K a xs.length) H1
section
variable {X : Cx} {tg : Expr}
theorem pi_reversed {e : Expr} {ta : TA} {p pos : Pos} (hg : Gl X "reversed") (hm : X.mg "reversed" = none) (ha : PA X [e] ta) (hs : starEach [e] X.env = [(false, eval e X.env)] := by rfl) : PI X tg (.Call (.Name "reversed" p) [e] [] pos) (iRev X.K ta) := by
  intro pins s σ H R I h
  refine Call_ (ld_blt I hg hm boot_reversed5 (PyProof.Rows.callWith_type1 (thn (ha pos pins s σ H _ I h) fun us s1 ⟨vs, H1, I1, r1, q1⟩ => ?_) hs rfl))
  obtain ⟨a, xs, e, hq, q⟩ := q1
  subst e
  cases r1 with
  | cons r rr =>
    cases rr
    cases r
    obtain ⟨its, rv, p', hz⟩ := I1.list hq
    have hl := rv.length
    have e1 : ((its.toArray.size : Nat) : Int) - 1 = (xs.length : Int) - 1 - ((0 : Nat) : Int) := by simp only [List.size_toArray]; omega
    refine call_reversed_list p'.isList (wpAny_pyIter_revIter (l := a) (i := ((its.toArray.size : Nat) : Int) - 1) ⟨_, Heap.get?_push_size _ rfl, rfl, rfl⟩ ?_)
    refine pi_one (tk := s1.toks) I1 _ (turn_rev a _ xs.length) ⟨Nat.zero_le _, ?_⟩ q
    rw [← e1]
    exact ⟨_, Heap.get?_push_size _ rfl, rfl, rfl⟩
end

/-! ### a str -/
def Its (x : Str) : It := ⟨fun i _ => i < x.cps.size, fun i H v H' => H' = H ∧ ∃ c, x.cps[i]? = some c ∧ v = .str ⟨#[c]⟩, fun i _ => x.cps.size ≤ i⟩
theorem turn_str {P : Program} {w : World} {K : PySem.W.Frag} {tg : Expr} (it : Addr) (x : Str) (t : Tok) (ty : String) (hty : ty = "str_ascii_iterator" ∨ ty = "str_iterator") :
    Turn P w K tg (Its x) [it] it (fun i h => h.IsStrIter it ty x t i) where
  mem := by simp
  obj := fun i h st b hb => by
    have e : b = it := by simpa using hb
    subst e
    obtain ⟨o, e, c, d⟩ := st
    exact ⟨o, e, fun v z => by rw [d] at z; cases z⟩
  keep := fun i h h' st k => let ⟨o, ho, r⟩ := st; ⟨o, k it (by simp) o ho, r⟩
  item := by
    intro X hP hw hK hc i pins s σ H E I hf st hg
    subst hP hw hK
    obtain ⟨f0, f1, f2, f3, f4, f5⟩ := hf it (by simp)
    have W : Walks X.prog X.w X.A it [it] [it] x.cps.size (SignAt x) (fun i h => h.IsStrIter it ty x t i) := by
      rcases hty with e | e
      · rw [e]; exact Walks.strAscii (I.ok.hd hc) it x t
      · rw [e]; exact Walks.strWide (I.ok.hd hc) it x t
    have hno : ["enumerate", "zip", "dict_itemiterator", "dict_reverseitemiterator", "odict_iterator", "itertools.zip_longest", "itertools.pairwise"].contains ty = false := by
      rcases hty with e | e
      · rw [e]; decide
      · rw [e]; decide
    refine W.item i s _ _ hg st fun v h' tk hv st' kk => ?_
    obtain ⟨c, u, hcx, rfl⟩ := hv
    have I1 : Inv X pins σ H { s with heap := h', toks := tk } := I.turned (fun b o hb e => kk b o (by simpa using hb) e) f0 f1 f3 f4 f5
    obtain ⟨oi, e, cc, dd⟩ := id st'
    exact ⟨_, rfl, go_of (s := { s with heap := h', toks := tk }) e cc dd hno ⟨.str ⟨#[c]⟩, H, I1, ⟨u, rfl⟩, ⟨rfl, c, hcx, rfl⟩, st', fun b hb => (hf b hb).1⟩⟩
  done := by
    intro X hP hw hK hc i pins s σ H E I hf st hg
    subst hP hw hK
    obtain ⟨f0, f1, f2, f3, f4, f5⟩ := hf it (by simp)
    have hx : x.cps[i]? = none := Array.getElem?_eq_none hg
    rcases hty with e | e
    · rw [e] at st
      exact wpAny_pyNext_ascii_end (I.ok.hd hc) st hx fun h' eb => ⟨rfl, I.turned (t' := s.toks) (fun b o hb e => eb b o hb e) f0 f1 f3 f4 f5⟩
    · rw [e] at st
      exact wpAny_pyNext_wide_end (I.ok.hd hc) st hx fun h' eb => ⟨rfl, I.turned (t' := s.toks) (fun b o hb e => eb b o hb e) f0 f1 f3 f4 f5⟩
  self := fun A i s Q E st h => by
    rcases hty with e | e
    · rw [e] at st; exact wpAny_pyIter_striter_ascii st h
    · rw [e] at st; exact wpAny_pyIter_striter_wide st h
def iStr (te : TE) : TI := fun σ H R => te σ H fun v H1 => ∃ x, v = .str x ∧ R (Its x) H1
theorem pi_str {X : Cx} {tg e : Expr} {te : TE} (he : PE X e te) : PI X tg e (iStr te) := by
  intro pins s σ H R I h
  refine thn (he pins s σ H _ I h) fun v s1 ⟨y, H1, I1, r1, x, ex, q⟩ => ?_
  subst ex
  obtain ⟨t, rfl⟩ := r1
  cases ha : x.cps.all (· < 128)
  · exact wpAny_pyIter_wide ha (pi_one (tk := s1.toks) I1 _ (turn_str _ x t "str_iterator" (.inr rfl)) ⟨_, Heap.get?_push_size _ rfl, rfl, rfl⟩ q)
  · exact wpAny_pyIter_ascii ha (pi_one (tk := s1.toks) I1 _ (turn_str _ x t "str_ascii_iterator" (.inl rfl)) ⟨_, Heap.get?_push_size _ rfl, rfl, rfl⟩ q)

/-! ### a dict's keys: any dict's entries -/
section
variable {prog : Program} {w : World} {A : Around} {E : Value → Shared → Prop} {s : Shared}
theorem iter_keys {d : Addr} {o : Obj} {es : Array DictEntry} {ep : Nat} {Q : Value → Shared → Prop} (hd : (d == sysModules) = false) (ho : s.heap.get? d = some o) (hc : o.ExactDict) (hdat : o.data = .dict es ep)
    (hQ : Q (.ref s.heap.objs.size) { s with heap := s.heap.push { cls := .type "dict_keyiterator", data := .fields #[.ref d, .int 0 0, .int es.size 0, .int ep 0] } }) :
    wpAny (model prog w) A (pyIter (.ref d)) Q E s := by
  have hT : s.TypeIs (.ref d) "dict" := ⟨o, ho, hc.1⟩
  refine wpAny_pyIter_slot hT F.slot_dict_iter (wpAny_call_entry F.slot_dict_iter hT F.entry_dict_iter ?_ (F.args_dict_iter_1 _))
  unfold Builtin.«dict.__iter__»
  refine wpAny_bind ?_
  unfold Builtin.Dict.dictSlotNone
  refine wpAny_bind (wpAny_notOrdered_dict hT ?_)
  show wpAny _ _ (pure (Value.ref d)) _ _ s
  refine wpAny_pure ?_
  show wpAny _ _ (Builtin.Dict.showsAll d >>= _) _ _ s
  unfold Builtin.Dict.showsAll
  rw [if_neg (by rw [hd]; exact Bool.false_ne_true)]
  refine wpAny_bind (wpAny_pure ?_)
  refine wpAny_bind (wpAny_dictEntries ho hdat ?_)
  refine wpAny_bind (wpAny_dictEpoch ho hdat ?_)
  refine wpAny_bind (wpAny_newObj_type (wpAny_pure ⟨_, rfl, "dict_keyiterator", _, ⟨_, Heap.get?_push_size _ rfl, rfl⟩, F.slot_dict_keyiterator_next.lookup, ?_⟩))
  simpa [rawInt] using hQ
theorem next_key_item {it d : Addr} {i n ep : Nat} {od : Obj} {es : Array DictEntry} {en : DictEntry} {Q : Option Value → Shared → Prop} (hit : s.heap.IsKeyIter it d i n ep) (hod : s.heap.get? d = some od) (hdd : od.data = .dict es ep)
    (hsz : es.size = n) (hx : es[i]? = some en) (hQ : ∀ h', h'.IsKeyIter it d (i + 1) n ep → Heap.SameBut it s.heap h' → Q (some en.key) { s with heap := h' }) : wpAny (model prog w) A (pyNext (.ref it)) Q E s := by
  obtain ⟨o, ho, hc, hd⟩ := id hit
  unfold pyNext
  refine wpAny_bind (wpAny_attempt (wpAny_callSpecial?_slot (name := Str.ofString "__next__") hit.typeIs F.slot_dict_keyiterator_next
    (wpAny_call_entry F.slot_dict_keyiterator_next hit.typeIs F.entry_dict_keyiterator_next ?_ (F.args_dict_keyiterator_next_1 _))))
  refine wpAny_bind (wpAny_pure ?_)
  refine wpAny_bind ?_
  refine wpAny_bind ?_
  first | refine wpAny_bind (wpAny_typeNameOfWhole_keyiter hit.typeIs (wpAny_pure ?_)) | refine wpAny_bind (wpAny_typeNameOf_keyiter hit.typeIs (wpAny_pure ?_))
  refine wpAny_bind (wpAny_fieldsOf ho hd ?_)
  have hown : Builtin.Dict_items.ownsTuple "dict_keyiterator" = false := by decide
  simp only [hown, Bool.false_eq_true, if_false]
  show wpAny _ _ (if (Value.ref d == Value.none) = true then _ else _) _ _ s
  rw [if_neg (show ¬ ((Value.ref d == Value.none) = true) from Bool.false_ne_true)]
  refine wpAny_bind (wpAny_pure ?_)
  refine wpAny_bind (wpAny_dictEntries hod hdd ?_)
  rw [if_neg (by rw [hsz]; simp)]
  refine wpAny_bind (wpAny_pure ?_)
  refine wpAny_bind (wpAny_dictEpoch hod hdd ?_)
  rw [if_neg (by simp)]
  refine wpAny_pure ?_
  obtain ⟨hlt', hen⟩ := Array.getElem?_eq_some_iff.mp hx
  simp only [show ¬ ((i : Int) < 0) from by omega, if_false, Int.toNat_natCast, Array.getElem?_eq_getElem hlt']
  refine wpAny_bind ?_
  first | refine wpAny_bind (wpAny_typeNameOfWhole_keyiter hit.typeIs (wpAny_pure ?_)) | refine wpAny_bind (wpAny_typeNameOf_keyiter hit.typeIs (wpAny_pure ?_))
  refine wpAny_bind (wpAny_isOneOf_keyiter hit.typeIs ?_)
  show wpAny _ _ (setField (.ref it) 1 (rawInt ((i : Int) + 1)) >>= _) _ _ s
  refine wpAny_bind (wpAny_setField ho hd (by simp) ?_)
  have hit' : (s.heap.update it (Obj.mapFields (·.setIfInBounds 1 (rawInt ((i : Int) + 1))))).IsKeyIter it d (i + 1) n ep :=
    ⟨_, Heap.get?_update_self _ ho (Obj.isFreed_of_fields (Obj.data_mapFields hd _)), (Obj.cls_mapFields ..).trans hc, by rw [Obj.data_mapFields hd]; simp [rawInt]⟩
  refine wpAny_bind (wpAny_holding ?_)
  refine wpAny_bind (wpAny_isOneOf_keyiter (s := { s with heap := s.heap.update it (Obj.mapFields (·.setIfInBounds 1 (rawInt ((i : Int) + 1)))) }) hit'.typeIs ?_)
  show wpAny _ _ (pure es[i].key) _ _ _
  rw [hen]
  exact wpAny_pure (wpAny_pure ⟨_, rfl, wpAny_pure (hQ _ hit' (Heap.SameBut.update ..))⟩)
theorem next_key_end {it d : Addr} {i n ep : Nat} {od : Obj} {es : Array DictEntry} {Q : Option Value → Shared → Prop} (hh : A.handled = none) (hit : s.heap.IsKeyIter it d i n ep) (hod : s.heap.get? d = some od) (hdd : od.data = .dict es ep)
    (hsz : es.size = n) (hge : n ≤ i) (hQ : ∀ h', Heap.ExtBut it s.heap h' → Q none { s with heap := h' }) : wpAny (model prog w) A (pyNext (.ref it)) Q E s := by
  obtain ⟨o, ho, hc, hd⟩ := id hit
  unfold pyNext
  refine wpAny_bind (wpAny_attempt (wpAny_callSpecial?_slot (name := Str.ofString "__next__") hit.typeIs F.slot_dict_keyiterator_next
    (wpAny_call_entry F.slot_dict_keyiterator_next hit.typeIs F.entry_dict_keyiterator_next ?_ (F.args_dict_keyiterator_next_1 _))))
  refine wpAny_bind (wpAny_pure ?_)
  refine wpAny_bind ?_
  refine wpAny_bind ?_
  first | refine wpAny_bind (wpAny_typeNameOfWhole_keyiter hit.typeIs (wpAny_pure ?_)) | refine wpAny_bind (wpAny_typeNameOf_keyiter hit.typeIs (wpAny_pure ?_))
  refine wpAny_bind (wpAny_fieldsOf ho hd ?_)
  have hown : Builtin.Dict_items.ownsTuple "dict_keyiterator" = false := by decide
  simp only [hown, Bool.false_eq_true, if_false]
  show wpAny _ _ (if (Value.ref d == Value.none) = true then _ else _) _ _ s
  rw [if_neg (show ¬ ((Value.ref d == Value.none) = true) from Bool.false_ne_true)]
  refine wpAny_bind (wpAny_pure ?_)
  refine wpAny_bind (wpAny_dictEntries hod hdd ?_)
  rw [if_neg (by rw [hsz]; simp)]
  refine wpAny_bind (wpAny_pure ?_)
  refine wpAny_bind (wpAny_dictEpoch hod hdd ?_)
  rw [if_neg (by simp)]
  refine wpAny_pure ?_
  have hge' : es.size ≤ i := by rw [hsz]; exact hge
  simp only [show ¬ ((i : Int) < 0) from by omega, if_false, Int.toNat_natCast, Array.getElem?_eq_none hge']
  refine wpAny_bind ?_
  first | refine wpAny_bind (wpAny_typeNameOfWhole_keyiter hit.typeIs (wpAny_pure ?_)) | refine wpAny_bind (wpAny_typeNameOf_keyiter hit.typeIs (wpAny_pure ?_))
  show wpAny _ _ (setField (.ref it) 0 .none >>= _) _ _ s
  refine wpAny_bind (wpAny_setField ho hd (by simp) ?_)
  show wpAny _ _ (newExc (.type "StopIteration") [] >>= _) _ _ _
  refine wpAny_bind ?_
  simp only [newExc, newTuple]
  refine wpAny_bind (wpAny_newObj_type ?_ (by size_fits))
  refine wpAny_bind (m := firstArgMember _ _) (wpAny_of_eq (a := Value.none) (by first | rfl | (simp only [firstArgMember]; rfl)) ?_)
  refine wpAny_newObj_type ?_ (by size_fits)
  simp only [raiseNew]
  refine wpAny_bind (wpAny_handled ?_)
  rw [show A.in1.handled = none from hh]
  refine wpAny_bind (wpAny_pure (wpAny_throw ?_))
  refine wpAny_bind (wpAny_isInstance (T := "StopIteration") (b := true) ⟨_, Heap.get?_push_size _ rfl, rfl⟩ isSubtype_stop ?_)
  exact wpAny_pure (hQ _ (((Heap.SameBut.update ..).extBut.push _).push _))
end

/-! ### a locked dict -/
theorem kv_get {κ : Type} {kvs : List (κ × V)} {vs : List (κ × Value)} (h : KV kvs vs) : ∀ {i : Nat} {k : κ} {v : V}, kvs[i]? = some (k, v) → ∃ u, vs[i]? = some (k, u) ∧ RelV v u := by
  unfold KV at h
  induction h with
  | nil => intro i k v e; simp at e
  | @cons a b l₁ l₂ r t ih =>
    intro i k v e
    cases i with
    | zero =>
      simp only [List.getElem?_cons_zero, Option.some.injEq] at e
      subst e
      refine ⟨b.2, ?_, r.2⟩
      simp only [List.getElem?_cons_zero]
      exact congrArg some (Prod.ext r.1.symm rfl)
    | succ j =>
      simp only [List.getElem?_cons_succ] at e ⊢
      exact ih e
theorem paired_get {α β : Type} {G : α → β → Prop} {l₁ : List α} {l₂ : List β} (h : Paired G l₁ l₂) : ∀ {i : Nat} {a : α}, l₁[i]? = some a → ∃ b, l₂[i]? = some b ∧ G a b := by
  induction h with
  | nil => intro i a e; simp at e
  | @cons a b l₁ l₂ r t ih =>
    intro i a' e
    cases i with
    | zero =>
      simp only [List.getElem?_cons_zero, Option.some.injEq] at e
      subst e
      exact ⟨b, rfl, r⟩
    | succ j =>
      simp only [List.getElem?_cons_succ] at e ⊢
      exact ih e
theorem relV_key {k : Key} {u : Value} (h : keyIs k u = true) : RelV (kV k) u := by
  rcases keyIs_shape h with ⟨i, t, rfl, rfl⟩ | ⟨x, t, rfl, rfl⟩
  · exact ⟨t, rfl⟩
  · exact ⟨t, rfl⟩
section
variable {X : Cx} {pins : List (Addr × Obj)} {σ : St} {H : Hp} {s : Shared} {d : Addr} {o : Obj}
theorem Inv.frzK {kvs : List (Key × V)} (I : Inv X pins σ H s) (h : H d = some (.frz o (.dK kvs))) :
    (d == sysModules) = false ∧ s.heap.get? d = some o ∧ o.ExactDict ∧ ∃ (es : Array DictEntry) (ep : Nat) (vs : List (Key × Value)), o.data = .dict es ep ∧ es.size = kvs.length ∧ KV kvs vs ∧ s.heap.DictAt (mixKind X.prog X.w) d vs ep := by
  obtain ⟨hd, z, hs, vs, kv, o', es, ep, ho, hx, hdt, r⟩ := I.hok d _ h
  rw [hd] at ho
  cases ho
  refine ⟨hs, hd, hx, es, ep, vs, hdt, ?_, kv, o, es, hd, hx, hdt, r⟩
  have l1 := r.2.1.length
  have l2 : kvs.length = vs.length := Paired.length kv
  rw [Array.length_toList] at l1
  omega
/-- the same for tuple keys -/
theorem Inv.frzT {kvs : List (List Key × V)} (I : Inv X pins σ H s) (h : H d = some (.frz o (.dT kvs))) :
    (d == sysModules) = false ∧ s.heap.get? d = some o ∧ o.ExactDict ∧ ∃ (es : Array DictEntry) (ep : Nat), o.data = .dict es ep ∧ es.size = kvs.length ∧
      ∀ (i : Nat) (k : List Key) (v : V), kvs[i]? = some (k, v) → ∃ (en : DictEntry) (q : Addr), es[i]? = some en ∧ en.key = .ref q ∧ H q = some (.tup (k.map kV)) := by
  obtain ⟨hd, z, hs, xs, pr, o', es, ep, ho, hx, hdt, he, _⟩ := I.hok d _ h
  rw [hd] at ho
  cases ho
  refine ⟨hs, hd, hx, es, ep, hdt, ?_, fun i k v e => ?_⟩
  · have l1 : es.size = xs.length := size_of_entries he
    have l2 : kvs.length = xs.length := Paired.length pr
    omega
  · obtain ⟨b, hb, e1, e2, _⟩ := paired_get pr e
    have q := entry_at he i
    rw [hb] at q
    exact ⟨_, b.2.1, q, rfl, e2⟩
end

/-- the keys of the locked dict at d, in their order -/
def Itk (d : Addr) (o : Obj) (kvs : List (Key × V)) : It :=
  ⟨fun i H => H d = some (.frz o (.dK kvs)) ∧ i < kvs.length, fun i H x H' => H' = H ∧ ∃ k v, kvs[i]? = some (k, v) ∧ x = kV k, fun i H => H d = some (.frz o (.dK kvs)) ∧ kvs.length ≤ i⟩
/-- .. of tuple keys: the key's own tuple -/
def Itkt (d : Addr) (o : Obj) (kvs : List (List Key × V)) : It :=
  ⟨fun i H => H d = some (.frz o (.dT kvs)) ∧ i < kvs.length, fun i H x H' => H' = H ∧ ∃ (k : List Key) (v : V) (q : Addr), kvs[i]? = some (k, v) ∧ x = .ref q ∧ H q = some (.tup (k.map kV)), fun i H => H d = some (.frz o (.dT kvs)) ∧ kvs.length ≤ i⟩
/-- the values -/
def Itd (d : Addr) (o : Obj) (kvs : List (Key × V)) : It :=
  ⟨fun i H => H d = some (.frz o (.dK kvs)) ∧ i < kvs.length, fun i H x H' => H' = H ∧ ∃ k, kvs[i]? = some (k, x), fun i H => H d = some (.frz o (.dK kvs)) ∧ kvs.length ≤ i⟩
/-- the pairs, each a new tuple -/
def Iti (d : Addr) (o : Obj) (kvs : List (Key × V)) : It :=
  ⟨fun i H => H d = some (.frz o (.dK kvs)) ∧ i < kvs.length, fun i H x H' => ∃ T k v, kvs[i]? = some (k, v) ∧ x = .ref T ∧ H T = none ∧ H' = upd H T (.tup [kV k, v]), fun i H => H d = some (.frz o (.dK kvs)) ∧ kvs.length ≤ i⟩
theorem dict_ep {o : Obj} {es es' : Array DictEntry} {ep ep' : Nat} (h : o.data = .dict es ep) (h' : o.data = .dict es' ep') : es' = es ∧ ep' = ep := by
  rw [h] at h'
  cases h'
  exact ⟨rfl, rfl⟩
section
variable {P : Program} {w : World} {K : PySem.W.Frag} {tg : Expr} {d : Addr} {o : Obj} {es : Array DictEntry} {ep : Nat}
theorem turn_keys {kvs : List (Key × V)} (it : Addr) (hod : o.data = .dict es ep) : Turn P w K tg (Itk d o kvs) [it] it (fun i h => h.IsKeyIter it d i kvs.length ep) where
  mem := by simp
  obj := fun i h st b hb => by
    have e : b = it := by simpa using hb
    subst e
    obtain ⟨oi, e, c, dd⟩ := st
    exact ⟨oi, e, fun v z => by rw [dd] at z; cases z⟩
  keep := fun i h h' st k => st.at fun oi e => k it (by simp) oi e
  item := by
    intro X hP hw hK hc i pins s σ H E I hf st hg
    subst hP hw hK
    obtain ⟨hd, hi⟩ := hg
    obtain ⟨f0, f1, f2, f3, f4, f5⟩ := hf it (by simp)
    obtain ⟨hs, hgd, hx, es', ep', vs, hdt, hsz, kv, hm⟩ := I.frzK hd
    obtain ⟨rfl, rfl⟩ := dict_ep hod hdt
    obtain ⟨⟨k, v⟩, hkv⟩ : ∃ p, kvs[i]? = some p := ⟨kvs[i], List.getElem?_eq_getElem hi⟩
    obtain ⟨u, hu, ru⟩ := kv_get kv hkv
    have hl : kvs.length = vs.length := Paired.length kv
    rw [hl] at st
    refine wpAny_pyNext_dict_item st hm hu fun key h' hkey st' sb => ?_
    have I1 : Inv X pins σ H { s with heap := h' } := I.turned (t' := s.toks) (fun b ob hb e => (sb.2 b hb).trans e) f0 f1 f3 f4 f5
    obtain ⟨oi, e, c, dd⟩ := id st'
    refine ⟨key, rfl, go_of (s := { s with heap := h' }) e c dd (by decide) ⟨kV k, H, I1, relV_key (show keyIs k key = true from hkey), ⟨rfl, k, v, hkv, rfl⟩, ?_, fun b hb => (hf b hb).1⟩⟩
    show h'.IsKeyIter it d (i + 1) kvs.length _
    rw [hl]
    exact st'
  done := by
    intro X hP hw hK hc i pins s σ H E I hf st hg
    subst hP hw hK
    obtain ⟨hd, hi⟩ := hg
    obtain ⟨f0, f1, f2, f3, f4, f5⟩ := hf it (by simp)
    obtain ⟨hs, hgd, hx, es', ep', vs, hdt, hsz, kv, hm⟩ := I.frzK hd
    obtain ⟨rfl, rfl⟩ := dict_ep hod hdt
    exact next_key_end (I.ok.hd hc) st hgd hdt hsz hi fun h' eb => ⟨rfl, I.turned (t' := s.toks) (fun b ob hb e => eb b ob hb e) f0 f1 f3 f4 f5⟩
  self := fun A i s Q E st h => wpAny_pyIter_keyiter st h
theorem turn_keysT {kvs : List (List Key × V)} (it : Addr) (hod : o.data = .dict es ep) : Turn P w K tg (Itkt d o kvs) [it] it (fun i h => h.IsKeyIter it d i kvs.length ep) where
  mem := by simp
  obj := fun i h st b hb => by
    have e : b = it := by simpa using hb
    subst e
    obtain ⟨oi, e, c, dd⟩ := st
    exact ⟨oi, e, fun v z => by rw [dd] at z; cases z⟩
  keep := fun i h h' st k => st.at fun oi e => k it (by simp) oi e
  item := by
    intro X hP hw hK hc i pins s σ H E I hf st hg
    subst hP hw hK
    obtain ⟨hd, hi⟩ := hg
    obtain ⟨f0, f1, f2, f3, f4, f5⟩ := hf it (by simp)
    obtain ⟨hs, hgd, hx, es', ep', hdt, hsz, ent⟩ := I.frzT hd
    obtain ⟨rfl, rfl⟩ := dict_ep hod hdt
    obtain ⟨⟨k, v⟩, hkv⟩ : ∃ p, kvs[i]? = some p := ⟨kvs[i], List.getElem?_eq_getElem hi⟩
    obtain ⟨en, q, hen, hkey, hq⟩ := ent i k v hkv
    refine next_key_item st hgd hdt hsz hen fun h' st' sb => ?_
    have I1 : Inv X pins σ H { s with heap := h' } := I.turned (t' := s.toks) (fun b ob hb e => (sb.2 b hb).trans e) f0 f1 f3 f4 f5
    obtain ⟨oi, e, c, dd⟩ := id st'
    exact ⟨en.key, rfl, go_of (s := { s with heap := h' }) e c dd (by decide) ⟨.ref q, H, I1, hkey, ⟨rfl, k, v, q, hkv, rfl, hq⟩, st', fun b hb => (hf b hb).1⟩⟩
  done := by
    intro X hP hw hK hc i pins s σ H E I hf st hg
    subst hP hw hK
    obtain ⟨hd, hi⟩ := hg
    obtain ⟨f0, f1, f2, f3, f4, f5⟩ := hf it (by simp)
    obtain ⟨hs, hgd, hx, es', ep', hdt, hsz, ent⟩ := I.frzT hd
    obtain ⟨rfl, rfl⟩ := dict_ep hod hdt
    exact next_key_end (I.ok.hd hc) st hgd hdt hsz hi fun h' eb => ⟨rfl, I.turned (t' := s.toks) (fun b ob hb e => eb b ob hb e) f0 f1 f3 f4 f5⟩
  self := fun A i s Q E st h => by
    refine wpAny_pyIter_slot st.typeIs F.slot_dict_keyiterator_iter (wpAny_call_entry F.slot_dict_keyiterator_iter st.typeIs F.entry_dict_keyiterator_iter ?_ (F.args_dict_keyiterator_iter_1 _))
    show wpAny _ _ (ret (.ref it)) _ _ s
    exact wpAny_pure ⟨_, rfl, "dict_keyiterator", _, st.typeIs, F.slot_dict_keyiterator_next.lookup, h⟩
theorem turn_vals {kvs : List (Key × V)} (it : Addr) (hod : o.data = .dict es ep) : Turn P w K tg (Itd d o kvs) [it] it (fun i h => h.IsValIter it d i kvs.length ep) where
  mem := by simp
  obj := fun i h st b hb => by
    have e : b = it := by simpa using hb
    subst e
    obtain ⟨oi, e, c, dd⟩ := st
    exact ⟨oi, e, fun v z => by rw [dd] at z; cases z⟩
  keep := fun i h h' st k => st.at fun oi e => k it (by simp) oi e
  item := by
    intro X hP hw hK hc i pins s σ H E I hf st hg
    subst hP hw hK
    obtain ⟨hd, hi⟩ := hg
    obtain ⟨f0, f1, f2, f3, f4, f5⟩ := hf it (by simp)
    obtain ⟨hs, hgd, hx, es', ep', vs, hdt, hsz, kv, hm⟩ := I.frzK hd
    obtain ⟨rfl, rfl⟩ := dict_ep hod hdt
    obtain ⟨⟨k, v⟩, hkv⟩ : ∃ p, kvs[i]? = some p := ⟨kvs[i], List.getElem?_eq_getElem hi⟩
    obtain ⟨u, hu, ru⟩ := kv_get kv hkv
    have hl : kvs.length = vs.length := Paired.length kv
    rw [hl] at st
    refine wpAny_pyNext_values_item st hm hu fun h' st' sb => ?_
    have I1 : Inv X pins σ H { s with heap := h' } := I.turned (t' := s.toks) (fun b ob hb e => (sb.2 b hb).trans e) f0 f1 f3 f4 f5
    obtain ⟨oi, e, c, dd⟩ := id st'
    refine ⟨u, rfl, go_of (s := { s with heap := h' }) e c dd (by decide) ⟨v, H, I1, ru, ⟨rfl, k, hkv⟩, ?_, fun b hb => (hf b hb).1⟩⟩
    show h'.IsValIter it d (i + 1) kvs.length _
    rw [hl]
    exact st'
  done := by
    intro X hP hw hK hc i pins s σ H E I hf st hg
    subst hP hw hK
    obtain ⟨hd, hi⟩ := hg
    obtain ⟨f0, f1, f2, f3, f4, f5⟩ := hf it (by simp)
    obtain ⟨hs, hgd, hx, es', ep', vs, hdt, hsz, kv, hm⟩ := I.frzK hd
    obtain ⟨rfl, rfl⟩ := dict_ep hod hdt
    have hl : kvs.length = vs.length := Paired.length kv
    rw [hl] at st
    exact wpAny_pyNext_values_end (I.ok.hd hc) st hm (List.getElem?_eq_none (by omega)) fun h' eb => ⟨rfl, I.turned (t' := s.toks) (fun b ob hb e => eb b ob hb e) f0 f1 f3 f4 f5⟩
  self := fun A i s Q E st h => wpAny_pyIter_valiter st h
theorem turn_items {kvs : List (Key × V)} {elts : List Expr} {kk : Nat} {tpos : Pos} (it : Addr) (hod : o.data = .dict es ep) :
    Turn P w K (.Tuple elts kk tpos) (Iti d o kvs) [it] it (fun i h => ∃ ok ov, IsItemIter h it d i kvs.length ep ok ov) where
  mem := by simp
  obj := fun i h st b hb => by
    have e : b = it := by simpa using hb
    subst e
    obtain ⟨ok, ov, e⟩ := st
    exact ⟨_, e, fun v z => nomatch z⟩
  keep := fun i h h' st k => let ⟨ok, ov, e⟩ := st; ⟨ok, ov, k it (by simp) _ e⟩
  item := by
    intro X hP hw hK hc i pins s σ H E I hf st hg
    subst hP hw hK
    obtain ⟨hd, hi⟩ := hg
    obtain ⟨hs, hgd, hx, es', ep', vs, hdt, hsz, kv, hm⟩ := I.frzK hd
    obtain ⟨rfl, rfl⟩ := dict_ep hod hdt
    obtain ⟨⟨k, v⟩, hkv⟩ : ∃ p, kvs[i]? = some p := ⟨kvs[i], List.getElem?_eq_getElem hi⟩
    obtain ⟨u, hu, ru⟩ := kv_get kv hkv
    have hl : kvs.length = vs.length := Paired.length kv
    obtain ⟨ok, ov, he⟩ := st
    rw [hl] at he
    have hlt : it < s.heap.objs.size := Heap.lt_size he
    refine wpAny_pyNext_items_item he hm hu fun key h' hkey ho hT hz hk => ?_
    refine ⟨_, rfl, wpAny_letOwnedTupleGo_items (s := { s with heap := h' }) ho fun h'' he' sb => ?_⟩
    have hT2 : h''.get? s.heap.objs.size = some { cls := .type "tuple", data := .seq #[key, u] } := (sb.2 _ (Nat.ne_of_gt hlt)).trans hT
    have new : ObjOk X.prog X.w (upd H s.heap.objs.size (.tup [kV k, v])) h'' s.heap.objs.size (.tup [kV k, v]) :=
      ⟨by show 2 ≤ sizeLine; decide, [key, u], .cons (relV_key (show keyIs k key = true from hkey)) (.cons ru .nil), ⟨_, hT2, rfl, _, rfl⟩⟩
    have I1 : Inv X pins σ (upd H s.heap.objs.size (.tup [kV k, v])) { s with heap := h'' } :=
      I.turnedNew (t' := s.toks) (ch := [it]) (fun b ob hb e => (sb.2 b (by simpa using hb)).trans (hk b ob (by simpa using hb) e)) hf (Nat.le_refl _) new
    refine ⟨.ref s.heap.objs.size, _, I1, rfl, ⟨_, k, v, hkv, rfl, I.hok.fresh (Nat.le_refl _), rfl⟩, ⟨key, u, ?_⟩, fun b hb => ?_⟩
    · rw [hl]; exact he'
    · have e : b = it := by simpa using hb
      rw [e, upd_ne (Nat.ne_of_lt hlt)]
      exact (hf it (by simp)).1
  done := by
    intro X hP hw hK hc i pins s σ H E I hf st hg
    subst hP hw hK
    obtain ⟨hd, hi⟩ := hg
    obtain ⟨f0, f1, f2, f3, f4, f5⟩ := hf it (by simp)
    obtain ⟨hs, hgd, hx, es', ep', vs, hdt, hsz, kv, hm⟩ := I.frzK hd
    obtain ⟨rfl, rfl⟩ := dict_ep hod hdt
    have hl : kvs.length = vs.length := Paired.length kv
    obtain ⟨ok, ov, he⟩ := st
    rw [hl] at he
    exact wpAny_pyNext_items_end (I.ok.hd hc) he hm (List.getElem?_eq_none (by omega)) fun h' eb => ⟨rfl, I.turned (t' := s.toks) (fun b ob hb e => eb b ob hb e) f0 f1 f3 f4 f5⟩
  self := fun A i s Q E st h => let ⟨_, _, e⟩ := st; PySem.W.kcp_self e h
end

/-! ### for k in d, d.keys(), d.values(), d.items() -/
/-- the dict is locked (tLock, or by the caller) -/
def iKeys (td : TE) : TI := fun σ H R => td σ H fun x H1 => ∃ d o, x = .ref d ∧ ((∃ kvs, H1 d = some (.frz o (.dK kvs)) ∧ R (Itk d o kvs) H1) ∨ ∃ kvs, H1 d = some (.frz o (.dT kvs)) ∧ R (Itkt d o kvs) H1)
def iVals (td : TE) : TI := fun σ H R => td σ H fun x H1 => ∃ d o kvs, x = .ref d ∧ H1 d = some (.frz o (.dK kvs)) ∧ R (Itd d o kvs) H1
def iItems (td : TE) : TI := fun σ H R => td σ H fun x H1 => ∃ d o kvs, x = .ref d ∧ H1 d = some (.frz o (.dK kvs)) ∧ R (Iti d o kvs) H1
def iKeysM (td : TE) : TI := fun σ H R => td σ H fun x H1 => ∃ d o kvs, x = .ref d ∧ H1 d = some (.frz o (.dK kvs)) ∧ R (Itk d o kvs) H1
section
variable {X : Cx} {tg e : Expr} {td : TE} {apos cpos : Pos}
theorem pi_keys (he : PE X e td) : PI X tg e (iKeys td) := by
  intro pins s σ H R I h
  refine thn (he pins s σ H _ I h) fun u s1 ⟨x, H1, I1, rx, d, o, ex, q⟩ => ?_
  subst ex
  obtain rfl : u = Value.ref d := rx
  rcases q with ⟨kvs, hd, q⟩ | ⟨kvs, hd, q⟩
  · obtain ⟨hs, hgd, hx, es, ep, vs, hdt, hsz, kv, hm⟩ := I1.frzK hd
    refine iter_keys hs hgd hx hdt (pi_one (tk := s1.toks) I1 _ (turn_keys _ hdt) ⟨_, Heap.get?_push_size _ rfl, rfl, ?_⟩ q)
    rw [hsz] <;> rfl
  · obtain ⟨hs, hgd, hx, es, ep, hdt, hsz, ent⟩ := I1.frzT hd
    refine iter_keys hs hgd hx hdt (pi_one (tk := s1.toks) I1 _ (turn_keysT _ hdt) ⟨_, Heap.get?_push_size _ rfl, rfl, ?_⟩ q)
    rw [hsz] <;> rfl
theorem pi_values (he : PE X e td) (hbase : attributeBase e "values" X.env (eval e X.env) = eval e X.env := by rfl) (hline : (apos.endLine == cpos.line) = true := by rfl) : PI X tg (.Call (.Attribute e "values" apos) [] [] cpos) (iVals td) := by
  intro pins s σ H R I h
  refine wpAny_Call_method (T := "dict") (id := "dict.values") hbase rfl hline F.plainAttrs_dict F.slot_dict_values F.type_dict_values (thn (he pins s σ H _ I h) fun u s1 ⟨x, H1, I1, rx, d, o, kvs, ex, hd, q⟩ => ?_)
  subst ex
  obtain rfl : u = Value.ref d := rx
  obtain ⟨hs, hgd, hx, es, ep, vs, hdt, hsz, kv, hm⟩ := I1.frzK hd
  have hl : kvs.length = vs.length := Paired.length kv
  refine ⟨hm.dictOf.typeIs, hm.dictOf.mapOf.noDict, ?_⟩
  have I2 : Inv X pins σ H1 { s1 with heap := s1.heap.push { cls := .type "dict_values", data := .fields #[.ref d] } } := I1.kept (t' := s1.toks) fun b ob q => Heap.get?_push_of_some _ q
  have fin : wpAny (model X.prog X.w) X.A (pyIter (.ref s1.heap.objs.size)) (PIE X pins σ tg R) X.xe { s1 with heap := s1.heap.push { cls := .type "dict_values", data := .fields #[.ref d] } } := by
    refine wpAny_pyIter_values (d := d) (knd := mixKind X.prog X.w) ⟨_, Heap.get?_push_size _ rfl, rfl, rfl⟩ (hm.push _) (pi_one (tk := s1.toks) I2 _ (turn_vals _ hdt) ⟨_, Heap.get?_push_size _ rfl, rfl, ?_⟩ q)
    rw [hl] <;> rfl
  show wpAny _ _ (callWith cpos (.builtin "dict.values") [.ref d] [] []) _ X.xe s1
  exact method_meetsIn F.slot_dict_values F.entry_dict_values rfl (PySem.evalArgs_none ⟨rfl, hm.dictOf.typeIs, F.args_dict_values_1 _, _, meets_dict_values (mixKind X.prog X.w) d hs, ⟨vs, hm.dictOf⟩, fin⟩)
theorem pi_items {elts : List Expr} {kk : Nat} {tpos : Pos} (he : PE X e td) (hbase : attributeBase e "items" X.env (eval e X.env) = eval e X.env := by rfl) (hline : (apos.endLine == cpos.line) = true := by rfl) :
    PI X (.Tuple elts kk tpos) (.Call (.Attribute e "items" apos) [] [] cpos) (iItems td) := by
  intro pins s σ H R I h
  refine wpAny_Call_method (T := "dict") (id := "dict.items") hbase rfl hline F.plainAttrs_dict F.slot_dict_items F.type_dict_items (thn (he pins s σ H _ I h) fun u s1 ⟨x, H1, I1, rx, d, o, kvs, ex, hd, q⟩ => ?_)
  subst ex
  obtain rfl : u = Value.ref d := rx
  obtain ⟨hs, hgd, hx, es, ep, vs, hdt, hsz, kv, hm⟩ := I1.frzK hd
  have hl : kvs.length = vs.length := Paired.length kv
  refine ⟨hm.dictOf.typeIs, hm.dictOf.mapOf.noDict, ?_⟩
  have I2 : Inv X pins σ H1 { s1 with heap := s1.heap.push { cls := .type "dict_items", data := .fields #[.ref d] } } := I1.kept (t' := s1.toks) fun b ob q => Heap.get?_push_of_some _ q
  have fin : wpAny (model X.prog X.w) X.A (pyIter (.ref s1.heap.objs.size)) (PIE X pins σ (.Tuple elts kk tpos) R) X.xe { s1 with heap := s1.heap.push { cls := .type "dict_items", data := .fields #[.ref d] } } := by
    refine wpAny_pyIter_items (d := d) (knd := mixKind X.prog X.w) ⟨_, Heap.get?_push_size _ rfl, rfl, rfl⟩ (hm.push _) (pi_one (tk := s1.toks) I2 _ (turn_items _ hdt) ⟨.none, .none, ?_⟩ q)
    rw [hl]
    exact Heap.get?_push_size _ rfl
  show wpAny _ _ (callWith cpos (.builtin "dict.items") [.ref d] [] []) _ X.xe s1
  exact method_meetsIn F.slot_dict_items F.entry_dict_items rfl (PySem.evalArgs_none ⟨rfl, hm.dictOf.typeIs, F.args_dict_items_1 _, _, meets_dict_items (mixKind X.prog X.w) d hs, ⟨vs, hm.dictOf⟩, fin⟩)
theorem pi_keysM (he : PE X e td) (hbase : attributeBase e "keys" X.env (eval e X.env) = eval e X.env := by rfl) (hline : (apos.endLine == cpos.line) = true := by rfl) : PI X tg (.Call (.Attribute e "keys" apos) [] [] cpos) (iKeysM td) := by
  intro pins s σ H R I h
  refine wpAny_Call_method (T := "dict") (id := "dict.keys") hbase rfl hline F.plainAttrs_dict F.slot_dict_keys F.type_dict_keys (thn (he pins s σ H _ I h) fun u s1 ⟨x, H1, I1, rx, d, o, kvs, ex, hd, q⟩ => ?_)
  subst ex
  obtain rfl : u = Value.ref d := rx
  obtain ⟨hs, hgd, hx, es, ep, vs, hdt, hsz, kv, hm⟩ := I1.frzK hd
  have hl : kvs.length = vs.length := Paired.length kv
  refine ⟨hm.dictOf.typeIs, hm.dictOf.mapOf.noDict, ?_⟩
  have I2 : Inv X pins σ H1 { s1 with heap := s1.heap.push { cls := .type "dict_keys", data := .fields #[.ref d] } } := I1.kept (t' := s1.toks) fun b ob q => Heap.get?_push_of_some _ q
  have fin : wpAny (model X.prog X.w) X.A (pyIter (.ref s1.heap.objs.size)) (PIE X pins σ tg R) X.xe { s1 with heap := s1.heap.push { cls := .type "dict_keys", data := .fields #[.ref d] } } := by
    refine PySem.W.kdl_pyIter_keys (d := d) (knd := mixKind X.prog X.w) ⟨_, Heap.get?_push_size _ rfl, rfl, rfl⟩ (hm.push _) (pi_one (tk := s1.toks) I2 _ (turn_keys _ hdt) ⟨_, Heap.get?_push_size _ rfl, rfl, ?_⟩ q)
    rw [hl] <;> rfl
  show wpAny _ _ (callWith cpos (.builtin "dict.keys") [.ref d] [] []) _ X.xe s1
  exact method_meetsIn F.slot_dict_keys F.entry_dict_keys rfl (PySem.evalArgs_none ⟨rfl, hm.dictOf.typeIs, F.args_dict_keys_1 _, _, PySem.W.kdl_meets_keys (mixKind X.prog X.w) d hs, ⟨vs, hm.dictOf⟩, fin⟩)
end

/-! ### enumerate(list) -/
/-- the list at a as it stands at each turn, each item in a new pair -/
def Ite (K : PySem.W.Frag) (a : Addr) : It :=
  ⟨fun i H => ∃ (xs : List V) (x : V), SqL K H a xs ∧ xs[i]? = some x, fun i H v H' => ∃ T x, v = .ref T ∧ H T = none ∧ H' = upd H T (.tup [.int (i : Nat), x]) ∧ ∀ xs, SqL K H a xs → xs[i]? = some x, fun i H => ∃ xs : List V, SqL K H a xs ∧ xs.length ≤ i⟩
theorem turn_enum {P : Program} {w : World} {K : PySem.W.Frag} {elts : List Expr} {kk : Nat} {tpos : Pos} (a e it : Addr) :
    Turn P w K (.Tuple elts kk tpos) (Ite K a) [e, it] e (fun i h => (∃ old, IsEnum h e it ((i : Nat) : Int) old) ∧ h.IsListIter it a i ∧ e ≠ it) where
  mem := by simp
  obj := fun i h st b hb => by
    obtain ⟨⟨old, he⟩, ⟨o, ho, hc, hd⟩, _⟩ := st
    have e' : b = e ∨ b = it := by simpa using hb
    rcases e' with z | z
    · rw [z]; exact ⟨_, he, fun v q => nomatch q⟩
    · rw [z]; exact ⟨o, ho, fun v q => by rw [hd] at q; cases q⟩
  keep := fun i h h' st k => let ⟨⟨old, he⟩, hi, hne⟩ := st; ⟨⟨old, k e (by simp) _ he⟩, hi.at fun o q => k it (by simp) o q, hne⟩
  item := by
    intro X hP hw hK hc i pins s σ H E I hf st hg
    subst hP hw hK
    obtain ⟨⟨old, he⟩, hit, hne⟩ := st
    obtain ⟨xs, x, hq, hx⟩ := hg
    obtain ⟨its, rv, p, hz⟩ := I.list hq
    obtain ⟨u, hu, ru⟩ := rv.get hx
    have hel : e < s.heap.objs.size := Heap.lt_size he
    have hil : it < s.heap.objs.size := by obtain ⟨_, q, _⟩ := hit; exact Heap.lt_size q
    refine wpAny_pyNext_enum_item he hit p.isList (x := u) (by simpa using hu) hne fun h' ho hit' hT hsz hk => ?_
    refine ⟨_, rfl, wpAny_letOwnedTupleGo_enum (s := { s with heap := h', toks := s.toks + 1 }) ho fun h'' he' sb => ?_⟩
    have hT2 : h''.get? s.heap.objs.size = some { cls := .type "tuple", data := .seq #[.int i s.toks, u] } := (sb.2 _ (Nat.ne_of_gt hel)).trans hT
    have new : ObjOk X.prog X.w (upd H s.heap.objs.size (.tup [.int (i : Nat), x])) h'' s.heap.objs.size (.tup [.int (i : Nat), x]) :=
      ⟨by show 2 ≤ sizeLine; decide, [.int i s.toks, u], .cons ⟨_, rfl⟩ (.cons ru .nil), ⟨_, hT2, rfl, _, rfl⟩⟩
    have I1 : Inv X pins σ (upd H s.heap.objs.size (.tup [.int (i : Nat), x])) { s with heap := h'', toks := s.toks + 1 } :=
      I.turnedNew (ch := [e, it]) (fun b ob hb q => (sb.2 b (fun z => hb (by simp [z]))).trans (hk b ob (fun z => hb (by simp [z])) (fun z => hb (by simp [z])) q)) hf (Nat.le_refl _) new
    refine ⟨.ref s.heap.objs.size, _, I1, rfl, ⟨_, x, rfl, I.hok.fresh (Nat.le_refl _), rfl, fun ys hy => by rw [I.list_inj hy hq]; exact hx⟩, ⟨⟨u, ?_⟩, hit'.at fun o q => (sb.2 it (Ne.symm hne)).trans q, hne⟩, fun b hb => ?_⟩
    · have e1 : ((i + 1 : Nat) : Int) = (i : Int) + 1 := by omega
      rw [e1]; exact he'
    · have hb' : b < s.heap.objs.size := by
        have e' : b = e ∨ b = it := by simpa using hb
        rcases e' with z | z
        · rw [z]; exact hel
        · rw [z]; exact hil
      rw [upd_ne (Nat.ne_of_lt hb')]
      exact (hf b hb).1
  done := by
    intro X hP hw hK hc i pins s σ H E I hf st hg
    subst hP hw hK
    obtain ⟨⟨old, he⟩, hit, hne⟩ := st
    obtain ⟨xs, hq, hx⟩ := hg
    obtain ⟨its, rv, p, hz⟩ := I.list hq
    obtain ⟨f0, f1, f2, f3, f4, f5⟩ := hf it (by simp)
    have hl := rv.length
    exact wpAny_pyNext_enum_end (I.ok.hd hc) he hit p.isList (by simp; omega) fun h' eb => ⟨rfl, I.turned (t' := s.toks) (fun b o hb q => eb b o hb q) f0 f1 f3 f4 f5⟩
  self := fun A i s Q E st h => let ⟨⟨_, he⟩, _⟩ := st; wpAny_pyIter_enum he h
def iEnum (K : PySem.W.Frag) (ta : TA) : TI := fun σ H R => ta σ H fun vs H1 => ∃ a xs, vs = [.ref a] ∧ SqL K H1 a xs ∧ R (Ite K a) H1
theorem pi_enum {X : Cx} {e : Expr} {ta : TA} {p pos tpos : Pos} {elts : List Expr} {kk : Nat} (hg : Gl X "enumerate") (hm : X.mg "enumerate" = none) (ha : PA X [e] ta) (hs : starEach [e] X.env = [(false, eval e X.env)] := by rfl) :
    PI X (.Tuple elts kk tpos) (.Call (.Name "enumerate" p) [e] [] pos) (iEnum X.K ta) := by
  intro pins s σ H R I h
  refine Call_ (ld_blt I hg hm boot_enumerate (PyProof.Rows.callWith_type1 (thn (ha pos pins s σ H _ I h) fun us s1 ⟨vs, H1, I1, r1, q1⟩ => ?_) hs rfl))
  obtain ⟨a, xs, ex, hq, q⟩ := q1
  subst ex
  cases r1 with
  | cons r rr =>
    cases rr
    cases r
    obtain ⟨its, rv, p', hz⟩ := I1.list hq
    refine call_enumerate_list p'.isList fun h' he hit hsz hk => wpAny_pyIter_enum he ?_
    have I2 : Inv X pins σ H1 { s1 with heap := h' } := I1.kept (t' := s1.toks) hk
    refine ⟨s1.heap.objs.size + 1, [s1.heap.objs.size + 1, s1.heap.objs.size], _, _, H1, rfl, I2, turn_enum a (s1.heap.objs.size + 1) s1.heap.objs.size, ⟨⟨.none, he⟩, hit, Nat.succ_ne_self _⟩, fun b hb => ?_, q⟩
    have e' : b = s1.heap.objs.size + 1 ∨ b = s1.heap.objs.size := by simpa using hb
    have hle : s1.heap.objs.size ≤ b := by
      rcases e' with z | z
      · rw [z]; exact Nat.le_add_right _ _
      · rw [z]; exact Nat.le_refl _
    exact I1.fpOk hle (I1.hok.fresh hle)
/-! ### zip(list, list) -/
theorem boot_zip5 : bootBuiltins "zip" = some (.type "zip") := by decide +kernel
/-- the lists at a and b as they stand at each turn, the items in new pairs -/
def Itz (K : PySem.W.Frag) (a b : Addr) : It :=
  ⟨fun i H => ∃ (xs ys : List V) (x y : V), SqL K H a xs ∧ SqL K H b ys ∧ xs[i]? = some x ∧ ys[i]? = some y,
    fun i H v H' => ∃ T x y, v = .ref T ∧ H T = none ∧ H' = upd H T (.tup [x, y]) ∧ (∀ xs, SqL K H a xs → xs[i]? = some x) ∧ ∀ ys, SqL K H b ys → ys[i]? = some y,
    fun i H => ∃ xs ys : List V, SqL K H a xs ∧ SqL K H b ys ∧ (xs.length ≤ i ∨ ys.length ≤ i)⟩
theorem turn_zip {P : Program} {w : World} {K : PySem.W.Frag} {elts : List Expr} {kk : Nat} {tpos : Pos} {a b z TI TO i1 i2 : Addr} (D : ZipApart z TI TO i1 i2 a b) :
    Turn P w K (.Tuple elts kk tpos) (Itz K a b) [z, TI, TO, i1, i2] z (fun i h => IsZip h z TI TO .none ∧ IsPair h TI (.ref i1) (.ref i2) ∧ (∃ x y, IsPair h TO x y) ∧ h.IsListIter i1 a i ∧ h.IsListIter i2 b i) where
  mem := by simp
  obj := fun i h st c hc => by
    obtain ⟨hz, hTI, ⟨x, y, hTO⟩, ⟨o1, e1, _, d1⟩, ⟨o2, e2, _, d2⟩⟩ := st
    have e' : c = z ∨ c = TI ∨ c = TO ∨ c = i1 ∨ c = i2 := by simpa using hc
    rcases e' with q | q | q | q | q
    · rw [q]; exact ⟨_, hz, fun v q => nomatch q⟩
    · rw [q]; exact ⟨_, hTI, fun v q => nomatch q⟩
    · rw [q]; exact ⟨_, hTO, fun v q => nomatch q⟩
    · rw [q]; exact ⟨o1, e1, fun v q => by rw [d1] at q; cases q⟩
    · rw [q]; exact ⟨o2, e2, fun v q => by rw [d2] at q; cases q⟩
  keep := fun i h h' st k => by
    obtain ⟨hz, hTI, ⟨x, y, hTO⟩, h1, h2⟩ := st
    exact ⟨k z (by simp) _ hz, k TI (by simp) _ hTI, ⟨x, y, k TO (by simp) _ hTO⟩, h1.at fun o q => k i1 (by simp) o q, h2.at fun o q => k i2 (by simp) o q⟩
  item := by
    intro X hP hw hK hc i pins s σ H E I hf st hg
    subst hP hw hK
    obtain ⟨hz, hTI, ⟨x0, y0, hTO⟩, h1, h2⟩ := st
    obtain ⟨xs, ys, x, y, hqx, hqy, hx, hy⟩ := hg
    obtain ⟨its, rv, p, _⟩ := I.list hqx
    obtain ⟨its2, rv2, p2, _⟩ := I.list hqy
    obtain ⟨u, hu, ru⟩ := rv.get hx
    obtain ⟨u2, hu2, ru2⟩ := rv2.get hy
    have hzl : z < s.heap.objs.size := Heap.lt_size hz
    refine wpAny_pyNext_zip_item D hz hTI hTO h1 h2 p.isList p2.isList (x := u) (y := u2) (by simpa using hu) (by simpa using hu2) fun h' z' TO' h1' h2' hT hsz hk => ?_
    refine ⟨_, rfl, wpAny_letOwnedTupleGo_zip (s := { s with heap := h' }) z' fun h'' z'' sb => ?_⟩
    have hT2 : h''.get? s.heap.objs.size = some { cls := .type "tuple", data := .seq #[u, u2] } := (sb.2 _ (Nat.ne_of_gt hzl)).trans hT
    have new : ObjOk X.prog X.w (upd H s.heap.objs.size (.tup [x, y])) h'' s.heap.objs.size (.tup [x, y]) :=
      ⟨by show 2 ≤ sizeLine; decide, [u, u2], .cons ru (.cons ru2 .nil), ⟨_, hT2, rfl, _, rfl⟩⟩
    have I1 : Inv X pins σ (upd H s.heap.objs.size (.tup [x, y])) { s with heap := h'' } :=
      I.turnedNew (t' := s.toks) (ch := [z, TI, TO, i1, i2]) (fun c o hb q => (sb.2 c (fun q' => hb (by simp [q']))).trans (hk c o (fun q' => hb (by simp [q'])) (fun q' => hb (by simp [q'])) (fun q' => hb (by simp [q'])) (fun q' => hb (by simp [q'])) q)) hf (Nat.le_refl _) new
    refine ⟨.ref s.heap.objs.size, _, I1, rfl, ⟨_, x, y, rfl, I.hok.fresh (Nat.le_refl _), rfl, fun l hl => by rw [I.list_inj hl hqx]; exact hx, fun l hl => by rw [I.list_inj hl hqy]; exact hy⟩, ⟨z'', ?_, ⟨u, u2, ?_⟩, ?_, ?_⟩, fun c hcm => ?_⟩
    · exact (sb.2 _ D.TIz).trans (hk _ _ D.TIz D.TITO D.TIi1 D.TIi2 hTI)
    · exact (sb.2 _ D.TOz).trans TO'
    · exact h1'.at fun o q => (sb.2 _ D.i1z).trans q
    · exact h2'.at fun o q => (sb.2 _ D.i2z).trans q
    · have hlt : c < s.heap.objs.size := by
        have e' : c = z ∨ c = TI ∨ c = TO ∨ c = i1 ∨ c = i2 := by simpa using hcm
        rcases e' with q | q | q | q | q
        · rw [q]; exact hzl
        · rw [q]; exact Heap.lt_size hTI
        · rw [q]; exact Heap.lt_size hTO
        · rw [q]; obtain ⟨_, e1, _⟩ := h1; exact Heap.lt_size e1
        · rw [q]; obtain ⟨_, e2, _⟩ := h2; exact Heap.lt_size e2
      rw [upd_ne (Nat.ne_of_lt hlt)]
      exact (hf c hcm).1
  done := by
    intro X hP hw hK hc i pins s σ H E I hf st hg
    subst hP hw hK
    obtain ⟨hz, hTI, ⟨x0, y0, hTO⟩, h1, h2⟩ := st
    obtain ⟨xs, ys, hqx, hqy, hend⟩ := hg
    obtain ⟨its, rv, p, _⟩ := I.list hqx
    obtain ⟨its2, rv2, p2, _⟩ := I.list hqy
    have l1 := rv.length
    have l2 := rv2.length
    have he : its.toArray[i]? = none ∨ its2.toArray[i]? = none := by
      rcases hend with q | q
      · exact .inl (by simp; omega)
      · exact .inr (by simp; omega)
    exact wpAny_pyNext_zip_end (I.ok.hd hc) D hz hTI hTO h1 h2 p.isList p2.isList he fun h' hk => ⟨rfl, I.turnedL (t' := s.toks) (ch := [z, TI, TO, i1, i2]) (fun c o hb q =>
      hk c o (fun q' => hb (by simp [q'])) (fun q' => hb (by simp [q'])) (fun q' => hb (by simp [q'])) (fun q' => hb (by simp [q'])) q) hf⟩
  self := fun A i s Q E st h => wpAny_pyIter_zip st.1 h
def iZip (K : PySem.W.Frag) (ta : TA) : TI := fun σ H R => ta σ H fun vs H1 => ∃ a b xs ys, vs = [.ref a, .ref b] ∧ SqL K H1 a xs ∧ SqL K H1 b ys ∧ R (Itz K a b) H1
theorem pi_zip {X : Cx} {e e2 : Expr} {ta : TA} {p pos tpos : Pos} {elts : List Expr} {kk : Nat} (hg : Gl X "zip") (hm : X.mg "zip" = none) (ha : PA X [e, e2] ta)
    (hs : starEach [e, e2] X.env = (false, eval e X.env) :: starEach [e2] X.env := by rfl) (hpl : (backTo pos (starEach [e2] X.env)).any (·.1) = false := by rfl) :
    PI X (.Tuple elts kk tpos) (.Call (.Name "zip" p) [e, e2] [] pos) (iZip X.K ta) := by
  intro pins s σ H R I h
  refine Call_ (ld_blt I hg hm boot_zip5 (PyProof.Rows.callWith_type1 (thn (ha pos pins s σ H _ I h) fun us s1 ⟨vs, H1, I1, r1, q1⟩ => ?_) hs hpl))
  obtain ⟨a, b, xs, ys, ex, hqx, hqy, q⟩ := q1
  subst ex
  cases r1 with
  | cons r rr =>
    cases rr with
    | cons r' rr =>
      cases rr
      cases r
      cases r'
      obtain ⟨its, rv, p1, _⟩ := I1.list hqx
      obtain ⟨its2, rv2, p2, _⟩ := I1.list hqy
      have la : a < s1.heap.objs.size := p1.lt
      have lb : b < s1.heap.objs.size := p2.lt
      refine call_zip_2 p1.isList p2.isList fun h' hz hTI hTO h1 h2 hsz hk => wpAny_pyIter_zip hz ?_
      have I2 : Inv X pins σ H1 { s1 with heap := h' } := I1.kept (t' := s1.toks) hk
      refine ⟨s1.heap.objs.size + 4, [s1.heap.objs.size + 4, s1.heap.objs.size + 2, s1.heap.objs.size + 3, s1.heap.objs.size, s1.heap.objs.size + 1], _, _, H1, rfl, I2, turn_zip (PySem.W.ktu_apart s1.heap.objs.size a b la lb), ⟨hz, hTI, ⟨_, _, hTO⟩, h1, h2⟩, fun c hcm => ?_, q⟩
      have e' : c = s1.heap.objs.size + 4 ∨ c = s1.heap.objs.size + 2 ∨ c = s1.heap.objs.size + 3 ∨ c = s1.heap.objs.size ∨ c = s1.heap.objs.size + 1 := by simpa using hcm
      have hle : s1.heap.objs.size ≤ c := by
        rcases e' with z | z | z | z | z
        · rw [z]; exact Nat.le_add_right _ _
        · rw [z]; exact Nat.le_add_right _ _
        · rw [z]; exact Nat.le_add_right _ _
        · rw [z]; exact Nat.le_refl _
        · rw [z]; exact Nat.le_add_right _ _
      exact I1.fpOk hle (I1.hok.fresh hle)
end L2

section 
namespace Bits
open PySem PyProof.Rows

theorem nat_and_mul_pow (k : Nat) : ∀ a b : Nat, a < 2 ^ k → a &&& (b * 2 ^ k) = 0 := by
  induction k with
  | zero =>
    intro a b h
    have h0 : a = 0 := by
      rw [Nat.pow_zero] at h
      omega
    subst h0
    simp
  | succ k ih =>
    intro a b h
    have hm : (b * 2 ^ (k + 1)) = (b * 2 ^ k) * 2 := by rw [Nat.pow_succ, Nat.mul_assoc]
    have hlt : a / 2 < 2 ^ k := by
      rw [Nat.pow_succ] at h
      generalize 2 ^ k = m at h ⊢
      omega
    have i := ih (a / 2) b hlt
    rw [hm]
    generalize b * 2 ^ k = B at i ⊢
    have e : (a &&& (B * 2)) / 2 = a / 2 &&& (B * 2) / 2 := Nat.and_div_two
    have e2 : (B * 2) / 2 = B := by omega
    have o := @Nat.and_mod_two_eq_one a (B * 2)
    rw [e2, i] at e
    omega

theorem natCast_mul_pow (m k : Nat) : (m : Int) * 2 ^ k = ((m * 2 ^ k : Nat) : Int) := by
  rw [two_pow_cast]
  first
    | exact (Int.natCast_mul _ _).symm
    | simp

/-- low bits a, high part b: (b << k) | a -/
theorem bitOr_join {a b : Int} {k : Nat} (h0 : 0 ≤ a) (h1 : a < 2 ^ k) (hb : 0 ≤ b) : Builtin.bitOr a (b * 2 ^ k) = a + b * 2 ^ k := by
  obtain ⟨n, rfl⟩ := Int.eq_ofNat_of_zero_le h0
  obtain ⟨m, rfl⟩ := Int.eq_ofNat_of_zero_le hb
  have hn : n < 2 ^ k := by
    rw [two_pow_cast] at h1
    omega
  have e : Builtin.bitAnd (n : Int) ((m * 2 ^ k : Nat) : Int) = 0 := by
    rw [bitAnd_pp (by omega) (by omega), Int.toNat_natCast, Int.toNat_natCast, nat_and_mul_pow k n m hn] <;> rfl
  rw [natCast_mul_pow, bitOr_and, e]
  omega
theorem bitOr_join' {a b : Int} {k : Nat} (h0 : 0 ≤ a) (h1 : a < 2 ^ k) (hb : 0 ≤ b) : Builtin.bitOr (b * 2 ^ k) a = a + b * 2 ^ k := by
  rw [bitOr_comm]
  exact bitOr_join h0 h1 hb

/-- x & ((1 << k) - 1) -/
theorem bitAnd_mask {x : Int} (k : Nat) (hx : 0 ≤ x) : Builtin.bitAnd x (2 ^ k - 1) = x % 2 ^ k := by
  obtain ⟨n, rfl⟩ := Int.eq_ofNat_of_zero_le hx
  have hp : 0 < 2 ^ k := Nat.two_pow_pos k
  rw [two_pow_cast]
  have e : ((2 ^ k : Nat) : Int) - 1 = ((2 ^ k - 1 : Nat) : Int) := by
    generalize (2 : Nat) ^ k = m at hp
    omega
  rw [e, bitAnd_pp (by omega) (by omega), Int.toNat_natCast, Int.toNat_natCast, Nat.and_two_pow_sub_one_eq_mod]
  first
    | rfl
    | exact Int.natCast_emod _ _
    | simp

/-- (x >> i) & 1 -/
theorem bit_at {x : Int} (i : Nat) : Builtin.bitAnd (x.fdiv (2 ^ i)) 1 = x / 2 ^ i % 2 := by
  have hp : (0 : Int) ≤ 2 ^ i := by
    rw [two_pow_cast]
    exact Int.natCast_nonneg _
  rw [Int.fdiv_eq_ediv_of_nonneg _ hp, bitAnd_m1]

theorem nat_xor_add_and (m : Nat) : ∀ n : Nat, (m ^^^ n) + 2 * (m &&& n) = m + n := by
  induction m using Nat.strongRecOn with
  | _ m ih =>
    intro n
    by_cases h0 : m = 0
    · subst h0
      simp
    · have ih' := ih (m / 2) (by omega) (n / 2)
      rw [← Nat.xor_div_two, ← Nat.and_div_two] at ih'
      have o1 := @Nat.xor_mod_two_eq_one m n
      have a1 := @Nat.and_mod_two_eq_one m n
      omega

theorem bitXor_pp {x y : Int} (hx : 0 ≤ x) (hy : 0 ≤ y) : Builtin.bitXor x y = ((x.toNat ^^^ y.toNat : Nat) : Int) := by
  have e := nat_xor_add_and x.toNat y.toNat
  rw [bitXor_and, bitAnd_pp hx hy]
  omega
theorem bitOr_pp {x y : Int} (hx : 0 ≤ x) (hy : 0 ≤ y) : Builtin.bitOr x y = ((x.toNat ||| y.toNat : Nat) : Int) := by
  have e := nat_or_add_and x.toNat y.toNat
  rw [bitOr_and, bitAnd_pp hx hy]
  omega
theorem bitXor_nonneg {x y : Int} (hx : 0 ≤ x) (hy : 0 ≤ y) : 0 ≤ Builtin.bitXor x y := by
  rw [bitXor_pp hx hy]
  omega
theorem bitOr_nonneg {x y : Int} (hx : 0 ≤ x) (hy : 0 ≤ y) : 0 ≤ Builtin.bitOr x y := by
  rw [bitOr_pp hx hy]
  omega

end Bits
end 

section 
namespace TL
open PySem PySem.Builtin PySem.Builtin.Str PySem.StrLaws

abbrev tl (x : Str) : List Nat := x.cps.toList
theorem len_tl (x : Str) : x.length = (tl x).length := by simp [tl, Str.length]
theorem ext_tl {x y : Str} (h : tl x = tl y) : x = y := Str.ext' (Array.toList_inj.mp h)
theorem tl_append (x y : Str) : tl (x ++ y) = tl x ++ tl y := by
  show (x ++ y).cps.toList = _
  rw [Str.cps_append, Array.toList_append]
theorem tl_mk (l : List Nat) : tl ⟨l.toArray⟩ = l := rfl
theorem mk_tl (x : Str) : (⟨(tl x).toArray⟩ : Str) = x := ext_tl rfl
theorem map_tl_inj : ∀ {l m : List Str}, l.map tl = m.map tl → l = m
  | [], [], _ => rfl
  | [], _ :: _, h => by simp at h
  | _ :: _, [], h => by simp at h
  | x :: l, y :: m, h => by
    rw [List.map_cons, List.map_cons] at h
    injection h with h1 h2
    rw [ext_tl h1, map_tl_inj h2]
theorem tl_ofString (s : String) : tl (Str.ofString s) = s.toList.map Char.toNat := PyProof.Rows.signs_ofString s

/-! ### the list functions -/
/-- S stands at the head of l -/
def pre (S l : List Nat) : Bool := l.take S.length == S
/-- l cut at each S from the left; k signs are still to be passed over -/
def spl (S : List Nat) : Nat → List Nat → List Nat → List (List Nat)
  | _, acc, [] => [acc]
  | 0, acc, c :: r => if pre S (c :: r) = true then acc :: spl S (S.length - 1) [] r else spl S 0 (acc ++ [c]) r
  | k + 1, acc, _ :: r => spl S k acc r
/-- what stands before the first S, and behind it -/
def par (S : List Nat) : List Nat → List Nat → Option (List Nat × List Nat)
  | _, [] => none
  | acc, c :: r => if pre S (c :: r) = true then some (acc, (c :: r).drop S.length) else par S (acc ++ [c]) r

theorem spl_nil (S : List Nat) (k : Nat) (acc : List Nat) : spl S k acc [] = [acc] := by cases k <;> rfl
theorem spl_hit {S acc r : List Nat} {c : Nat} (h : pre S (c :: r) = true) : spl S 0 acc (c :: r) = acc :: spl S (S.length - 1) [] r := by
  show (if pre S (c :: r) = true then acc :: spl S (S.length - 1) [] r else spl S 0 (acc ++ [c]) r) = _
  rw [if_pos h]
theorem spl_miss {S acc r : List Nat} {c : Nat} (h : pre S (c :: r) = false) : spl S 0 acc (c :: r) = spl S 0 (acc ++ [c]) r := by
  show (if pre S (c :: r) = true then acc :: spl S (S.length - 1) [] r else spl S 0 (acc ++ [c]) r) = _
  rw [if_neg (by rw [h]; exact Bool.false_ne_true)]
theorem spl_pass (S : List Nat) : ∀ (k : Nat) (acc l : List Nat), spl S k acc l = spl S 0 acc (l.drop k)
  | 0, _, _ => by rw [List.drop_zero]
  | k + 1, acc, [] => by rw [List.drop_nil, spl_nil, spl_nil]
  | k + 1, acc, c :: r => by
    show spl S k acc r = spl S 0 acc (r.drop k)
    exact spl_pass S k acc r
theorem par_hit {S acc r : List Nat} {c : Nat} (h : pre S (c :: r) = true) : par S acc (c :: r) = some (acc, (c :: r).drop S.length) := by
  show (if pre S (c :: r) = true then some (acc, (c :: r).drop S.length) else par S (acc ++ [c]) r) = _
  rw [if_pos h]
theorem par_miss {S acc r : List Nat} {c : Nat} (h : pre S (c :: r) = false) : par S acc (c :: r) = par S (acc ++ [c]) r := by
  show (if pre S (c :: r) = true then some (acc, (c :: r).drop S.length) else par S (acc ++ [c]) r) = _
  rw [if_neg (by rw [h]; exact Bool.false_ne_true)]

theorem pre_nil {S : List Nat} (hS : S ≠ []) : pre S [] = false := by
  cases S with
  | nil => exact absurd rfl hS
  | cons s S => rfl
theorem pre_of_head {s c : Nat} (S r : List Nat) (h : c ≠ s) : pre (s :: S) (c :: r) = false := by
  cases hp : pre (s :: S) (c :: r) with
  | false => rfl
  | true =>
    have e : (c :: r).take (s :: S).length = s :: S := eq_of_beq hp
    rw [List.length_cons, List.take_succ_cons] at e
    injection e with e1 e2
    exact absurd e1 h
theorem pre_self (S r : List Nat) : pre S (S ++ r) = true := by
  show ((S ++ r).take S.length == S) = true
  have e : (S ++ r).take S.length = S := List.take_left
  rw [e] <;> exact beq_self_eq_true S

theorem getElem_drop_cons {L : List Nat} {a : Nat} (h : a < L.length) : ∃ c, L.drop a = c :: L.drop (a + 1) := ⟨L[a], List.drop_eq_getElem_cons h⟩
theorem spl_run (S L : List Nat) : ∀ (m a : Nat) (acc : List Nat), a + m ≤ L.length → (∀ k, a ≤ k → k < a + m → pre S (L.drop k) = false) →
    spl S 0 acc (L.drop a) = spl S 0 (acc ++ (L.drop a).take m) (L.drop (a + m))
  | 0, a, acc, _, _ => by rw [List.take_zero, List.append_nil, Nat.add_zero]
  | m + 1, a, acc, h, hn => by
    have hlt : a < L.length := by omega
    obtain ⟨c, e⟩ := getElem_drop_cons hlt
    have h0 := hn a (Nat.le_refl _) (by omega)
    have ih := spl_run S L m (a + 1) (acc ++ [c]) (by omega) (fun k h1 h2 => hn k (by omega) (by omega))
    have e2 : a + 1 + m = a + (m + 1) := by omega
    rw [e2] at ih
    rw [e] at h0
    rw [e, spl_miss h0, ih, List.take_succ_cons, List.append_assoc] <;> rfl
theorem par_run (S L : List Nat) : ∀ (m a : Nat) (acc : List Nat), a + m ≤ L.length → (∀ k, a ≤ k → k < a + m → pre S (L.drop k) = false) →
    par S acc (L.drop a) = par S (acc ++ (L.drop a).take m) (L.drop (a + m))
  | 0, a, acc, _, _ => by rw [List.take_zero, List.append_nil, Nat.add_zero]
  | m + 1, a, acc, h, hn => by
    have hlt : a < L.length := by omega
    obtain ⟨c, e⟩ := getElem_drop_cons hlt
    have h0 := hn a (Nat.le_refl _) (by omega)
    have ih := par_run S L m (a + 1) (acc ++ [c]) (by omega) (fun k h1 h2 => hn k (by omega) (by omega))
    have e2 : a + 1 + m = a + (m + 1) := by omega
    rw [e2] at ih
    rw [e] at h0
    rw [e, par_miss h0, ih, List.take_succ_cons, List.append_assoc] <;> rfl
theorem drop_two (L : List Nat) (a b : Nat) : (L.drop a).drop b = L.drop (a + b) := by
  first
    | rw [List.drop_drop]
    | rw [List.drop_drop, Nat.add_comm]
theorem spl_at {S L : List Nat} (hS : S ≠ []) {c : Nat} {acc : List Nat} (h : pre S (L.drop c) = true) : spl S 0 acc (L.drop c) = acc :: spl S 0 [] (L.drop (c + S.length)) := by
  rw [← drop_two]
  cases e : L.drop c with
  | nil => rw [e, pre_nil hS] at h; cases h
  | cons d r =>
    rw [e] at h
    rw [spl_hit h, spl_pass]
    cases S with
    | nil => exact absurd rfl hS
    | cons s S => rfl
theorem par_at {S L : List Nat} (hS : S ≠ []) {c : Nat} {acc : List Nat} (h : pre S (L.drop c) = true) : par S acc (L.drop c) = some (acc, L.drop (c + S.length)) := by
  rw [← drop_two]
  cases e : L.drop c with
  | nil => rw [e, pre_nil hS] at h; cases h
  | cons d r =>
    rw [e] at h
    rw [par_hit h]

/-! ### the model's split and partition are these -/
theorem at_iff {x y : Str} (hy : tl y ≠ []) (i : Nat) : At x y x.length i ↔ pre (tl y) ((tl x).drop i) = true := by
  have hx := len_tl x
  have hl := len_tl y
  constructor
  · intro h
    have h2 := h.2
    rw [subAt_eq, hl] at h2
    exact h2
  · intro h
    have e : ((tl x).drop i).take (tl y).length = tl y := eq_of_beq h
    have e1 := congrArg List.length e
    rw [List.length_take, List.length_drop] at e1
    have e2 : 0 < (tl y).length := List.length_pos_iff.mpr hy
    refine ⟨by omega, ?_⟩
    rw [subAt_eq, hl]
    exact h
theorem no_at {x y : Str} (hy : tl y ≠ []) {i : Nat} (h : ¬ At x y x.length i) : pre (tl y) ((tl x).drop i) = false := by
  cases hp : pre (tl y) ((tl x).drop i) with
  | false => rfl
  | true => exact absurd ((at_iff hy i).mpr hp) h
theorem len1 {y : Str} (hy : tl y ≠ []) : 1 ≤ y.length := by
  have e2 : 0 < (tl y).length := List.length_pos_iff.mpr hy
  rw [len_tl y]
  exact e2
theorem tl_strSub (x : Str) (i j : Nat) : tl (strSub x i j) = ((tl x).drop i).take (j - i) := strSub_toList x i j
theorem tl_strSub_end (x : Str) (i : Nat) : tl (strSub x i x.length) = (tl x).drop i := by
  rw [tl_strSub, len_tl x]
  exact List.take_of_length_le (by rw [List.length_drop] <;> omega)

theorem parts_spl {x y : Str} (hy : tl y ≠ []) : ∀ (cuts : List Nat) (a f : Nat), a ≤ (tl x).length → ChainG x y x.length a cuts f → (∀ k, f ≤ k → ¬ At x y x.length k) →
    (partsFrom x y.length a cuts).map tl = spl (tl y) 0 [] ((tl x).drop a)
  | [], a, f, ha, h, hn => by
    have e : f = a := h
    subst e
    show [tl (strSub x f x.length)] = _
    have run := spl_run (tl y) (tl x) ((tl x).length - f) f [] (by omega) (fun k h1 _ => no_at hy (hn k h1))
    have e2 : f + ((tl x).length - f) = (tl x).length := by omega
    rw [e2, List.drop_length, spl_nil, List.nil_append, List.take_of_length_le (by rw [List.length_drop] <;> omega)] at run
    rw [run, tl_strSub_end]
  | c :: r, a, f, ha, h, hn => by
    obtain ⟨h1, h2, h3, h4⟩ := h
    have hc : c + y.length ≤ x.length := h2.1
    have hx := len_tl x
    have hl := len_tl y
    have ih := parts_spl hy r (c + y.length) f (by omega) h4 hn
    show tl (strSub x a c) :: (partsFrom x y.length (c + y.length) r).map tl = _
    have run := spl_run (tl y) (tl x) (c - a) a [] (by omega) (fun k k1 k2 => no_at hy (h3 k k1 (by omega)))
    have e2 : a + (c - a) = c := by omega
    rw [e2, List.nil_append, spl_at hy ((at_iff hy c).mp h2)] at run
    rw [run, ih, tl_strSub, hl]

/-- hk: by kind_ok where the separator is plain -/
theorem split_spl (x y : Str) (hy : tl y ≠ []) (hk : ¬ Builtin.Str.strKind x < Builtin.Str.strKind y) : (Txt.split x y).map tl = spl (tl y) 0 [] (tl x) := by
  obtain ⟨f, g, hn⟩ := occ_tight x y (len1 hy)
  have key := parts_spl hy _ 0 f (Nat.zero_le _) g hn
  rw [List.drop_zero] at key
  have none_case : occurrences x y 0 x.length (x.length + 1) = [] → [x].map tl = spl (tl y) 0 [] (tl x) := fun ho => by
    rw [ho] at key
    rw [← key]
    show [tl x] = [tl (strSub x 0 x.length)]
    rw [sub_whole]
  unfold Txt.split
  by_cases h1 : (decide (x.length < y.length) || decide (Builtin.Str.strKind x < Builtin.Str.strKind y)) = true
  · rw [if_pos h1]
    have hlt : x.length < y.length := by
      simp only [Bool.or_eq_true, decide_eq_true_eq] at h1
      rcases h1 with h | h
      · exact h
      · exact absurd h hk
    refine none_case ?_
    cases ho : occurrences x y 0 x.length (x.length + 1) with
    | nil => rfl
    | cons c r =>
      rw [ho] at g
      have hc : c + y.length ≤ x.length := g.2.1.1
      omega
  · rw [if_neg h1]
    by_cases h2 : (occurrences x y 0 x.length (x.length + 1)).isEmpty = true
    · rw [if_pos h2]
      exact none_case (List.isEmpty_iff.mp h2)
    · rw [if_neg h2, partsBetween_eq]
      exact key
theorem kind_ok {x y : Str} (h : y.cps.all (· < 256) = true) : ¬ Builtin.Str.strKind x < Builtin.Str.strKind y := by
  have e : Builtin.Str.strKind y = 1 := by unfold PySem.Builtin.Str.strKind; rw [if_pos h]
  rw [e]
  unfold PySem.Builtin.Str.strKind
  split
  · omega
  · split <;> omega

theorem partition_par (x y : Str) (hy : tl y ≠ []) :
    Txt.partition x y = (match par (tl y) [] (tl x) with | some (a, b) => (⟨a.toArray⟩, y, ⟨b.toArray⟩) | none => (x, Str.empty, Str.empty)) := by
  have hx := len_tl x
  have hl := len_tl y
  rcases PyProof.Rows.partition_whole x y with ⟨e, hn⟩ | ⟨i, e, hi, hn⟩
  · have run := par_run (tl y) (tl x) (tl x).length 0 [] (by omega) (fun k _ _ => no_at hy (hn k))
    rw [List.drop_zero, Nat.zero_add, List.drop_length] at run
    rw [e, run] <;> rfl
  · have hb : i + y.length ≤ x.length := hi.1
    have run := par_run (tl y) (tl x) i 0 [] (by omega) (fun k _ k2 => no_at hy (hn k (by omega)))
    rw [List.drop_zero, Nat.zero_add, List.nil_append, par_at hy ((at_iff hy i).mp hi)] at run
    rw [e, run]
    have e1 : strSub x 0 i = ⟨((tl x).take i).toArray⟩ := ext_tl (by rw [tl_strSub, List.drop_zero, Nat.sub_zero])
    have e2 : strSub x (i + y.length) x.length = ⟨((tl x).drop (i + (tl y).length)).toArray⟩ := ext_tl (by rw [tl_strSub_end, hl])
    rw [e1, e2] <;> rfl

/-! ### computing spl and par -/
/-- a part that the separator does not begin in, then the separator -/
theorem spl_part {S p rest acc : List Nat} (hS : S ≠ []) (h : ∀ i, i < p.length → pre S ((p ++ (S ++ rest)).drop i) = false) :
    spl S 0 acc (p ++ (S ++ rest)) = (acc ++ p) :: spl S 0 [] rest := by
  have run := spl_run S (p ++ (S ++ rest)) p.length 0 acc (by rw [List.length_append]; omega) (fun k _ k2 => h k (by omega))
  have ed : (p ++ (S ++ rest)).drop p.length = S ++ rest := List.drop_left
  rw [List.drop_zero, Nat.zero_add, List.take_left] at run
  rw [run, spl_at hS (by rw [ed]; exact pre_self S rest), ← drop_two, ed, List.drop_left]
theorem spl_last {S p acc : List Nat} (h : ∀ i, i < p.length → pre S (p.drop i) = false) : spl S 0 acc p = [acc ++ p] := by
  have run := spl_run S p p.length 0 acc (by omega) (fun k _ k2 => h k (by omega))
  rw [List.drop_zero, Nat.zero_add, List.drop_length, spl_nil, List.take_length] at run
  exact run
theorem par_part {S p rest acc : List Nat} (hS : S ≠ []) (h : ∀ i, i < p.length → pre S ((p ++ (S ++ rest)).drop i) = false) :
    par S acc (p ++ (S ++ rest)) = some (acc ++ p, rest) := by
  have run := par_run S (p ++ (S ++ rest)) p.length 0 acc (by rw [List.length_append]; omega) (fun k _ k2 => h k (by omega))
  have ed : (p ++ (S ++ rest)).drop p.length = S ++ rest := List.drop_left
  rw [List.drop_zero, Nat.zero_add, List.take_left] at run
  rw [run, par_at hS (by rw [ed]; exact pre_self S rest), ← drop_two, ed, List.drop_left]
theorem par_none {S p acc : List Nat} (h : ∀ i, i < p.length → pre S (p.drop i) = false) : par S acc p = none := by
  have run := par_run S p p.length 0 acc (by omega) (fun k _ k2 => h k (by omega))
  rw [List.drop_zero, Nat.zero_add, List.drop_length] at run
  exact run
/-- the separator's first sign is not in the part -/
theorem free_of {s : Nat} {S p q : List Nat} (h : s ∉ p) : ∀ i, i < p.length → pre (s :: S) ((p ++ q).drop i) = false := fun i hi => by
  have hlt : i < (p ++ q).length := by rw [List.length_append]; omega
  have e : (p ++ q).drop i = (p ++ q)[i] :: (p ++ q).drop (i + 1) := List.drop_eq_getElem_cons hlt
  rw [e]
  refine pre_of_head _ _ fun z => h ?_
  have e1 : (p ++ q)[i] = p[i] := List.getElem_append_left hi
  rw [← z, e1]
  exact List.getElem_mem hi
theorem spl_part1 {s : Nat} {S p rest acc : List Nat} (h : s ∉ p) : spl (s :: S) 0 acc (p ++ (s :: S ++ rest)) = (acc ++ p) :: spl (s :: S) 0 [] rest :=
  spl_part (by simp) (free_of h)
theorem spl_last1 {s : Nat} {S p acc : List Nat} (h : s ∉ p) : spl (s :: S) 0 acc p = [acc ++ p] := spl_last fun i hi => by
  have z := free_of (S := S) (q := []) h i hi
  rw [List.append_nil] at z
  exact z
theorem par_part1 {s : Nat} {S p rest acc : List Nat} (h : s ∉ p) : par (s :: S) acc (p ++ (s :: S ++ rest)) = some (acc ++ p, rest) := par_part (by simp) (free_of h)
theorem par_none1 {s : Nat} {S p acc : List Nat} (h : s ∉ p) : par (s :: S) acc p = none := par_none fun i hi => by
  have z := free_of (S := S) (q := []) h i hi
  rw [List.append_nil] at z
  exact z

/-- joined lists -/
def joinL (S : List Nat) : List (List Nat) → List Nat
  | [] => []
  | [p] => p
  | p :: q :: r => p ++ (S ++ joinL S (q :: r))
theorem tl_join (y : Str) : ∀ parts : List Str, tl (Str.join y parts) = joinL (tl y) (parts.map tl)
  | [] => rfl
  | [_] => rfl
  | x :: z :: r => by
    show tl (x ++ y ++ Str.join y (z :: r)) = tl x ++ (tl y ++ joinL (tl y) ((z :: r).map tl))
    rw [tl_append, tl_append, tl_join y (z :: r), List.append_assoc]
theorem spl_join {s : Nat} {S : List Nat} : ∀ {parts : List (List Nat)}, parts ≠ [] → (∀ p ∈ parts, s ∉ p) → spl (s :: S) 0 [] (joinL (s :: S) parts) = parts
  | [], h, _ => absurd rfl h
  | [p], _, hp => by
    show spl (s :: S) 0 [] p = [p]
    rw [spl_last1 (hp p (List.mem_singleton.mpr rfl)), List.nil_append]
  | p :: q :: r, _, hp => by
    show spl (s :: S) 0 [] (p ++ (s :: S ++ joinL (s :: S) (q :: r))) = p :: q :: r
    rw [spl_part1 (hp p (List.mem_cons_self ..)), List.nil_append, spl_join (by simp) fun z hz => hp z (List.mem_cons_of_mem _ hz)]
theorem join_eq (y : Str) (parts : List Str) : Txt.join y parts = Str.join y parts := glued_eq_join y parts
/-- THE READ-BACK: a joined text, split -/
theorem split_join {y : Str} {s : Nat} {S : List Nat} (ey : tl y = s :: S) (hk : y.cps.all (· < 256) = true) {parts : List Str} (hne : parts ≠ []) (hp : ∀ p ∈ parts, s ∉ tl p) :
    Txt.split (Txt.join y parts) y = parts := by
  refine map_tl_inj ?_
  rw [split_spl _ y (by rw [ey]; simp) (kind_ok hk), join_eq, tl_join, ey]
  refine spl_join (fun e => hne (List.map_eq_nil_iff.mp e)) fun p h => ?_
  obtain ⟨z, hz, rfl⟩ := List.mem_map.mp h
  exact hp z hz
/-- a text cut at its first separator -/
theorem partition_app {y : Str} {s : Nat} {S : List Nat} (ey : tl y = s :: S) {a b : Str} (h : s ∉ tl a) : Txt.partition (a ++ y ++ b) y = (a, y, b) := by
  rw [partition_par _ y (by rw [ey]; simp), tl_append, tl_append, List.append_assoc, ey, par_part1 h]
  show ((⟨([] ++ tl a).toArray⟩ : Str), y, (⟨(tl b).toArray⟩ : Str)) = _
  rw [List.nil_append, mk_tl, mk_tl]
theorem partition_none {y : Str} {s : Nat} {S : List Nat} (ey : tl y = s :: S) {a : Str} (h : s ∉ tl a) : Txt.partition a y = (a, Str.empty, Str.empty) := by
  rw [partition_par _ y (by rw [ey]; simp), ey, par_none1 h]

/-! ### digits -/
/-- the signs of a number -/
def numL (n : Nat) : List Nat := (Nat.toDigits 10 n).map Char.toNat
theorem tl_num (n : Nat) : tl (Str.ofString (toString ((n : Nat) : Int))) = numL n := PySem.W.KIN.signs_num n
theorem digitChar_nat : ∀ d : Nat, d < 10 → (Nat.digitChar d).toNat = 48 + d := by decide
theorem numL_lt {n : Nat} (h : n < 10) : numL n = [48 + n] := by
  unfold numL
  rw [Nat.toDigits_of_lt_base h]
  show [(Nat.digitChar n).toNat] = _
  rw [digitChar_nat n h]
theorem numL_step {n : Nat} (h : 10 ≤ n) : numL n = numL (n / 10) ++ [48 + n % 10] := by
  have hm : n % 10 < 10 := Nat.mod_lt n (by decide)
  have t : Nat.toDigits 10 (n / 10) ++ Nat.toDigits 10 (n % 10) = Nat.toDigits 10 (10 * (n / 10) + n % 10) := Nat.toDigits_append_toDigits (by decide) (by omega) hm
  rw [Nat.div_add_mod] at t
  show (Nat.toDigits 10 n).map Char.toNat = _
  rw [← t, List.map_append, Nat.toDigits_of_lt_base hm]
  show (Nat.toDigits 10 (n / 10)).map Char.toNat ++ [(Nat.digitChar (n % 10)).toNat] = _
  rw [digitChar_nat _ hm] <;> rfl
theorem numL_digits (n : Nat) : NumText.AllDigits (numL n) := by
  induction n using Nat.strongRecOn with
  | _ n ih =>
    by_cases h : n < 10
    · rw [numL_lt h]
      intro c hc
      rw [List.mem_singleton.mp hc]
      omega
    · rw [numL_step (by omega)]
      intro c hc
      rcases List.mem_append.mp hc with hc | hc
      · exact ih (n / 10) (by omega) c hc
      · have hm : n % 10 < 10 := Nat.mod_lt n (by decide)
        rw [List.mem_singleton.mp hc]
        omega
theorem numL_ne (n : Nat) : numL n ≠ [] := by
  by_cases h : n < 10
  · rw [numL_lt h]
    simp
  · rw [numL_step (by omega)]
    simp
theorem numL_free {n s : Nat} (h : s < 48 ∨ 57 < s) : s ∉ numL n := fun hm => by
  have r := numL_digits n s hm
  omega
theorem numL_val (n : Nat) : NumText.digitsVal (numL n) = n := PySem.W.KIN.val_back n
theorem numL_inj {m n : Nat} (h : numL m = numL n) : m = n := by
  have e := congrArg NumText.digitsVal h
  rw [numL_val, numL_val] at e
  exact e
theorem numL_len {n k : Nat} (hk : 0 < k) (h : n < 10 ^ k) : (numL n).length ≤ k := by
  have z := PyProof.Rows.toString_length_le (v := (n : Int)) (by omega) hk (by
    have e : ((10 : Int) ^ k) = ((10 ^ k : Nat) : Int) := by
      first
        | exact (Int.natCast_pow 10 k).symm
        | simp
    rw [e]
    first | exact Int.ofNat_lt.mpr h | omega)
  rw [len_tl, tl_num] at z
  exact z
/-- int(str(n)) -/
theorem int_num {n : Nat} (h : (numL n).length ≤ 4300) : intText? (Str.ofString (toString ((n : Nat) : Int))) = some (n : Int) := by
  have e := intText_digits (x := Str.ofString (toString ((n : Nat) : Int))) (by rw [show (Str.ofString (toString ((n : Nat) : Int))).cps.toList = numL n from tl_num n]; exact numL_digits n)
    (by rw [show (Str.ofString (toString ((n : Nat) : Int))).cps.toList = numL n from tl_num n]; exact numL_ne n) (by rw [len_tl, tl_num]; exact h)
  rw [show (Str.ofString (toString ((n : Nat) : Int))).cps.toList = numL n from tl_num n, numL_val] at e
  exact e
/-- a program's own loop over digits: total = total * 10 + (ord(sign) - ord("0")) -/
theorem fold_digits : ∀ (l : List Nat) (a : Nat), NumText.AllDigits l → l.foldl (fun (t : Int) (c : Nat) => t * 10 + ((c : Int) - 48)) (a : Int) = ((l.foldl (fun acc c => acc * 10 + (c - 48)) a : Nat) : Int)
  | [], _, _ => rfl
  | c :: r, a, h => by
    have hc := h.head
    rw [List.foldl_cons, List.foldl_cons, ← fold_digits r _ h.tail]
    have e : (a : Int) * 10 + ((c : Int) - 48) = ((a * 10 + (c - 48) : Nat) : Int) := by omega
    rw [e]
theorem fold_num (n : Nat) : (numL n).foldl (fun (t : Int) (c : Nat) => t * 10 + ((c : Int) - 48)) 0 = (n : Int) := by
  have e := fold_digits (numL n) 0 (numL_digits n)
  have v := numL_val n
  unfold NumText.digitsVal at v
  rw [v] at e
  exact e

/-! ### words: x.split() -/
def wstep (st : List (List Nat) × List Nat) (c : Nat) : List (List Nat) × List Nat :=
  if Unicode.isSpace c = true then (if st.2 = [] then st else (st.1 ++ [st.2], [])) else (st.1, st.2 ++ [c])
def wfin (st : List (List Nat) × List Nat) : List (List Nat) := if st.2 = [] then st.1 else st.1 ++ [st.2]
theorem len0_tl (x : Str) : x.length = 0 ↔ tl x = [] := by
  rw [len_tl]
  exact List.length_eq_zero_iff
theorem step_tl (ws : List Str) (u : Str) (c : Nat) : ((KWd.step (ws, u) c).1.map tl, tl (KWd.step (ws, u) c).2) = wstep (ws.map tl, tl u) c := by
  by_cases hc : Unicode.isSpace c = true
  · by_cases hu : u.length = 0
    · have a : KWd.step (ws, u) c = (ws, u) := (if_pos hc).trans (if_pos hu)
      have b : wstep (ws.map tl, tl u) c = (ws.map tl, tl u) := (if_pos hc).trans (if_pos ((len0_tl u).mp hu))
      rw [a, b] <;> rfl
    · have a : KWd.step (ws, u) c = (ws ++ [u], Str.empty) := (if_pos hc).trans (if_neg hu)
      have b : wstep (ws.map tl, tl u) c = (ws.map tl ++ [tl u], []) := (if_pos hc).trans (if_neg fun z => hu ((len0_tl u).mpr z))
      rw [a, b]
      show ((ws ++ [u]).map tl, ([] : List Nat)) = _
      rw [List.map_append] <;> rfl
  · have a : KWd.step (ws, u) c = (ws, u ++ ⟨#[c]⟩) := if_neg hc
    have b : wstep (ws.map tl, tl u) c = (ws.map tl, tl u ++ [c]) := if_neg hc
    rw [a, b]
    show (ws.map tl, tl (u ++ ⟨#[c]⟩)) = _
    rw [tl_append] <;> rfl
theorem scan_tl : ∀ (l : List Nat) (st : KWd.St), ((l.foldl KWd.step st).1.map tl, tl (l.foldl KWd.step st).2) = l.foldl wstep (st.1.map tl, tl st.2)
  | [], _ => rfl
  | c :: r, (ws, u) => by
    show ((r.foldl KWd.step (KWd.step (ws, u) c)).1.map tl, tl (r.foldl KWd.step (KWd.step (ws, u) c)).2) = r.foldl wstep (wstep (ws.map tl, tl u) c)
    exact (scan_tl r (KWd.step (ws, u) c)).trans (congrArg (fun z => r.foldl wstep z) (step_tl ws u c))
theorem fin_tl : ∀ q : KWd.St, (KWd.fin q).map tl = wfin (q.1.map tl, tl q.2)
  | (ws, u) => by
    show (if u.length = 0 then ws else ws ++ [u]).map tl = (if tl u = [] then ws.map tl else ws.map tl ++ [tl u])
    by_cases hu : u.length = 0
    · rw [if_pos hu, if_pos ((len0_tl u).mp hu)]
    · rw [if_neg hu, if_neg (fun z => hu ((len0_tl u).mpr z)), List.map_append] <;> rfl
theorem words_tl (x : Str) : (Txt.words x).map tl = wfin ((tl x).foldl wstep ([], [])) := by
  rw [KWd.words_scan]
  exact (fin_tl (KWd.scan x)).trans (congrArg wfin (scan_tl (tl x) ([], Str.empty)))
/-- a run of signs that are no blanks -/
theorem wfold_word : ∀ (p : List Nat) (ws : List (List Nat)) (u : List Nat), (∀ c ∈ p, Unicode.isSpace c = false) → p.foldl wstep (ws, u) = (ws, u ++ p)
  | [], ws, u, _ => by rw [List.append_nil] <;> rfl
  | c :: r, ws, u, h => by
    have hc := h c (List.mem_cons_self ..)
    rw [List.foldl_cons]
    have e : wstep (ws, u) c = (ws, u ++ [c]) := if_neg (by rw [hc]; exact Bool.false_ne_true)
    rw [e, wfold_word r ws (u ++ [c]) fun d hd => h d (List.mem_cons_of_mem _ hd), List.append_assoc] <;> rfl
theorem isSpace_plain {c : Nat} (h1 : 33 ≤ c) (h2 : c ≤ 126) : Unicode.isSpace c = false := PySem.W.KWk.nosp h1 h2
/-- words joined by one blank -/
theorem wfold_join : ∀ (ps : List (List Nat)) (ws : List (List Nat)), ps ≠ [] → (∀ p ∈ ps, p ≠ [] ∧ ∀ c ∈ p, Unicode.isSpace c = false) → wfin ((joinL [32] ps).foldl wstep (ws, [])) = ws ++ ps
  | [], _, h, _ => absurd rfl h
  | [p], ws, _, h => by
    obtain ⟨h1, h2⟩ := h p (List.mem_singleton.mpr rfl)
    show wfin (p.foldl wstep (ws, [])) = _
    rw [wfold_word p ws [] h2, List.nil_append]
    exact if_neg h1
  | p :: q :: r, ws, _, h => by
    obtain ⟨h1, h2⟩ := h p (List.mem_cons_self ..)
    show wfin ((p ++ ([32] ++ joinL [32] (q :: r))).foldl wstep (ws, [])) = _
    rw [List.foldl_append, wfold_word p ws [] h2, List.nil_append, List.foldl_append]
    have e : [32].foldl wstep (ws, p) = (ws ++ [p], []) := by
      have hs : Unicode.isSpace 32 = true := by decide +kernel
      have a : wstep (ws, p) 32 = (if p = [] then (ws, p) else (ws ++ [p], [])) := if_pos hs
      exact a.trans (if_neg h1)
    rw [e, wfold_join (q :: r) (ws ++ [p]) (by simp) fun z hz => h z (List.mem_cons_of_mem _ hz), List.append_assoc] <;> rfl
end TL
end 

namespace L2
open PySem PySem.Spec PyProof.Rows

theorem notLong {n : Nat} (h : n ≤ 16777216) : Builtin.Str.tooLong n = false := by
  have e : (2 : Nat) ^ 24 = 16777216 := by decide
  unfold Builtin.Str.tooLong sizeLine
  exact decide_eq_false (by omega)

/-- a list of texts, of numbered texts -/
theorem vals_strs : ∀ l : List (Str × Tok), Vals ((l.map (·.1)).map V.str) (strValues l)
  | [] => .nil
  | p :: r => .cons ⟨p.2, rfl⟩ (vals_strs r)
theorem strs_of_vals : ∀ {ys : List Str} {us : List Value}, Vals (ys.map V.str) us → StrsAre us ys
  | [], _, .nil => .nil
  | y :: ys, _, .cons r t => by
    obtain ⟨k, rfl⟩ := r
    exact .cons y k (strs_of_vals t)

/-- a new list of texts, tracked -/
def rNewStrs (ys : List Str) : Hp → VK → Prop := fun H Q => ∀ p, H p = none → Q (.ref p) (upd H p (.lst (ys.map V.str)))

section
variable {X : Cx} {pins : List (Addr × Obj)} {σ : St} {H : Hp} {s : Shared} {Q : VK}
theorem laid_strs {l : List (Str × Tok)} {ys : List Str} {k : Nat} (I : Inv X pins σ H s) (e : l.map (·.1) = ys) (hz : ys.length ≤ sizeLine) (h : rNewStrs ys H Q) :
    EP X pins σ Q (.ref s.heap.objs.size) { s with toks := k, heap := s.heap.push { cls := .type "list", data := .seq (strValues l).toArray } } := by
  have hp := I.hok.fresh (Nat.le_refl _)
  refine ⟨.ref s.heap.objs.size, upd H s.heap.objs.size (.lst (ys.map V.str)), I.laid (fun b u q => Heap.get?_push_of_some _ q) (Nat.le_refl _) ⟨by rw [List.length_map]; exact hz, strValues l, _, ?_, Heap.get?_push_size _ rfl⟩, rfl, h _ hp⟩
  rw [← e]
  exact vals_strs l
theorem laid_parts {x y z : Str} {t u v : Tok} {k : Nat} (I : Inv X pins σ H s) (h : ∀ p, H p = none → Q (.ref p) (upd H p (.tup [.str x, .str y, .str z]))) :
    EP X pins σ Q (.ref s.heap.objs.size) { s with toks := k, heap := s.heap.push { cls := .type "tuple", data := .seq [Value.str x t, .str y u, .str z v].toArray } } := by
  have hp := I.hok.fresh (Nat.le_refl _)
  exact ⟨.ref s.heap.objs.size, upd H s.heap.objs.size (.tup [.str x, .str y, .str z]), I.laid (fun b u q => Heap.get?_push_of_some _ q) (Nat.le_refl _)
    ⟨by show 3 ≤ sizeLine; decide, [Value.str x t, .str y u, .str z v], .cons ⟨t, rfl⟩ (.cons ⟨u, rfl⟩ (.cons ⟨v, rfl⟩ .nil)), _, Heap.get?_push_size _ rfl, rfl, _, rfl⟩, rfl, h _ hp⟩
end

section
variable {X : Cx}

/-- x.split(sep) -/
theorem mt_split : MtR X "str.split" (fun x xs H Q => ∃ a b, x = .str a ∧ xs = [.str b] ∧ (b.length == 0) = false ∧ a.length + 2 ≤ sizeLine ∧ rNewStrs (Txt.split a b) H Q) := by
  intro pins s σ H x xs v us Q I rx rs h
  obtain ⟨a, b, rfl, rfl, hb, hz, h⟩ := h
  obtain ⟨t, rfl⟩ := rx
  cases rs with
  | cons r1 rs =>
    cases rs
    obtain ⟨u, rfl⟩ := r1
    have hl : (Txt.split a b).length ≤ sizeLine := Nat.le_trans (PyProof.Rows.split_le a b) hz
    have hn : (Builtin.Str.partsBetween a (Builtin.Str.occurrences a b 0 a.length (a.length + 1)) b.length).length ≤ sizeLine := by
      have e1 := StrLaws.occ_length_le a b 0 a.length (a.length + 1)
      rw [length_partsBetween]; omega
    cases h1 : (decide (a.length < b.length) || decide (Builtin.Str.strKind a < Builtin.Str.strKind b))
    · cases hf : (Builtin.Str.occurrences a b 0 a.length (a.length + 1)).isEmpty
      · refine call_meets F.slot_str_split (typeIs_str _ _ _) F.entry_str_split (F.args_str_split_2 _ _) (meets_str_split_sep a b t u h1 hb hf (by omega) hn) ?_
        show EP X pins σ Q (.ref s.heap.objs.size) { s with toks := _, heap := s.heap.push { cls := .type "list", data := .seq (strsFrom s.toks (Builtin.Str.partsBetween a (Builtin.Str.occurrences a b 0 a.length (a.length + 1)) b.length)).toArray } }
        rw [strsFrom_eq]
        exact laid_strs (ys := Txt.split a b) I ((numbered_texts _ _).trans ((if_neg (ne_true_of_eq_false h1)).trans (if_neg (ne_true_of_eq_false hf))).symm) hl h
      · refine call_meets F.slot_str_split (typeIs_str _ _ _) F.entry_str_split (F.args_str_split_2 _ _) (meets_str_split_not_found a b t u h1 hb hf) ?_
        exact laid_strs (l := [(a, t)]) (ys := Txt.split a b) (k := s.toks) I ((if_neg (ne_true_of_eq_false h1)).trans (if_pos hf)).symm hl h
    · refine call_meets F.slot_str_split (typeIs_str _ _ _) F.entry_str_split (F.args_str_split_2 _ _) (meets_str_split_cannot_occur a b t u h1) ?_
      exact laid_strs (l := [(a, t)]) (ys := Txt.split a b) (k := s.toks) I (if_pos h1).symm hl h

theorem words_le (x : Str) : (Txt.words x).length ≤ x.length + 1 := by
  have e1 := StrLaws.words_weight x
  omega
/-- x.split() -/
theorem mt_words : MtR X "str.split" (fun x xs H Q => ∃ a, x = .str a ∧ xs = [] ∧ a.length + 2 ≤ sizeLine ∧ rNewStrs (Txt.words a) H Q) := by
  intro pins s σ H x xs v us Q I rx rs h
  obtain ⟨a, rfl, rfl, hz, h⟩ := h
  obtain ⟨t, rfl⟩ := rx
  cases rs
  have hl : (Txt.words a).length ≤ sizeLine := Nat.le_trans (words_le a) (by omega)
  have hn : (Builtin.Str.spaceWords a (a.length + 1)).length ≤ sizeLine := by
    have e1 := (StrLaws.sw_weight a).1
    have e2 := StrLaws.len_le_wsum (Builtin.Str.spaceWords a (a.length + 1))
    omega
  refine call_meets F.slot_str_split (typeIs_str _ _ _) F.entry_str_split (F.args_str_split_1 _) (meets_str_split_space a t (by omega) hn) ?_
  cases hw : Builtin.Str.spaceWords a (a.length + 1) == [(0, a.length)]
  · simp only [Bool.false_eq_true, if_false]
    rw [strsFrom_eq]
    exact laid_strs (ys := Txt.words a) I ((numbered_texts _ _).trans (if_neg (ne_true_of_eq_false hw)).symm) hl h
  · simp only [if_true]
    exact laid_strs (l := [(a, t)]) (ys := Txt.words a) (k := s.toks) I (if_pos hw).symm hl h

/-- x.partition(sep) -/
theorem mt_partition : MtR X "str.partition" (fun x xs H Q => ∃ a b, x = .str a ∧ xs = [.str b] ∧ (b.length == 0) = false ∧ a.length ≤ sizeLine ∧
    ∀ p, H p = none → Q (.ref p) (upd H p (.tup [.str (Txt.partition a b).1, .str (Txt.partition a b).2.1, .str (Txt.partition a b).2.2]))) := by
  intro pins s σ H x xs v us Q I rx rs h
  obtain ⟨a, b, rfl, rfl, hb, hz, h⟩ := h
  obtain ⟨t, rfl⟩ := rx
  cases rs with
  | cons r1 rs =>
    cases rs
    obtain ⟨u, rfl⟩ := r1
    refine call_meets F.slot_str_partition (typeIs_str _ _ _) F.entry_str_partition (F.args_str_partition_2 _ _) (meets_str_partition a b t u hb hz) ?_
    unfold Txt.partition at h
    revert h
    cases Builtin.Str.occurrences a b 0 a.length 1 with
    | nil => intro h; exact laid_parts I h
    | cons i r => intro h; exact laid_parts I h

/-- sep.join(a list | a tuple of texts) -/
theorem mt_join : MtR X "str.join" (fun x xs H Q => ∃ a p, ∃ ys : List Str, x = .str a ∧ xs = [.ref p] ∧ (SqL X.K H p (ys.map V.str) ∨ SqT X.K H p (ys.map V.str)) ∧
    (ys.map (·.length)).sum + ys.length * a.length ≤ 16777216 ∧ Q (.str (Txt.join a ys)) H) := by
  intro pins s σ H x xs v us Q I rx rs h
  obtain ⟨a, p, ys, rfl, rfl, hp, hz, h⟩ := h
  obtain ⟨t, rfl⟩ := rx
  cases rs with
  | cons r1 rs =>
    cases rs
    cases r1
    rcases hp with hp | hp
    · obtain ⟨its, r, ⟨o, n, ho, hc, _, hd⟩, _⟩ := I.list hp
      exact PyProof.Rows.join_list (items := its.toArray) ⟨o, ho, hc, n, hd⟩ (by rw [List.toList_toArray]; exact strs_of_vals r) hz fun t' k => ⟨.str _, H, I.tok k, ⟨t', rfl⟩, h⟩
    · obtain ⟨its, r, ht, _⟩ := I.tuple hp
      exact PyProof.Rows.join_tuple (items := its.toArray) ht (by rw [List.toList_toArray]; exact strs_of_vals r) hz fun t' k => ⟨.str _, H, I.tok k, ⟨t', rfl⟩, h⟩

/-! ### of a text alone -/
theorem mt0 {id : String} {C : Str → Prop} {g : Str → V} (rule : ∀ (a : Str) (t : Tok) (s : Shared) (Q : Value → Shared → Prop), C a → (∀ (u : Value) (k : Nat), RelV (g a) u → Q u { s with toks := k }) →
    wpAny (model X.prog X.w) X.A (call (.builtin id) [.str a t]) Q X.xe s) : MtR X id (fun x xs H Q => ∃ a, x = .str a ∧ xs = [] ∧ C a ∧ Q (g a) H) := by
  intro pins s σ H x xs v us Q I rx rs h
  obtain ⟨a, rfl, rfl, hc, h⟩ := h
  obtain ⟨t, rfl⟩ := rx
  cases rs
  exact rule a t s _ hc fun u k r => ⟨g a, H, I.tok k, r, h⟩
theorem mt_strip : MtR X "str.strip" (fun x xs H Q => ∃ a, x = .str a ∧ xs = [] ∧ a.length ≤ sizeLine ∧ Q (.str (Txt.strip a)) H) :=
  mt0 (C := fun a => a.length ≤ sizeLine) (g := fun a => .str (Txt.strip a)) fun _ _ _ _ hc h => PySem.SC.strip (fun t' k => h _ k ⟨t', rfl⟩) hc
theorem mt_lstrip : MtR X "str.lstrip" (fun x xs H Q => ∃ a, x = .str a ∧ xs = [] ∧ a.length ≤ sizeLine ∧ Q (.str (Txt.lstrip a)) H) :=
  mt0 (C := fun a => a.length ≤ sizeLine) (g := fun a => .str (Txt.lstrip a)) fun _ _ _ _ hc h => PySem.SC.lstrip (fun t' k => h _ k ⟨t', rfl⟩) hc
theorem mt_rstrip : MtR X "str.rstrip" (fun x xs H Q => ∃ a, x = .str a ∧ xs = [] ∧ a.length ≤ sizeLine ∧ Q (.str (Txt.rstrip a)) H) :=
  mt0 (C := fun a => a.length ≤ sizeLine) (g := fun a => .str (Txt.rstrip a)) fun _ _ _ _ hc h => PySem.SC.rstrip (fun t' k => h _ k ⟨t', rfl⟩) hc
theorem mt_lower : MtR X "str.lower" (fun x xs H Q => ∃ a, x = .str a ∧ xs = [] ∧ a.length ≤ 5592405 ∧ Q (.str (Txt.lower a)) H) :=
  mt0 (C := fun a => a.length ≤ 5592405) (g := fun a => .str (Txt.lower a)) fun a _ s _ hc h =>
    PySem.SC.lower (notLong (by have h1 : a.length ≤ 5592405 := hc; have := PyProof.Rows.len_lower a; omega)) (h _ (s.toks + 1) ⟨_, rfl⟩)
theorem mt_upper : MtR X "str.upper" (fun x xs H Q => ∃ a, x = .str a ∧ xs = [] ∧ a.length ≤ 5592405 ∧ Q (.str (Txt.upper a)) H) :=
  mt0 (C := fun a => a.length ≤ 5592405) (g := fun a => .str (Txt.upper a)) fun a _ s _ hc h =>
    PySem.SC.upper (notLong (by have h1 : a.length ≤ 5592405 := hc; have := PyProof.Rows.len_upper a; omega)) (h _ (s.toks + 1) ⟨_, rfl⟩)
theorem mt_isdigit : MtR X "str.isdigit" (fun x xs H Q => ∃ a, x = .str a ∧ xs = [] ∧ True ∧ Q (.bl (Txt.isdigit a)) H) :=
  mt0 (C := fun _ => True) (g := fun a => .bl (Txt.isdigit a)) fun _ _ s _ _ h => PySem.SC.isdigit (h _ s.toks rfl)
theorem mt_isalpha : MtR X "str.isalpha" (fun x xs H Q => ∃ a, x = .str a ∧ xs = [] ∧ True ∧ Q (.bl (Txt.isalpha a)) H) :=
  mt0 (C := fun _ => True) (g := fun a => .bl (Txt.isalpha a)) fun _ _ s _ _ h => PySem.SC.isalpha (h _ s.toks rfl)
theorem mt_isalnum : MtR X "str.isalnum" (fun x xs H Q => ∃ a, x = .str a ∧ xs = [] ∧ True ∧ Q (.bl (Txt.isalnum a)) H) :=
  mt0 (C := fun _ => True) (g := fun a => .bl (Txt.isalnum a)) fun _ _ s _ _ h => PySem.SC.isalnum (h _ s.toks rfl)
theorem mt_isspace : MtR X "str.isspace" (fun x xs H Q => ∃ a, x = .str a ∧ xs = [] ∧ True ∧ Q (.bl (Txt.isspace a)) H) :=
  mt0 (C := fun _ => True) (g := fun a => .bl (Txt.isspace a)) fun _ _ s _ _ h => PySem.SC.isspace (h _ s.toks rfl)

/-! ### of a text and a text -/
theorem mt1 {id : String} {g : Str → Str → V} (rule : ∀ (a b : Str) (t u : Tok) (s : Shared) (Q : Value → Shared → Prop), (∀ (v : Value) (k : Nat), RelV (g a b) v → Q v { s with toks := k }) →
    wpAny (model X.prog X.w) X.A (call (.builtin id) [.str a t, .str b u]) Q X.xe s) : MtR X id (fun x xs H Q => ∃ a b, x = .str a ∧ xs = [.str b] ∧ Q (g a b) H) := by
  intro pins s σ H x xs v us Q I rx rs h
  obtain ⟨a, b, rfl, rfl, h⟩ := h
  obtain ⟨t, rfl⟩ := rx
  cases rs with
  | cons r1 rs =>
    cases rs
    obtain ⟨u, rfl⟩ := r1
    exact rule a b t u s _ fun v k r => ⟨g a b, H, I.tok k, r, h⟩
theorem mt_startswith : MtR X "str.startswith" (fun x xs H Q => ∃ a b, x = .str a ∧ xs = [.str b] ∧ Q (.bl (Txt.startswith a b)) H) :=
  mt1 (g := fun a b => .bl (Txt.startswith a b)) fun _ _ _ _ s _ h => PySem.SC.startswith (h _ s.toks rfl)
theorem mt_endswith : MtR X "str.endswith" (fun x xs H Q => ∃ a b, x = .str a ∧ xs = [.str b] ∧ Q (.bl (Txt.endswith a b)) H) :=
  mt1 (g := fun a b => .bl (Txt.endswith a b)) fun _ _ _ _ s _ h => PySem.SC.endswith (h _ s.toks rfl)
theorem mt_find : MtR X "str.find" (fun x xs H Q => ∃ a b, x = .str a ∧ xs = [.str b] ∧ Q (.int (Txt.find a b)) H) :=
  mt1 (g := fun a b => .int (Txt.find a b)) fun _ _ _ _ s _ h => PySem.SC.find (h _ (s.toks + 1) ⟨_, rfl⟩)
theorem mt_count : MtR X "str.count" (fun x xs H Q => ∃ a b, x = .str a ∧ xs = [.str b] ∧ Q (.int (Txt.count a b)) H) :=
  mt1 (g := fun a b => .int (Txt.count a b)) fun _ _ _ _ s _ h => PySem.SC.count (h _ (s.toks + 1) ⟨_, rfl⟩)

/-- int(text) -/
theorem call_int_str : CallR X (.type "int") (fun xs H Q => ∃ a n, xs = [.str a] ∧ PySem.intText? a = some n ∧ a.length ≤ 640 ∧ Q (.int n) H) := by
  intro pins s σ H xs us Q I rs h
  obtain ⟨a, n, rfl, hn, hl, h⟩ := h
  cases rs with
  | cons r1 rs =>
    cases rs
    obtain ⟨t, rfl⟩ := r1
    exact PySem.W.KIN.call_text hn hl ⟨.int n, H, I.tok _, ⟨_, rfl⟩, h⟩
end

section
variable {X : Cx} {o e : Expr} {to te : TE}
def tM0 (r : V → List V → Hp → VK → Prop) (to : TE) : TE := fun σ H Q => to σ H fun x H1 => (∃ a, x = .str a) ∧ r x [] H1 Q
def tM1 (r : V → List V → Hp → VK → Prop) (to te : TE) : TE := fun σ H Q => to σ H fun x H1 => (∃ a, x = .str a) ∧ te σ H1 fun y H2 => r x [y] H2 Q
theorem pe_m0 {id : String} {name : Str} {apos pos : Pos} {r : V → List V → Hp → VK → Prop} (slot : Slot "str" name id) (ty : typeOf (.builtin id) = pure (.type "method_descriptor")) (rule : MtR X id r) (ho : PE X o to)
    (hbase : attributeBase o name X.env (eval o X.env) = eval o X.env := by rfl) (hline : (apos.endLine == pos.line) = true := by rfl) : PE X (.Call (.Attribute o name apos) [] [] pos) (tM0 r to) := by
  intro pins s σ H Q I h
  refine PySem.Call_method0 hbase hline (thn (ho pins s σ H _ I h) fun v s1 ⟨x, H1, I1, r1, q1⟩ => ?_)
  obtain ⟨⟨a, rfl⟩, q1⟩ := q1
  obtain ⟨t, rfl⟩ := _root_.id r1
  exact ⟨"str", _, F.plainAttrs_str, slot, ty, typeIs_str _ _ _, (fun _ e => nomatch e), Calls.callWith_builtin rfl (PySem.evalArgs_none (rule pins s1 σ H1 _ [] _ [] Q I1 r1 .nil q1))⟩
theorem pe_m1 {id : String} {name : Str} {apos pos : Pos} {r : V → List V → Hp → VK → Prop} (slot : Slot "str" name id) (ty : typeOf (.builtin id) = pure (.type "method_descriptor")) (rule : MtR X id r) (ho : PE X o to) (he : PE X e te)
    (hs : starEach [e] X.env = [(false, eval e X.env)] := by rfl) (hbase : attributeBase o name X.env (eval o X.env) = eval o X.env := by rfl) (hline : (apos.endLine == pos.line) = true := by rfl) :
    PE X (.Call (.Attribute o name apos) [e] [] pos) (tM1 r to te) := by
  intro pins s σ H Q I h
  refine PySem.Call_method1 hbase hs hline (thn (ho pins s σ H _ I h) fun v s1 ⟨x, H1, I1, r1, q1⟩ => ?_)
  obtain ⟨⟨a, rfl⟩, q1⟩ := q1
  obtain ⟨t, rfl⟩ := _root_.id r1
  refine ⟨"str", _, F.plainAttrs_str, slot, ty, typeIs_str _ _ _, (fun _ e => nomatch e), Calls.callWith_builtin rfl (Calls.evalArgs_plain (Calls.spliced_cons ?_))⟩
  exact thn (he pins s1 σ H1 _ I1 q1) fun u s2 ⟨y, H2, I2, r2, q2⟩ => Calls.spliced_nil (rule pins s2 σ H2 _ [y] _ [u] Q I2 r1 (.cons r2 .nil) q2)

theorem pe_split {apos pos : Pos} (ho : PE X o to) (he : PE X e te) (hs : starEach [e] X.env = [(false, eval e X.env)] := by rfl) (hbase : attributeBase o "split" X.env (eval o X.env) = eval o X.env := by rfl) (hline : (apos.endLine == pos.line) = true := by rfl) :
    PE X (.Call (.Attribute o "split" apos) [e] [] pos) (tM1 (fun x xs H Q => ∃ a b, x = .str a ∧ xs = [.str b] ∧ (b.length == 0) = false ∧ a.length + 2 ≤ sizeLine ∧ rNewStrs (Txt.split a b) H Q) to te) :=
  pe_m1 F.slot_str_split F.type_str_split mt_split ho he hs hbase hline
theorem pe_words {apos pos : Pos} (ho : PE X o to) (hbase : attributeBase o "split" X.env (eval o X.env) = eval o X.env := by rfl) (hline : (apos.endLine == pos.line) = true := by rfl) :
    PE X (.Call (.Attribute o "split" apos) [] [] pos) (tM0 (fun x xs H Q => ∃ a, x = .str a ∧ xs = [] ∧ a.length + 2 ≤ sizeLine ∧ rNewStrs (Txt.words a) H Q) to) :=
  pe_m0 F.slot_str_split F.type_str_split mt_words ho hbase hline
theorem pe_partition {apos pos : Pos} (ho : PE X o to) (he : PE X e te) (hs : starEach [e] X.env = [(false, eval e X.env)] := by rfl) (hbase : attributeBase o "partition" X.env (eval o X.env) = eval o X.env := by rfl) (hline : (apos.endLine == pos.line) = true := by rfl) :
    PE X (.Call (.Attribute o "partition" apos) [e] [] pos) (tM1 (fun x xs H Q => ∃ a b, x = .str a ∧ xs = [.str b] ∧ (b.length == 0) = false ∧ a.length ≤ sizeLine ∧
      ∀ p, H p = none → Q (.ref p) (upd H p (.tup [.str (Txt.partition a b).1, .str (Txt.partition a b).2.1, .str (Txt.partition a b).2.2]))) to te) :=
  pe_m1 F.slot_str_partition F.type_str_partition mt_partition ho he hs hbase hline
theorem pe_join {apos pos : Pos} (ho : PE X o to) (he : PE X e te) (hs : starEach [e] X.env = [(false, eval e X.env)] := by rfl) (hbase : attributeBase o "join" X.env (eval o X.env) = eval o X.env := by rfl) (hline : (apos.endLine == pos.line) = true := by rfl) :
    PE X (.Call (.Attribute o "join" apos) [e] [] pos) (tM1 (fun x xs H Q => ∃ a p, ∃ ys : List Str, x = .str a ∧ xs = [.ref p] ∧ (SqL X.K H p (ys.map V.str) ∨ SqT X.K H p (ys.map V.str)) ∧
      (ys.map (·.length)).sum + ys.length * a.length ≤ 16777216 ∧ Q (.str (Txt.join a ys)) H) to te) :=
  pe_m1 F.slot_str_join F.type_str_join mt_join ho he hs hbase hline
theorem pe_strip {apos pos : Pos} (ho : PE X o to) (hbase : attributeBase o "strip" X.env (eval o X.env) = eval o X.env := by rfl) (hline : (apos.endLine == pos.line) = true := by rfl) :
    PE X (.Call (.Attribute o "strip" apos) [] [] pos) (tM0 (fun x xs H Q => ∃ a, x = .str a ∧ xs = [] ∧ a.length ≤ sizeLine ∧ Q (.str (Txt.strip a)) H) to) :=
  pe_m0 F.slot_str_strip F.type_str_strip mt_strip ho hbase hline
theorem pe_lower {apos pos : Pos} (ho : PE X o to) (hbase : attributeBase o "lower" X.env (eval o X.env) = eval o X.env := by rfl) (hline : (apos.endLine == pos.line) = true := by rfl) :
    PE X (.Call (.Attribute o "lower" apos) [] [] pos) (tM0 (fun x xs H Q => ∃ a, x = .str a ∧ xs = [] ∧ a.length ≤ 5592405 ∧ Q (.str (Txt.lower a)) H) to) :=
  pe_m0 F.slot_str_lower F.type_str_lower mt_lower ho hbase hline
theorem pe_upper {apos pos : Pos} (ho : PE X o to) (hbase : attributeBase o "upper" X.env (eval o X.env) = eval o X.env := by rfl) (hline : (apos.endLine == pos.line) = true := by rfl) :
    PE X (.Call (.Attribute o "upper" apos) [] [] pos) (tM0 (fun x xs H Q => ∃ a, x = .str a ∧ xs = [] ∧ a.length ≤ 5592405 ∧ Q (.str (Txt.upper a)) H) to) :=
  pe_m0 F.slot_str_upper F.type_str_upper mt_upper ho hbase hline
end
end L2

namespace L2
open PySem PySem.Spec PyProof.Rows

section
variable {X : Cx}
theorem op_le_str : OpR X (compareOp .LtE) (fun x y H Q => ∃ i j, x = .str i ∧ y = .str j ∧ Q (.bl (!decide (j.cps.toList < i.cps.toList))) H) := by
  intro pins s σ H x y v u Q I rx ry h
  obtain ⟨i, j, rfl, rfl, q⟩ := h
  obtain ⟨t, rfl⟩ := rx
  obtain ⟨t', rfl⟩ := ry
  exact PySem.P.le_str (fin_bl I q rfl)
theorem op_gt_str : OpR X (compareOp .Gt) (fun x y H Q => ∃ i j, x = .str i ∧ y = .str j ∧ Q (.bl (decide (j.cps.toList < i.cps.toList))) H) := by
  intro pins s σ H x y v u Q I rx ry h
  obtain ⟨i, j, rfl, rfl, q⟩ := h
  obtain ⟨t, rfl⟩ := rx
  obtain ⟨t', rfl⟩ := ry
  exact PySem.P.gt_str (fin_bl I q rfl)
theorem op_ge_str : OpR X (compareOp .GtE) (fun x y H Q => ∃ i j, x = .str i ∧ y = .str j ∧ Q (.bl (!decide (i.cps.toList < j.cps.toList))) H) := by
  intro pins s σ H x y v u Q I rx ry h
  obtain ⟨i, j, rfl, rfl, q⟩ := h
  obtain ⟨t, rfl⟩ := rx
  obtain ⟨t', rfl⟩ := ry
  exact PySem.P.ge_str (fin_bl I q rfl)
/-- one sign in a text -/
theorem op_in_sign : OpR X (compareOp .In) (fun x y H Q => ∃ (c : Nat) (z : Str), x = .str ⟨#[c]⟩ ∧ y = .str z ∧ Q (.bl (decide (c ∈ z.cps.toList))) H) := by
  intro pins s σ H x y v u Q I rx ry h
  obtain ⟨c, z, rfl, rfl, q⟩ := h
  obtain ⟨t, rfl⟩ := rx
  obtain ⟨t', rfl⟩ := ry
  exact PyProof.Rows.in_str (fin_bl I q (PySem.StrLaws.found_one z c).symm)
theorem op_notIn_sign : OpR X (compareOp .NotIn) (fun x y H Q => ∃ (c : Nat) (z : Str), x = .str ⟨#[c]⟩ ∧ y = .str z ∧ Q (.bl (!decide (c ∈ z.cps.toList))) H) := by
  intro pins s σ H x y v u Q I rx ry h
  obtain ⟨c, z, rfl, rfl, q⟩ := h
  obtain ⟨t, rfl⟩ := rx
  obtain ⟨t', rfl⟩ := ry
  exact PyProof.Rows.notIn_str (fin_bl I q (congrArg Bool.not (PySem.StrLaws.found_one z c).symm))
end

/-! ### slices of a text -/
theorem IsPart.raw {v : Value} {o : Option Int} (p : IsPart v o) : ∃ l : Option (Int × Tok), v = partValue l ∧ l.map (·.1) = o := by
  cases p with
  | none => exact ⟨none, rfl, rfl⟩
  | int i t => exact ⟨some (i, t), rfl, rfl⟩

/-- a part, clipped, as the text's slice reckons it -/
def clipS (n d : Nat) : Option Int → Int
  | none => (d : Int)
  | some i => max 0 (min (if i < 0 then i + (n : Int) else i) (n : Int))
theorem clipS_eq (n d : Nat) (o : Option Int) : clipS n d o = ((HT.sIx n d o : Nat) : Int) := by
  cases o with
  | none => rfl
  | some v =>
    show max (0 : Int) (min (if v < 0 then v + (n : Int) else v) (n : Int)) = (((if v < 0 then (v + (n : Int)).toNat else min v.toNat n) : Nat) : Int)
    by_cases hv : v < 0
    · simp only [if_pos hv]
      omega
    · simp only [if_neg hv]
      omega
theorem sidx_clip (a b : Option Int) (n : Nat) : Builtin.Str.strSliceIndices a b 1 n = sliceRange (clipS n 0 a) (clipS n n b) 1 := by
  have h1 : ((1 : Int) > 0) = True := by simp
  cases a <;> cases b <;> first
    | rfl
    | (simp only [Builtin.Str.strSliceIndices, clipS, h1, if_true]; rfl)
    | simp [Builtin.Str.strSliceIndices, clipS]
theorem sidx (a b : Option Int) (n : Nat) : Builtin.Str.strSliceIndices a b 1 n = (List.range (HT.sIx n n b - HT.sIx n 0 a)).map (fun k => HT.sIx n 0 a + k) := by
  rw [sidx_clip, clipS_eq, clipS_eq]
  generalize HT.sIx n 0 a = p
  generalize HT.sIx n n b = q
  simp only [sliceRange, show ((1 : Int) > 0) = True from by simp, if_true]
  by_cases hlt : (p : Int) < q
  · have e3 : (((q : Int) - p + 1 - 1) / 1).toNat = q - p := by first | omega | (simp; done) | (simp; omega)
    simp only [hlt, if_true, e3]
    refine List.map_congr_left fun k _ => ?_
    omega
  · have : q - p = 0 := by omega
    simp [hlt, this]

/-- z[lo:hi] -/
def cutS (z : Str) (lo hi : Option Int) : Str :=
  ⟨((z.cps.toList.drop (HT.sIx z.length 0 lo)).take (HT.sIx z.length z.length hi - HT.sIx z.length 0 lo)).toArray⟩
theorem sliceText_cut (z : Str) (lo hi : Option Int) : PySem.StrLaws.sliceText z lo hi = cutS z lo hi := by
  have h1 : HT.sIx z.length 0 lo ≤ z.length := HT.sIx_le _ _ (Nat.zero_le _) _
  have h2 : HT.sIx z.length z.length hi ≤ z.length := HT.sIx_le _ _ (Nat.le_refl _) _
  have hp : HT.sIx z.length 0 lo ≤ max (HT.sIx z.length 0 lo) (HT.sIx z.length z.length hi) := Nat.le_max_left _ _
  have hq : max (HT.sIx z.length 0 lo) (HT.sIx z.length z.length hi) ≤ z.length := Nat.max_le.mpr ⟨h1, h2⟩
  have hd : max (HT.sIx z.length 0 lo) (HT.sIx z.length z.length hi) - HT.sIx z.length 0 lo = HT.sIx z.length z.length hi - HT.sIx z.length 0 lo := by omega
  have e : Builtin.Str.strSliceIndices lo hi 1 z.length =
      Builtin.Str.strSliceIndices (some ((HT.sIx z.length 0 lo : Nat) : Int)) (some ((max (HT.sIx z.length 0 lo) (HT.sIx z.length z.length hi) : Nat) : Int)) 1 z.length := by
    rw [PySem.StrLaws.strSliceIndices_plain hp hq, hd, sidx]
  have e2 : PySem.StrLaws.sliceText z lo hi =
      PySem.StrLaws.sliceText z (some ((HT.sIx z.length 0 lo : Nat) : Int)) (some ((max (HT.sIx z.length 0 lo) (HT.sIx z.length z.length hi) : Nat) : Int)) := by
    unfold PySem.StrLaws.sliceText
    rw [e]
  rw [e2, PySem.StrLaws.sliceText_nat z hp hq, hd]
  rfl
theorem cutS_length (z : Str) (lo hi : Option Int) : (cutS z lo hi).length ≤ z.length := by
  show (((z.cps.toList.drop (HT.sIx z.length 0 lo)).take (HT.sIx z.length z.length hi - HT.sIx z.length 0 lo)).toArray).size ≤ z.cps.size
  rw [List.size_toArray, List.length_take, List.length_drop, Array.length_toList]
  omega
def rSlS : V → Option Int → Option Int → Hp → VK → Prop := fun x lo hi H Q => ∃ z, x = .str z ∧ z.length ≤ sizeLine ∧ Q (.str (cutS z lo hi)) H
theorem sl_str {X : Cx} : SlR X rSlS := by
  intro pins s σ H x v vl vu lo hi sl Q I rx hs pl pu h
  obtain ⟨z, rfl, hz, q⟩ := h
  obtain ⟨t, rfl⟩ := rx
  obtain ⟨os, hos, hcs, hds⟩ := hs
  obtain ⟨l, rfl, rfl⟩ := IsPart.raw pl
  obtain ⟨u, rfl, rfl⟩ := IsPart.raw pu
  refine ⟨"str", _, F.slot_str_getitem.lookup, typeIs_str _ _ _, ?_⟩
  refine wpAny_getItem_str_slice (l := l) (u := u) (st := none) ⟨os, hos, hcs, hds⟩ rfl ?_
  have hl : (PySem.StrLaws.sliceText z (l.map (·.1)) (u.map (·.1))).length ≤ sizeLine := by
    rw [sliceText_cut]
    exact Nat.le_trans (cutS_length z _ _) hz
  rw [← sliceText_cut] at q
  unfold PySem.StrLaws.sliceText at q hl
  show Made.post (if ((1 : Int) == 1 && (Builtin.Str.strSliceIndices (l.map (·.1)) (u.map (·.1)) 1 z.length).length == z.length) = true then Made.val (.str z t)
    else Made.str ⟨((Builtin.Str.strSliceIndices (l.map (·.1)) (u.map (·.1)) 1 z.length).filterMap (z.cps[·]?)).toArray⟩) (EP X pins σ Q) s
  by_cases c : ((1 : Int) == 1 && (Builtin.Str.strSliceIndices (l.map (·.1)) (u.map (·.1)) 1 z.length).length == z.length) = true
  · rw [if_pos c] at q ⊢
    exact ⟨.str z, H, I, ⟨t, rfl⟩, q⟩
  · rw [if_neg c] at q hl ⊢
    exact ⟨hl, .str _, H, I.tok _, ⟨_, rfl⟩, q⟩
end L2

namespace Att
open PySem PySem.W PySem.Calls PyProof.Rows

/-! ### the script -/
theorem ints_of_wellAll {P : Params} {h : Heap} : ∀ (ns : List Int) (vs : List Value), WellAll P h vs (ns.map WData.int) → IntsAre vs ns := by
  intro ns
  induction ns with
  | nil =>
    intro vs w
    rw [List.map_nil] at w
    cases w
    exact .nil
  | cons n ns ih =>
    intro vs w
    rw [List.map_cons] at w
    cases w with
    | cons a b =>
      cases a
      exact .cons _ _ (ih _ b)

theorem script_of {l : OpenLaw} {n : Nat} (hn : l.most = some n) {P : Params} {h : Heap} {args : List WData} {vals : List Value}
    (hpre : l.row.toRowW.claim.pre args = true) (hwl : WellAll P h vals args) :
    ∃ a vs ns, vals = [Value.ref a] ∧ args = [WData.list (ns.map WData.int)] ∧ h.get? a = some { cls := .type "list", data := .seq vs.toArray } ∧ IntsAre vs ns ∧ ns.length ≤ n := by
  have hsh : WShape.hasAll [] args [.list .int] = true := (pre_splitW hpre).1
  have hc : l.pre.holds [] { args := args } = true := (pre_splitW hpre).2
  obtain ⟨d, r, rfl, h1, h2⟩ := hasAllW_cons hsh
  obtain rfl := hasAllW_nil h2
  obtain ⟨xs, rfl, h3⟩ := hasW_list h1
  obtain ⟨ns, rfl⟩ := items_int h3
  have hlen : ns.length ≤ n := by
    unfold OpenLaw.pre at hc
    have h4 : (WTm.not (.lt (.lit (.int (n : Int))) (.len (.arg 0)))).holds [] { args := [.list (ns.map .int)] } = true := by
      have h4 := (holds_andW hc).1
      rw [hn] at h4
      exact h4
    have h5 := condW_of h4 (w_not (w_lt w_lit (w_len_list (w_arg rfl))))
    rw [List.length_map] at h5
    refine Nat.le_of_not_lt fun q => ?_
    have q' : (n : Int) < ((ns.length : Nat) : Int) := by omega
    first
      | (rw [decide_eq_true q'] at h5; exact absurd h5 (by decide))
      | (simp at h5; omega)
  cases hwl with
  | cons w1 w2 =>
    cases w2
    cases w1 with
    | list ho hall => exact ⟨_, _, ns, rfl, rfl, ho, ints_of_wellAll ns _ hall, hlen⟩

theorem post_true (l : OpenLaw) (args : List WData) : l.row.toRowW.claim.post args (.bool true) args = true :=
  postW_of (r := l.row.toRowW) (X := (true == true))
    (show WShape.has [] (.bool true) .bool = true by first | rfl | decide | simp [WShape.has, WShape.arms, WShape.armsAll])
    (show (WTm.eq .res (.lit (.bool true))).value [] { args := args, res := some (.bool true), after := args } = some (.bool (true == true)) from w_eq_bool (w_res rfl) w_lit) rfl

/-! ### the attachment: holds_open's last premise (the goal 'hc' behind k_head) from a wpAny of the law's body -/
theorem attach {l : OpenLaw} {n : Nat} {q : Program} {loose : List Str} {XP : (Str → Option Value) → Heap → Prop} {YP : World → Heap → Prop} {d : DefRec} {x : Str}
    (hn : l.most = some n) (hdf : d.params.defaults = [])
    (hbind : ∀ pm cd doc v : Value, bindArgs (docDef d.name d.params d.body d.scope pm cd doc) ⟨[v], []⟩ = pure [(x, v)])
    (hx : d.scope.names.lookup x = some .local ∨ d.scope.names.lookup x = some .cell)
    (hk : d.scope.kind = .function) (hco : d.scope.isCoroutine = false) (hgen : d.scope.isGenerator = false)
    (body : ∀ (w : World) (s₀ s₁ s : Shared) (mg mb : Str → Option Value) (fa : Addr) (o : Obj) (pm cd doc : Value) (a : Addr) (vs : List Value) (ns : List Int),
      Ground q loose [] XP w s₀ mg mb s₁.heap → YP w s₁.heap →
      s₁.heap.get? fa = some o → o.data = .func (docDef d.name d.params d.body d.scope pm cd doc) → s₁.heap.CodeRec cd d.name → mg d.name = some (.ref fa) →
      s₁.heap.get? a = some { cls := .type "list", data := .seq vs.toArray } → IntsAre vs ns → ns.length ≤ n →
      s.gens = #[] → s.os = s₁.os →
      Fr s₁.heap s₁.heap.objs.size s.heap (bindL (envOfC d.name d.scope s₁.heap.objs.size fa cd).kindOf [(x, .ref a)] fun _ => none) →
      Cl s₁.heap.objs.size (cellsFrom (s₁.heap.objs.size + 1) d.scope.names []) s.heap (bindC (envOfC d.name d.scope s₁.heap.objs.size fa cd).kindOf [(x, .ref a)] fun _ => none) →
      wpAny (model l.prog w) (callerA.deeper (envOfC d.name d.scope s₁.heap.objs.size fa cd)) (execs d.body (envOfC d.name d.scope s₁.heap.objs.size fa cd))
        (fun f s' => f = .ret (.bool true) ∧ OldK s₁.heap s'.heap ∧ s'.os = s₁.os ∧ AllBare s'.gens) (fun _ _ => False) s) :
    WalkO q loose XP YP l.row.toRowW d [] (fun f vs => PySem.call f vs) := by
  intro w s₀ s₁ mg mb G Y fa o pm cd doc dV kV ho hd hcd hD hmg hg args vals as hpre hlay hrd hwl hlo
  obtain rfl : dV = .none := Dflts.none hD hdf
  obtain rfl : kV = .none := Dflts.noKw hD
  obtain ⟨a, vs, ns, rfl, rfl, hobj, hints, hlen⟩ := script_of hn hpre hwl
  refine enter_call ?_
  refine call_cells_ret (o := o) (by rw [depth_caller]; decide) ho (fd_plain hd) G.T.nolimit hcd (hbind pm cd doc (.ref a)) (fun y hy => ?_) (fun h₁ tk F X => ?_) hco hgen hk
  · obtain rfl : y = (x, Value.ref a) := List.mem_singleton.mp hy
    rcases hx with e | e
    · exact .inl e
    · exact .inr ⟨e, cellsFrom_some _ _ _ (.inl e)⟩
  · refine wpAny_mono (body w s₀ s₁ { s₁ with heap := h₁, toks := tk } mg mb fa o pm cd doc a vs ns G Y ho (fd_plain hd) hcd hmg hobj hints hlen hg rfl F X) (fun f s' hq => ?_) (fun _ _ hq => hq)
    obtain ⟨rfl, h2, h3, h4⟩ := hq
    exact ⟨.inl ⟨.bool true, .bool true, [], rfl, fun _ => rfl, .bool true, post_true l _, fun _ => ⟨List.Pairwise.nil, fun _ hm => (nomatch hm)⟩⟩, h2, h3, h4⟩

/-- the same from a codeAny of the CALL (for a layer whose function contracts speak of calls) -/
theorem attach_call {l : OpenLaw} {n : Nat} {q : Program} {loose : List Str} {XP : (Str → Option Value) → Heap → Prop} {YP : World → Heap → Prop} {d : DefRec}
    (hn : l.most = some n) (hdf : d.params.defaults = [])
    (call : ∀ (w : World) (s₀ s₁ : Shared) (mg mb : Str → Option Value) (fa : Addr) (o : Obj) (pm cd doc : Value) (a : Addr) (vs : List Value) (ns : List Int),
      Ground q loose [] XP w s₀ mg mb s₁.heap → YP w s₁.heap →
      s₁.heap.get? fa = some o → o.data = .func (docDef d.name d.params d.body d.scope pm cd doc) → s₁.heap.CodeRec cd d.name → mg d.name = some (.ref fa) →
      s₁.heap.get? a = some { cls := .type "list", data := .seq vs.toArray } → IntsAre vs ns → ns.length ≤ n → s₁.gens = #[] →
      codeAny (model l.prog w) callerA (.call (.ref fa) ⟨[.ref a], []⟩) (fun r s' => r = .ok (.ret (.bool true)) ∧ OldK s₁.heap s'.heap ∧ s'.os = s₁.os ∧ AllBare s'.gens) s₁) :
    WalkO q loose XP YP l.row.toRowW d [] (fun f vs => PySem.call f vs) := by
  intro w s₀ s₁ mg mb G Y fa o pm cd doc dV kV ho hd hcd hD hmg hg args vals as hpre hlay hrd hwl hlo
  obtain rfl : dV = .none := Dflts.none hD hdf
  obtain rfl : kV = .none := Dflts.noKw hD
  obtain ⟨a, vs, ns, rfl, rfl, hobj, hints, hlen⟩ := script_of hn hpre hwl
  refine enter_call (codeAny_mono (call w s₀ s₁ mg mb fa o pm cd doc a vs ns G Y ho (fd_plain hd) hcd hmg hobj hints hlen hg) fun r s' hq => ?_)
  obtain ⟨rfl, h2, h3, h4⟩ := hq
  exact ⟨.inl ⟨.bool true, .bool true, [], rfl, fun _ => rfl, .bool true, post_true l _, fun _ => ⟨List.Pairwise.nil, fun _ hm => (nomatch hm)⟩⟩, h2, h3, h4⟩

/-- the same where the top left finished generators (o_head chose holds_openN): nothing may have changed at all and no generator may be left -/
theorem attachN {l : OpenLaw} {n : Nat} {q : Program} {loose : List Str} {XP : (Str → Option Value) → Heap → Prop} {YP : World → Heap → Prop} {d : DefRec} {x : Str}
    (hn : l.most = some n) (hdf : d.params.defaults = [])
    (hbind : ∀ pm cd doc v : Value, bindArgs (docDef d.name d.params d.body d.scope pm cd doc) ⟨[v], []⟩ = pure [(x, v)])
    (hx : d.scope.names.lookup x = some .local ∨ d.scope.names.lookup x = some .cell)
    (hk : d.scope.kind = .function) (hco : d.scope.isCoroutine = false) (hgen : d.scope.isGenerator = false)
    (body : ∀ (w : World) (s₀ s₁ s : Shared) (mg mb : Str → Option Value) (fa : Addr) (o : Obj) (pm cd doc : Value) (a : Addr) (vs : List Value) (ns : List Int),
      Ground q loose [] XP w s₀ mg mb s₁.heap → YP w s₁.heap →
      s₁.heap.get? fa = some o → o.data = .func (docDef d.name d.params d.body d.scope pm cd doc) → s₁.heap.CodeRec cd d.name → mg d.name = some (.ref fa) →
      s₁.heap.get? a = some { cls := .type "list", data := .seq vs.toArray } → IntsAre vs ns → ns.length ≤ n →
      s.gens = #[] → s.os = s₁.os →
      Fr s₁.heap s₁.heap.objs.size s.heap (bindL (envOfC d.name d.scope s₁.heap.objs.size fa cd).kindOf [(x, .ref a)] fun _ => none) →
      Cl s₁.heap.objs.size (cellsFrom (s₁.heap.objs.size + 1) d.scope.names []) s.heap (bindC (envOfC d.name d.scope s₁.heap.objs.size fa cd).kindOf [(x, .ref a)] fun _ => none) →
      wpAny (model l.prog w) (callerA.deeper (envOfC d.name d.scope s₁.heap.objs.size fa cd)) (execs d.body (envOfC d.name d.scope s₁.heap.objs.size fa cd))
        (fun f s' => f = .ret (.bool true) ∧ (∀ b o, s₁.heap.get? b = some o → s'.heap.get? b = some o) ∧ s'.os = s₁.os ∧ s'.gens = #[]) (fun _ _ => False) s) :
    WalkN q loose XP YP l.row.toRowW d [] (fun f vs => PySem.call f vs) := by
  intro w s₀ s₁ mg mb G Y fa o pm cd doc dV kV ho hd hcd hD hmg hg args vals as hpre hlay hrd hwl hlo
  obtain rfl : dV = .none := Dflts.none hD hdf
  obtain rfl : kV = .none := Dflts.noKw hD
  obtain ⟨a, vs, ns, rfl, rfl, hobj, hints, hlen⟩ := script_of hn hpre hwl
  refine enter_callW ?_
  refine call_cells_ret (o := o) (by rw [depth_caller]; decide) ho (fd_plain hd) G.T.nolimit hcd (hbind pm cd doc (.ref a)) (fun y hy => ?_) (fun h₁ tk F X => ?_) hco hgen hk
  · obtain rfl : y = (x, Value.ref a) := List.mem_singleton.mp hy
    rcases hx with e | e
    · exact .inl e
    · exact .inr ⟨e, cellsFrom_some _ _ _ (.inl e)⟩
  · refine wpAny_mono (body w s₀ s₁ { s₁ with heap := h₁, toks := tk } mg mb fa o pm cd doc a vs ns G Y ho (fd_plain hd) hcd hmg hobj hints hlen hg rfl F X) (fun f s' hq => ?_) (fun _ _ hq => hq)
    obtain ⟨rfl, h2, h3, h4⟩ := hq
    exact ⟨.inl ⟨.bool true, .bool true, [], rfl, fun _ => rfl, .bool true, post_true l _, fun _ => ⟨List.Pairwise.nil, fun _ hm => (nomatch hm)⟩⟩, h2, h3, h4⟩

/-! ### rules over ANY heap (no ledger) from facts about the written part K: the library's own take a ledger (News) for what they write -/
section
variable {prog : Program} {w : World} {A : Around} {E : Value → Shared → Prop} {s : Shared} {K : Frag}

/-- a def of the module, or a method (qual 'C.m'), entered: the frame is the next address; cells behind it -/
theorem call_fn {R : Result → Shared → Prop} {name qual : Str} {params : Arguments} {body : List Stmt} {scope : Scope} {dV kV doc pm cdv ct oc : Value} {an od : Option Addr} {osl : Array (Option Value)} {f : Addr} {args : Args} {binds : List (Str × Value)}
    (X : K.In s.heap) (hlim : s.heap.NoLimit) (ho : K.lookup f = some ⟨oc, od, .func (fnOf name qual params body scope dV kV doc pm an cdv ct), osl⟩) (hcd : codeIn K cdv qual = true) (hroom : A.depth < recursionLimit)
    (hbind : BindsTo s (fnOf name qual params body scope dV kV doc pm an cdv ct) args binds)
    (hkind : (binds.all fun y => scope.names.lookup y.1 == some .local || scope.names.lookup y.1 == some .cell) = true)
    (h : ∀ s₁, InCallC s s.heap.objs.size (bindL (envOfC qual scope s.heap.objs.size f cdv).kindOf binds fun _ => none) (cellsFrom (s.heap.objs.size + 1) scope.names [])
        (bindC (envOfC qual scope s.heap.objs.size f cdv).kindOf binds fun _ => none) s₁ →
      wpAny (model prog w) (A.deeper (envOfC qual scope s.heap.objs.size f cdv)) (execs body (envOfC qual scope s.heap.objs.size f cdv))
        (fun fl s' => R (.ok (.ret (match fl with | .ret v => v | _ => .none))) s')
        (fun e s' => wpAny (model prog w) (A.deeper (envOfC qual scope s.heap.objs.size f cdv)) (leaving (envOfC qual scope s.heap.objs.size f cdv) e) (fun _ s'' => R (.error e) s'') (fun e' s'' => R (.error e') s'') s') s₁)
    (hco : scope.isCoroutine = false) (hgen : scope.isGenerator = false) (hk : scope.kind = .function) : codeAny (model prog w) A (.call (.ref f) args) R s := by
  refine codeAny_call_function hroom (X _ _ ho) rfl hco hgen rfl (codeRec_of X hcd) (hbind _ _ _ _ ?_)
  refine wpAny_newFunctionEnv_cells hk (kindsX hkind _) fun env he s₁ x => ?_
  subst he
  exact ⟨hlim.keeps x.toInCall.keep, codeAny_func (h s₁ x)⟩

/-- C(..): dict at size, instance at size + 1, then __init__ -/
theorem make_obj {R : Result → Shared → Prop} {C fI : Addr} {rest : List Value} {kw : List (Str × Value)}
    (X : K.In s.heap) (hm : makesIn K C = true) (hi : findIn K (.ref C) "__init__" = some (some (.ref fI))) (hf : isFn K (.ref fI) = true)
    (h : codeAny (model prog w) (A.under (.builtin "type.__call__" ⟨.ref C :: rest, kw⟩)) (.call (.ref fI) ⟨.ref (s.heap.objs.size + 1) :: rest, kw⟩) (InitBack (s.heap.objs.size + 1) R)
      { s with heap := (s.heap.push emptyDict).push (instObj C s.heap.objs.size) }) : codeAny (model prog w) A (.call (.ref C) ⟨rest, kw⟩) R s := by
  obtain ⟨hh, g, d, t, os⟩ := s
  exact make_core (makes_of X hm) (looks_findIn X hi) (fun self => bind_fn X self (beq_iff_eq.mp hf)) (.inl rfl) h

/-- x.name where the instance's dict holds the name and the class does not -/
theorem get_field {x C : Addr} {ox : Obj} {es : List DictEntry} {n : Nat} {name : Str} {expr : Bool} {v : Value} {Q : Value → Shared → Prop}
    (X : K.In s.heap) (I : PySem.W.InstAt s.heap x ox C (some (dictOf es n))) (hg : plainGet K C name = true) (hh : hasDictIn K C = true) (ha : findIn K (.ref C) name = some none)
    (hl : getL name es = some (some v)) (hv : handedIn v = true) (h : Q v { s with toks := s.toks + 1 }) : wpAny (model prog w) A (getAttr (.ref x) name expr) Q E s :=
  get_value X I (plainGet_of hg).1 (findObj_own hh ha rfl hl) hv h

/-- x.m(..): the method found in the class -/
theorem get_method {x C f : Addr} {ox : Obj} {es : List DictEntry} {n : Nat} {name : Str} {pl : Sem Bool} {Q : Value × List Value → Shared → Prop}
    (X : K.In s.heap) (I : PySem.W.InstAt s.heap x ox C (some (dictOf es n))) (hg : plainGet K C name = true) (hf : findIn K (.ref C) name = some (some (.ref f))) (ht : isFn K (.ref f) = true)
    (hl : getL name es = some none) (h : Q (.ref f, [.ref x]) s) : wpAny (model prog w) A (getMethod (.ref x) name pl) Q E s :=
  method_fn X I (plainGet_of hg).1 (plainGet_of hg).2 hf (beq_iff_eq.mp ht) (by show (lookIn name (dictOf es n)).map _ = _; rw [lookIn_dict, hl]; rfl) h

/-! the whole heap as the ledger: makes every rule that writes through a ledger a rule over any heap -/
def noObjs (h : Heap) : Heap := { h with objs := #[] }
theorem noObjs_get (h : Heap) (b : Addr) : (noObjs h).get? b = none := by
  cases e : (noObjs h).get? b with
  | none => rfl
  | some o => exact absurd (Heap.lt_size e) (Nat.not_lt_zero _)
def ledger (h : Heap) (L d : Addr) : List (Addr × Obj) := (List.range h.objs.size).filterMap fun a => if a = L ∨ a = d then none else (h.get? a).map fun o => (a, o)
theorem mem_ledger {h : Heap} {L d a : Addr} {o : Obj} : (a, o) ∈ ledger h L d ↔ a ≠ L ∧ a ≠ d ∧ h.get? a = some o := by
  unfold ledger
  rw [List.mem_filterMap]
  constructor
  · rintro ⟨b, _, e⟩
    split at e
    · cases e
    · rename_i hb
      obtain ⟨o', ho, e'⟩ := Option.map_eq_some_iff.mp e
      cases e'
      exact ⟨fun q => hb (.inl q), fun q => hb (.inr q), ho⟩
  · rintro ⟨n1, n2, ho⟩
    refine ⟨a, List.mem_range.mpr (Heap.lt_size ho), ?_⟩
    rw [if_neg (show ¬ (a = L ∨ a = d) from fun q => q.elim n1 n2), ho] <;> rfl
theorem news_ledger {h : Heap} {L d : Addr} {od : Obj} (hne : d ≠ L) (ho : h.get? d = some od) : News (noObjs h) L h ([] ++ (d, od) :: ledger h L d) := by
  rintro ⟨a, o⟩ hp
  rcases List.mem_cons.mp hp with e | hp
  · cases e
    exact ⟨ho, hne, noObjs_get _ _⟩
  · obtain ⟨n1, n2, e⟩ := mem_ledger.mp hp
    exact ⟨e, n1, noObjs_get _ _⟩
theorem fr_all {h : Heap} {L : Addr} {m : Str → Option Value} (n : h.Ns L m) : Fr (noObjs h) L h m :=
  ⟨n, fun b o e => (by rw [noObjs_get] at e; cases e), Nat.zero_le _⟩
/-- Upd of the head entry (for append_K, setItem_K ..) -/
theorem upd_ledger {h : Heap} {L d : Addr} {o o' : Obj} : Upd d o o' ((d, o) :: ledger h L d) ((d, o') :: ledger h L d) :=
  .head fun ⟨_, _⟩ hp => (mem_ledger.mp hp).2.1

/-- x.name = v over any heap: L is any namespace of the heap (the frame's, say): its map stays, its object is not told; all else but the dict stays -/
theorem set_field {x C dx L : Addr} {ox : Obj} {m : Str → Option Value} {es es' : List DictEntry} {n n' : Nat} {name : Str} {v : Value} {Q : Unit → Shared → Prop}
    (X : K.In s.heap) (I : PySem.W.InstAt s.heap x ox C (some (dictOf es n))) (hd : ox.dict = some dx) (hL : s.heap.Ns L m) (hne : dx ≠ L)
    (hs : findIn K (.ref C) "__setattr__" = some (some (.builtin "object.__setattr__"))) (hp : plainOver K C = true) (ht : takerIn K C name = some none) (hh : hasDictIn K C = true) (hl : (getL name es).isSome = true)
    (e : (putL name (PyData.keyHash w.params name) (.str name (s.toks + 1)) v es, putN name es n) = (es', n')) (hz : es'.length ≤ 1000)
    (h : ∀ h' : Heap, h'.Ns L m → h'.get? dx = some (dictOf es' n') → (∀ b o, b ≠ dx → b ≠ L → s.heap.get? b = some o → h'.get? b = some o) → Q () { s with heap := h', toks := s.toks + 2 }) :
    wpAny (model prog w) A (setAttr (.ref x) name v) Q E s := by
  obtain ⟨e1, e2⟩ := Prod.mk.inj e
  have hdx : s.heap.get? dx = some (dictOf es n) := by
    have := I.dict
    rw [hd] at this
    exact this
  refine set_plain X I hs (osa_dict (s := { s with toks := s.toks + 1 }) (h₀ := noObjs s.heap) (L := L) (m := m) (od := dictOf es n) (od' := dictOf es' n') (es := es') (n := n') (pre := []) (post := ledger s.heap L dx)
    (fr_all hL) (news_ledger hne hdx) X I hd hp ht hh hl (fun _ q => nomatch q) (fun ⟨_, _⟩ q => (mem_ledger.mp q).2.1) (by rw [putName_dict, e1, e2]) rfl hz fun h' F' N' => ?_)
  exact h h' F'.ns (N'.get (List.Mem.head _)) fun b o n1 n2 ho => N'.get (List.Mem.tail _ (mem_ledger.mpr ⟨n2, n1, ho⟩))
end
end Att

namespace L2
open PySem PySem.Spec PyProof.Rows

theorem vals_ints : ∀ {vs : List Value} {ns : List Int}, IntsAre vs ns → Vals (ns.map V.int) vs
  | _, _, .nil => .nil
  | _, _, .cons n t h => .cons ⟨t, rfl⟩ (vals_ints h)

/-- nothing is tracked but the script, known to the object (or it is an object of the module) -/
def Only (H : Hp) : Prop := ∀ b, H b = none ∨ ∃ o xs, H b = some (.frz o (.lst xs))

/-- THE HEAD: the law's promise, at the heap behind the top. F, the promise of the law's def, may use that base is part of the heap (so K.In base, base.Ns mainGlobals mg stand in Mod) -/
theorem law_call {P : Program} {w : World} {K : PySem.W.Frag} {mg mb : Str → Option Value} {CX : CXT} {k : Nat} {fa a : Addr} {fd : FuncData} {x : Str} {sp : Sp} {s₁ : Shared} {vs : List Value} {ns : List Int}
    (KX : K.In s₁.heap) (hns : s₁.heap.Ns mainGlobals mg) (hb : s₁.heap.Ns builtinsNs mb) (hbb : ∀ x : Str, x ≠ "__name__" → mb x = bootBuiltins x) (hlim : s₁.heap.NoLimit) (hg : s₁.gens = #[])
    (ha : s₁.heap.get? a = some { cls := .type "list", data := .seq vs.toArray }) (hi : IntsAre vs ns) (hl : ns.length ≤ sizeLine) (hr : Room k callerA)
    (F : ∀ base : Heap, K.In base → base.Ns mainGlobals mg → FnOk P w K mg base CX k fa fd [x] sp) (hbind : ∀ (s : Shared) (u : Value), BindsTo s fd ⟨[u], []⟩ [(x, u)])
    (hsp : ∀ H : Hp, Only H → SqL K H a (ns.map V.int) → sp [.ref a] H (fun v _ => v = .bl true) fun _ _ _ => False)
    (hCX : ∀ H e s', CX [] H s₁ (fun _ _ _ => False) e s' → False) :
    codeAny (model P w) callerA (.call (.ref fa) ⟨[.ref a], []⟩) (fun r s' => r = .ok (.ret (.bool true)) ∧ OldK s₁.heap s'.heap ∧ s'.os = s₁.os ∧ AllBare s'.gens) s₁ := by
  have rv := vals_ints hi
  have lenV := hi.length
  -- from an abstract heap in which nothing but the script may be tracked
  have core : ∀ H : Hp, Only H → SqL K H a (ns.map V.int) → HOk P w H s₁.heap → (∀ b, H b ≠ none → b = a) → (H a ≠ none → K.lookup a = none) →
      codeAny (model P w) callerA (.call (.ref fa) ⟨[.ref a], []⟩) (fun r s' => r = .ok (.ret (.bool true)) ∧ OldK s₁.heap s'.heap ∧ s'.os = s₁.os ∧ AllBare s'.gens) s₁ := by
    intro H hO hS hok hA hK
    have base_of : ∀ {b : Addr} {o : Obj}, s₁.heap.get? b = some o → H b = none → (hidT s₁.heap H).get? b = some o := fun e n => hidT_get e n
    have noA : ∀ {b : Addr} {o : Obj} {es : Array DictEntry} {ep : Nat}, s₁.heap.get? b = some o → o.data = .dict es ep → H b = none := fun {b o es ep} e d => by
      cases q : H b with
      | none => rfl
      | some u =>
        have e' : b = a := hA b (by rw [q]; simp)
        subst e'
        rw [ha] at e; cases e
        have d' : Data.seq vs.toArray _ = Data.dict es ep := d
        cases d'
    have nsK : ∀ {b : Addr} {m : Str → Option Value}, s₁.heap.Ns b m → (hidT s₁.heap H).Ns b m := fun {b m} ⟨o, es, ep, e, d, r⟩ => ⟨o, es, ep, base_of e (noA e d), d, r⟩
    have hKb : K.In (hidT s₁.heap H) := fun b o e => base_of (KX b o e) (by
      cases q : H b with
      | none => rfl
      | some u =>
        have e' : b = a := hA b (by rw [q]; simp)
        subst e'
        rw [hK (by rw [q]; simp)] at e; cases e)
    have hM : Mod K mg (hidT s₁.heap H) := ⟨hKb, nsK hns, ⟨mb, nsK hb, hbb⟩, let ⟨mc, h1, h2⟩ := hlim; ⟨mc, nsK h1, h2⟩⟩
    have e0 : Env0 P w K mg (hidT s₁.heap H) callerA [] s₁ H := ⟨rfl, hM, fun b o e => of_hidT e, Nat.le_of_eq (hidT_size _ _), trivial, fun b hb => absurd (show b ∈ ([] : List Addr) from hb) (by simp), hok, .of_eq hg⟩
    refine codeAny_mono ((F _ hKb (nsK hns)).run callerA [] s₁ H ⟨[.ref a], []⟩ [.ref a] [.ref a] _ _ hr e0 (hbind s₁ (.ref a)) (.cons rfl .nil) (hsp H hO hS)) fun r s' h => ?_
    cases r with
    | error e => exact (hCX H e s' h).elim
    | ok fl =>
      cases fl with
      | next => exact False.elim h
      | brk => exact False.elim h
      | cont => exact False.elim h
      | ret u =>
        obtain ⟨v, H', os, bare, un, hok', r', q⟩ := h
        have q' : v = .bl true := q
        subst q'
        obtain rfl : u = Value.bool true := r'
        refine ⟨rfl, OldK.of_keep fun b o e => ?_, os, bare⟩
        cases q : H b with
        | none => exact un.keep b o e q (by intro z; exact absurd (show b ∈ ([] : List Addr) from z) (by simp)) (by simp)
        | some u =>
          rcases hO b with z | ⟨ob, xs, z⟩
          · rw [q] at z; cases z
          · have z2 := un.frzs b ob _ z
            obtain ⟨e1, _⟩ := hok b _ z
            obtain ⟨e2, _⟩ := hok' b _ z2
            rw [e] at e1; cases e1
            exact e2
  cases hk : K.lookup a with
  | some o =>
    -- the script is one of the module's own objects
    have e := KX a o hk
    rw [ha] at e
    cases e
    refine core (fun _ => none) (fun _ => .inl rfl) (.inr ⟨_, vs.toArray, _, hk, rfl, rfl, rfl, by rw [List.size_toArray, lenV]; exact hl, by simpa using rv⟩) (fun b u z => by have z' : (none : Option HO) = some u := z; cases z') (fun b z => absurd rfl z) fun z => absurd rfl z
  | none =>
    refine core (fun b => if b = a then some (.frz { cls := .type "list", data := .seq vs.toArray } (.lst (ns.map V.int))) else none) (fun b => ?_) (.inl (.inr ⟨{ cls := .type "list", data := .seq vs.toArray }, if_pos rfl⟩)) (fun b u z => ?_) (fun b z => ?_) fun _ => hk
    · by_cases hb : b = a
      · exact .inr ⟨_, _, if_pos hb⟩
      · exact .inl (if_neg hb)
    · by_cases hb : b = a
      · have z' := (if_pos hb).symm.trans z
        cases z'
        subst hb
        exact ⟨ha, by rw [List.length_map]; exact hl, vs, _, rv, ha⟩
      · have z' := (if_neg hb).symm.trans z
        cases z'
    · by_cases hb : b = a
      · exact hb
      · exact absurd (if_neg hb) z
end L2

namespace L2
open PySem PySem.Spec PyProof.Rows

abbrev KOf {K : PySem.W.Frag} {h : Heap} (_ : K.In h) : PySem.W.Frag := K

/-- the goal that k_head leaves (case hc), from the law's promise. F gives the function object fd (K's own) once, then the promise over every base -/
theorem walk_of {l : PySem.W.OpenLaw} {n k : Nat} {q : Program} {loose : List Str} {XP : (Str → Option Value) → Heap → Prop} {YP : World → Heap → Prop} {d : DefRec} {K : Params → PySem.W.Frag} {CX : World → CXT} {sp : World → Sp} {x : Str}
    (hn : l.most = some n) (hn2 : n ≤ sizeLine) (hdf : d.params.defaults = []) (hr : Room k callerA)
    (hY : ∀ (w : World) (h : Heap), YP w h → (K w.params).In h)
    (F : ∀ (w : World) (mg : Str → Option Value) (fa : Addr) (h : Heap), (K w.params).In h → h.Ns mainGlobals mg → mg d.name = some (.ref fa) →
      ∃ fd : FuncData, (∀ (s : Shared) (u : Value), BindsTo s fd ⟨[u], []⟩ [(x, u)]) ∧
        ∀ base : Heap, (K w.params).In base → base.Ns mainGlobals mg → FnOk l.prog w (K w.params) mg base (CX w) k fa fd [x] (sp w))
    (hsp : ∀ (w : World) (H : Hp) (a : Addr) (ns : List Int), ns.length ≤ n → Only H → SqL (K w.params) H a (ns.map V.int) → sp w [.ref a] H (fun v _ => v = .bl true) fun _ _ _ => False)
    (hCX : ∀ (w : World) (H : Hp) (s : Shared) (e : Value) (s' : Shared), CX w [] H s (fun _ _ _ => False) e s' → False) :
    PySem.W.WalkO q loose XP YP l.row.toRowW d [] (fun f vs => PySem.call f vs) := by
  refine Att.attach_call hn hdf fun w s₀ s₁ mg mb fa o pm cd doc a vs ns G Y ho hd hcd hmg hobj hints hlen hg => ?_
  have KX := hY w _ Y
  obtain ⟨fd, hb, hF⟩ := F w mg fa _ KX G.T.g hmg
  exact law_call KX G.T.g G.T.b G.T.builtins G.T.nolimit hg hobj hints (Nat.le_trans hlen hn2) hr hF hb (fun H hO hS => hsp w H a ns hlen hO hS) fun H e s' => hCX w H s₁ e s'
/-- the same where the promise hangs on the written part alone: (sp := My.sp_law), no hole under a binder -/
theorem walk_ofK {l : PySem.W.OpenLaw} {n k : Nat} {q : Program} {loose : List Str} {XP : (Str → Option Value) → Heap → Prop} {YP : World → Heap → Prop} {d : DefRec} {K : Params → PySem.W.Frag} {CX : CXT} {sp : PySem.W.Frag → Sp} {x : Str}
    (hn : l.most = some n) (hn2 : n ≤ sizeLine) (hdf : d.params.defaults = []) (hr : Room k callerA)
    (hY : ∀ (w : World) (h : Heap), YP w h → (K w.params).In h)
    (F : ∀ (w : World) (mg : Str → Option Value) (fa : Addr) (h : Heap), (K w.params).In h → h.Ns mainGlobals mg → mg d.name = some (.ref fa) →
      ∃ fd : FuncData, (∀ (s : Shared) (u : Value), BindsTo s fd ⟨[u], []⟩ [(x, u)]) ∧
        ∀ base : Heap, (K w.params).In base → base.Ns mainGlobals mg → FnOk l.prog w (K w.params) mg base CX k fa fd [x] (sp (K w.params)))
    (hsp : ∀ (K : PySem.W.Frag) (H : Hp) (a : Addr) (ns : List Int), ns.length ≤ n → Only H → SqL K H a (ns.map V.int) → sp K [.ref a] H (fun v _ => v = .bl true) fun _ _ _ => False)
    (hCX : ∀ (H : Hp) (s : Shared) (e : Value) (s' : Shared), CX [] H s (fun _ _ _ => False) e s' → False) :
    PySem.W.WalkO q loose XP YP l.row.toRowW d [] (fun f vs => PySem.call f vs) :=
  walk_of (K := K) (CX := fun _ => CX) (sp := fun w => sp (K w.params)) hn hn2 hdf hr hY F (fun w H a ns h1 h2 h3 => hsp (K w.params) H a ns h1 h2 h3) fun _ H s e s' => hCX H s e s'
end L2

/- THE LAST THEOREM (shape; LID, My.* are yours):
   My.Adr: a structure of the addresses that your layer names (classes, functions); My.Txt K t: a structure (Prop) of the equations over K;
   My.txt_mk : {K} {implicit addresses ..} (e1 : nsIn K mainGlobals "law" = some (some (.ref f))) (e2 : K.lookup f = some ⟨oc, od, .func (fnOf "law" "law" params body scope dV kV doc pm an cdv ct), sl⟩) (e3 : codeIn K cdv "law" = true) .. : ∃ t, My.Txt K t

set_option maxRecDepth 100000 in
set_option maxHeartbeats 0 in
theorem PySem.Challenge.cw_LID_holds : PySem.Challenge.rw_LID.Holds := by
  w_on; o_law; k_head; (case hw => w_witness2)
  k_fill
  refine L2.walk_of (l := PySem.Challenge.rw_LID) (n := 63) (k := 40) (x := "script") (CX := fun w => ..) (sp := fun _ => My.sp_law) rfl (by decide) rfl ⟨rfl, by decide, by decide⟩ (fun w h Y => PySem.W.kIn_of Y) ?F ?S ?C
  case F =>
    intro w mg fa h KX G hmg
    have T : ∃ t, My.Txt (L2.KOf KX) t := by
      dsimp only [L2.KOf]                          -- K must stand as «<heap const> w.params» for k_is
      refine' My.txt_mk ?e1 ?e2 ?e3 ..
      (case e1 => PySem.W.k_is)                    -- in the order: a name -> its address -> its object -> its parts
      (case e2 => PySem.W.k_is)
      ..
    obtain ⟨t, T⟩ := T
    have e0 := hmg.symm.trans (PySem.W.mg_of KX G T.law)
    cases e0                                       -- fa is the law's own address
    exact ⟨_, fun s u => .of_eq rfl, fun base kb nb => My.law_fn T kb nb⟩     -- if «.of_eq rfl» comes too early: refine' ⟨_, ?b, fun base kb nb => My.law_fn T kb nb⟩; exact fun s u => .of_eq rfl
  case S => exact fun w H a ns hl hO hS => ..
  case C => exact ..
(the tactic k_is has no namespace: write k_is) -/

/-! SHORT WORDS over the layer: a def of the text, its body, what a loop and a test want. -/
namespace L2
open PySem PySem.Spec PyProof.Rows

/-! ### the text by places -/
/-- the j-th statement of a class's body -/
def inClass (s : Stmt) (j : Nat) : Stmt := match s with
  | .ClassDef _ _ _ body _ _ _ _ _ _ _ => body.getD j (.Pass ⟨0, 0, 0, 0⟩)
  | _ => .Pass ⟨0, 0, 0, 0⟩
def defArgs (s : Stmt) : Arguments := match s with
  | .FunctionDef _ a _ _ _ _ _ _ _ _ => a
  | _ => { posonlyargs := [], args := [], vararg := none, kwonlyargs := [], kw_defaults := [], kwarg := none, defaults := [] }
def defBody (s : Stmt) : List Stmt := match s with
  | .FunctionDef _ _ b _ _ _ _ _ _ _ => b
  | _ => []
def defScope (s : Stmt) : Scope := match s with
  | .FunctionDef _ _ _ _ _ _ sc _ _ _ => sc
  | _ => { kind := .function, names := [], isGenerator := false, isCoroutine := false }

/-! ### no exception leaves a def -/
abbrev CX0 : CXT := fun _ _ _ _ _ _ => False
abbrev E0 : XK := fun _ _ _ => False
theorem pass0 {X : Cx} : Passes CX0 X E0 := fun _ _ _ _ _ _ _ h => h.elim

/-! ### a def (or method) of the text as it stands behind the top -/
structure Fun (K : PySem.W.Frag) (x qual : Str) (st : Stmt) (f : Addr) (fd : FuncData) : Prop where
  ex : ∃ (oc : Value) (od : Option Addr) (kV doc pm : Value) (an : Option Addr) (cdv ct : Value) (osl : Array (Option Value)),
    fd = PySem.W.fnOf x qual (defArgs st) (defBody st) (defScope st) .none kV doc pm an cdv ct ∧ K.lookup f = some ⟨oc, od, .func fd, osl⟩ ∧ PySem.W.codeIn K cdv qual = true
  kp : PySem.W.keepIn K (.ref f) = true
section
variable {P : Program} {w : World} {K : PySem.W.Frag} {mg : Str → Option Value} {base : Heap}
/-- THE RULE for a def: its body as a term of rules, and the reading of that term -/
theorem Fun.ok {x qual : Str} {st : Stmt} {f : Addr} {fd : FuncData} {N ps : List Str} {k : Nat} {sp : Sp} (F : Fun K x qual st f fd) (S : FnScope N ps (defScope st)) (len : ∀ vs H Q E, sp vs H Q E → vs.length = ps.length)
    (hbody : ∀ (cdv : Value) (A : Around) (outer : List Env) (s : Shared) (H : Hp) (vs : List V) (Q : VK) (E : XK), Room k (A.deeper (envOfC qual (defScope st) s.heap.objs.size f cdv)) → sp vs H Q E →
      ∃ t, PSs (cxOf CX0 P w K mg base N qual (defScope st) f cdv A outer s H E).nox (defBody st) t ∧ t { nx := fun _ H' => Q .non H', rt := Q } (start N vs) H) : FnOk P w K mg base CX0 (k + 1) f fd ps sp := by
  obtain ⟨oc, od, kV, doc, pm, an, cdv, ct, osl, rfl, lk, hcd⟩ := F.ex
  refine fn_of lk hcd S len fun A outer s H vs Q E hr hsp => ?_
  obtain ⟨t, h, q⟩ := hbody cdv A outer s H vs Q E hr hsp
  exact ⟨t, h.nox, q⟩
/-- how its arguments bind (no defaults): h is «fun _ _ _ _ _ _ us hl => match us, hl with | [_, _], _ => rfl», one _ a parameter -/
theorem Fun.binds {x qual : Str} {st : Stmt} {f : Addr} {fd : FuncData} {ps : List Str} (F : Fun K x qual st f fd)
    (h : ∀ (kV doc pm : Value) (an : Option Addr) (cdv ct : Value) (us : List Value), us.length = ps.length → bindArgs (PySem.W.fnOf x qual (defArgs st) (defBody st) (defScope st) .none kV doc pm an cdv ct) ⟨us, []⟩ = pure (ps.zip us)) : Binds K fd ps [] := by
  obtain ⟨oc, od, kV, doc, pm, an, cdv, ct, osl, rfl, lk, hcd⟩ := F.ex
  exact .all (h kV doc pm an cdv ct)
theorem fun_mk {x qual : Str} {st : Stmt} {f : Addr} {oc : Value} {od an : Option Addr} {osl : Array (Option Value)} {kV doc pm cdv ct : Value} (l : K.lookup f = some ⟨oc, od, .func (PySem.W.fnOf x qual (defArgs st) (defBody st) (defScope st) .none kV doc pm an cdv ct), osl⟩)
    (c : PySem.W.codeIn K cdv qual = true) (k : PySem.W.keepIn K (.ref f) = true) : Fun K x qual st f (PySem.W.fnOf x qual (defArgs st) (defBody st) (defScope st) .none kV doc pm an cdv ct) := ⟨⟨oc, od, kV, doc, pm, an, cdv, ct, osl, rfl, l, c⟩, k⟩
end
theorem hu_of {A : Around} {k : Nat} (hr : Room k A) : A.units + 1 < cLine := Nat.lt_of_le_of_lt (Nat.add_le_add_left (by decide : 1 ≤ 64) _) hr.units
theorem small1000 {n : Nat} (h : n ≤ 1000) : n < sizeLine := Nat.lt_of_le_of_lt h (by decide)

/-! ### expressions in short: the name that stands in the i-th slot -/
section
variable {X : Cx}
theorem pv (i : Nat) {x : Str} {pos : Pos} (hN : X.N[i]? = some x := by rfl) (hv : Vis X.env.scope x := by first | exact Or.inl rfl | exact Or.inr (Or.inl rfl) | exact Or.inr (Or.inr rfl)) (hd : (x == ("__debug__" : Str)) = false := by decide)
    (hcd : (x == ("__classdict__" : Str)) = false := by decide) : PE X (.Name x pos) (tVar i) := pe_var hN hv hd hcd
/-- len of a dict -/
theorem call_lenD : CallR X (.builtin "len") (fun xs H Q => ∃ a kvs, xs = [V.ref a] ∧ H a = some (.dK kvs) ∧ Q (.int kvs.length) H) := by
  intro pins s σ H xs us Q I r h
  obtain ⟨a, kvs, rfl, ha, q⟩ := h
  obtain ⟨u, rfl, ru⟩ := vals1 r
  cases ru
  exact d_len I (.inl ha) fun t s' I' => ⟨.int kvs.length, H, I', ⟨t, rfl⟩, q⟩
end

/-! ### tests -/
theorem iteF {A B : Prop} (h : B) : if false = true then A else B := by
  rw [if_neg Bool.false_ne_true]
  exact h
theorem iteT {A B : Prop} (h : A) : if true = true then A else B := by
  rw [if_pos rfl]
  exact h
theorem ite2 {c A B : Prop} [Decidable c] (h1 : c → A) (h2 : ¬ c → B) : if c then A else B := by
  by_cases h : c
  · rw [if_pos h]
    exact h1 h
  · rw [if_neg h]
    exact h2 h
theorem iteNS {c A B : Prop} [Decidable c] (hc : c) (h : B) : if (!decide c) = true then A else B := by
  rw [decide_eq_true hc]
  exact iteF h

/-! ### heaps -/
/-- all that was tracked is as it was -/
def Same (H H' : Hp) : Prop := ∀ b o, H b = some o → H' b = some o
theorem Same.refl (H : Hp) : Same H H := fun _ _ h => h
theorem Same.trans {H H1 H2 : Hp} (a : Same H H1) (b : Same H1 H2) : Same H H2 := fun c o h => b c o (a c o h)
theorem Same.free {H H' : Hp} (e : Same H H') {l : Addr} (h : H' l = Option.none) : H l = Option.none := by
  cases q : H l with
  | none => rfl
  | some o =>
    rw [e l o q] at h
    cases h
theorem Same.seq {K : PySem.W.Frag} {H H' : Hp} {a : Addr} {xs : List V} (e : Same H H') (h : SqL K H a xs) : SqL K H' a xs := by
  rcases h with (h | ⟨o, h⟩) | h
  · exact .inl (.inl (e _ _ h))
  · exact .inl (.inr ⟨o, e _ _ h⟩)
  · exact .inr h

/-! ### a dict's pairs: keys that differ -/
section
variable {κ : Type} [DecidableEq κ]
theorem valV_not {kvs : List (κ × V)} {k : κ} (h : valV kvs k = none) : ¬ k ∈ kvs.map (·.1) := by
  intro m
  obtain ⟨p, hp, e⟩ := List.mem_map.mp m
  have q : (kvs.any fun kv => decide (kv.1 = k)) = true := List.any_eq_true.mpr ⟨p, hp, decide_eq_true e⟩
  rw [valV_any, h] at q
  exact absurd q (by simp)
theorem valV_in {kvs : List (κ × V)} {k : κ} {v : V} (h : valV kvs k = some v) : k ∈ kvs.map (·.1) := by
  have q : (kvs.any fun kv => decide (kv.1 = k)) = true := by
    rw [valV_any, h]
    all_goals rfl
  obtain ⟨p, hp, e⟩ := List.any_eq_true.mp q
  exact List.mem_map.mpr ⟨p, hp, of_decide_eq_true e⟩
theorem nd_snoc : ∀ {l : List κ} {k : κ}, l.Nodup → ¬ k ∈ l → (l ++ [k]).Nodup
  | [], k, _, _ => by simp
  | a :: r, k, h, hk => by
    obtain ⟨h1, h2⟩ := List.nodup_cons.mp h
    show (a :: (r ++ [k])).Nodup
    refine List.nodup_cons.mpr ⟨fun m => ?_, nd_snoc h2 fun m => hk (List.mem_cons.mpr (Or.inr m))⟩
    rcases List.mem_append.mp m with q | q
    · exact h1 q
    · exact hk (List.mem_cons.mpr (Or.inl (List.mem_singleton.mp q).symm))
theorem nd_putK {kvs : List (κ × V)} {k : κ} (v : V) (hn : (kvs.map (·.1)).Nodup) (h : valV kvs k = none) : ((putK kvs k v).map (·.1)).Nodup := by
  rw [putK_new v h, List.map_append]
  exact nd_snoc hn (valV_not h)
theorem dropK_pos {p : κ × V} {r : List (κ × V)} {k : κ} (e : p.1 = k) : dropK (p :: r) k = dropK r k := by
  unfold dropK
  rw [List.filter_cons, if_neg (by simp [e])]
theorem dropK_neg {p : κ × V} {r : List (κ × V)} {k : κ} (e : ¬ p.1 = k) : dropK (p :: r) k = p :: dropK r k := by
  unfold dropK
  rw [List.filter_cons, if_pos (by simp [e])]
theorem dropK_no : ∀ {kvs : List (κ × V)} {k : κ}, ¬ k ∈ kvs.map (·.1) → dropK kvs k = kvs
  | [], _, _ => rfl
  | p :: r, k, h => by
    have h' : ¬ k ∈ r.map (·.1) := fun m => by
      obtain ⟨q, hq, e⟩ := List.mem_map.mp m
      exact h (List.mem_map.mpr ⟨q, List.mem_cons.mpr (Or.inr hq), e⟩)
    rw [dropK_neg fun e => h (List.mem_map.mpr ⟨p, List.mem_cons.mpr (Or.inl rfl), e⟩), dropK_no h']
theorem dropK_mem {kvs : List (κ × V)} {k : κ} {p : κ × V} (h : p ∈ dropK kvs k) : p ∈ kvs := (List.mem_filter.mp h).1
theorem nd_dropK : ∀ {kvs : List (κ × V)} {k : κ}, (kvs.map (·.1)).Nodup → ((dropK kvs k).map (·.1)).Nodup
  | [], _, _ => List.nodup_nil
  | p :: r, k, h => by
    have h : (p.1 :: r.map (·.1)).Nodup := h
    obtain ⟨h1, h2⟩ := List.nodup_cons.mp h
    by_cases e : p.1 = k
    · rw [dropK_pos e]
      exact nd_dropK h2
    · rw [dropK_neg e]
      show (p.1 :: (dropK r k).map (·.1)).Nodup
      refine List.nodup_cons.mpr ⟨fun m => h1 ?_, nd_dropK h2⟩
      obtain ⟨q, hq, eq⟩ := List.mem_map.mp m
      exact List.mem_map.mpr ⟨q, dropK_mem hq, eq⟩
theorem dropK_len : ∀ {kvs : List (κ × V)} {k : κ}, (kvs.map (·.1)).Nodup → k ∈ kvs.map (·.1) → (dropK kvs k).length + 1 = kvs.length
  | [], _, _, m => by simp at m
  | p :: r, k, h, m => by
    have h : (p.1 :: r.map (·.1)).Nodup := h
    have m : k = p.1 ∨ k ∈ r.map (·.1) := List.mem_cons.mp m
    obtain ⟨h1, h2⟩ := List.nodup_cons.mp h
    by_cases e : p.1 = k
    · subst e
      rw [dropK_pos rfl, dropK_no h1]
      all_goals rfl
    · have m' : k ∈ r.map (·.1) := m.resolve_left fun z => e z.symm
      have q := dropK_len h2 m'
      rw [dropK_neg e, List.length_cons, List.length_cons]
      omega
end
/-! ### lists -/
theorem at_of {xs : List V} {z : Int} {j : Nat} {v : V} (e : z = (j : Int)) (h : xs[j]? = some v) : atI xs z = some v := by
  rw [e]
  exact atI_nat h
theorem nd_ix {α : Type} {l : List α} (hN : l.Nodup) {i j : Nat} {x : α} (a : l[i]? = some x) (b : l[j]? = some x) : i = j := by
  obtain ⟨h1, e1⟩ := List.getElem?_eq_some_iff.mp a
  obtain ⟨h2, e2⟩ := List.getElem?_eq_some_iff.mp b
  exact (List.getElem_inj hN).mp (e1.trans e2.symm)
theorem sum_set : ∀ {l : List Int} {j : Nat} {z y : Int}, l[j]? = some z → (l.set j y).sum = l.sum - z + y
  | [], j, z, y, h => by simp at h
  | a :: r, 0, z, y, h => by
    have e : a = z := Option.some.inj h
    subst e
    show (y :: r).sum = (a :: r).sum - a + y
    rw [List.sum_cons, List.sum_cons]
    omega
  | a :: r, j + 1, z, y, h => by
    have ih := sum_set (l := r) (j := j) (z := z) (y := y) h
    show (a :: r.set j y).sum = (a :: r).sum - z + y
    rw [List.sum_cons, List.sum_cons, ih]
    omega
theorem sum_take : ∀ {l : List Int} {i : Nat} {z : Int}, l[i]? = some z → (l.take (i + 1)).sum = (l.take i).sum + z
  | [], i, z, h => by simp at h
  | a :: r, 0, z, h => by
    have e : a = z := Option.some.inj h
    subst e
    show ([a] : List Int).sum = ([] : List Int).sum + a
    rw [List.sum_cons]
    exact Int.add_comm _ _
  | a :: r, i + 1, z, h => by
    have ih := sum_take (l := r) (i := i) (z := z) h
    show (a :: r.take (i + 1)).sum = (a :: r.take i).sum + z
    rw [List.sum_cons, List.sum_cons, ih]
    omega
/-- a new instance and its __init__ leave all that was tracked as it was -/
theorem Same.made {H H1 : Hp} {x dx C : Addr} (nx : H x = Option.none) (nd : H dx = Option.none) (k : ∀ b o, (upd (upd H dx (.own x)) x (.ins C dx [])) b = some o → b ≠ x → H1 b = some o) : Same H H1 := fun b o e =>
  k b o (by rw [upd_ne (ne_of_none e nx), upd_ne (ne_of_none e nd)]; exact e) (ne_of_none e nx)
end L2

namespace Ev
open PySem PySem.Spec PyProof.Rows PySem.W
set_option autoImplicit false
def pa (p : Array Nat) (i : Nat) : Nat := p.getD i 0
/-- the comparison, of n things that all differ -/
structure Lt (n : Nat) (lt : Nat → Nat → Bool) : Prop where
  irr : ∀ i, i < n → lt i i = false
  tr : ∀ i j k, i < n → j < n → k < n → lt i j = true → lt j k = true → lt i k = true
  tot : ∀ i j, i < n → j < n → i ≠ j → lt i j = true ∨ lt j i = true
structure Pm (n : Nat) (p : Array Nat) : Prop where
  sz : p.size = n
  lt : ∀ i, i < n → pa p i < n
  inj : ∀ i j, i < n → j < n → pa p i = pa p j → i = j
  pm : p.toList.Perm (List.range n)
def Up (lt : Nat → Nat → Bool) (m : Nat) (p : Array Nat) : Prop := ∀ i j, i < j → j < m → lt (pa p i) (pa p j) = true
def Dn (lt : Nat → Nat → Bool) (m : Nat) (p : Array Nat) : Prop := ∀ i j, i < j → j < m → lt (pa p j) (pa p i) = true
section
variable {n : Nat} {lt : Nat → Nat → Bool} {cmp : Nat → Nat → (Bool → Shared → Prop) → Shared → Prop} {s : Shared}
theorem Lt.asym (L : Lt n lt) {i j : Nat} (hi : i < n) (hj : j < n) (h : lt i j = true) : lt j i = false := by
  cases e : lt j i with
  | false => rfl
  | true => have := L.tr i j i hi hj hi h e; rw [L.irr i hi] at this; cases this
theorem Lt.flip (L : Lt n lt) {i j : Nat} (hi : i < n) (hj : j < n) (ne : i ≠ j) (h : lt i j = false) : lt j i = true := by
  rcases L.tot i j hi hj ne with q | q
  · rw [h] at q; cases q
  · exact q
variable (L : Lt n lt) (hc : ∀ i j (C : Bool → Shared → Prop), i < n → j < n → C (lt i j) s → cmp i j C s)
include L hc
theorem asc_ok {p : Array Nat} (P : Pm n p) {Q : Nat → Shared → Prop} : ∀ (f m : Nat), m + f = n → 1 ≤ m → Up lt m p → (∀ m', m ≤ m' → m' ≤ n → Up lt m' p → (m' < n → lt (pa p m') (pa p (m' - 1)) = true) → Q m' s) → (kas_asc p f m).kasWp cmp Q s
  | 0, m, hf, h1, u, k => k m (Nat.le_refl _) (by omega) u fun h => by omega
  | f + 1, m, hf, h1, u, k => by
    show cmp (pa p m) (pa p (m - 1)) _ s
    have a1 := P.lt m (by omega)
    have a2 := P.lt (m - 1) (by omega)
    refine hc _ _ _ a1 a2 ?_
    cases e : lt (pa p m) (pa p (m - 1)) with
    | true =>
      simp only [if_true]
      exact k m (Nat.le_refl _) (by omega) u fun _ => e
    | false =>
      simp only [Bool.false_eq_true, if_false]
      have e2 : lt (pa p (m - 1)) (pa p m) = true := L.flip a1 a2 (fun z => by have := P.inj m (m - 1) (by omega) (by omega) z; omega) e
      refine asc_ok P f (m + 1) (by omega) (by omega) (fun i j hij hj => ?_) fun m' h2 h3 u' l' => k m' (by omega) h3 u' l'
      by_cases hjm : j = m
      · subst hjm
        by_cases hi : i = j - 1
        · subst hi; exact e2
        · exact L.tr _ _ _ (P.lt i (by omega)) a2 a1 (u i (j - 1) (by omega) (by omega)) e2
      · exact u i j hij (by omega)
theorem desc_ok {p : Array Nat} (P : Pm n p) {Q : Array Nat × Nat × Nat → Shared → Prop} : ∀ (f m : Nat), m + f = n → 2 ≤ m → Dn lt m p → (∀ m', m ≤ m' → m' ≤ n → Dn lt m' p → Q (p, m', 0) s) → (kas_desc f p m 0).kasWp cmp Q s
  | 0, m, hf, h1, u, k => k m (Nat.le_refl _) (by omega) u
  | f + 1, m, hf, h1, u, k => by
    show cmp (pa p m) (pa p (m - 1)) _ s
    have a1 := P.lt m (by omega)
    have a2 := P.lt (m - 1) (by omega)
    refine hc _ _ _ a1 a2 ?_
    cases e : lt (pa p m) (pa p (m - 1)) with
    | true =>
      simp only [if_true, gt_iff_lt, Nat.lt_irrefl, if_false]
      refine desc_ok P f (m + 1) (by omega) (by omega) (fun i j hij hj => ?_) fun m' h2 h3 u' => k m' (by omega) h3 u'
      by_cases hjm : j = m
      · subst hjm
        by_cases hi : i = j - 1
        · subst hi; exact e
        · exact L.tr _ _ _ a1 a2 (P.lt i (by omega)) e (u i (j - 1) (by omega) (by omega))
      · exact u i j hij (by omega)
    | false =>
      simp only [Bool.false_eq_true, if_false]
      have e2 : lt (pa p (m - 1)) (pa p m) = true := L.flip a1 a2 (fun z => by have := P.inj m (m - 1) (by omega) (by omega) z; omega) e
      show cmp (pa p (m - 1)) (pa p m) _ s
      refine hc _ _ _ a2 a1 ?_
      rw [e2]
      simp only [if_true]
      exact k m (Nat.le_refl _) (by omega) u
omit L hc in
theorem pa_of {p q : Array Nat} {i j : Nat} (h : p[i]? = q[j]?) : pa p i = pa q j := by
  unfold pa
  rw [Array.getD_eq_getD_getElem?, Array.getD_eq_getD_getElem?, h]
omit L hc in
theorem rev_at {p : Array Nat} {m : Nat} (hm : m ≤ p.size) (i : Nat) : pa (kas_rev p 0 m) i = if i < m then pa p (m - 1 - i) else pa p i := by
  have e := getElem?_mirror_all (xs := p) (i := 0) (j := m) hm i
  by_cases hi : i < m
  · rw [if_pos hi]
    rw [if_pos ⟨Nat.zero_le _, hi⟩] at e
    exact (pa_of e).trans (by congr 1; omega)
  · rw [if_neg hi]
    rw [if_neg (fun z => hi z.2)] at e
    exact pa_of e
omit L hc in
theorem rev_pm {p : Array Nat} (P : Pm n p) {m : Nat} (hm : m ≤ n) : Pm n (kas_rev p 0 m) := by
  have hs : m ≤ p.size := by rw [P.sz]; exact hm
  refine ⟨by show (mirror p 0 m _).size = n; rw [mirror_size]; exact P.sz, fun i hi => ?_, fun i j hi hj e => ?_, (Array.perm_iff_toList_perm.mp (mirror_perm p 0 m _)).trans P.pm⟩
  · rw [rev_at hs]
    split
    · exact P.lt _ (by omega)
    · exact P.lt _ hi
  · rw [rev_at hs, rev_at hs] at e
    split at e <;> split at e
    · have := P.inj _ _ (by omega) (by omega) e; omega
    · have := P.inj _ _ (by omega) (by omega) e; omega
    · have := P.inj _ _ (by omega) (by omega) e; omega
    · exact P.inj _ _ hi hj e
theorem tail_ok {p : Array Nat} (P : Pm n p) {Q : Nat × Array Nat → Shared → Prop} {m : Nat} (h1 : 1 ≤ m) (hm : m ≤ n) (d : Dn lt m p) (k : ∀ m' p', 1 ≤ m' → m' ≤ n → Pm n p' → Up lt m' p' → Q (m', p') s) : (kas_tail3 m n p).kasWp cmp Q s := by
  unfold kas_tail3
  rw [KasT.kasWp_bind]
  have hs : m ≤ p.size := by rw [P.sz]; exact hm
  have P' := rev_pm P hm
  refine asc_ok L hc P' (n - m) m (by omega) h1 (fun i j hij hj => ?_) fun m' h2 h3 u _ => k m' _ (by omega) h3 P' u
  rw [rev_at hs, rev_at hs, if_pos (by omega), if_pos hj]
  exact d (m - 1 - j) (m - 1 - i) (by omega) (by omega)
theorem count_ok {p : Array Nat} (P : Pm n p) (hn : 2 ≤ n) {Q : Nat × Array Nat → Shared → Prop} (k : ∀ m' p', 1 ≤ m' → m' ≤ n → Pm n p' → Up lt m' p' → Q (m', p') s) : (kas_count n p).kasWp cmp Q s := by
  unfold kas_count
  rw [KasT.kasWp_bind]
  refine asc_ok L hc P (n - 1) 1 (by omega) (Nat.le_refl _) (fun i j hij hj => by omega) fun m h1 h2 u lst => ?_
  by_cases e1 : m = n
  · rw [if_pos (by rw [e1]; exact beq_self_eq_true _)]
    exact k m p h1 h2 P u
  · rw [if_neg (by simpa using e1)]
    by_cases e2 : m > 1
    · rw [if_pos e2]
      show cmp (pa p 0) (pa p (m - 1)) _ s
      refine hc _ _ _ (P.lt _ (by omega)) (P.lt _ (by omega)) ?_
      rw [u 0 (m - 1) (by omega) (by omega)]
      simp only [if_true]
      exact k m p h1 h2 P u
    · rw [if_neg e2]
      have em : m = 1 := by omega
      subst em
      unfold kas_descPart
      rw [KasT.kasWp_bind]
      refine desc_ok L hc P (n - (1 + 1)) (1 + 1) (by omega) (by omega) (fun i j hij hj => ?_) fun m' h3 h4 d => ?_
      · have hi : i = 0 := by omega
        have hj1 : j = 1 := by omega
        subst hi; subst hj1
        exact lst (by omega)
      · simp only [gt_iff_lt, Nat.lt_irrefl, if_false]
        exact tail_ok L hc P (by omega) h4 d k
theorem place_ok {p : Array Nat} (P : Pm n p) {m : Nat} (hm : m < n) (u : Up lt m p) {Q : Nat → Shared → Prop} (k : ∀ l, l ≤ m → (∀ i, i < l → lt (pa p m) (pa p i) = false) → (∀ i, l ≤ i → i < m → lt (pa p m) (pa p i) = true) → Q l s) :
    ∀ (f l r : Nat), r ≤ l + f → l ≤ r → r ≤ m → (∀ i, i < l → lt (pa p m) (pa p i) = false) → (∀ i, r ≤ i → i < m → lt (pa p m) (pa p i) = true) → (kas_place p m f l r).kasWp cmp Q s
  | 0, l, r, hf, hlr, hr, h1, h2 => k l (by omega) h1 fun i hi => h2 i (by omega)
  | f + 1, l, r, hf, hlr, hr, h1, h2 => by
    unfold kas_place
    by_cases e : l ≥ r
    · rw [if_pos e]
      exact k l (by omega) h1 fun i hi => h2 i (by omega)
    · rw [if_neg e]
      have hmid : (l + r) / 2 < r := by omega
      have hmid2 : l ≤ (l + r) / 2 := by omega
      have a1 := P.lt m hm
      have a2 := P.lt ((l + r) / 2) (by omega)
      show cmp (pa p m) (pa p ((l + r) / 2)) _ s
      refine hc _ _ _ a1 a2 ?_
      cases ec : lt (pa p m) (pa p ((l + r) / 2)) with
      | true =>
        simp only [if_true]
        refine place_ok P hm u k f l ((l + r) / 2) (by omega) hmid2 (by omega) h1 fun i hi him => ?_
        by_cases ei : i = (l + r) / 2
        · rw [ei]; exact ec
        · exact L.tr _ _ _ a1 a2 (P.lt i (by omega)) ec (u _ _ (by omega) him)
      | false =>
        simp only [Bool.false_eq_true, if_false]
        refine place_ok P hm u k f ((l + r) / 2 + 1) r (by omega) (by omega) hr (fun i hi => ?_) h2
        by_cases ei : i = (l + r) / 2
        · rw [ei]; exact ec
        · cases e3 : lt (pa p m) (pa p i) with
          | false => rfl
          | true =>
            have := L.tr _ _ _ a1 (P.lt i (by omega)) a2 e3 (u i _ (by omega) (by omega))
            rw [ec] at this; cases this
omit L hc in
theorem bub_at {p : Array Nat} {m l : Nat} (hm : m < p.size) (hl : l ≤ m) (i : Nat) : pa (bubble p m (m - l)) i = if i = l then pa p m else if l < i ∧ i ≤ m then pa p (i - 1) else pa p i := by
  have e := getElem?_bubble hm (m - l) (by omega) i
  have hml : m - (m - l) = l := by omega
  rw [hml] at e
  by_cases h1 : i = l
  · rw [if_pos h1] at e ⊢; exact pa_of e
  · rw [if_neg h1] at e ⊢
    by_cases h2 : l < i ∧ i ≤ m
    · rw [if_pos h2] at e ⊢; exact pa_of e
    · rw [if_neg h2] at e ⊢; exact pa_of e
omit L hc in
theorem bub_pm {p : Array Nat} (P : Pm n p) {m l : Nat} (hm : m < n) (hl : l ≤ m) : Pm n (bubble p m (m - l)) := by
  have hs : m < p.size := by rw [P.sz]; exact hm
  refine ⟨by rw [bubble_size]; exact P.sz, fun i hi => ?_, fun i j hi hj e => ?_, (Array.perm_iff_toList_perm.mp (bubble_perm p m _)).trans P.pm⟩
  · rw [bub_at hs hl]
    repeat' split
    all_goals exact P.lt _ (by omega)
  · rw [bub_at hs hl, bub_at hs hl] at e
    repeat' split at e
    all_goals (have := P.inj _ _ (by omega) (by omega) e; omega)
theorem bin_ok {Q : Array Nat → Shared → Prop} (k : ∀ p', Pm n p' → Up lt n p' → Q p' s) : ∀ (f m : Nat) (p : Array Nat), Pm n p → m + f = n → Up lt m p → (kas_bin f p m).kasWp cmp Q s
  | 0, m, p, P, hf, u => by
    have : m = n := by omega
    subst this
    exact k p P u
  | f + 1, m, p, P, hf, u => by
    unfold kas_bin
    rw [KasT.kasWp_bind]
    have hm : m < n := by omega
    have hs : m < p.size := by rw [P.sz]; exact hm
    refine place_ok L hc P hm u (fun l hl g1 g2 => ?_) m 0 m (by omega) (Nat.zero_le _) (Nat.le_refl _) (fun i hi => by omega) fun i hi hi2 => by omega
    have P' := bub_pm P hm hl
    refine bin_ok k f (m + 1) _ P' (by omega) fun i j hij hj => ?_
    rw [bub_at hs hl, bub_at hs hl]
    have am := P.lt m hm
    have low : ∀ a, a < l → lt (pa p a) (pa p m) = true := fun a ha => L.flip am (P.lt a (by omega)) (fun z => by have := P.inj m a hm (by omega) z; omega) (g1 a ha)
    repeat' split
    all_goals first
      | (exfalso; omega)
      | exact g2 _ (by omega) (by omega)
      | exact low _ (by omega)
      | exact u _ _ (by omega) (by omega)
theorem sort_ok (hn : 2 ≤ n) {Q : Array Nat → Shared → Prop} (k : ∀ p', Pm n p' → Up lt n p' → Q p' s) : (kas_sort n).kasWp cmp Q s := by
  unfold kas_sort
  rw [KasT.kasWp_bind]
  have P0 : Pm n (List.toArray (List.range n)) := by
    have hat : ∀ i, i < n → pa (List.toArray (List.range n)) i = i := fun i hi => by simp [pa, Array.getD, hi]
    refine ⟨by simp, fun i hi => by rw [hat i hi]; exact hi, fun i j hi hj e => ?_, by simp⟩
    rw [hat i hi, hat j hj] at e; exact e
  refine count_ok L hc P0 hn fun m p' h1 h2 P' u => ?_
  dsimp only
  by_cases e : m < n
  · rw [if_pos e]
    have : max m 1 = m := by omega
    rw [this]
    exact bin_ok L hc k (n - m) m p' P' (by omega) u
  · rw [if_neg e]
    have : m = n := by omega
    subst this
    exact k p' P' u
end
end Ev

namespace Ev
open PySem PySem.Spec PyProof.Rows PySem.W
set_option autoImplicit false
/-- vs are tuples of ints, none of them empty -/
inductive TupsAt (h : Heap) : List Value → List (List Int) → Prop
  | nil : TupsAt h [] []
  | cons {a : Addr} {o : Obj} {its : List Value} {n : Nat} {k : Int} {ns : List Int} {vs : List Value} {nss : List (List Int)} : h.get? a = some o → o.cls = .type "tuple" → o.data = .seq its.toArray n → IntsAre its (k :: ns) → TupsAt h vs nss → TupsAt h (.ref a :: vs) ((k :: ns) :: nss)
theorem TupsAt.len {h : Heap} {vs : List Value} {nss : List (List Int)} (t : TupsAt h vs nss) : vs.length = nss.length := by
  induction t with
  | nil => rfl
  | cons _ _ _ _ _ ih => simp [ih]
theorem TupsAt.keep {h h' : Heap} {vs : List Value} {nss : List (List Int)} (t : TupsAt h vs nss) (k : ∀ b o, .ref b ∈ vs → h.get? b = some o → h'.get? b = some o) : TupsAt h' vs nss := by
  induction t with
  | nil => exact .nil
  | cons h1 h2 h3 h4 t ih => exact .cons (k _ _ List.mem_cons_self h1) h2 h3 h4 (ih fun b o hb => k b o (List.mem_cons_of_mem _ hb))
theorem TupsAt.get {h : Heap} {vs : List Value} {nss : List (List Int)} (t : TupsAt h vs nss) : ∀ {i : Nat}, i < nss.length → ∃ a o its n, vs.getD i Value.none = .ref a ∧ h.get? a = some o ∧ o.data = .seq (List.toArray its) n ∧ IntsAre its (nss.getD i []) := by
  induction t with
  | nil => intro i hi; simp at hi
  | @cons a o its n k ns vs nss h1 h2 h3 h4 t ih =>
    intro i hi
    cases i with
    | zero => exact ⟨a, o, its, n, rfl, h1, h3, h4⟩
    | succ i =>
      have := ih (i := i) (by simpa using hi)
      simpa using this
theorem TupsAt.firsts {h : Heap} {vs : List Value} {nss : List (List Int)} (t : TupsAt h vs nss) : ∃ fs : List Value, fs.length = vs.length ∧ KatTups h vs fs ∧ ∀ v ∈ fs, ∃ i t, v = .int i t := by
  induction t with
  | nil => exact ⟨[], rfl, .nil, fun v hv => by simp at hv⟩
  | @cons a o its n k ns vs nss h1 h2 h3 h4 t ih =>
    obtain ⟨fs, g1, g2, g3⟩ := ih
    cases h4 with
    | cons _ tk r =>
      refine ⟨.int k tk :: fs, by simp [g1], .cons h1 h2 h3 (by simp) g2, fun v hv => ?_⟩
      rcases List.mem_cons.mp hv with e | hv
      · exact ⟨k, tk, e⟩
      · exact g3 v hv
section
variable {prog : Program} {w : World} {A : Around} {E : Value → Shared → Prop} {s : Shared}
theorem lex_ok {Q : Bool → Shared → Prop} {b : Bool} : ∀ {ns ms : List Int} {xs ys : List Value} {i : Nat}, IntsAre xs ns → IntsAre ys ms → Q (HT.lexLt ns ms) s → KatLex prog w A b (decide (ns.length < ms.length)) Q (xs.zip ys) i s
  | [], [], _, _, _, .nil, .nil, h => h
  | [], _ :: _, _, _, _, .nil, .cons .., h => h
  | n :: ns, [], _, _, _, .cons .., .nil, h => by
    rw [List.zip_nil_right]
    have e : decide ((n :: ns).length < ([] : List Int).length) = false := by simp
    rw [e]
    exact h
  | n :: ns, m :: ms, _, _, i, .cons _ t r, .cons _ u r', h => by
    rw [List.zip_cons_cons]
    refine kat_cons (wpAny_eqBool_int ?_)
    have hl : decide ((n :: ns).length < (m :: ms).length) = decide (ns.length < ms.length) := by simp
    rw [hl]
    by_cases e : n = m
    · subst e
      rw [beq_self_eq_true]
      rw [HT.lexLt_cons, if_pos rfl] at h
      exact kat_yes (lex_ok r r' h)
    · rw [beq_eq_false_iff_ne.mpr e]
      rw [HT.lexLt_cons, if_neg e] at h
      refine kat_no ?_
      cases hb : (b && i == 0) with
      | true => exact oneLt_int h
      | false => exact kat_one _ _ (lt_int h)
theorem ask_ok {vs : List Value} {nss : List (List Int)} (t : TupsAt s.heap vs nss) (b : Bool) : ∀ i j (C : Bool → Shared → Prop), i < nss.length → j < nss.length → C (HT.lexLt (nss.getD i []) (nss.getD j [])) s → kas_ask prog w A (tuples' b) vs i j C s := by
  intro i j C hi hj h
  obtain ⟨a, o, its, n, e1, e2, e3, e4⟩ := t.get hi
  obtain ⟨a', o', its', n', f1, f2, f3, f4⟩ := t.get hj
  unfold kas_ask
  rw [e1, f1]
  refine kat_lt e2 e3 f2 f3 ?_
  rw [List.size_toArray, List.size_toArray, e4.length, f4.length]
  exact lex_ok e4 f4 h
end
theorem lex_irr : ∀ ns : List Int, HT.lexLt ns ns = false
  | [] => rfl
  | n :: ns => by rw [HT.lexLt_cons, if_pos rfl]; exact lex_irr ns
theorem lex_tr : ∀ {a b c : List Int}, HT.lexLt a b = true → HT.lexLt b c = true → HT.lexLt a c = true
  | [], [], _, h, _ => by simp [HT.lexLt] at h
  | [], _ :: _, [], _, h => by simp [HT.lexLt] at h
  | [], _ :: _, _ :: _, _, _ => rfl
  | _ :: _, [], _, h, _ => by simp [HT.lexLt] at h
  | _ :: _, _ :: _, [], _, h => by simp [HT.lexLt] at h
  | x :: a, y :: b, z :: c, h1, h2 => by
    rw [HT.lexLt_cons] at h1 h2 ⊢
    by_cases e1 : x = y
    · subst e1
      rw [if_pos rfl] at h1
      by_cases e2 : x = z
      · subst e2
        rw [if_pos rfl] at h2 ⊢
        exact lex_tr h1 h2
      · rw [if_neg e2] at h2 ⊢; exact h2
    · rw [if_neg e1] at h1
      have h1 := of_decide_eq_true h1
      by_cases e2 : y = z
      · subst e2
        rw [if_neg e1]; exact decide_eq_true h1
      · rw [if_neg e2] at h2
        have h2 := of_decide_eq_true h2
        rw [if_neg (by omega)]
        exact decide_eq_true (by omega)
theorem lex_tot : ∀ {a b : List Int}, a ≠ b → HT.lexLt a b = true ∨ HT.lexLt b a = true
  | [], [], h => absurd rfl h
  | [], _ :: _, _ => .inl rfl
  | _ :: _, [], _ => .inr rfl
  | x :: a, y :: b, h => by
    rw [HT.lexLt_cons, HT.lexLt_cons]
    by_cases e : x = y
    · subst e
      rw [if_pos rfl, if_pos rfl]
      exact lex_tot fun z => h (by rw [z])
    · rw [if_neg e, if_neg (Ne.symm e)]
      by_cases h1 : x < y
      · exact .inl (decide_eq_true h1)
      · exact .inr (decide_eq_true (by omega))
theorem getD_at {α : Type} {l : List α} {i : Nat} {d : α} (h : i < l.length) : l.getD i d = l[i] := by simp [List.getD, h]
theorem lt_of_nodup {nss : List (List Int)} (hn : nss.Nodup) : Lt nss.length (fun i j => HT.lexLt (nss.getD i []) (nss.getD j [])) where
  irr := fun i _ => lex_irr _
  tr := fun i j k _ _ _ h1 h2 => lex_tr h1 h2
  tot := fun i j hi hj ne => lex_tot fun e => ne (by
    rw [getD_at hi, getD_at hj] at e
    exact (List.getElem_inj hn).mp e)
/-- the list, sorted -/
def sortT (nss : List (List Int)) : List (List Int) := nss.mergeSort fun a b => !HT.lexLt b a
theorem sortT_eq {nss out : List (List Int)} (hp : out.Perm nss) (hs : out.Pairwise fun a b => HT.lexLt b a = false) : out = sortT nss := by
  refine List.Perm.eq_of_pairwise (le := fun a b => HT.lexLt b a = false) (fun a b _ _ h h' => ?_) hs ?_ (hp.trans (List.mergeSort_perm nss _).symm)
  · by_cases e : a = b
    · exact e
    · rcases lex_tot e with q | q
      · rw [h'] at q; cases q
      · rw [h] at q; cases q
  · have := List.pairwise_mergeSort (le := fun (a b : List Int) => !HT.lexLt b a) (fun a b c h1 h2 => ?_) (fun a b => ?_) nss
    · exact this.imp fun h => by simpa using h
    · simp only [Bool.not_eq_true'] at h1 h2 ⊢
      cases e : HT.lexLt c a with
      | false => rfl
      | true =>
        by_cases e1 : b = c
        · subst e1; rw [h1] at e; cases e
        · rcases lex_tot e1 with q | q
          · have := lex_tr q e; rw [h1] at this; cases this
          · rw [h2] at q; cases q
    · simp only [Bool.or_eq_true, Bool.not_eq_true']
      cases e : HT.lexLt b a with
      | false => exact .inl rfl
      | true =>
        refine .inr ?_
        cases e2 : HT.lexLt a b with
        | false => rfl
        | true => have := lex_tr e e2; rw [lex_irr] at this; cases this
/-- the places as the sort leaves them -/
theorem out_eq {nss : List (List Int)} {p : Array Nat} (P : Pm nss.length p) (u : Up (fun i j => HT.lexLt (nss.getD i []) (nss.getD j [])) nss.length p) : (p.toList.map fun i => nss.getD i []) = sortT nss := by
  have hl : p.toList.length = nss.length := by simpa using P.sz
  have hat : ∀ i (h : i < p.toList.length), p.toList[i] = pa p i := fun i h => by
    have : i < p.size := by simpa using h
    simp [pa, Array.getD, this]
  have hpm : p.toList.Perm (List.range nss.length) := P.pm
  refine sortT_eq ?_ ?_
  · have h1 := hpm.map fun i => nss.getD i []
    have h2 : (List.range nss.length).map (fun i => nss.getD i []) = nss := by
      refine List.ext_getElem (by simp) fun i h1 h2 => ?_
      simp only [List.getElem_map, List.getElem_range]
      exact getD_at h2
    rw [h2] at h1
    exact h1
  · rw [List.pairwise_map, List.pairwise_iff_getElem]
    intro i j hi hj hij
    rw [hat i hi, hat j hj]
    have := u i j hij (by omega)
    cases e : HT.lexLt (nss.getD (pa p j) []) (nss.getD (pa p i) []) with
    | false => rfl
    | true => have := lex_tr this e; rw [lex_irr] at this; cases this
end Ev

namespace Ev
open PySem PySem.Spec PyProof.Rows PySem.W
set_option autoImplicit false
/-- out is vs, its tuples rising -/
def SortOut (vs : List Value) (nss : List (List Int)) (out : List Value) : Prop := ∃ p : List Nat, (∀ i ∈ p, i < nss.length) ∧ out = p.map (fun i => vs.getD i Value.none) ∧ p.map (fun i => nss.getD i []) = sortT nss
theorem sortOut_small {vs : List Value} {nss : List (List Int)} (hl : vs.length = nss.length) (h : nss.length < 2) : SortOut vs nss vs := by
  match nss, vs, hl, h with
  | [], [], _, _ => exact ⟨[], fun i hi => by simp at hi, rfl, by simp [sortT]⟩
  | [n], [v], _, _ => exact ⟨[0], fun i hi => by simp at hi; subst hi; simp, rfl, by simp [sortT]⟩
section
variable {prog : Program} {w : World} {A : Around} {E : Value → Shared → Prop} {s : Shared}
theorem lsort {a : Addr} {vs : List Value} {nss : List (List Int)} {n : Nat} {R : PySem.Fin → Shared → Prop} (ho : s.heap.get? a = some (seqObj "list" vs.toArray n)) (t : TupsAt s.heap vs nss) (ha : Value.ref a ∉ vs) (hn : nss.Nodup) (h64 : vs.length < 64)
    (h : ∀ out : List Value, out.length = vs.length → SortOut vs nss out → R (.done (.ret .none)) { s with heap := sortedHeap s.heap a vs out.toArray }) : wpAny (model prog w) A (Builtin.«list.sort» ⟨[.ref a], []⟩) R E s := by
  have hlen := t.len
  have hsl : sizeLine = 16777216 := sizeLine_eq
  have hlt : a < s.heap.objs.size := Heap.lt_size ho
  have hv : vs.toArray.size = vs.length := by simp
  rw [list_sort_plain]
  refine wpAny_bind (listItems_at ho rfl (wpAny_bind (listUpdate_at ho rfl ?_ (by omega) (Nat.zero_le _))))
  generalize hg : (s.heap.update a (Obj.mapSeq fun _ => (#[] : Array Value))) = g
  obtain ⟨c1, g1⟩ : ∃ c1, g.get? a = some (seqObj "list" #[] c1) := ⟨_, by rw [← hg]; exact get?_update_seq ho fun _ => #[]⟩
  have gs : g.objs.size = s.heap.objs.size := by rw [← hg, Heap.size_update]
  have go : ∀ b o, b ≠ a → s.heap.get? b = some o → g.get? b = some o := fun b o hb e => by rw [← hg]; exact (Heap.get?_update_other _ _ (Ne.symm hb)).trans e
  refine wpAny_bind (seqEpoch_at g1 rfl (wpAny_bind (wpAny_newTuple (wpAny_bind (wpAny_newList (wpAny_holding ?_) (Nat.zero_le _))) (by show vs.length ≤ _; omega))))
  generalize hk : (g.push (seqObj "tuple" vs.toArray 0)).push (seqObj "list" #[] 0) = k
  have ko : ∀ b o, g.get? b = some o → k.get? b = some o := fun b o e => by rw [← hk]; exact Heap.get?_push_of_some _ (Heap.get?_push_of_some _ e)
  have k1 := ko _ _ g1
  show wpAny (model prog w) A _ R E { s with heap := k }
  dsimp only
  have fin : ∀ out : List Value, out.length = vs.length → SortOut vs nss out → R (.done (.ret .none)) { s with heap := k.update a (Obj.mapSeq fun _ => out.toArray) } := fun out ol so => by
    have := h out ol so
    unfold sortedHeap at this
    rw [hg, hk] at this
    exact this
  by_cases h2 : vs.toArray.size < 2
  · rw [if_pos h2, if_pos h2]
    refine wpAny_bind (wpAny_pure ?_)
    rw [StateT.run_pure]
    refine wpAny_bind (wpAny_pure ?_)
    dsimp only
    have hz : (vs.toArray.zip vs.toArray).map (·.2) = vs.toArray := by
      apply Array.toList_inj.mp
      simp [List.map_snd_zip]
    refine wpAny_bind (seqEpoch_at k1 rfl (wpAny_bind (listUpdate_at k1 rfl ?_ (Nat.zero_le _) ?_)))
    · simp only [bne_self_eq_false, Bool.false_eq_true, if_false]
      show wpAny _ _ _ _ _ { s with heap := k.update a (Obj.mapSeq fun _ => (vs.toArray.zip vs.toArray).map (·.2)) }
      rw [hz]
      exact wpAny_pure (fin vs rfl (sortOut_small hlen (by omega)))
    · show ((vs.toArray.zip vs.toArray).map (·.2)).size ≤ sizeLine + 1
      rw [hz]; omega
  · rw [if_neg h2, if_neg h2]
    have tk : TupsAt k vs nss := t.keep fun b o hb e => ko b o (go b o (fun z => ha (by rw [← z]; exact hb)) e)
    obtain ⟨fs, f1, f2, f3⟩ := tk.firsts
    have kk : ∀ (Qk : SortKind → Shared → Prop), Qk (tuples' (Value.type "int" != Value.type "tuple")) { s with heap := k } → wpAny (model prog w) A (keyKind' vs.toArray) Qk E { s with heap := k } := fun Qk hq =>
      kat_kind (s := { s with heap := k }) (fs := fs) (T := .type "int") f2 (by omega) (fun v hv => by obtain ⟨i, tt, rfl⟩ := f3 v hv; exact Looks.of_pure rfl) (by decide) hq
    refine wpAny_bind (kk _ (wpAny_bind (wpAny_mono (kat_run (s := { s with heap := k }) (ks := vs) (vs := vs) (G := fun p s' => s' = { s with heap := k } ∧ Pm vs.length p ∧ SortOut vs nss (p.toList.map fun i => vs.getD i Value.none))
      (Q := fun st' s' => s' = { s with heap := k } ∧ ∃ p : Array Nat, Pm vs.length p ∧ SortOut vs nss (p.toList.map fun i => vs.getD i Value.none) ∧ arrOf st' = p.map (kas_item (vs.toArray.zip vs.toArray)) ∧ failedOf st' = none)
      rfl (by omega) h64 (fun p st' s' a1 a2 a3 a4 => ⟨a4.1, p, a4.2.1, a4.2.2, a2, a3⟩) ?_) ?_ fun _ _ e => e)))
    · rw [hlen]
      refine sort_ok (lt_of_nodup hn) (ask_ok (s := { s with heap := k }) tk _) (by omega) fun p P u => ⟨rfl, P, p.toList, fun i hi => ?_, rfl, out_eq P u⟩
      have := P.pm.mem_iff.mp hi
      exact List.mem_range.mp this
    · rintro ⟨⟨⟩, st'⟩ s' ⟨rfl, p, P, so, har, hf⟩
      dsimp only
      have hout := kat_snds (ks := vs) (vs := vs) rfl har
      have hsz : (p.toList.map fun i => vs.getD i Value.none).length = vs.length := by rw [List.length_map, Array.length_toList, P.sz]
      rw [hout]
      refine wpAny_bind (seqEpoch_at k1 rfl (wpAny_bind (listUpdate_at k1 rfl ?_ (Nat.zero_le _) (by rw [List.size_toArray, hsz]; omega))))
      rw [hf]
      simp only [bne_self_eq_false, Bool.false_eq_true, if_false]
      exact wpAny_pure (fin _ hsz so)
theorem sorted_tups {l : Addr} {vs : List Value} {nss : List (List Int)} {Q : Value → Shared → Prop} (hl : s.heap.IsList l vs.toArray) (t : TupsAt s.heap vs nss) (hn : nss.Nodup) (h64 : vs.length < 64)
    (h : ∀ out : List Value, out.length = vs.length → SortOut vs nss out → Q (.ref (s.heap.objs.size + 1)) { s with heap := sortedAll s.heap vs out.toArray }) : wpAny (model prog w) A (call (.builtin "sorted") [.ref l]) Q E s := by
  have hsl : sizeLine = 16777216 := sizeLine_eq
  refine Calls.call_function_entry kind_sorted plain_sorted entry_sorted (args_sorted1 _) ?_
  unfold Builtin.«sorted»
  refine wpAny_bind (m := checkCount "sorted" 1 1 _) (wpAny_pure (wpAny_bind (collect_list hl ?_ (by omega))))
  refine wpAny_bind (wpAny_newList ?_ (by omega))
  generalize hg : (s.heap.push (seqObj "list" #[] 0)).update s.heap.objs.size (Obj.mapSeq (· ++ vs.toArray)) = g
  have gs : g.objs.size = s.heap.objs.size + 1 := by rw [← hg, Heap.size_update, size_push']
  have go : ∀ b o, s.heap.get? b = some o → g.get? b = some o := fun b o e => by
    rw [← hg, Heap.get?_update_ne _ _ _ _ (Nat.ne_of_lt (Heap.lt_size e))]
    exact Heap.get?_push_of_some _ e
  have hL : (g.push (seqObj "list" vs.toArray 0)).get? (s.heap.objs.size + 1) = some (seqObj "list" vs.toArray 0) := by
    rw [← gs]; exact Heap.get?_push_size _ rfl
  show wpAny _ _ _ _ _ { s with heap := g.push (seqObj "list" vs.toArray 0) }
  rw [gs]
  have tk : TupsAt (g.push (seqObj "list" vs.toArray 0)) vs nss := t.keep fun b o _ e => Heap.get?_push_of_some _ (go b o e)
  have hnot : ∀ {vs : List Value} {nss : List (List Int)}, TupsAt s.heap vs nss → Value.ref (s.heap.objs.size + 1) ∉ vs := by
    intro vs nss t
    induction t with
    | nil => simp
    | cons h1 _ _ _ _ ih =>
      intro hm
      rcases List.mem_cons.mp hm with e | hm
      · have := Heap.lt_size h1
        rw [← Value.ref.inj e] at this
        exact absurd this (Nat.not_lt.mpr (Nat.le_succ _))
      · exact ih hm
  refine wpAny_bind (wpAny_holding (wpAny_call_entry slot_list_sort ⟨_, hL, rfl⟩ entry_list_sort (lsort (s := { s with heap := g.push (seqObj "list" vs.toArray 0) }) hL tk (hnot t) hn h64 fun out ol so => ⟨_, rfl, ?_⟩) (args_list_sort _)))
  have := h out ol so
  unfold sortedAll at this
  rw [hg] at this
  exact wpAny_pure ⟨_, rfl, this⟩
end
end Ev
namespace Ev
open PySem PySem.Spec PyProof.Rows L2
set_option autoImplicit false
/-- a list of tuples of ints, in the abstract heap -/
def TupsH (H : Hp) (vs : List V) (nss : List (List Int)) : Prop := Paired (fun (v : V) (ns : List Int) => ∃ b, v = .ref b ∧ H b = some (.tup (ns.map V.int)) ∧ ns ≠ []) vs nss
theorem ints_of_vals {ns : List Int} {us : List Value} (h : Vals (ns.map V.int) us) : IntsAre us ns := intsAre_of h
theorem TupsH.at {X : Cx} {pins : List (Addr × Obj)} {σ : L2.St} {H : Hp} {s : Shared} (I : Inv X pins σ H s) {vs : List V} {nss : List (List Int)} (t : TupsH H vs nss) : ∀ {us : List Value}, Vals vs us → TupsAt s.heap us nss := by
  induction t with
  | nil => intro us r; cases r; exact .nil
  | @cons v ns vs nss h t ih =>
    intro us r
    obtain ⟨b, rfl, hb, hne⟩ := h
    cases r with
    | cons r1 r2 =>
      cases r1
      obtain ⟨z, its, rv, o, h1, h2, n, h3⟩ := (show ObjOk X.prog X.w H s.heap b (.tup (ns.map V.int)) from I.hok b _ hb)
      have hi := ints_of_vals rv
      cases ns with
      | nil => exact absurd rfl hne
      | cons k ns => exact .cons h1 h2 h3 hi (ih r2)
theorem paired_get2 {H : Hp} {vs : List V} {nss : List (List Int)} : ∀ {i : Nat} {v : V}, TupsH H vs nss → vs[i]? = some v → ∃ ns, nss[i]? = some ns ∧ ∃ b, v = .ref b ∧ H b = some (.tup (ns.map V.int)) ∧ ns ≠ [] := by
  intro i v t
  induction t generalizing i with
  | nil => intro e; simp at e
  | cons h t ih =>
    intro e
    cases i with
    | zero => simp at e; subst e; exact ⟨_, rfl, h⟩
    | succ i => simpa using ih (i := i) (by simpa using e)
theorem call_sortedT {X : Cx} : CallR X (.builtin "sorted") (fun xs H Q => ∃ a vs nss, xs = [.ref a] ∧ H a = some (.lst vs) ∧ TupsH H vs nss ∧ nss.Nodup ∧ nss.length < 64 ∧ ∀ p vs', H p = none → TupsH H vs' (sortT nss) → Q (.ref p) (upd H p (.lst vs'))) := by
  intro pins s σ H xs us Q I r ⟨a, vs, nss, e, ha, t, hn, h64, q⟩
  subst e
  obtain ⟨u, rfl, rx⟩ := vals1 r
  cases rx
  obtain ⟨its, rv, pl, hz⟩ := I.list (SqL.of ha)
  have hlen : vs.length = nss.length := Paired.length t
  have hl2 := rv.length
  refine sorted_tups pl.isList (t.at I rv) hn (by omega) fun out ol ⟨p, hp, eo, es⟩ => ?_
  obtain ⟨c, hc⟩ := PyProof.Rows.sortedAll_at s.heap its out.toArray
  have hg : ∀ i, i < nss.length → ∃ v, vs[i]? = some v ∧ RelV v (its.getD i Value.none) ∧ ∃ b, v = .ref b ∧ H b = some (.tup ((nss.getD i []).map V.int)) ∧ nss.getD i [] ≠ [] := fun i hi => by
    have hv : vs[i]? = some vs[i] := by simp [hlen, hi]
    obtain ⟨u, hu, ru⟩ := rv.get hv
    obtain ⟨ns, h1, h2⟩ := paired_get2 t hv
    have e1 : its.getD i Value.none = u := by rw [List.getD_eq_getElem?_getD, hu]; rfl
    have e2 : nss.getD i [] = ns := by rw [List.getD_eq_getElem?_getD, h1]; rfl
    rw [e1, e2]
    exact ⟨_, hv, ru, h2⟩
  have build : ∀ p : List Nat, (∀ i ∈ p, i < nss.length) → ∃ vs', Vals vs' (p.map fun i => its.getD i Value.none) ∧ TupsH H vs' (p.map fun i => nss.getD i []) := by
    intro p
    induction p with
    | nil => intro _; exact ⟨[], .nil, .nil⟩
    | cons i p ih =>
      intro hp
      obtain ⟨vs', g1, g2⟩ := ih fun j hj => hp j (List.mem_cons_of_mem _ hj)
      obtain ⟨v, _, h2, h3⟩ := hg i (hp i List.mem_cons_self)
      exact ⟨v :: vs', .cons h2 g1, .cons h3 g2⟩
  obtain ⟨vs', g1, g2⟩ := build p hp
  rw [es] at g2
  rw [← eo] at g1
  have hsz : vs'.length ≤ sizeLine := by rw [g1.length, ol, ← hl2]; exact hz
  exact ⟨.ref _, upd H (s.heap.objs.size + 1) (.lst vs'), I.laid (t' := s.toks) (fun _ _ => PyProof.Rows.sortedAll_old) (Nat.le_succ _) ⟨hsz, out, c, g1, hc⟩, rfl, q _ vs' (I.hok.fresh (Nat.le_succ _)) g2⟩
end Ev

namespace Ev
open PySem PySem.Spec PyProof.Rows L2
set_option autoImplicit false
theorem erase_map {α β : Type} (f : α → β) : ∀ (l : List α) (i : Nat), (l.map f).eraseIdx i = (l.eraseIdx i).map f
  | [], _ => rfl
  | _ :: _, 0 => rfl
  | a :: r, i + 1 => congrArg (f a :: ·) (erase_map f r i)
section
variable {prog : Program} {w : World} {K : Type} [DecidableEq K] {knd : HeapKind prog w K} {A : Around} {E : Value → Shared → Prop} {s : Shared}
theorem takeOutH {d a : Addr} {xs : List (K × Addr × Value)} {k : K} {Q : Option DictEntry → Shared → Prop} (hu : knd.room A) (hkey : knd.is s.heap k a) (hm : s.heap.DictOfH knd d xs) (hsz : xs.length ≤ sizeLine)
    (hnone : (∀ (j : Nat) (p : Addr × Value), xs[j]? ≠ some (k, p)) → Q none { s with toks := s.toks + knd.draws k })
    (hsome : ∀ (j : Nat) (p : Addr × Value), xs[j]? = some (k, p) → ∀ h', h'.DictOfH knd d (xs.eraseIdx j) → Heap.SameBut d s.heap h' → Q (some (entryOfKey knd (k, p))) { s with heap := h', toks := s.toks + knd.draws k }) :
    wpAny (model prog w) A (Builtin.Dict.takeOut d (.ref a)) Q E s := by
  obtain ⟨o, es, ep, ho, hc, hd, he, his, hn⟩ := hm
  unfold Builtin.Dict.takeOut
  try with_reducible refine wpAny_holding ?_
  refine wpAny_bind (knd.pyHash hu hkey (wpAny_bind (wpAny_dictFind_heap (s := { s with toks := s.toks + knd.draws k }) hu hkey ho hd he his hn (fun hno => wpAny_pure (hnone hno)) fun j p hj => ?_)))
  refine wpAny_bind (wpAny_dictEntries (s := { s with toks := s.toks + knd.draws k }) ho hd ?_)
  rw [entry_at he j, hj]
  have hz : es.size ≤ sizeLine := by rw [size_of_entries he]; exact hsz
  refine wpAny_bind (wpAny_updateDictKeys (hz := hz) (s := { s with toks := s.toks + knd.draws k }) ho hd (wpAny_pure (hsome j p hj _ ⟨_, _, ep + 1, Heap.get?_update_self _ ho (Obj.isFreed_of_dict (Obj.data_mapDictKeys hd _)),
      hc.mapDictKeys _, Obj.data_mapDictKeys hd _, ?_, fun x hx => knd.keeps (his x (List.mem_of_mem_eraseIdx hx)) ho hd (Heap.SameBut.update ..), ?_⟩ (Heap.SameBut.update ..))))
  · obtain ⟨l⟩ := es
    simp only [List.eraseIdxIfInBounds_toArray] at he ⊢
    rw [he, erase_map]
  · rw [← erase_map]; exact hn.sublist (List.eraseIdx_sublist _ _)
theorem meetsH_pop {d a : Addr} (hd : (d == sysModules) = false) (dflt : Value) :
    MeetsIn prog w (Builtin.«dict.pop» ⟨[.ref d, .ref a, dflt], []⟩) (fun A R s => knd.room A.in1 ∧ ∃ k xs, knd.is s.heap k a ∧ s.heap.DictOfH knd d xs ∧ xs.length ≤ sizeLine ∧
      ((∀ (j : Nat) (p : Addr × Value), xs[j]? ≠ some (k, p)) → ∀ tk, R (.ok (.ret dflt)) { s with toks := tk }) ∧
      ∀ (j : Nat) (p : Addr × Value), xs[j]? = some (k, p) → ∀ h' tk, h'.DictOfH knd d (xs.eraseIdx j) → Heap.SameBut d s.heap h' → R (.ok (.ret p.2)) { s with heap := h', toks := tk }) :=
  .of_wp fun A R s ⟨hu, k, xs, hkey, hm, hsz, h1, h2⟩ => by
    have hm0 := hm
    obtain ⟨o, es, ep, ho, hc, hdat, he, his, hn⟩ := hm0
    unfold Builtin.«dict.pop»
    refine wpAny_bind ?_
    unfold Builtin.Dict.keyAndDefault
    refine wpAny_bind (wpAny_notOrdered_dict hm.typeIs ?_)
    show wpAny _ _ (pure (d, Value.ref a, some dflt)) _ _ s
    refine wpAny_pure ?_
    have hkp : (keyPart (Value.ref a)).isSome = false := rfl
    simp only [hkp, Bool.false_eq_true, if_false]
    refine wpAny_bind (wpAny_dictEntries ho hdat (wpAny_bind (wpAny_pure ?_)))
    have nil_case : xs = [] → ∀ (j : Nat) (p : Addr × Value), xs[j]? ≠ some (k, p) := fun e j p z => by rw [e] at z; simp at z
    cases hx : xs with
    | nil =>
      have hes : es.isEmpty = true := by
        have := size_of_entries he
        rw [hx] at this
        simpa [Array.isEmpty] using this
      rw [hes]
      simp only [if_true]
      refine wpAny_bind (wpAny_rule (wpAny_bind (wpAny_pure ?_)))
      simp only [Option.isNone_none, if_true]
      exact wpAny_bind (wpAny_missedRemoval_other hd (wpAny_bind (wpAny_rule (wpAny_pure ⟨dflt, rfl, h1 (nil_case hx) s.toks⟩))))
    | cons x0 xr =>
      have hes : es.isEmpty = false := by
        have := size_of_entries he
        rw [hx] at this
        simp only [Array.isEmpty, this]
        simp
      rw [hes]
      simp only [Bool.false_eq_true, if_false]
      refine wpAny_bind (takeOutH hu hkey hm hsz (fun hno => ?_) fun j p hj h' hm' hs' => ?_)
      · simp only [Option.isNone_none, if_true]
        exact wpAny_bind (wpAny_missedRemoval_other hd (wpAny_bind (wpAny_rule (wpAny_pure ⟨dflt, rfl, h1 hno _⟩))))
      · simp only [Option.isNone_some, Bool.false_eq_true, if_false]
        exact wpAny_bind (wpAny_letGo (wpAny_pure ⟨_, rfl, h2 j p hj h' _ hm' hs'⟩))
end

/-! ### list(d): the keys -/
section
variable {prog : Program} {w : World} {d : Addr} {o : Obj} {es : Array DictEntry} {ep : Nat}
theorem walks_keys {A : Around} (hh : A.handled = none) (I : Addr) (hne : d ≠ I) (hod : o.data = .dict es ep) :
    Walks prog w A I [I, d] [I] es.size (fun i v => ∃ en, es[i]? = some en ∧ v = en.key) (fun i h => h.IsKeyIter I d i es.size ep ∧ h.get? d = some o) where
  sub := fun b hb => by simp at hb; simp [hb]
  frame := fun _ _ _ st hk => ⟨st.1.at fun o e => hk I (by simp) o e, hk d (by simp) o st.2⟩
  item := fun i s Q E hi st hQ => by
    have hx : es[i]? = some es[i] := by simp [hi]
    refine next_key_item st.1 st.2 hod rfl hx fun h' hit' hs' => ?_
    exact hQ _ h' s.toks ⟨_, hx, rfl⟩ ⟨hit', (hs'.2 d hne).trans st.2⟩ fun b o hb e => (hs'.2 b (fun h => hb (by simp [h]))).trans e
  done := fun s Q E st hQ => next_key_end hh st.1 st.2 hod rfl (Nat.le_refl _) fun h' he' => hQ h' s.toks fun b o hb e => he' b o (fun h => hb (by simp [h])) e
  self := fun _ _ _ _ st hQ => wpAny_pyIter_keyiter st.1 hQ
theorem src_keys (hs : (d == sysModules) = false) (hc : o.ExactDict) (hod : o.data = .dict es ep) : PySem.W.KdlSrc prog w "dict" d d es.size (fun i v => ∃ en, es[i]? = some en ∧ v = en.key) (fun h => h.get? d = some o) where
  type := fun _ hm => ⟨o, hm, hc.1⟩
  there := fun _ hm => ⟨Heap.lt_size hm, Heap.lt_size hm⟩
  keep := fun _ _ hm hk => hk d (.inl rfl) o hm
  notList := by decide
  notTuple := by decide
  hint := fun _ _ _ _ hm hq => PySem.W.kdl_hint_dict ⟨o, hm, hc.1⟩ hq
  iter := fun _ s hh hm => ⟨_, _, (fun _ _ hq => iter_keys hs hm hc hod hq), walks_keys hh _ (Nat.ne_of_lt (Heap.lt_size hm)) hod, ⟨⟨_, Heap.get?_push_size _ rfl, rfl, rfl⟩, Heap.get?_push_of_some _ hm⟩⟩
end
section
variable {X : Cx}
theorem paired_get {α β : Type} {R : α → β → Prop} : ∀ {l : List α} {m : List β} {i : Nat} {b : β}, Paired R l m → m[i]? = some b → ∃ a, l[i]? = some a ∧ R a b
  | _, _, _, _, .nil, e => by simp at e
  | _, _, 0, _, .cons h _, e => by simp at e; subst e; exact ⟨_, rfl, h⟩
  | _, _, i + 1, b, .cons _ t, e => by simpa using paired_get (i := i) t (by simpa using e)
theorem paired_get' {α β : Type} {R : α → β → Prop} : ∀ {l : List α} {m : List β} {i : Nat} {a : α}, Paired R l m → l[i]? = some a → ∃ b, m[i]? = some b ∧ R a b
  | _, _, _, _, .nil, e => by simp at e
  | _, _, 0, _, .cons h _, e => by simp at e; subst e; exact ⟨_, rfl, h⟩
  | _, _, i + 1, a, .cons _ t, e => by simpa using paired_get' (i := i) t (by simpa using e)
theorem paired_erase {α β : Type} {R : α → β → Prop} : ∀ {l : List α} {m : List β} (i : Nat), Paired R l m → Paired R (l.eraseIdx i) (m.eraseIdx i)
  | _, _, _, .nil => .nil
  | _, _, 0, .cons _ t => t
  | _, _, i + 1, .cons h t => .cons h (paired_erase i t)
/-- list(d), d a dict whose keys are tuples -/
theorem call_list_dT : CallR X (.type "list") (fun xs H Q => X.calm = true ∧ ∃ a kvs, xs = [.ref a] ∧ H a = some (.dT kvs) ∧ ∀ (vs : List V) p, H p = none → Paired (fun (q : List Key × V) (v : V) => ∃ b, v = .ref b ∧ H b = some (.tup (q.1.map kV))) kvs vs → Q (.ref p) (upd H p (.lst vs))) := by
  intro pins s σ H xs us Q I r ⟨hc, a, kvs, e, hd, q⟩
  subst e
  obtain ⟨u, rfl, rx⟩ := vals1 r
  cases rx
  obtain ⟨z, hs, xs, rel, o, es, ep, ho, hex, hdat, he, hnd⟩ := (show ObjOk X.prog X.w H s.heap a (.dT kvs) from I.hok a _ hd)
  have hlen : kvs.length = xs.length := Paired.length rel
  have hsz : es.size = xs.length := size_of_entries he
  refine PySem.W.kdl_call (src_keys hs hex hdat) (I.ok.hd hc) ho (by omega) fun h' tk acc c' hk hS hacc => ?_
  have hal : acc.size = kvs.length := by rw [hacc.1, hsz, hlen]
  have hval : ∀ (j : Nat) (v : Value), acc[j]? = some v → ∃ q, kvs[j]? = some q ∧ ∃ b, v = .ref b ∧ H b = some (.tup (q.1.map kV)) := fun j v hj => by
    obtain ⟨en, e1, e2⟩ := hacc.2 j v hj
    rw [entry_at he j] at e1
    obtain ⟨x, e3, e4⟩ := Option.map_eq_some_iff.mp e1
    obtain ⟨q, g1, g2⟩ := paired_get rel e3
    refine ⟨q, g1, x.2.1, ?_, g2.2.1⟩
    rw [e2, ← e4]; rfl
  have build : ∀ (kvs : List (List Key × V)) (l : List Value), l.length = kvs.length → (∀ (j : Nat) (v : Value), l[j]? = some v → ∃ q, kvs[j]? = some q ∧ ∃ b, v = .ref b ∧ H b = some (.tup (q.1.map kV))) →
      ∃ vs : List V, Vals vs l ∧ Paired (fun (q : List Key × V) (v : V) => ∃ b, v = .ref b ∧ H b = some (.tup (q.1.map kV))) kvs vs := by
    intro kvs
    induction kvs with
    | nil => intro l hl _; cases l with
      | nil => exact ⟨[], .nil, .nil⟩
      | cons => simp at hl
    | cons q kvs ih =>
      intro l hl hv
      cases l with
      | nil => simp at hl
      | cons v l =>
        obtain ⟨vs, g1, g2⟩ := ih l (by simpa using hl) fun j v hj => by simpa using hv (j + 1) v (by simpa using hj)
        obtain ⟨q', e1, b, e2, e3⟩ := hv 0 v rfl
        simp at e1
        subst e1
        exact ⟨.ref b :: vs, .cons e2 g1, .cons ⟨b, rfl, e3⟩ g2⟩
  obtain ⟨vs, g1, g2⟩ := build kvs acc.toList (by simpa using hal) fun j v hj => hval j v (by simpa using hj)
  have hvl : vs.length ≤ sizeLine := by rw [g1.length, Array.length_toList, hal]; exact z
  exact ⟨.ref s.heap.objs.size, _, I.laid (t' := tk) hk (Nat.le_refl _) (show ObjOk X.prog X.w _ h' _ (.lst vs) from ⟨hvl, acc.toList, c', g1, by rw [hS, Array.toArray_toList]⟩), rfl, q vs _ (I.hok.fresh (Nat.le_refl _)) g2⟩
theorem drop_erase : ∀ {kvs : List (List Key × V)} {j : Nat} {k : List Key} {v : V}, (kvs.map (·.1)).Nodup → kvs[j]? = some (k, v) → dropK kvs k = kvs.eraseIdx j
  | [], _, _, _, _, e => by simp at e
  | p :: r, 0, k, v, h, e => by
    have h : (p.1 :: r.map (·.1)).Nodup := h
    simp at e
    subst e
    rw [dropK_pos rfl, dropK_no (List.nodup_cons.mp h).1]
    rfl
  | p :: r, j + 1, k, v, h, e => by
    have h : (p.1 :: r.map (·.1)).Nodup := h
    obtain ⟨h1, h2⟩ := List.nodup_cons.mp h
    have e : r[j]? = some (k, v) := by simpa using e
    have hne : ¬ p.1 = k := fun z => h1 (by rw [z]; exact List.mem_map.mpr ⟨(k, v), List.mem_of_getElem? e, rfl⟩)
    rw [dropK_neg hne, drop_erase h2 e]
    rfl
theorem val_at : ∀ {kvs : List (List Key × V)} {j : Nat} {k : List Key} {v : V}, (kvs.map (·.1)).Nodup → kvs[j]? = some (k, v) → valV kvs k = some v
  | [], _, _, _, _, e => by simp at e
  | p :: r, 0, k, v, h, e => by simp at e; subst e; exact valV_pos rfl
  | p :: r, j + 1, k, v, h, e => by
    have h : (p.1 :: r.map (·.1)).Nodup := h
    obtain ⟨h1, h2⟩ := List.nodup_cons.mp h
    have e : r[j]? = some (k, v) := by simpa using e
    have hne : ¬ p.1 = k := fun z => h1 (by rw [z]; exact List.mem_map.mpr ⟨(k, v), List.mem_of_getElem? e, rfl⟩)
    rw [valV_neg hne]
    exact val_at h2 e
theorem paired_keys {H : Hp} {kvs : List (List Key × V)} {xs : List (List Key × Addr × Value)} (r : Paired (fun (p : List Key × V) (q : List Key × Addr × Value) => p.1 = q.1 ∧ H q.2.1 = some (.tup (p.1.map kV)) ∧ RelV p.2 q.2.2) kvs xs) : kvs.map (·.1) = xs.map (·.1) := by
  induction r with
  | nil => rfl
  | cons h t ih => rw [List.map_cons, List.map_cons, ih, h.1]
/-- d.pop(k, x), the key a tuple -/
def rPopT : V → List V → Hp → VK → Prop := fun x xs H Q => ∃ a b z kvs k, x = .ref a ∧ xs = [.ref b, z] ∧ H a = some (.dT kvs) ∧ H b = some (.tup (k.map kV)) ∧
  (∀ v, valV kvs k = some v → Q v (upd H a (.dT (dropK kvs k)))) ∧ (valV kvs k = none → Q z H)
theorem mt_popT (hu : X.A.units + 1 < cLine) : MtR X "dict.pop" rPopT := by
  intro pins s σ H x xs v us Q I rx rxs ⟨a, b, z, kvs, k, e1, e2, hd, hb, q1, q2⟩
  subst e1; subst e2
  cases rx
  obtain ⟨u1, u2, rfl, r1, r2⟩ := rxs.two
  cases r1
  have hdt := dt_of I.hok hd
  obtain ⟨zz, hs, xs, rel, hm⟩ := hdt
  have hk := paired_keys rel
  have hm0 := hm
  obtain ⟨_, _, _, _, _, _, _, _, hnd⟩ := hm0
  have hndk : (kvs.map (·.1)).Nodup := by rw [hk]; exact hnd
  refine call_meetsIn PySem.F.slot_dict_pop hm.typeIs PySem.F.entry_dict_pop (PySem.F.args_dict_pop_3 _ _ _) (meetsH_pop (knd := tupleKind (mixKind X.prog X.w)) hs u2)
    ⟨tupleKind_room_in1 hu, k, xs, key_of I.hok hb, hm, by rw [← Paired.length rel]; exact zz, fun hno tk => ?_, fun j p hj h' tk hm' hs' => ?_⟩
  · have hv : valV kvs k = none := by
      cases e : valV kvs k with
      | none => rfl
      | some v =>
        obtain ⟨q, hq, eq⟩ := List.mem_map.mp (valV_in e)
        obtain ⟨j, hj⟩ := List.mem_iff_getElem?.mp hq
        obtain ⟨y, g1, g2⟩ := paired_get' rel hj
        exact absurd (by rw [g1, ← eq, g2.1]) (hno j y.2)
    exact ⟨z, H, I.tok tk, r2, q2 hv⟩
  · obtain ⟨qq, g1, g2⟩ := paired_get rel hj
    obtain ⟨qk, qv⟩ := qq
    obtain ⟨g3, g4, g5⟩ := g2
    dsimp only at g3 g4 g5
    subst g3
    have hv := val_at hndk g1
    have hdr := drop_erase hndk g1
    refine ⟨qv, _, ?_, g5, q1 qv hv⟩
    have hw := d_write (t' := tk) (ob := .dT (dropK kvs qk)) I (by rw [hd]; exact True.intro) hs' (let ⟨o, _, _, ho, _⟩ := hm'; ⟨o, ho⟩) ?_
    · exact hw
    · obtain ⟨o, es, ep, ho, h2, h3, h4, _, h5⟩ := hm'
      refine ⟨Nat.le_trans (by unfold dropK; exact List.length_filter_le _ _) zz, hs, xs.eraseIdx j, ?_, o, es, ep, ho, h2, h3, h4, h5⟩
      rw [hdr]
      refine Paired.mapP (paired_erase j rel) fun p q z => ⟨z.1, ?_, z.2.2⟩
      rw [upd_ne (ne_of z.2.1 hd (fun z => nomatch z))]
      exact z.2.1
end
end Ev

/-! A small language of slots, with an evaluator over pure data and owned cells. -/
namespace Ev
open PySem PySem.Spec PyProof.Rows L2

abbrev P := PyData
/-- a value: pure data; the place of an owned cell; the script -/
inductive D where
  | p (x : P) | ref (n : Nat) | scr (ns : List Int)
inductive Cell where
  | lst (xs : List P)
  | dct (kvs : List (List Int × P))
abbrev Hv := List Cell
abbrev Sv := List (Option D)

inductive Op where
  | add | sub | mul | fdiv | mod | pow | band
  deriving DecidableEq
inductive Cp where
  | lt | le | gt | ge | eq | ne | isn | notn | isin | notin
  deriving DecidableEq
/-- built-in calls -/
inductive Bi where
  | len | tupleOf | listOf | sorted | sum | max1 | min1 | max2 | min2 | all | any | int | abs
  deriving DecidableEq

/-- targets: slots -/
inductive Tg where
  | one (i : Nat) | tup (is : List Nat)

mutual
inductive E where
  | var (i : Nat)
  | int (i : Int) | bl (b : Bool) | non | str (x : Str)
  | glb (x : Str) (i : Int)
  | tru (a : E)
  | op (o : Op) (a b : E)
  | neg (a : E)
  | cmp (c : Cp) (a b : E)
  | chain (c c' : Cp) (a b d : E)
  | and (a b : E) | or (a b : E) | not (a : E)
  | ite (c a b : E)
  | tup (xs : List E) | lst (xs : List E)
  | idx (a i : E)
  | slc (a : E) (lo hi : Option E)
  | call (f : Nat) (fr : Bool) (xs : List E)
  | bi (b : Bi) (xs : List E)
  | isi (ty : String) (a : E)
  | dget (d k : E)
  | lc (own : List Nat) (e : E) (t : Tg) (it : It) (c : Option E)
/-- what is walked -/
inductive It where
  | seq (e : E) | rng (e : E) | rng2 (a b : E) | zip (a b : E)
end

inductive S where
  | set (i : Nat) (e : E)
  | setN (i : Nat) (e : E)
  | dnew (i : Nat)
  | unp (is : List Nat) (e : E)
  | par (i j : Nat) (a b : E)
  | put (o i e : E)
  | aug (i : Nat) (o : Op) (e : E)
  | app (o e : E) | ext (o e : E)
  | dpop (o k x : E)
  | ret (e : E) | retN (e : E) | ret0
  | ite (t : E) (a b : List S)
  | whl (t : E) (b : List S)
  | frr (t : Tg) (it : It) (b : List S)
  | brk | cnt | pass
  | exp (e : E)
  | bad

/-! ### operations on data -/
def lim : Nat := 1000000
def sq (h : Hv) : D → Option (List P)
  | .p (.list xs) => some xs
  | .ref n => match h[n]? with
    | some (.lst xs) => some xs
    | _ => none
  | _ => none
/-- a list or a tuple -/
def sq2 (h : Hv) : D → Option (List P)
  | .p (.tuple xs) => some xs
  | d => sq h d
def dat (h : Hv) : D → Option P
  | .p x => some x
  | .ref n => match h[n]? with
    | some (.lst xs) => some (.list xs)
    | _ => none
  | _ => none
def mkL (xs : List P) : Option D := if xs.length ≤ lim then some (.p (.list xs)) else none
def mkT (xs : List P) : Option D := if xs.length ≤ lim then some (.p (.tuple xs)) else none
def big64 (i : Int) : Bool := decide (-(2 ^ 64) < i ∧ i < 2 ^ 64)
def opI (o : Op) (i j : Int) : Option Int := match o with
  | .add => some (i + j)
  | .sub => some (i - j)
  | .mul => if big64 i || big64 j then some (i * j) else none
  | .fdiv => if 0 < j ∧ j < 2 ^ 256 then some (i / j) else none
  | .mod => if 0 < j then some (i % j) else none
  | .pow => if 0 ≤ j ∧ j ≤ 1000000 ∧ i.natAbs < 2 ^ 64 then some (i ^ j.toNat) else none
  | .band => some (Builtin.bitAnd i j)
def opD (o : Op) (h : Hv) (a b : D) : Option D := match a, b with
  | .p (.int i), .p (.int j) => (opI o i j).map fun k => .p (.int k)
  | .p (.tuple xs), .p (.tuple ys) => if o = .add ∧ xs ≠ [] then mkT (xs ++ ys) else none
  | a, b => if o = .add then (sq h a).bind fun xs => (sq h b).bind fun ys => mkL (xs ++ ys) else none
def intsP : List P → Option (List Int)
  | [] => some []
  | .int i :: r => (intsP r).map (i :: ·)
  | _ :: _ => none
def bools : List P → Option (List Bool)
  | [] => some []
  | .bool i :: r => (bools r).map (i :: ·)
  | _ :: _ => none
def isNone : D → Bool
  | .p .none => true
  | _ => false
def cmpD (c : Cp) (h : Hv) (a b : D) : Option Bool := match c with
  | .lt => match a, b with
    | .p (.int i), .p (.int j) => some (decide (i < j))
    | .p (.tuple xs), .p (.tuple ys) => (intsP xs).bind fun ns => (intsP ys).map fun ms => HT.lexLt ns ms
    | _, _ => none
  | .le => match a, b with
    | .p (.int i), .p (.int j) => some (decide (i ≤ j))
    | _, _ => none
  | .gt => match a, b with
    | .p (.int i), .p (.int j) => some (decide (j < i))
    | _, _ => none
  | .ge => match a, b with
    | .p (.int i), .p (.int j) => some (decide (j ≤ i))
    | _, _ => none
  | .eq => (dat h a).bind fun x => (dat h b).bind fun y => if SeqAt.shaped x && SeqAt.shaped y then some (x.eqv y) else none
  | .ne => (dat h a).bind fun x => (dat h b).bind fun y => if SeqAt.shaped x && SeqAt.shaped y then some (!x.eqv y) else none
  | .isn => if isNone b then some (isNone a) else none
  | .notn => if isNone b then some (!isNone a) else none
  | .isin => match a with
    | .p x => (sq2 h b).bind fun ys => if SeqAt.shaped x && ys.all SeqAt.shaped then some (ys.any fun y => y.eqv x) else none
    | _ => none
  | .notin => match a with
    | .p x => (sq2 h b).bind fun ys => if SeqAt.shaped x && ys.all SeqAt.shaped then some (!ys.any fun y => y.eqv x) else none
    | _ => none
def tuples : List P → Option (List (List Int))
  | [] => some []
  | .tuple xs :: r => (intsP xs).bind fun ns => (tuples r).map (ns :: ·)
  | _ :: _ => none
def tyName (h : Hv) : D → String
  | .p .none => "NoneType"
  | .p (.bool _) => "bool"
  | .p (.int _) => "int"
  | .p (.str _) => "str"
  | .p (.list _) => "list"
  | .p (.tuple _) => "tuple"
  | .p (.dict _) => "dict"
  | .ref n => match h[n]? with
    | some (.dct _) => "dict"
    | some (.lst _) => "list"
    | none => "?"
  | .scr _ => "list"
def isScr : D → Bool
  | .scr _ => true
  | _ => false
def isT (T : String) (t : String) : Bool := t == T || (t == "bool" && T == "int")
def biD (b : Bi) (h : Hv) (ds : List D) : Option D := match b, ds with
  | .len, [.scr ns] => some (.p (.int ns.length))
  | .len, [d] => (sq2 h d).map fun xs => .p (.int xs.length)
  | .tupleOf, [d] => (sq2 h d).map fun xs => .p (.tuple xs)
  | .listOf, [.ref n] => match h[n]? with
    | some (.dct kvs) => some (.p (.list (kvs.map fun q => .tuple (q.1.map .int))))
    | some (.lst xs) => some (.p (.list xs))
    | none => none
  | .listOf, [d] => (sq2 h d).map fun xs => .p (.list xs)
  | .sorted, [d] => (sq h d).bind fun xs => match intsP xs with
    | some ns => if ns.length < 64 then some (.p (.list ((ns.mergeSort (fun a b => decide (a ≤ b))).map .int))) else none
    | none => (tuples xs).bind fun nss => if nss.length < 64 ∧ nss.Nodup ∧ (nss.all fun ns => !ns.isEmpty) = true then some (.p (.list ((sortT nss).map fun ns => .tuple (ns.map .int)))) else none
  | .sum, [d] => (sq h d).bind fun xs => (intsP xs).map fun ns => .p (.int ns.sum)
  | .max1, [d] => (sq h d).bind fun xs => (intsP xs).bind fun ns => ns.max?.map fun m => .p (.int m)
  | .min1, [d] => (sq h d).bind fun xs => (intsP xs).bind fun ns => ns.min?.map fun m => .p (.int m)
  | .max2, [.p (.int i), .p (.int j)] => some (.p (.int (if j > i then j else i)))
  | .min2, [.p (.int i), .p (.int j)] => some (.p (.int (if j < i then j else i)))
  | .all, [d] => (sq h d).bind fun xs => (bools xs).map fun bs => .p (.bool (bs.all id))
  | .any, [d] => (sq h d).bind fun xs => (bools xs).map fun bs => .p (.bool (bs.any id))
  | .int, [.p (.int i)] => some (.p (.int i))
  | .int, [.p (.bool k)] => some (.p (.int (if k then 1 else 0)))
  | .abs, [.p (.int i)] => some (.p (.int (if i < 0 then -i else i)))
  | _, _ => none
/-- d[k], of a list, a tuple, the script -/
def idxD (h : Hv) (a i : D) : Option D := match i with
  | .p (.int k) => match a with
    | .scr ns => (atI ns k).map fun n => .p (.int n)
    | a => (sq2 h a).bind fun xs => (atI xs k).map .p
  | _ => none
def cutP {α : Type} (xs : List α) (lo hi : Option Int) : List α := (xs.drop (HT.sIx xs.length 0 lo)).take (HT.sIx xs.length xs.length hi - HT.sIx xs.length 0 lo)
def slcD (h : Hv) (a : D) (lo hi : Option Int) : Option D := match a with
  | .scr ns => some (.p (.list ((cutP ns lo hi).map .int)))
  | .p (.tuple xs) => if HT.sIx xs.length 0 lo = 0 ∧ HT.sIx xs.length xs.length hi = xs.length then none else some (.p (.tuple (cutP xs lo hi)))
  | a => (sq h a).map fun xs => .p (.list (cutP xs lo hi))
def keyI : D → Option (List Int)
  | .p (.tuple xs) => intsP xs
  | _ => none
def getK (kvs : List (List Int × P)) (k : List Int) : Option P := (kvs.find? fun q => decide (q.1 = k)).map (·.2)
def setK (kvs : List (List Int × P)) (k : List Int) (v : P) : List (List Int × P) :=
  if kvs.any fun q => decide (q.1 = k) then kvs.map fun q => if q.1 = k then (q.1, v) else q else kvs ++ [(k, v)]
def dctD (h : Hv) : D → Option (Nat × List (List Int × P))
  | .ref n => match h[n]? with
    | some (.dct kvs) => some (n, kvs)
    | _ => none
  | _ => none
def lstD (h : Hv) : D → Option (Nat × List P)
  | .ref n => match h[n]? with
    | some (.lst xs) => some (n, xs)
    | _ => none
  | _ => none
def truD (h : Hv) : D → Option Bool
  | .p .none => some false
  | .p (.bool b) => some b
  | .p (.int i) => some (i != 0)
  | d => (sq2 h d).map fun xs => !xs.isEmpty
def wp : D → Option P
  | .p x => some x
  | _ => none
def iOf : D → Option Int
  | .p (.int i) => some i
  | _ => none
def bOf : D → Option Bool
  | .p (.bool i) => some i
  | _ => none
/-- a target takes a value -/
def setAll : List Nat → List P → Sv → Option Sv
  | [], [], σ => some σ
  | i :: is, x :: xs, σ => setAll is xs (σ.set i (some (.p x)))
  | _, _, _ => none
def tgD (t : Tg) (d : P) (σ : Sv) : Option Sv := match t with
  | .one i => some (σ.set i (some (.p d)))
  | .tup is => match d with
    | .tuple xs => setAll is xs σ
    | _ => none
def wipeD (σ : Sv) : List Nat → Sv
  | [] => σ
  | v :: vs => (wipeD σ vs).set v none

/-- no call within: it leaves every cell as it is -/
def quiet : E → Bool
  | .var _ => true
  | .int _ => true
  | .bl _ => true
  | .non => true
  | .str _ => true
  | .glb _ _ => true
  | .op _ a b => quiet a && quiet b
  | .cmp _ a b => quiet a && quiet b
  | .and a b => quiet a && quiet b
  | .or a b => quiet a && quiet b
  | .not a => quiet a
  | .idx a b => quiet a && quiet b
  | .isi _ a => quiet a
  | _ => false
def quietO : Option E → Bool
  | none => true
  | some e => quiet e
/-! ### the evaluator; C: what the defs answer -/
abbrev Ca := Nat → List D → Hv → Option (D × Hv)
def rngL (lo hi : Int) : List P := (List.range (hi - lo).toNat).map fun (i : Nat) => PyData.int (lo + (i : Int))
def small (i : Int) : Bool := decide (-(2 ^ 62) ≤ i ∧ i < 2 ^ 62)
def lcGo (f : P → Hv → Option (Option P × Hv)) : List P → Hv → Option (List P × Hv)
  | [], h => some ([], h)
  | x :: xs, h => (f x h).bind fun (y, h1) => (lcGo f xs h1).map fun (ys, h2) => (match y with | some z => z :: ys | none => ys, h2)
mutual
def ev (C : Ca) : E → Sv → Hv → Option (D × Hv)
  | .var i, σ, h => match σ[i]? with
    | some (some d) => some (d, h)
    | _ => none
  | .int i, _, h => some (.p (.int i), h)
  | .bl b, _, h => some (.p (.bool b), h)
  | .non, _, h => some (.p .none, h)
  | .str x, _, h => some (.p (.str x), h)
  | .glb _ i, _, h => some (.p (.int i), h)
  | .tru a, σ, h => (ev C a σ h).bind fun (x, h1) => (truD h1 x).map fun b => (.p (.bool b), h1)
  | .op o a b, σ, h => (ev C a σ h).bind fun (x, h1) => (ev C b σ h1).bind fun (y, h2) => (opD o h2 x y).map fun z => (z, h2)
  | .neg a, σ, h => (ev C a σ h).bind fun (x, h1) => (iOf x).map fun i => (.p (.int (-i)), h1)
  | .cmp c a b, σ, h => (ev C a σ h).bind fun (x, h1) => (ev C b σ h1).bind fun (y, h2) => (cmpD c h2 x y).map fun z => (.p (.bool z), h2)
  | .chain c c' a b d, σ, h => (ev C a σ h).bind fun (x, h1) => (ev C b σ h1).bind fun (y, h2) => (cmpD c h2 x y).bind fun z => if z then (ev C d σ h2).bind fun (u, h3) => (cmpD c' h3 y u).map fun z => (.p (.bool z), h3) else some (.p (.bool false), h2)
  | .and a b, σ, h => (ev C a σ h).bind fun (x, h1) => (bOf x).bind fun c => if c then ev C b σ h1 else some (.p (.bool false), h1)
  | .or a b, σ, h => (ev C a σ h).bind fun (x, h1) => (bOf x).bind fun c => if c then some (.p (.bool true), h1) else ev C b σ h1
  | .not a, σ, h => (ev C a σ h).bind fun (x, h1) => (bOf x).map fun c => (.p (.bool (!c)), h1)
  | .ite c a b, σ, h => (ev C c σ h).bind fun (x, h1) => (bOf x).bind fun c => if c then ev C a σ h1 else ev C b σ h1
  | .tup xs, σ, h => (evs C xs σ h).bind fun (ds, h1) => (ds.mapM wp).bind fun ps => (mkT ps).map fun d => (d, h1)
  | .lst xs, σ, h => (evs C xs σ h).bind fun (ds, h1) => (ds.mapM wp).bind fun ps => (mkL ps).map fun d => (d, h1)
  | .idx a i, σ, h => (ev C a σ h).bind fun (x, h1) => (ev C i σ h1).bind fun (y, h2) => (idxD h2 x y).map fun z => (z, h2)
  | .slc a lo hi, σ, h => (ev C a σ h).bind fun (x, h1) => (evo C lo σ h1).bind fun (l, h2) => (evo C hi σ h2).bind fun (u, h3) => (slcD h3 x l u).map fun z => (z, h3)
  | .call f fr xs, σ, h => (evs C xs σ h).bind fun (ds, h1) => (C f ds h1).bind fun (d, h2) =>
      if fr then (lstD h2 d).bind fun (n, xs) => if h1.length ≤ n then some (.p (.list xs), h2.take h1.length) else none else some (d, h2)
  | .bi b xs, σ, h => (evs C xs σ h).bind fun (ds, h1) => (biD b h1 ds).map fun d => (d, h1)
  | .isi T a, σ, h => (ev C a σ h).bind fun (x, h1) => if isScr x = false ∧ tyName h1 x ≠ "?" then some (.p (.bool (isT T (tyName h1 x))), h1) else none
  | .dget d k, σ, h => (ev C d σ h).bind fun (x, h1) => (ev C k σ h1).bind fun (y, h2) => (dctD h2 x).bind fun (_, kvs) => (keyI y).bind fun k => (getK kvs k).map fun v => (.p v, h2)
  | .lc own e t it c, σ, h => (evi C it σ h).bind fun (xs, pin, h1) => if xs.length ≤ lim ∧ (pin = none ∨ (quiet e && quietO c) = true) then (lcGo (fun x h => (tgD t x (wipeD σ own)).bind fun σ1 =>
        (evc C c σ1 h).bind fun (b, h2) => if b then (ev C e σ1 h2).bind fun (y, h3) => (wp y).map fun y => (some y, h3) else some (none, h2)) xs h1).map fun (ys, h2) => (D.p (.list ys), h2) else none
def evs (C : Ca) : List E → Sv → Hv → Option (List D × Hv)
  | [], _, h => some ([], h)
  | e :: es, σ, h => (ev C e σ h).bind fun (d, h1) => (evs C es σ h1).map fun (ds, h2) => (d :: ds, h2)
def evo (C : Ca) : Option E → Sv → Hv → Option (Option Int × Hv)
  | none, _, h => some (none, h)
  | some e, σ, h => (ev C e σ h).bind fun (x, h1) => (iOf x).map fun i => (some i, h1)
def evc (C : Ca) : Option E → Sv → Hv → Option (Bool × Hv)
  | none, _, h => some (true, h)
  | some e, σ, h => (ev C e σ h).bind fun (x, h1) => (bOf x).map fun b => (b, h1)
def evi (C : Ca) : It → Sv → Hv → Option (List P × Option Nat × Hv)
  | .seq e, σ, h => (ev C e σ h).bind fun (x, h1) => match x with
    | .p (.list xs) => some (xs, none, h1)
    | .p (.tuple xs) => some (xs, none, h1)
    | .ref n => (sq h1 (.ref n)).map fun xs => (xs, some n, h1)
    | _ => none
  | .rng e, σ, h => (ev C e σ h).bind fun (x, h1) => (iOf x).bind fun n => if small n then some (rngL 0 n, none, h1) else none
  | .rng2 a b, σ, h => (ev C a σ h).bind fun (x, h1) => (ev C b σ h1).bind fun (y, h2) => (iOf x).bind fun i => (iOf y).bind fun j => if small i && small j then some (rngL i j, none, h2) else none
  | .zip a b, σ, h => (ev C a σ h).bind fun (x, h1) => (ev C b σ h1).bind fun (y, h2) => match x, y with
    | .p (.list xs), .p (.list ys) => some ((xs.zip ys).map fun (a, b) => .tuple [a, b], none, h2)
    | _, _ => none
end
/-- a statement's end -/
inductive Out where
  | nx (σ : Sv) (h : Hv) | rt (d : D) (h : Hv) | bk (σ : Sv) (h : Hv) | ct (σ : Sv) (h : Hv)
/-- a pure list becomes a cell -/
def own1 : D × Hv → Option (D × Hv)
  | (.p (.list xs), h) => some (.ref h.length, h ++ [.lst xs])
  | _ => none
/-- what makes a list that nothing else holds -/
def fresh : E → Bool
  | .lst _ => true
  | .lc .. => true
  | _ => false
def frGo (f : P → Sv → Hv → Option Out) : List P → Sv → Hv → Option Out
  | [], σ, h => some (.nx σ h)
  | x :: xs, σ, h => (f x σ h).bind fun
    | .nx σ1 h1 => frGo f xs σ1 h1
    | .ct σ1 h1 => frGo f xs σ1 h1
    | .bk σ1 h1 => some (.nx σ1 h1)
    | .rt d h1 => some (.rt d h1)
def whGo (t : Sv → Hv → Option (Bool × Hv)) (f : Sv → Hv → Option Out) : Nat → Sv → Hv → Option Out
  | 0, _, _ => none
  | fu + 1, σ, h => (t σ h).bind fun (b, h1) => if b then (f σ h1).bind fun
      | .nx σ1 h1 => whGo t f fu σ1 h1
      | .ct σ1 h1 => whGo t f fu σ1 h1
      | .bk σ1 h1 => some (.nx σ1 h1)
      | .rt d h1 => some (.rt d h1)
    else some (.nx σ h1)
def evB (C : Ca) (e : E) (σ : Sv) (h : Hv) : Option (Bool × Hv) := (ev C e σ h).bind fun (x, h1) => (bOf x).map fun b => (b, h1)
mutual
def ex (C : Ca) (fu : Nat) : S → Sv → Hv → Option Out
  | .set i e, σ, h => (ev C e σ h).map fun (d, h1) => .nx (σ.set i (some d)) h1
  | .setN i e, σ, h => if fresh e then (ev C e σ h).bind fun x => (own1 x).map fun (d, h1) => .nx (σ.set i (some d)) h1 else none
  | .dnew i, σ, h => some (.nx (σ.set i (some (.ref h.length))) (h ++ [.dct []]))
  | .unp is e, σ, h => (ev C e σ h).bind fun (d, h1) => (wp d).bind fun d => (tgD (.tup is) d σ).map fun σ1 => .nx σ1 h1
  | .par i j a b, σ, h => (ev C a σ h).bind fun (x, h1) => (ev C b σ h1).map fun (y, h2) => .nx ((σ.set i (some x)).set j (some y)) h2
  | .put o i e, σ, h => (ev C e σ h).bind fun (v, h1) => (wp v).bind fun v => (ev C o σ h1).bind fun (x, h2) => (ev C i σ h2).bind fun (y, h3) =>
      match lstD h3 x with
      | some (n, xs) => (iOf y).bind fun k => (ixN xs.length k).map fun j => .nx σ (h3.set n (.lst (xs.set j v)))
      | none => (dctD h3 x).bind fun (n, kvs) => (keyI y).bind fun k => if kvs.length < lim then some (.nx σ (h3.set n (.dct (setK kvs k v)))) else none
  | .aug i o e, σ, h => match σ[i]? with
    | some (some (.p (.int x))) => (ev C e σ h).bind fun (y, h1) => (iOf y).bind fun y => match o with
      | .add => some (.nx (σ.set i (some (.p (.int (x + y))))) h1)
      | .sub => some (.nx (σ.set i (some (.p (.int (x - y))))) h1)
      | .fdiv => if 0 < y ∧ y < 2 ^ 256 then some (.nx (σ.set i (some (.p (.int (x / y))))) h1) else none
      | _ => none
    | _ => none
  | .app o e, σ, h => (ev C o σ h).bind fun (x, h1) => (lstD h1 x).bind fun _ => (ev C e σ h1).bind fun (v, h2) => (wp v).bind fun v => (lstD h2 x).bind fun (n, xs) => if xs.length < lim then some (.nx σ (h2.set n (.lst (xs ++ [v])))) else none
  | .ext o e, σ, h => (ev C o σ h).bind fun (x, h1) => (lstD h1 x).bind fun _ => (ev C e σ h1).bind fun (v, h2) => (lstD h2 x).bind fun (n, xs) => match v with
    | .p (.list ys) => if xs.length + ys.length ≤ lim then some (.nx σ (h2.set n (.lst (xs ++ ys)))) else none
    | _ => none
  | .dpop o k x, σ, h => (ev C o σ h).bind fun (d, h1) => (dctD h1 d).bind fun _ => (ev C k σ h1).bind fun (y, h2) => (ev C x σ h2).bind fun (z, h3) => (dctD h3 d).bind fun (n, kvs) => (keyI y).bind fun k => (wp z).map fun _ => .nx σ (h3.set n (.dct (kvs.filter fun q => decide (q.1 ≠ k))))
  | .ret e, σ, h => (ev C e σ h).map fun (d, h1) => .rt d h1
  | .retN e, σ, h => if fresh e then (ev C e σ h).bind fun x => (own1 x).map fun (d, h1) => .rt d h1 else none
  | .ret0, _, h => some (.rt (.p .none) h)
  | .ite t a b, σ, h => (evB C t σ h).bind fun (c, h1) => if c then exs C fu a σ h1 else exs C fu b σ h1
  | .whl t b, σ, h => whGo (evB C t) (exs C fu b) fu σ h
  | .frr t it b, σ, h => (evi C it σ h).bind fun (xs, pin, h1) => if pin = none then frGo (fun x σ h => (tgD t x σ).bind fun σ1 => exs C fu b σ1 h) xs σ h1 else none
  | .brk, σ, h => some (.bk σ h)
  | .cnt, σ, h => some (.ct σ h)
  | .pass, σ, h => some (.nx σ h)
  | .exp e, σ, h => (ev C e σ h).map fun (_, h1) => .nx σ h1
  | .bad, _, _ => none
def exs (C : Ca) (fu : Nat) : List S → Sv → Hv → Option Out
  | [], σ, h => some (.nx σ h)
  | s :: ss, σ, h => (ex C fu s σ h).bind fun
    | .nx σ1 h1 => exs C fu ss σ1 h1
    | o => some o
end
/-- a def of the small language -/
structure Fd where
  np : Nat
  nn : Nat
  body : List S
def finish (n0 : Nat) : Out → Option (D × Hv)
  | .nx _ h => some (.p .none, h.take n0)
  | .rt (.ref n) h => if n < n0 then some (.ref n, h.take n0) else match h[n]? with
    | some c => some (.ref n0, h.take n0 ++ [c])
    | none => none
  | .rt d h => some (d, h.take n0)
  | _ => none
def run (F : List Fd) (fu : Nat) : Nat → Ca
  | 0 => fun _ _ _ => none
  | d + 1 => fun f args h => match F[f]? with
    | some fd => if args.length = fd.np then (exs (run F fu d) fu fd.body (args.map some ++ List.replicate (fd.nn - fd.np) none) h).bind (finish h.length) else none
    | none => none
end Ev

namespace Ev
open PySem PySem.Spec PyProof.Rows L2
set_option autoImplicit false

/-- the owned addresses, the banned ones (no pure value reaches them) -/
structure Wr where
  ms : List Addr
  ban : List Addr

def Tpl (K : PySem.W.Frag) (ban : List Addr) (H : Hp) (a : Addr) (vs : List V) : Prop :=
  H a = some (.tup vs) ∧ a ∉ ban
def Scr (K : PySem.W.Frag) (ban : List Addr) (H : Hp) (a : Addr) (vs : List V) : Prop :=
  ((∃ o, H a = some (.frz o (.lst vs))) ∧ a ∉ ban) ∨ ∃ (o : Obj) (its : Array Value) (n : Nat), K.lookup a = some o ∧ o.cls = .type "list" ∧ o.dict = none ∧ o.data = .seq its n ∧ its.size ≤ sizeLine ∧ Vals vs its.toList
theorem Tpl.sq {K : PySem.W.Frag} {ban : List Addr} {H : Hp} {a : Addr} {vs : List V} (h : Tpl K ban H a vs) : SqT K H a vs := .inl (.inl h.1)
theorem Scr.sq {K : PySem.W.Frag} {ban : List Addr} {H : Hp} {a : Addr} {vs : List V} (h : Scr K ban H a vs) : SqL K H a vs := by
  rcases h with ⟨h, _⟩ | h
  · exact .inl (.inr h)
  · exact .inr h

mutual
inductive Rp (K : PySem.W.Frag) (ban : List Addr) (H : Hp) : P → V → Prop
  | non : Rp K ban H .none .non
  | bl (b : Bool) : Rp K ban H (.bool b) (.bl b)
  | int (i : Int) : Rp K ban H (.int i) (.int i)
  | str (x : Str) : Rp K ban H (.str x) (.str x)
  | lst {a : Addr} {vs : List V} {ds : List P} : H a = some (.lst vs) → a ∉ ban → Rps K ban H ds vs → Rp K ban H (.list ds) (.ref a)
  | tup {a : Addr} {vs : List V} {ds : List P} : Tpl K ban H a vs → Rps K ban H ds vs → Rp K ban H (.tuple ds) (.ref a)
inductive Rps (K : PySem.W.Frag) (ban : List Addr) (H : Hp) : List P → List V → Prop
  | nil : Rps K ban H [] []
  | cons {d : P} {v : V} {ds : List P} {vs : List V} : Rp K ban H d v → Rps K ban H ds vs → Rps K ban H (d :: ds) (v :: vs)
end

def CellOk (K : PySem.W.Frag) (ban : List Addr) (H : Hp) (a : Addr) : Cell → Prop
  | .lst ps => ∃ vs, H a = some (.lst vs) ∧ Rps K ban H ps vs
  | .dct kvs => ∃ kvs' : List (List Key × V), H a = some (.dT kvs') ∧ Paired (fun (q : List Int × P) (q' : List Key × V) => q'.1 = q.1.map Sum.inl ∧ Rp K ban H q.2 q'.2) kvs kvs'

structure HR (K : PySem.W.Frag) (w : Wr) (h : Hv) (H : Hp) : Prop where
  len : w.ms.length = h.length
  nd : w.ms.Nodup
  sub : ∀ a ∈ w.ms, a ∈ w.ban
  liv : ∀ a ∈ w.ban, ∃ o, H a = some o ∧ ∀ xs, o ≠ .tup xs
  cel : ∀ (i : Nat) (c : Cell), h[i]? = some c → ∃ a, w.ms[i]? = some a ∧ CellOk K w.ban H a c

structure Nx (w w' : Wr) (H H' : Hp) : Prop where
  pre : w.ms <+: w'.ms
  sub : ∀ a ∈ w.ms, a ∈ w.ban
  bsub : ∀ a ∈ w.ban, a ∈ w'.ban
  keep : ∀ a o, H a = some o → a ∉ w.ms → H' a = some o
  new : ∀ a ∈ w'.ban, a ∈ w.ban ∨ H a = none
  newm : ∀ a ∈ w'.ms, a ∈ w.ms ∨ H a = none

theorem Nx.refl {K : PySem.W.Frag} {w : Wr} {h : Hv} {H : Hp} (r : HR K w h H) : Nx w w H H := ⟨List.prefix_refl _, r.sub, fun _ h => h, fun _ _ h _ => h, fun _ h => .inl h, fun _ h => .inl h⟩
theorem Nx.trans {w w1 w2 : Wr} {H H1 H2 : Hp} (a : Nx w w1 H H1) (b : Nx w1 w2 H1 H2) : Nx w w2 H H2 where
  pre := a.pre.trans b.pre
  sub := a.sub
  bsub := fun x h => b.bsub x (a.bsub x h)
  keep := fun x o h hn => b.keep x o (a.keep x o h hn) fun hm => by
    rcases a.newm x hm with q | q
    · exact hn q
    · rw [h] at q; cases q
  new := fun x hx => by
    rcases b.new x hx with q | q
    · exact a.new x q
    · cases e : H x with
      | none => exact .inr rfl
      | some o =>
        by_cases hm : x ∈ w.ms
        · exact .inl (a.sub x hm)
        · rw [a.keep x o e hm] at q; cases q
  newm := fun x hx => by
    rcases b.newm x hx with q | q
    · exact a.newm x q
    · cases e : H x with
      | none => exact .inr rfl
      | some o =>
        by_cases hm : x ∈ w.ms
        · exact .inl hm
        · rw [a.keep x o e hm] at q; cases q
theorem Nx.notin {w w' : Wr} {H H' : Hp} (n : Nx w w' H H') {a : Addr} {o : HO} (h : H a = some o) (hb : a ∉ w.ban) : a ∉ w'.ban := fun hm => by
  rcases n.new a hm with q | q
  · exact hb q
  · rw [h] at q; cases q
theorem Nx.same {w w' : Wr} {H H' : Hp} (n : Nx w w' H H') {a : Addr} {o : HO} (h : H a = some o) (hb : a ∉ w.ban) : H' a = some o := n.keep a o h fun q => hb (n.sub a q)

section
variable {K : PySem.W.Frag} {w w' : Wr} {H H' : Hp}
theorem Tpl.nx {a : Addr} {vs : List V} (n : Nx w w' H H') (h : Tpl K w.ban H a vs) : Tpl K w'.ban H' a vs := ⟨n.same h.1 h.2, n.notin h.1 h.2⟩
theorem Scr.nx {a : Addr} {vs : List V} (n : Nx w w' H H') (h : Scr K w.ban H a vs) : Scr K w'.ban H' a vs := by
  rcases h with ⟨⟨o, h⟩, hb⟩ | h
  · exact .inl ⟨⟨o, n.same h hb⟩, n.notin h hb⟩
  · exact .inr h
mutual
theorem Rp.nx (n : Nx w w' H H') : ∀ {d : P} {v : V}, Rp K w.ban H d v → Rp K w'.ban H' d v
  | _, _, .non => .non
  | _, _, .bl b => .bl b
  | _, _, .int i => .int i
  | _, _, .str x => .str x
  | _, _, .lst h hb r => .lst (n.same h hb) (n.notin h hb) (Rps.nx n r)
  | _, _, .tup h r => .tup (h.nx n) (Rps.nx n r)
theorem Rps.nx (n : Nx w w' H H') : ∀ {d : List P} {v : List V}, Rps K w.ban H d v → Rps K w'.ban H' d v
  | _, _, .nil => .nil
  | _, _, .cons a b => .cons (Rp.nx n a) (Rps.nx n b)
end
-- fewer bans
mutual
theorem Rp.weak {ban ban' : List Addr} (hb : ∀ a ∈ ban', a ∈ ban) : ∀ {d : P} {v : V}, Rp K ban H d v → Rp K ban' H d v
  | _, _, .non => .non
  | _, _, .bl b => .bl b
  | _, _, .int i => .int i
  | _, _, .str x => .str x
  | _, _, .lst h hn r => .lst h (fun z => hn (hb _ z)) (Rps.weak hb r)
  | _, _, .tup h r => .tup ⟨h.1, fun z => h.2 (hb _ z)⟩ (Rps.weak hb r)
theorem Rps.weak {ban ban' : List Addr} (hb : ∀ a ∈ ban', a ∈ ban) : ∀ {d : List P} {v : List V}, Rps K ban H d v → Rps K ban' H d v
  | _, _, .nil => .nil
  | _, _, .cons a b => .cons (Rp.weak hb a) (Rps.weak hb b)
end
-- a ban of what nothing reaches, or a change of it
mutual
theorem Rp.upd' {ban : List Addr} {p : Addr} {o : HO} (hp : H p = none ∨ p ∈ ban) : ∀ {d : P} {v : V}, Rp K ban H d v → Rp K (p :: ban) (upd H p o) d v
  | _, _, .non => .non
  | _, _, .bl b => .bl b
  | _, _, .int i => .int i
  | _, _, .str x => .str x
  | _, _, .lst (a := a) h hn r => by
    have ne : a ≠ p := fun e => hp.elim (fun q => by rw [e, q] at h; cases h) fun q => hn (by rw [e]; exact q)
    exact .lst ((upd_ne ne).trans h) (fun z => (List.mem_cons.mp z).elim ne hn) (Rps.upd' hp r)
  | _, _, .tup (a := a) h r => by
    refine .tup ?_ (Rps.upd' hp r)
    obtain ⟨h, hn⟩ := h
    have ne : a ≠ p := fun e => hp.elim (fun q => by rw [e, q] at h; cases h) fun q => hn (by rw [e]; exact q)
    exact ⟨(upd_ne ne).trans h, fun z => (List.mem_cons.mp z).elim ne hn⟩
theorem Rps.upd' {ban : List Addr} {p : Addr} {o : HO} (hp : H p = none ∨ p ∈ ban) : ∀ {d : List P} {v : List V}, Rps K ban H d v → Rps K (p :: ban) (upd H p o) d v
  | _, _, .nil => .nil
  | _, _, .cons a b => .cons (Rp.upd' hp a) (Rps.upd' hp b)
end
theorem Rps.length : ∀ {d : List P} {v : List V}, Rps K w.ban H d v → d.length = v.length
  | _, _, .nil => rfl
  | _, _, .cons _ b => congrArg (· + 1) (Rps.length b)
theorem Rps.len {ban : List Addr} : ∀ {d : List P} {v : List V}, Rps K ban H d v → d.length = v.length
  | _, _, .nil => rfl
  | _, _, .cons _ b => congrArg (· + 1) (Rps.len b)
theorem Rps.append {ban : List Addr} : ∀ {d d' : List P} {v v' : List V}, Rps K ban H d v → Rps K ban H d' v' → Rps K ban H (d ++ d') (v ++ v')
  | _, _, _, _, .nil, s => s
  | _, _, _, _, .cons a b, s => .cons a (Rps.append b s)
theorem Rps.get {ban : List Addr} : ∀ {d : List P} {v : List V} {i : Nat} {x : P}, Rps K ban H d v → d[i]? = some x → ∃ y, v[i]? = some y ∧ Rp K ban H x y
  | _, _, _, _, .nil, e => by simp at e
  | _, _, 0, _, .cons a _, e => by simp at e; subst e; exact ⟨_, rfl, a⟩
  | _, _, i + 1, x, .cons _ b, e => by
    obtain ⟨y, h1, h2⟩ := Rps.get (i := i) (x := x) b (by simpa using e)
    exact ⟨y, by simpa using h1, h2⟩
theorem Rps.get' {ban : List Addr} : ∀ {d : List P} {v : List V} {i : Nat} {y : V}, Rps K ban H d v → v[i]? = some y → ∃ x, d[i]? = some x ∧ Rp K ban H x y
  | _, _, _, _, .nil, e => by simp at e
  | _, _, 0, _, .cons a _, e => by simp at e; subst e; exact ⟨_, rfl, a⟩
  | _, _, i + 1, x, .cons _ b, e => by
    obtain ⟨y, h1, h2⟩ := Rps.get' (i := i) (y := x) b (by simpa using e)
    exact ⟨y, by simpa using h1, h2⟩
theorem Rps.set {ban : List Addr} {x : P} {y : V} (r : Rp K ban H x y) : ∀ {d : List P} {v : List V} (i : Nat), Rps K ban H d v → Rps K ban H (d.set i x) (v.set i y)
  | _, _, _, .nil => .nil
  | _, _, 0, .cons _ b => .cons r b
  | _, _, i + 1, .cons a b => .cons a (Rps.set r i b)
theorem Rps.take {ban : List Addr} : ∀ {d : List P} {v : List V} (n : Nat), Rps K ban H d v → Rps K ban H (d.take n) (v.take n)
  | _, _, 0, _ => .nil
  | _, _, _ + 1, .nil => .nil
  | _, _, n + 1, .cons a b => .cons a (Rps.take n b)
theorem Rps.drop {ban : List Addr} : ∀ {d : List P} {v : List V} (n : Nat), Rps K ban H d v → Rps K ban H (d.drop n) (v.drop n)
  | _, _, 0, r => r
  | _, _, _ + 1, .nil => .nil
  | _, _, n + 1, .cons a b => Rps.drop n b
theorem Rps.ints {ban : List Addr} : ∀ {d : List P} {v : List V} {ns : List Int}, Rps K ban H d v → intsP d = some ns → v = ns.map V.int
  | _, _, _, .nil, e => by simp [intsP] at e; subst e; rfl
  | .int i :: r, _, ns, .cons (.int _) b, e => by
    simp only [intsP, Option.map_eq_some_iff] at e
    obtain ⟨m, h1, rfl⟩ := e
    rw [Rps.ints b h1]; rfl
  | .none :: _, _, _, _, e => by simp [intsP] at e
  | .bool _ :: _, _, _, _, e => by simp [intsP] at e
  | .str _ :: _, _, _, _, e => by simp [intsP] at e
  | .list _ :: _, _, _, _, e => by simp [intsP] at e
  | .tuple _ :: _, _, _, _, e => by simp [intsP] at e
  | .dict _ :: _, _, _, _, e => by simp [intsP] at e
theorem Rps.ofInts {ban : List Addr} : ∀ (ns : List Int), Rps K ban H (ns.map PyData.int) (ns.map V.int)
  | [] => .nil
  | n :: r => .cons (.int n) (Rps.ofInts r)
theorem Rps.bools {ban : List Addr} : ∀ {d : List P} {v : List V} {ns : List Bool}, Rps K ban H d v → bools d = some ns → v = ns.map V.bl
  | _, _, _, .nil, e => by simp [Ev.bools] at e; subst e; rfl
  | .bool i :: r, _, ns, .cons (.bl _) b, e => by
    simp only [Ev.bools, Option.map_eq_some_iff] at e
    obtain ⟨m, h1, rfl⟩ := e
    rw [Rps.bools b h1]; rfl
  | .none :: _, _, _, _, e => by simp [Ev.bools] at e
  | .int _ :: _, _, _, _, e => by simp [Ev.bools] at e
  | .str _ :: _, _, _, _, e => by simp [Ev.bools] at e
  | .list _ :: _, _, _, _, e => by simp [Ev.bools] at e
  | .tuple _ :: _, _, _, _, e => by simp [Ev.bools] at e
  | .dict _ :: _, _, _, _, e => by simp [Ev.bools] at e
mutual
theorem Rp.dp {ban : List Addr} : ∀ {d : P} {v : V}, Rp K ban H d v → Dp K H v d
  | _, _, .non => .non
  | _, _, .bl b => .bl b
  | _, _, .int i => .int i
  | _, _, .str x => .str x
  | _, _, .lst h _ r => .lst (SqL.of h) (Rps.dp r)
  | _, _, .tup h r => .tup h.sq (Rps.dp r)
theorem Rps.dp {ban : List Addr} : ∀ {d : List P} {v : List V}, Rps K ban H d v → DpAll K H v d
  | _, _, .nil => .nil
  | _, _, .cons a b => .cons (Rp.dp a) (Rps.dp b)
end
end

inductive RD (K : PySem.W.Frag) (w : Wr) (H : Hp) : D → V → Prop
  | p {x : P} {v : V} : Rp K w.ban H x v → RD K w H (.p x) v
  | ref {n : Nat} {a : Addr} : w.ms[n]? = some a → RD K w H (.ref n) (.ref a)
  | scr {ns : List Int} {a : Addr} : Scr K w.ban H a (ns.map V.int) → RD K w H (.scr ns) (.ref a)
inductive RDs (K : PySem.W.Frag) (w : Wr) (H : Hp) : List D → List V → Prop
  | nil : RDs K w H [] []
  | cons {d : D} {v : V} {ds : List D} {vs : List V} : RD K w H d v → RDs K w H ds vs → RDs K w H (d :: ds) (v :: vs)
structure SR (K : PySem.W.Frag) (w : Wr) (H : Hp) (σ' : Sv) (σ : L2.St) : Prop where
  len : σ'.length = σ.length
  at' : ∀ (i : Nat) (d : D), σ'[i]? = some (some d) → ∃ v, σ[i]? = some (some v) ∧ RD K w H d v

section
variable {K : PySem.W.Frag} {w w' : Wr} {H H' : Hp} {h : Hv}
theorem RD.nx (n : Nx w w' H H') {d : D} {v : V} (r : RD K w H d v) : RD K w' H' d v := by
  cases r with
  | p r => exact .p (r.nx n)
  | ref r =>
    refine .ref ?_
    obtain ⟨t, e⟩ := n.pre
    rw [← e]
    rw [List.getElem?_append_left (List.getElem?_eq_some_iff.mp r).1]; exact r
  | scr r => exact .scr (r.nx n)
theorem RDs.nx (n : Nx w w' H H') : ∀ {d : List D} {v : List V}, RDs K w H d v → RDs K w' H' d v
  | _, _, .nil => .nil
  | _, _, .cons a b => .cons (a.nx n) (RDs.nx n b)
theorem RDs.len : ∀ {d : List D} {v : List V}, RDs K w H d v → d.length = v.length
  | _, _, .nil => rfl
  | _, _, .cons _ b => congrArg (· + 1) (RDs.len b)
theorem SR.nx (n : Nx w w' H H') {σ' : Sv} {σ : L2.St} (r : SR K w H σ' σ) : SR K w' H' σ' σ := ⟨r.len, fun i d e => let ⟨v, h1, h2⟩ := r.at' i d e; ⟨v, h1, h2.nx n⟩⟩
theorem SR.set {σ' : Sv} {σ : L2.St} {d : D} {v : V} (r : SR K w H σ' σ) (i : Nat) (q : RD K w H d v) : SR K w H (σ'.set i (some d)) (σ.set i (some v)) := by
  refine ⟨by simp [r.len], fun j e he => ?_⟩
  by_cases hj : i = j
  · subst hj
    by_cases hl : i < σ'.length
    · rw [List.getElem?_set_self hl] at he
      cases he
      exact ⟨v, List.getElem?_set_self (by rw [← r.len]; exact hl), q⟩
    · rw [List.getElem?_eq_none (by simpa using hl)] at he; cases he
  · rw [List.getElem?_set_ne hj] at he ⊢
    exact r.at' j e he
theorem SR.wipe {σ' : Sv} {σ : L2.St} (r : SR K w H σ' σ) : ∀ vs : List Nat, SR K w H (wipeD σ' vs) (wipe σ vs)
  | [] => r
  | v :: vs => by
    have q := SR.wipe r vs
    refine ⟨by simp only [wipeD, L2.wipe, List.length_set]; exact q.len, fun j e he => ?_⟩
    simp only [wipeD, L2.wipe] at he ⊢
    by_cases hj : v = j
    · subst hj
      by_cases hl : v < (wipeD σ' vs).length
      · rw [List.getElem?_set_self hl] at he; cases he
      · rw [List.getElem?_eq_none (by simpa using hl)] at he; cases he
    · rw [List.getElem?_set_ne hj] at he ⊢
      exact q.at' j e he
theorem HR.free (r : HR K w h H) {p : Addr} (hp : H p = none) : p ∉ w.ban := fun hm => by
  obtain ⟨o, e, _⟩ := r.liv p hm
  rw [hp] at e; cases e
theorem HR.tupFree (r : HR K w h H) {p : Addr} {xs : List V} (hp : H p = some (.tup xs)) : p ∉ w.ban := fun hm => by
  obtain ⟨o, e, n⟩ := r.liv p hm
  rw [hp] at e; cases e; exact n xs rfl
theorem Nx.alloc (r : HR K w h H) {p : Addr} {o : HO} (hp : H p = none) : Nx w w H (upd H p o) :=
  ⟨List.prefix_refl _, r.sub, fun _ h => h, fun a u e _ => (upd_ne (fun z => by rw [z, hp] at e; cases e)).trans e, fun _ h => .inl h, fun _ h => .inl h⟩
theorem Rp.mono {ban : List Addr} {p : Addr} {o : HO} (hp : H p = none) (hb : p ∉ ban) {d : P} {v : V} (r : Rp K ban H d v) : Rp K ban (upd H p o) d v := Rp.weak (fun a h => List.mem_cons_of_mem _ h) (Rp.upd' (o := o) (.inl hp) r)
theorem Rps.mono {ban : List Addr} {p : Addr} {o : HO} (hp : H p = none) {d : List P} {v : List V} (r : Rps K ban H d v) : Rps K ban (upd H p o) d v := Rps.weak (fun a h => List.mem_cons_of_mem _ h) (Rps.upd' (o := o) (.inl hp) r)
theorem paired_mono {α β : Type} {F G : α → β → Prop} : ∀ {l₁ : List α} {l₂ : List β}, Paired F l₁ l₂ → (∀ a b, F a b → G a b) → Paired G l₁ l₂ := fun r f => Paired.mapP r f
theorem CellOk.imp {ban ban' : List Addr} {a : Addr} {c : Cell} (ha : ∀ o, H a = some o → H' a = some o) (hr : ∀ d v, Rp K ban H d v → Rp K ban' H' d v) (hrs : ∀ d v, Rps K ban H d v → Rps K ban' H' d v) (x : CellOk K ban H a c) : CellOk K ban' H' a c := by
  cases c with
  | lst ps => obtain ⟨vs, e, r⟩ := x; exact ⟨vs, ha _ e, hrs _ _ r⟩
  | dct kvs => obtain ⟨vs, e, r⟩ := x; exact ⟨vs, ha _ e, paired_mono r fun q q' z => ⟨z.1, hr _ _ z.2⟩⟩
theorem HR.alloc (r : HR K w h H) {p : Addr} {o : HO} (hp : H p = none) : HR K w h (upd H p o) := by
  refine ⟨r.len, r.nd, r.sub, fun a ha => ?_, fun i c e => ?_⟩
  · obtain ⟨u, e, nt⟩ := r.liv a ha
    exact ⟨u, (upd_ne (fun z => by rw [z, hp] at e; cases e)).trans e, nt⟩
  · obtain ⟨a, e1, e2⟩ := r.cel i c e
    refine ⟨a, e1, e2.imp (fun u q => (upd_ne (fun z => by rw [z, hp] at q; cases q)).trans q) (fun d v q => q.mono hp (r.free hp)) (fun d v q => q.mono hp)⟩
/-- a cell's address -/
theorem HR.addr (r : HR K w h H) {n : Nat} {a : Addr} {c : Cell} (e : h[n]? = some c) (ha : w.ms[n]? = some a) : CellOk K w.ban H a c := by
  obtain ⟨b, e1, e2⟩ := r.cel n c e
  rw [ha] at e1; cases e1; exact e2
theorem upd'_ban {ban : List Addr} {p : Addr} (hp : p ∈ ban) : ∀ a ∈ ban, a ∈ p :: ban := fun a h => List.mem_cons_of_mem _ h
theorem CellOk.notTup {ban : List Addr} {p : Addr} {o : HO} {c : Cell} (x : CellOk K ban (upd H p o) p c) : ∀ xs, o ≠ .tup xs := by
  intro xs e
  subst e
  cases c with
  | lst ps => obtain ⟨vs, e, _⟩ := x; rw [upd_same] at e; cases e
  | dct kvs => obtain ⟨vs, e, _⟩ := x; rw [upd_same] at e; cases e
/-- an owned cell is written -/
theorem HR.write (r : HR K w h H) {n : Nat} {a : Addr} {c : Cell} {o : HO} (ha : w.ms[n]? = some a) (hc : CellOk K w.ban (upd H a o) a c) : HR K w (h.set n c) (upd H a o) ∧ Nx w w H (upd H a o) := by
  have hm : a ∈ w.ms := List.mem_of_getElem? ha
  have hb := r.sub a hm
  constructor
  · refine ⟨by simp [r.len], r.nd, r.sub, fun b hb => ?_, fun i d e => ?_⟩
    · by_cases q : b = a
      · subst q; exact ⟨o, upd_same, hc.notTup⟩
      · obtain ⟨u, e, nt⟩ := r.liv b hb
        exact ⟨u, (upd_ne q).trans e, nt⟩
    · by_cases q : n = i
      · subst q
        have hl : n < h.length := by rw [← r.len]; exact (List.getElem?_eq_some_iff.mp ha).1
        rw [List.getElem?_set_self hl] at e
        cases e
        exact ⟨a, ha, hc⟩
      · rw [List.getElem?_set_ne q] at e
        obtain ⟨b, e1, e2⟩ := r.cel i d e
        have ne : b ≠ a := fun z => by
          subst z
          obtain ⟨l1, e1'⟩ := List.getElem?_eq_some_iff.mp e1
          obtain ⟨l2, e2'⟩ := List.getElem?_eq_some_iff.mp ha
          exact q ((List.getElem_inj r.nd).mp (e2'.trans e1'.symm))
        exact ⟨b, e1, e2.imp (fun u q => (upd_ne ne).trans q) (fun d v q => Rp.weak (fun x hx => List.mem_cons_of_mem _ hx) (Rp.upd' (.inr hb) q)) (fun d v q => Rps.weak (fun x hx => List.mem_cons_of_mem _ hx) (Rps.upd' (.inr hb) q))⟩
  · exact ⟨List.prefix_refl _, r.sub, fun _ h => h, fun b u e hn => (upd_ne (fun z => hn (by rw [z]; exact hm))).trans e, fun _ h => .inl h, fun _ h => .inl h⟩
/-- a new owned cell -/
theorem HR.push (r : HR K w h H) {p : Addr} {c : Cell} {o : HO} (hp : H p = none) (hc : CellOk K (p :: w.ban) (upd H p o) p c) :
    HR K ⟨w.ms ++ [p], p :: w.ban⟩ (h ++ [c]) (upd H p o) ∧ Nx w ⟨w.ms ++ [p], p :: w.ban⟩ H (upd H p o) := by
  have hnb := r.free hp
  constructor
  · refine ⟨by simp [r.len], ?_, fun a ha => ?_, fun a ha => ?_, fun i d e => ?_⟩
    · exact nd_snoc r.nd fun z => hnb (r.sub p z)
    · rcases List.mem_append.mp ha with q | q
      · exact List.mem_cons_of_mem _ (r.sub a q)
      · rw [List.mem_singleton.mp q]; exact List.mem_cons_self
    · rcases List.mem_cons.mp ha with q | q
      · subst q; exact ⟨o, upd_same, hc.notTup⟩
      · obtain ⟨u, e, nt⟩ := r.liv a q
        exact ⟨u, (upd_ne (fun z => by rw [z, hp] at e; cases e)).trans e, nt⟩
    · by_cases hl : i < h.length
      · rw [List.getElem?_append_left hl] at e
        obtain ⟨b, e1, e2⟩ := r.cel i d e
        refine ⟨b, by rw [List.getElem?_append_left (List.getElem?_eq_some_iff.mp e1).1]; exact e1, e2.imp (fun u q => (upd_ne (fun z => by rw [z, hp] at q; cases q)).trans q) (fun d v q => Rp.upd' (.inl hp) q) (fun d v q => Rps.upd' (.inl hp) q)⟩
      · have hi : i = h.length := by
          have := (List.getElem?_eq_some_iff.mp e).1
          simp at this; omega
        subst hi
        simp at e
        subst e
        exact ⟨p, by rw [← r.len]; simp, hc⟩
  · refine ⟨List.prefix_append _ _, r.sub, fun a h => List.mem_cons_of_mem _ h, fun b u e _ => (upd_ne (fun z => by rw [z, hp] at e; cases e)).trans e, fun a ha => ?_, fun a ha => ?_⟩
    · rcases List.mem_cons.mp ha with q | q
      · subst q; exact .inr hp
      · exact .inl q
    · rcases List.mem_append.mp ha with q | q
      · exact .inl q
      · rw [List.mem_singleton.mp q]; exact .inr hp
end
end Ev

namespace Ev
open PySem PySem.Spec PyProof.Rows L2
set_option autoImplicit false

/-- what follows, at any heap that bears the answer -/
def Po (K : PySem.W.Frag) (w : Wr) (H : Hp) (h' : Hv) (d : D) (Q : VK) : Prop :=
  ∀ (v : V) (H' : Hp) (w' : Wr), Nx w w' H H' → HR K w' h' H' → RD K w' H' d v → Q v H'
theorem Po.now {K : PySem.W.Frag} {w : Wr} {H : Hp} {h : Hv} {d : D} {Q : VK} {v : V} (k : Po K w H h d Q) (hr : HR K w h H) (r : RD K w H d v) : Q v H := k v H w (Nx.refl hr) hr r
/-- a new frozen list, a new tuple -/
theorem Po.newL {K : PySem.W.Frag} {w : Wr} {H : Hp} {h : Hv} {xs : List P} {Q : VK} {vs : List V} (k : Po K w H h (.p (.list xs)) Q) (hr : HR K w h H) (r : Rps K w.ban H xs vs) {p : Addr} (hp : H p = none) : Q (.ref p) (upd H p (.lst vs)) :=
  k _ _ w (Nx.alloc hr hp) (hr.alloc hp) (.p (.lst upd_same (hr.free hp) (r.mono hp)))
theorem Po.newT {K : PySem.W.Frag} {w : Wr} {H : Hp} {h : Hv} {xs : List P} {Q : VK} {vs : List V} (k : Po K w H h (.p (.tuple xs)) Q) (hr : HR K w h H) (r : Rps K w.ban H xs vs) {p : Addr} (hp : H p = none) : Q (.ref p) (upd H p (.tup vs)) :=
  k _ _ w (Nx.alloc hr hp) (hr.alloc hp) (.p (.tup ⟨upd_same, hr.free hp⟩ (r.mono hp)))
theorem lim_line : lim < sizeLine := by rw [sizeLine_eq]; decide
/-- the list that a value is -/
theorem sq_ok {K : PySem.W.Frag} {w : Wr} {H : Hp} {h : Hv} {d : D} {v : V} {xs : List P} (hr : HR K w h H) (r : RD K w H d v) (e : sq h d = some xs) : ∃ a vs, v = .ref a ∧ H a = some (.lst vs) ∧ Rps K w.ban H xs vs := by
  cases r with
  | p r =>
    cases r with
    | lst h1 h2 h3 => simp [sq] at e; subst e; exact ⟨_, _, rfl, h1, h3⟩
    | non => simp [sq] at e
    | bl => simp [sq] at e
    | int => simp [sq] at e
    | str => simp [sq] at e
    | tup => simp [sq] at e
  | @ref n a r =>
    simp only [sq] at e
    split at e
    · rename_i ys q
      cases e
      obtain ⟨vs, h1, h2⟩ := hr.addr q r
      exact ⟨a, vs, rfl, h1, h2⟩
    · cases e
  | scr r => simp [sq] at e
theorem sq2_ok {K : PySem.W.Frag} {w : Wr} {H : Hp} {h : Hv} {d : D} {v : V} {xs : List P} (hr : HR K w h H) (r : RD K w H d v) (e : sq2 h d = some xs) : ∃ a vs, v = .ref a ∧ (H a = some (.lst vs) ∨ (H a = some (.tup vs) ∧ d = .p (.tuple xs))) ∧ Rps K w.ban H xs vs := by
  have key : sq h d = some xs → ∃ a vs, v = .ref a ∧ (H a = some (.lst vs) ∨ (H a = some (.tup vs) ∧ d = .p (.tuple xs))) ∧ Rps K w.ban H xs vs := fun e => by
    obtain ⟨a, vs, h1, h2, h3⟩ := sq_ok hr r e
    exact ⟨a, vs, h1, .inl h2, h3⟩
  cases d with
  | p x =>
    cases x with
    | tuple ys =>
      simp [sq2] at e; subst e
      cases r with
      | p r =>
        cases r with
        | tup h1 h2 => exact ⟨_, _, rfl, .inr ⟨h1.1, rfl⟩, h2⟩
    | _ => exact key e
  | ref n => exact key e
  | scr n => exact key e
theorem dat_ok {K : PySem.W.Frag} {w : Wr} {H : Hp} {h : Hv} {d : D} {v : V} {x : P} (hr : HR K w h H) (r : RD K w H d v) (e : dat h d = some x) : Dp K H v x := by
  cases r with
  | p r => simp [dat] at e; subst e; exact r.dp
  | @ref n a r =>
    simp only [dat] at e
    split at e
    · rename_i ys q
      cases e
      obtain ⟨vs, h1, h2⟩ := hr.addr q r
      exact .lst (SqL.of h1) h2.dp
    · cases e
  | scr r => simp [dat] at e
theorem wp_ok {K : PySem.W.Frag} {w : Wr} {H : Hp} {d : D} {v : V} {x : P} (r : RD K w H d v) (e : wp d = some x) : Rp K w.ban H x v := by
  cases r with
  | p r => simp [wp] at e; subst e; exact r
  | ref r => simp [wp] at e
  | scr r => simp [wp] at e
theorem iOf_ok {K : PySem.W.Frag} {w : Wr} {H : Hp} {d : D} {v : V} {x : Int} (r : RD K w H d v) (e : iOf d = some x) : v = .int x := by
  cases r with
  | p r => cases r <;> simp [iOf] at e; subst e; rfl
  | ref r => simp [iOf] at e
  | scr r => simp [iOf] at e
theorem bOf_ok {K : PySem.W.Frag} {w : Wr} {H : Hp} {d : D} {v : V} {x : Bool} (r : RD K w H d v) (e : bOf d = some x) : v = .bl x := by
  cases r with
  | p r => cases r <;> simp [bOf] at e; subst e; rfl
  | ref r => simp [bOf] at e
  | scr r => simp [bOf] at e
theorem RD.int' {K : PySem.W.Frag} {w : Wr} {H : Hp} {i : Int} {v : V} (r : RD K w H (.p (.int i)) v) : v = .int i := iOf_ok r rfl

def opIs : Op → Operator → Bool
  | .add, .Add => true
  | .sub, .Sub => true
  | .mul, .Mult => true
  | .fdiv, .FloorDiv => true
  | .mod, .Mod => true
  | .pow, .Pow => true
  | .band, .BitAnd => true
  | _, _ => false
def rOp (K : PySem.W.Frag) (f : Hv → D → D → Option D) : R2 := fun x y H Q => ∃ w h a b d, HR K w h H ∧ RD K w H a x ∧ RD K w H b y ∧ f h a b = some d ∧ Po K w H h d Q
section
variable {X : Cx}
theorem log2_256 {j : Int} (h0 : 0 < j) (h : j < 2 ^ 256) : j.natAbs.log2 < 9000 := by
  have h1 : j.natAbs ≠ 0 := by omega
  refine Nat.lt_trans ((Nat.log2_lt h1).mpr (?_ : j.natAbs < 2 ^ 256)) (by decide)
  have h2 : ((2 : Int) ^ 256) = ((2 ^ 256 : Nat) : Int) := by norm_cast
  rw [h2] at h
  omega
theorem op_fdivB : OpR X (binaryOp .FloorDiv) (rI (fun _ j => 0 < j ∧ j < 2 ^ 256) fun i j => .int (i / j)) := L2.opI fun i j _ _ _ _ _ hc q =>
  floordiv_int (Int.ne_of_gt hc.1) (by rw [Int.fdiv_eq_ediv_of_nonneg i (Int.le_of_lt hc.1)]; exact q) (.inl (PyProof.noPylong_of_log2 (log2_256 hc.1 hc.2)))
theorem opI_ok {o : Op} {opr : Operator} (hop : opIs o opr = true) : OpR X (binaryOp opr) (fun x y H Q => ∃ i j k, x = .int i ∧ y = .int j ∧ opI o i j = some k ∧ Q (.int k) H) := by
  intro pins s σ H x y v u Q I rx ry ⟨i, j, k, e1, e2, e3, q⟩
  subst e1; subst e2
  cases o <;> cases opr <;> simp [opIs] at hop <;> simp only [opI, Option.some.injEq] at e3
  · subst e3; exact op_add pins s σ H _ _ v u Q I rx ry ⟨i, j, rfl, rfl, q⟩
  · subst e3; exact op_sub pins s σ H _ _ v u Q I rx ry ⟨i, j, rfl, rfl, q⟩
  · split at e3
    · rename_i c
      cases e3
      refine op_mul pins s σ H _ _ v u Q I rx ry ⟨i, j, rfl, rfl, ?_, q⟩
      rcases (Bool.or_eq_true _ _).mp c with c | c
      · exact .inl (of_decide_eq_true c)
      · exact .inr (of_decide_eq_true c)
    · cases e3
  · split at e3
    · rename_i c
      cases e3
      exact op_fdivB pins s σ H _ _ v u Q I rx ry ⟨i, j, rfl, rfl, c, q⟩
    · cases e3
  · split at e3
    · rename_i c
      cases e3
      exact op_mod pins s σ H _ _ v u Q I rx ry ⟨i, j, rfl, rfl, c, q⟩
    · cases e3
  · split at e3
    · rename_i c
      cases e3
      exact op_pow pins s σ H _ _ v u Q I rx ry ⟨i, j, rfl, rfl, c, q⟩
    · cases e3
  · subst e3; exact op_and pins s σ H _ _ v u Q I rx ry ⟨i, j, rfl, rfl, q⟩
theorem op_ok {o : Op} {opr : Operator} (hop : opIs o opr = true) : OpR X (binaryOp opr) (rOp X.K (opD o)) := by
  intro pins s σ H x y v u Q I rx ry ⟨w, h, a, b, d, hr, ra, rb, e, k⟩
  unfold opD at e
  split at e
  · obtain ⟨z, e1, e2⟩ := Option.map_eq_some_iff.mp e
    subst e2
    have x1 := ra.int'
    have x2 := rb.int'
    subst x1; subst x2
    exact opI_ok hop pins s σ H _ _ v u Q I rx ry ⟨_, _, z, rfl, rfl, e1, k.now hr (.p (.int z))⟩
  · split at e
    · rename_i xs ys c
      obtain ⟨c1, c2⟩ := c
      subst c1
      cases opr <;> simp [opIs] at hop
      unfold mkT at e
      split at e
      · rename_i hl
        cases e
        cases ra with
        | p ra =>
          cases ra with
          | tup h1 h2 =>
            cases rb with
            | p rb =>
              cases rb with
              | tup h3 h4 =>
                have l2 := h2.len
                have l4 := h4.len
                have hlim := lim_line
                rw [List.length_append] at hl
                refine op_catT pins s σ H _ _ v u Q I rx ry ⟨_, _, _, _, rfl, rfl, h1.sq, h3.sq, ?_, by omega, fun z => ?_, fun _ p hp => k.newT hr (h2.append h4) hp⟩
                · intro z; rw [z] at l2; exact c2 (List.eq_nil_of_length_eq_zero l2)
                · subst z
                  have : ys = [] := List.eq_nil_of_length_eq_zero l4
                  subst this
                  refine k.now hr (.p ?_)
                  rw [List.append_nil]
                  exact .tup h1 h2
      · cases e
    · cases e
  · split at e
    · rename_i c
      subst c
      cases opr <;> simp [opIs] at hop
      obtain ⟨xs, e1, e⟩ := Option.bind_eq_some_iff.mp e
      obtain ⟨ys, e2, e⟩ := Option.bind_eq_some_iff.mp e
      unfold mkL at e
      split at e
      · rename_i hl
        cases e
        obtain ⟨p1, vs1, rfl, h1, r1⟩ := sq_ok hr ra e1
        obtain ⟨p2, vs2, rfl, h2, r2⟩ := sq_ok hr rb e2
        have l1 := r1.len
        have l2 := r2.len
        have hlim := lim_line
        rw [List.length_append] at hl
        exact op_cat pins s σ H _ _ v u Q I rx ry ⟨p1, p2, vs1, vs2, rfl, rfl, h1, h2, by omega, fun p hp => k.newL hr (r1.append r2) hp⟩
      · cases e
    · cases e

def cpIs : Cp → CmpOp → Bool
  | .lt, .Lt => true
  | .le, .LtE => true
  | .gt, .Gt => true
  | .ge, .GtE => true
  | .eq, .Eq => true
  | .ne, .NotEq => true
  | .isn, .Is => true
  | .notn, .IsNot => true
  | .isin, .In => true
  | .notin, .NotIn => true
  | _, _ => false
def rCp (K : PySem.W.Frag) (c : Cp) : R2 := fun x y H Q => ∃ w h a b z, HR K w h H ∧ RD K w H a x ∧ RD K w H b y ∧ cmpD c h a b = some z ∧ Q (.bl z) H
theorem isNone_ok {K : PySem.W.Frag} {w : Wr} {H : Hp} {d : D} {v : V} (r : RD K w H d v) : isNone d = decide (v = .non) := by
  cases r with
  | p r => cases r <;> simp [isNone]
  | ref r => simp [isNone]
  | scr r => simp [isNone]
theorem RD.reads {pins : List (Addr × Obj)} {σ : L2.St} {H : Hp} {s : Shared} {w : Wr} {h : Hv} (I : Inv X pins σ H s) (hr : HR X.K w h H) {d : D} {v : V} {u : Value} {x : P} (r : RD X.K w H d v) (e : dat h d = some x) (ru : RelV v u) : ∃ as, Reads s.heap u x as :=
  Dp.reads I x v u (dat_ok hr r e) ru
theorem canLayAll_of : ∀ {ys : List P}, ys.all SeqAt.shaped = true → PyData.canLayAll0 ys = true
  | [], _ => rfl
  | y :: r, h => by
    rw [List.all_cons, Bool.and_eq_true] at h
    rw [PyData.canLayAll0, SeqAt.canLay_of_shaped h.1, canLayAll_of h.2]
    rfl
theorem cmp_ok {c : Cp} {op : CmpOp} (hop : cpIs c op = true) (hu : X.A.units + 65 < cLine) : OpR X (compareOp op) (rCp X.K c) := by
  intro pins s σ H x y v u Q I rx ry ⟨w, h, a, b, z, hr, ra, rb, e, q⟩
  cases c <;> cases op <;> simp [cpIs] at hop <;> simp only [cmpD] at e
  · split at e
    · cases e
      have x1 := ra.int'
      have x2 := rb.int'
      subst x1; subst x2
      exact op_lt pins s σ H _ _ v u Q I rx ry ⟨_, _, rfl, rfl, q⟩
    · obtain ⟨ns, e1, e⟩ := Option.bind_eq_some_iff.mp e
      obtain ⟨ms, e2, e⟩ := Option.map_eq_some_iff.mp e
      subst e
      cases ra with
      | p ra =>
        cases ra with
        | tup h1 h2 =>
          cases rb with
          | p rb =>
            cases rb with
            | tup h3 h4 =>
              have q1 := h2.ints e1
              have q2 := h4.ints e2
              subst q1; subst q2
              exact op_ltT (by omega) pins s σ H _ _ v u Q I rx ry ⟨_, _, ns, ms, rfl, rfl, h1.sq, h3.sq, q⟩
    · cases e
  · split at e
    · cases e
      have x1 := ra.int'
      have x2 := rb.int'
      subst x1; subst x2
      exact op_le pins s σ H _ _ v u Q I rx ry ⟨_, _, rfl, rfl, q⟩
    · cases e
  · split at e
    · cases e
      have x1 := ra.int'
      have x2 := rb.int'
      subst x1; subst x2
      exact op_gt pins s σ H _ _ v u Q I rx ry ⟨_, _, rfl, rfl, q⟩
    · cases e
  · split at e
    · cases e
      have x1 := ra.int'
      have x2 := rb.int'
      subst x1; subst x2
      exact op_ge pins s σ H _ _ v u Q I rx ry ⟨_, _, rfl, rfl, q⟩
    · cases e
  · obtain ⟨p1, e1, e⟩ := Option.bind_eq_some_iff.mp e
    obtain ⟨p2, e2, e⟩ := Option.bind_eq_some_iff.mp e
    split at e
    · rename_i c
      cases e
      rw [Bool.and_eq_true] at c
      exact op_eqD (by omega) pins s σ H _ _ v u Q I rx ry ⟨p1, p2, dat_ok hr ra e1, dat_ok hr rb e2, c.1, c.2, q⟩
    · cases e
  · obtain ⟨p1, e1, e⟩ := Option.bind_eq_some_iff.mp e
    obtain ⟨p2, e2, e⟩ := Option.bind_eq_some_iff.mp e
    split at e
    · rename_i c
      cases e
      rw [Bool.and_eq_true] at c
      exact op_neD (by omega) pins s σ H _ _ v u Q I rx ry ⟨p1, p2, dat_ok hr ra e1, dat_ok hr rb e2, c.1, c.2, q⟩
    · cases e
  · split at e
    · rename_i c
      cases e
      rw [isNone_ok rb] at c
      rw [isNone_ok ra] at q
      exact op_isN pins s σ H _ _ v u Q I rx ry ⟨of_decide_eq_true c, q⟩
    · cases e
  · split at e
    · rename_i c
      cases e
      rw [isNone_ok rb] at c
      rw [isNone_ok ra] at q
      exact op_notN pins s σ H _ _ v u Q I rx ry ⟨of_decide_eq_true c, q⟩
    · cases e
  · split at e
    · rename_i a0 xp
      obtain ⟨ys, e1, e⟩ := Option.bind_eq_some_iff.mp e
      split at e
      · rename_i c
        cases e
        rw [Bool.and_eq_true] at c
        obtain ⟨as1, R1⟩ := RD.reads I hr ra rfl rx
        obtain ⟨pa, vs, e2, h2, r2⟩ := sq2_ok hr rb e1
        subst e2
        rcases h2 with h2 | ⟨h2, e3⟩
        · obtain ⟨as2, R2⟩ := Dp.reads I (.list ys) _ u (.lst (SqL.of h2) r2.dp) ry
          exact PySem.SeqAt.in_list_reads R2 R1 (canLayAll_of c.2) (SeqAt.canLay_of_shaped c.1) (PyProof.Rows.room_in_shaped c.1 hu) ⟨.bl _, H, I, rfl, q⟩
        · subst e3
          obtain ⟨as2, R2⟩ := Dp.reads I (.tuple ys) _ u (.tup (SqT.of h2) r2.dp) ry
          exact PySem.SeqAt.in_tuple_reads R2 R1 (canLayAll_of c.2) (SeqAt.canLay_of_shaped c.1) (PyProof.Rows.room_in_shaped c.1 hu) ⟨.bl _, H, I, rfl, q⟩
      · cases e
    · cases e
  · split at e
    · rename_i a0 xp
      obtain ⟨ys, e1, e⟩ := Option.bind_eq_some_iff.mp e
      split at e
      · rename_i c
        cases e
        rw [Bool.and_eq_true] at c
        obtain ⟨as1, R1⟩ := RD.reads I hr ra rfl rx
        obtain ⟨pa, vs, e2, h2, r2⟩ := sq2_ok hr rb e1
        subst e2
        rcases h2 with h2 | ⟨h2, e3⟩
        · obtain ⟨as2, R2⟩ := Dp.reads I (.list ys) _ u (.lst (SqL.of h2) r2.dp) ry
          exact PySem.SeqAt.notIn_list_reads R2 R1 (canLayAll_of c.2) (SeqAt.canLay_of_shaped c.1) (PyProof.Rows.room_in_shaped c.1 hu) ⟨.bl _, H, I, rfl, q⟩
        · subst e3
          obtain ⟨as2, R2⟩ := Dp.reads I (.tuple ys) _ u (.tup (SqT.of h2) r2.dp) ry
          exact PySem.SeqAt.notIn_tuple_reads R2 R1 (canLayAll_of c.2) (SeqAt.canLay_of_shaped c.1) (PyProof.Rows.room_in_shaped c.1 hu) ⟨.bl _, H, I, rfl, q⟩
      · cases e
    · cases e
end
end Ev

namespace Ev
open PySem PySem.Spec PyProof.Rows L2
set_option autoImplicit false

def rB (K : PySem.W.Frag) (b : Bi) : List V → Hp → VK → Prop := fun vs H Q => ∃ w h ds d, HR K w h H ∧ RDs K w H ds vs ∧ biD b h ds = some d ∧ Po K w H h d Q
theorem pairwise_perm_eq : ∀ {l₁ l₂ : List Int}, l₁.Pairwise (· ≤ ·) → l₂.Pairwise (· ≤ ·) → l₁.Perm l₂ → l₁ = l₂ := fun h1 h2 p => List.Perm.eq_of_pairwise (le := (· ≤ ·)) (fun a b _ _ h h' => Int.le_antisymm h h') h1 h2 p
theorem sort_eq {ns ns' : List Int} (p : ns'.Perm ns) (h : ns'.Pairwise (· ≤ ·)) : ns' = ns.mergeSort (fun a b => decide (a ≤ b)) := by
  refine pairwise_perm_eq h ?_ (p.trans (List.mergeSort_perm ns _).symm)
  have := List.pairwise_mergeSort (le := fun (a b : Int) => decide (a ≤ b)) (fun a b c h1 h2 => by simp only [decide_eq_true_eq] at *; omega) (fun a b => by simp only [Bool.or_eq_true, decide_eq_true_eq]; omega) ns
  exact this.imp fun h => of_decide_eq_true h
theorem max_eq {ns : List Int} {m k : Int} (e : ns.max? = some k) (h1 : m ∈ ns) (h2 : ∀ y, y ∈ ns → y ≤ m) : m = k := by
  obtain ⟨k1, k2⟩ := List.max?_eq_some_iff.mp e
  have := k2 m h1
  have := h2 k k1
  omega
theorem min_eq {ns : List Int} {m k : Int} (e : ns.min? = some k) (h1 : m ∈ ns) (h2 : ∀ y, y ∈ ns → m ≤ y) : m = k := by
  obtain ⟨k1, k2⟩ := List.min?_eq_some_iff.mp e
  have := k2 m h1
  have := h2 k k1
  omega
theorem RDs.one {K : PySem.W.Frag} {w : Wr} {H : Hp} {d : D} {vs : List V} (r : RDs K w H [d] vs) : ∃ v, vs = [v] ∧ RD K w H d v := by
  cases r with
  | cons a b => cases b; exact ⟨_, rfl, a⟩
theorem RDs.two {K : PySem.W.Frag} {w : Wr} {H : Hp} {d e : D} {vs : List V} (r : RDs K w H [d, e] vs) : ∃ v u, vs = [v, u] ∧ RD K w H d v ∧ RD K w H e u := by
  cases r with
  | cons a b =>
    obtain ⟨u, rfl, r⟩ := b.one
    exact ⟨_, _, rfl, a, r⟩
section
variable {X : Cx}
theorem bi_len : CallR X (.builtin "len") (rB X.K .len) := by
  intro pins s σ H xs us Q I r ⟨w, h, ds, d, hr, rd, e, k⟩
  unfold biD at e
  split at e <;> try contradiction
  · cases e
    obtain ⟨v, rfl, rv⟩ := rd.one
    cases rv with
    | scr sc =>
      have := call_len_seq pins s σ H _ us Q I r ⟨_, _, rfl, .inl sc.sq, ?_⟩
      · exact this
      · rw [List.length_map]; exact k.now hr (.p (.int _))
  · obtain ⟨ys, e1, e⟩ := Option.map_eq_some_iff.mp e
    subst e
    obtain ⟨v, rfl, rv⟩ := rd.one
    obtain ⟨a, vs, rfl, h1, h2⟩ := sq2_ok hr rv e1
    rw [h2.len] at k
    rcases h1 with h1 | ⟨h1, _⟩
    · exact call_len_seq pins s σ H _ us Q I r ⟨_, _, rfl, .inl (SqL.of h1), k.now hr (.p (.int _))⟩
    · exact call_len_seq pins s σ H _ us Q I r ⟨_, _, rfl, .inr (SqT.of h1), k.now hr (.p (.int _))⟩
theorem bi_tuple : CallR X (.type "tuple") (rB X.K .tupleOf) := by
  intro pins s σ H xs us Q I r ⟨w, h, ds, d, hr, rd, e, k⟩
  unfold biD at e
  split at e <;> try contradiction
  obtain ⟨ys, e1, e⟩ := Option.map_eq_some_iff.mp e
  subst e
  obtain ⟨v, rfl, rv⟩ := rd.one
  obtain ⟨a, vs, rfl, h1, h2⟩ := sq2_ok hr rv e1
  rcases h1 with h1 | ⟨h1, e3⟩
  · exact call_tuple_of pins s σ H _ us Q I r ⟨_, _, rfl, .inl ⟨SqL.of h1, fun p hp => k.newT hr h2 hp⟩⟩
  · exact call_tuple_of pins s σ H _ us Q I r ⟨_, _, rfl, .inr ⟨SqT.of h1, k.now hr (by rw [e3] at rv; exact rv)⟩⟩
theorem keys_rps {K : PySem.W.Frag} {w : Wr} {H : Hp} {h : Hv} (hr : HR K w h H) {kvs : List (List Int × P)} {kvs' : List (List Key × V)} (r : Paired (fun (q : List Int × P) (q' : List Key × V) => q'.1 = q.1.map Sum.inl ∧ Rp K w.ban H q.2 q'.2) kvs kvs') :
    ∀ {vs : List V}, Paired (fun (q : List Key × V) (v : V) => ∃ b, v = .ref b ∧ H b = some (.tup (q.1.map kV))) kvs' vs → Rps K w.ban H (kvs.map fun q => PyData.tuple (q.1.map .int)) vs := by
  induction r with
  | nil => intro vs t; cases t; exact .nil
  | @cons q q' l l' g t0 ih =>
    intro vs t
    cases t with
    | cons h1 h2 =>
      obtain ⟨b, rfl, hb⟩ := h1
      refine .cons (.tup (vs := q.1.map V.int) ⟨?_, ?_⟩ (Rps.ofInts _)) (ih h2)
      · rw [hb, g.1, List.map_map]; rfl
      · exact hr.tupFree hb
theorem bi_list (hc : X.calm = true) : CallR X (.type "list") (rB X.K .listOf) := by
  intro pins s σ H xs us Q I r ⟨w, h, ds, d, hr, rd, e, k⟩
  unfold biD at e
  split at e <;> try contradiction
  · split at e <;> try contradiction
    · rename_i kvs hn
      cases e
      obtain ⟨v, rfl, rv⟩ := rd.one
      cases rv with
      | ref rv =>
        obtain ⟨kvs', g1, g2⟩ := hr.addr hn rv
        exact call_list_dT pins s σ H _ us Q I r ⟨hc, _, kvs', rfl, g1, fun vs p hp t => k.newL hr (keys_rps hr g2 t) hp⟩
    · rename_i ys hn
      cases e
      obtain ⟨v, rfl, rv⟩ := rd.one
      cases rv with
      | ref rv =>
        obtain ⟨vs, g1, g2⟩ := hr.addr hn rv
        exact call_list_of pins s σ H _ us Q I r ⟨_, _, rfl, .inl (SqL.of g1), fun p hp => k.newL hr g2 hp⟩
  · obtain ⟨ys, e1, e⟩ := Option.map_eq_some_iff.mp e
    subst e
    obtain ⟨v, rfl, rv⟩ := rd.one
    obtain ⟨a, vs, rfl, h1, h2⟩ := sq2_ok hr rv e1
    rcases h1 with h1 | ⟨h1, e3⟩
    · exact call_list_of pins s σ H _ us Q I r ⟨_, _, rfl, .inl (SqL.of h1), fun p hp => k.newL hr h2 hp⟩
    · exact call_list_of pins s σ H _ us Q I r ⟨_, _, rfl, .inr (SqT.of h1), fun p hp => k.newL hr h2 hp⟩
theorem tups_of {K : PySem.W.Frag} {ban : List Addr} {H : Hp} : ∀ {xs : List P} {vs : List V} {nss : List (List Int)}, Rps K ban H xs vs → tuples xs = some nss → (nss.all fun ns => !ns.isEmpty) = true → TupsH H vs nss
  | _, _, _, .nil, e, _ => by simp [tuples] at e; subst e; exact .nil
  | .tuple ys :: r, _, nss, .cons (.tup h1 h2) b, e, ha => by
    simp only [tuples] at e
    obtain ⟨ns, e1, e⟩ := Option.bind_eq_some_iff.mp e
    obtain ⟨ms, e2, e⟩ := Option.map_eq_some_iff.mp e
    subst e
    rw [List.all_cons, Bool.and_eq_true] at ha
    have := h2.ints e1
    subst this
    exact .cons ⟨_, rfl, h1.1, fun z => by rw [z] at ha; simp at ha⟩ (tups_of b e2 ha.2)
  | .none :: _, _, _, _, e, _ => by simp [tuples] at e
  | .bool _ :: _, _, _, _, e, _ => by simp [tuples] at e
  | .int _ :: _, _, _, _, e, _ => by simp [tuples] at e
  | .str _ :: _, _, _, _, e, _ => by simp [tuples] at e
  | .list _ :: _, _, _, _, e, _ => by simp [tuples] at e
  | .dict _ :: _, _, _, _, e, _ => by simp [tuples] at e
theorem tups_rps {K : PySem.W.Frag} {w : Wr} {H : Hp} {h : Hv} (hr : HR K w h H) {vs : List V} {nss : List (List Int)} (t : TupsH H vs nss) : Rps K w.ban H (nss.map fun ns => PyData.tuple (ns.map .int)) vs := by
  induction t with
  | nil => exact .nil
  | cons h1 t ih =>
    obtain ⟨b, rfl, hb, _⟩ := h1
    exact .cons (.tup ⟨hb, hr.tupFree hb⟩ (Rps.ofInts _)) ih
theorem bi_sorted : CallR X (.builtin "sorted") (rB X.K .sorted) := by
  intro pins s σ H xs us Q I r ⟨w, h, ds, d, hr, rd, e, k⟩
  unfold biD at e
  split at e <;> try contradiction
  obtain ⟨ys, e1, e⟩ := Option.bind_eq_some_iff.mp e
  obtain ⟨v, rfl, rv⟩ := rd.one
  obtain ⟨a, vs, rfl, h1, h2⟩ := sq_ok hr rv e1
  split at e
  · rename_i ns e2
    split at e <;> try contradiction
    rename_i hl
    cases e
    have := h2.ints e2
    subst this
    refine cr_sorted pins s σ H _ us Q I r ⟨_, ns, rfl, SqL.of h1, hl, fun ns' p pm ps hp => ?_⟩
    have := sort_eq pm ps
    subst this
    exact k.newL hr (Rps.ofInts _) hp
  · obtain ⟨nss, e2, e⟩ := Option.bind_eq_some_iff.mp e
    split at e <;> try contradiction
    rename_i hl
    cases e
    exact call_sortedT pins s σ H _ us Q I r ⟨_, vs, nss, rfl, h1, tups_of h2 e2 hl.2.2, hl.2.1, hl.1, fun p vs' hp t => k.newL hr (tups_rps hr t) hp⟩
theorem bi_sum (hc : X.calm = true) : CallR X (.builtin "sum") (rB X.K .sum) := by
  intro pins s σ H xs us Q I r ⟨w, h, ds, d, hr, rd, e, k⟩
  unfold biD at e
  split at e <;> try contradiction
  obtain ⟨ys, e1, e⟩ := Option.bind_eq_some_iff.mp e
  obtain ⟨ns, e2, e⟩ := Option.map_eq_some_iff.mp e
  subst e
  obtain ⟨v, rfl, rv⟩ := rd.one
  obtain ⟨a, vs, rfl, h1, h2⟩ := sq_ok hr rv e1
  have := h2.ints e2
  subst this
  exact cr_sum hc pins s σ H _ us Q I r ⟨_, ns, rfl, SqL.of h1, k.now hr (.p (.int _))⟩
theorem bi_all (hc : X.calm = true) : CallR X (.builtin "all") (rB X.K .all) := by
  intro pins s σ H xs us Q I r ⟨w, h, ds, d, hr, rd, e, k⟩
  unfold biD at e
  split at e <;> try contradiction
  obtain ⟨ys, e1, e⟩ := Option.bind_eq_some_iff.mp e
  obtain ⟨ns, e2, e⟩ := Option.map_eq_some_iff.mp e
  subst e
  obtain ⟨v, rfl, rv⟩ := rd.one
  obtain ⟨a, vs, rfl, h1, h2⟩ := sq_ok hr rv e1
  have := h2.bools e2
  subst this
  exact cr_all hc pins s σ H _ us Q I r ⟨_, ns, rfl, SqL.of h1, k.now hr (.p (.bl _))⟩
theorem bi_any (hc : X.calm = true) : CallR X (.builtin "any") (rB X.K .any) := by
  intro pins s σ H xs us Q I r ⟨w, h, ds, d, hr, rd, e, k⟩
  unfold biD at e
  split at e <;> try contradiction
  obtain ⟨ys, e1, e⟩ := Option.bind_eq_some_iff.mp e
  obtain ⟨ns, e2, e⟩ := Option.map_eq_some_iff.mp e
  subst e
  obtain ⟨v, rfl, rv⟩ := rd.one
  obtain ⟨a, vs, rfl, h1, h2⟩ := sq_ok hr rv e1
  have := h2.bools e2
  subst this
  exact cr_any hc pins s σ H _ us Q I r ⟨_, ns, rfl, SqL.of h1, k.now hr (.p (.bl _))⟩
theorem pos_of_max {ns : List Int} {m : Int} (e : ns.max? = some m) : 0 < ns.length := List.length_pos_of_mem (List.max?_eq_some_iff.mp e).1
theorem pos_of_min {ns : List Int} {m : Int} (e : ns.min? = some m) : 0 < ns.length := List.length_pos_of_mem (List.min?_eq_some_iff.mp e).1
theorem bi_max1 (hc : X.calm = true) : CallR X (.builtin "max") (rB X.K .max1) := by
  intro pins s σ H xs us Q I r ⟨w, h, ds, d, hr, rd, e, k⟩
  unfold biD at e
  split at e <;> try contradiction
  obtain ⟨ys, e1, e⟩ := Option.bind_eq_some_iff.mp e
  obtain ⟨ns, e2, e⟩ := Option.bind_eq_some_iff.mp e
  obtain ⟨m, e3, e⟩ := Option.map_eq_some_iff.mp e
  subst e
  obtain ⟨v, rfl, rv⟩ := rd.one
  obtain ⟨a, vs, rfl, h1, h2⟩ := sq_ok hr rv e1
  have := h2.ints e2
  subst this
  refine cr_max hc pins s σ H _ us Q I r ⟨_, ns, rfl, SqL.of h1, pos_of_max e3, fun m' g1 g2 => ?_⟩
  have := max_eq e3 g1 g2
  subst this
  exact k.now hr (.p (.int _))
theorem bi_min1 (hc : X.calm = true) : CallR X (.builtin "min") (rB X.K .min1) := by
  intro pins s σ H xs us Q I r ⟨w, h, ds, d, hr, rd, e, k⟩
  unfold biD at e
  split at e <;> try contradiction
  obtain ⟨ys, e1, e⟩ := Option.bind_eq_some_iff.mp e
  obtain ⟨ns, e2, e⟩ := Option.bind_eq_some_iff.mp e
  obtain ⟨m, e3, e⟩ := Option.map_eq_some_iff.mp e
  subst e
  obtain ⟨v, rfl, rv⟩ := rd.one
  obtain ⟨a, vs, rfl, h1, h2⟩ := sq_ok hr rv e1
  have := h2.ints e2
  subst this
  refine cr_min hc pins s σ H _ us Q I r ⟨_, ns, rfl, SqL.of h1, pos_of_min e3, fun m' g1 g2 => ?_⟩
  have := min_eq e3 g1 g2
  subst this
  exact k.now hr (.p (.int _))
theorem bi_max2 (hc : X.calm = true) : CallR X (.builtin "max") (rB X.K .max2) := by
  intro pins s σ H xs us Q I r ⟨w, h, ds, d, hr, rd, e, k⟩
  unfold biD at e
  split at e <;> try contradiction
  cases e
  obtain ⟨v, u, rfl, rv, ru⟩ := rd.two
  have := rv.int'; subst this
  have := ru.int'; subst this
  exact call_max2 hc pins s σ H _ us Q I r ⟨_, _, rfl, k.now hr (.p (.int _))⟩
theorem bi_min2 (hc : X.calm = true) : CallR X (.builtin "min") (rB X.K .min2) := by
  intro pins s σ H xs us Q I r ⟨w, h, ds, d, hr, rd, e, k⟩
  unfold biD at e
  split at e <;> try contradiction
  cases e
  obtain ⟨v, u, rfl, rv, ru⟩ := rd.two
  have := rv.int'; subst this
  have := ru.int'; subst this
  exact call_min2 hc pins s σ H _ us Q I r ⟨_, _, rfl, k.now hr (.p (.int _))⟩
theorem bi_int : CallR X (.type "int") (rB X.K .int) := by
  intro pins s σ H xs us Q I r ⟨w, h, ds, d, hr, rd, e, k⟩
  unfold biD at e
  split at e <;> try contradiction
  · cases e
    obtain ⟨v, rfl, rv⟩ := rd.one
    have := rv.int'; subst this
    exact call_int1 pins s σ H _ us Q I r (.inl ⟨_, rfl, k.now hr (.p (.int _))⟩)
  · cases e
    obtain ⟨v, rfl, rv⟩ := rd.one
    have := bOf_ok rv rfl; subst this
    exact call_int1 pins s σ H _ us Q I r (.inr ⟨_, rfl, k.now hr (.p (.int _))⟩)
theorem bi_abs : CallR X (.builtin "abs") (rB X.K .abs) := by
  intro pins s σ H xs us Q I r ⟨w, h, ds, d, hr, rd, e, k⟩
  unfold biD at e
  split at e <;> try contradiction
  cases e
  obtain ⟨v, rfl, rv⟩ := rd.one
  have := rv.int'; subst this
  exact call_abs pins s σ H _ us Q I r ⟨_, rfl, k.now hr (.p (.int _))⟩
/-- which types isinstance is asked of -/
def tyOk (T : String) : Bool := T == "int" || T == "bool" || T == "tuple" || T == "list" || T == "dict" || T == "str"
theorem kit_ty (K : PySem.W.Frag) {T : String} (hT : tyOk T = true) : ∀ t ∈ ["NoneType", "bool", "int", "str", "list", "tuple", "dict"], PySem.W.kitOne K (.type t) (.type T) = some (isT T t) := by
  simp only [tyOk, Bool.or_eq_true, beq_iff_eq] at hT
  rcases hT with ((((h | h) | h) | h) | h) | h <;> subst h <;> intro t ht <;> simp only [List.mem_cons, List.mem_nil_iff, or_false] at ht <;> rcases ht with h | h | h | h | h | h | h <;> subst h <;> rfl
theorem ty_ok {K : PySem.W.Frag} {w : Wr} {H : Hp} {h : Hv} {d : D} {v : V} (hr : HR K w h H) (r : RD K w H d v) (hd : ∀ ns, d ≠ .scr ns) (hn : tyName h d ≠ "?") : TyOf K H v (.type (tyName h d)) ∧ tyName h d ∈ ["NoneType", "bool", "int", "str", "list", "tuple", "dict"] := by
  cases r with
  | p r =>
    cases r with
    | non => exact ⟨.non, by simp [tyName]⟩
    | bl b => exact ⟨.bl b, by simp [tyName]⟩
    | int b => exact ⟨.int b, by simp [tyName]⟩
    | str b => exact ⟨.str b, by simp [tyName]⟩
    | lst h1 _ _ => exact ⟨.lst h1, by simp [tyName]⟩
    | tup h1 _ => exact ⟨.tup h1.1, by simp [tyName]⟩
  | @ref n a r =>
    simp only [tyName] at hn ⊢
    cases q : h[n]? with
    | none => rw [q] at hn; exact absurd rfl hn
    | some c =>
      have co := hr.addr q r
      cases c with
      | lst xs => obtain ⟨vs, h1, _⟩ := co; exact ⟨.lst h1, by simp⟩
      | dct xs => obtain ⟨vs, h1, _⟩ := co; exact ⟨.dT h1, by simp⟩
  | scr r => exact absurd rfl (hd _)
theorem bi_isT {T : String} (hT : tyOk T = true) : CallR X (.builtin "isinstance") (fun xs H Q => ∃ x, xs = [x, .ty T] ∧ ∃ w h d, HR X.K w h H ∧ RD X.K w H d x ∧ (∀ ns, d ≠ .scr ns) ∧ tyName h d ≠ "?" ∧ Q (.bl (isT T (tyName h d))) H) := by
  intro pins s σ H xs us Q I r ⟨x, e, w, h, d, hr, rd, hd, hn, q⟩
  subst e
  obtain ⟨u, c, rfl, ru, rc⟩ := r.two
  cases rc
  obtain ⟨ty, mem⟩ := ty_ok hr rd hd hn
  exact isinst_ok I ru ty (kit_ty X.K hT _ mem) fun tk => ⟨.bl _, H, I.tok tk, rfl, q⟩
end
end Ev

namespace Ev
open PySem PySem.Spec PyProof.Rows L2
set_option autoImplicit false

/-! ### names -/
def visB (sc : Scope) (x : Str) : Bool := match sc.names.lookup x with
  | some .local => true
  | some .cell => true
  | some .free => true
  | _ => false
def locB (sc : Scope) (x : Str) : Bool := match sc.names.lookup x with
  | some .local => true
  | some .cell => true
  | _ => false
def lo1B (sc : Scope) (x : Str) : Bool := match sc.names.lookup x with
  | some .local => true
  | _ => false
def gloB (sc : Scope) (x : Str) : Bool := match sc.names.lookup x with
  | some .globalImplicit => true
  | _ => false
structure Nm (X : Cx) (N : List Str) (sc : Scope) : Prop where
  eN : X.N = N
  nd : N.Nodup
  kd : X.env.scope.kind = .function
  vis : ∀ x, visB sc x = true → Vis X.env.scope x
  loc : ∀ x, locB sc x = true → Loc X.env.scope x
  fn : ∀ x, locB sc x = true → X.fn x = true ∨ X.env.scope.names.lookup x = some .local
  lo1 : ∀ x, lo1B sc x = true → X.env.scope.names.lookup x = some .local
  glo : ∀ x, gloB sc x = true → Gl X x
  cap : ∀ x, sc.names.lookup x = some .cell ∨ sc.names.lookup x = some .free → X.env.scope.names.lookup x = some .cell ∨ X.env.scope.names.lookup x = some .free
  ce1 : ∀ x, sc.names.lookup x = some .cell → X.env.scope.names.lookup x = some .cell
  calm : X.calm = true
  po : X.xe = fun _ _ => False
structure Tab where
  fs : List (Str × Nat)
  gs : List (Str × Int)
def blts : List Str := ["len", "tuple", "list", "sorted", "sum", "max", "min", "all", "any", "int", "abs", "isinstance", "range", "zip", "bool", "dict", "str"]
/-- the defs' promise -/
def spE (K : PySem.W.Frag) (C : Ca) (j : Nat) (n : Nat) : Sp := fun vs H Q _ => vs.length = n ∧ ∃ w h ds d h', HR K w h H ∧ RDs K w H ds vs ∧ C j ds h = some (d, h') ∧ Po K w H h' d Q
structure Tb (P : Program) (w : World) (K : PySem.W.Frag) (mg : Str → Option Value) (base : Heap) (T : Tab) (k : Nat) (C : Ca) : Prop where
  fn : ∀ (j : Nat) (x : Str) (n : Nat), T.fs[j]? = some (x, n) → ∃ f fd ps, ps.length = n ∧ mg x = some (.ref f) ∧ PySem.W.keepIn K (.ref f) = true ∧ Binds K fd ps [] ∧ FnOk P w K mg base CX0 k f fd ps (spE K C j n)
  gl : ∀ (x : Str) (i : Int), (x, i) ∈ T.gs → ∃ t, mg x = some (.int i t)
  bl : ∀ x ∈ blts, mg x = none
structure Ct (X : Cx) (N : List Str) (sc : Scope) (T : Tab) (k : Nat) (C : Ca) : Prop where
  nm : Nm X N sc
  tb : Tb X.prog X.w X.K X.mg X.base T k C
  rm : Room k X.A

/-! ### the readings -/
def tE (K : PySem.W.Frag) (C : Ca) (e : E) : TE := fun σ H Q => ∃ w h σ' d h', HR K w h H ∧ SR K w H σ' σ ∧ ev C e σ' h = some (d, h') ∧ Po K w H h' d Q
def tA (K : PySem.W.Frag) (C : Ca) (es : List E) : TA := fun σ H Q => ∃ w h σ' ds h', HR K w h H ∧ SR K w H σ' σ ∧ evs C es σ' h = some (ds, h') ∧ ∀ vs H' w', Nx w w' H H' → HR K w' h' H' → RDs K w' H' ds vs → Q vs H'
def tO (K : PySem.W.Frag) (C : Ca) (e : Option E) : TO := fun σ H Q => ∃ w h σ' r h', HR K w h H ∧ SR K w H σ' σ ∧ evo C e σ' h = some (r, h') ∧ ∀ H' w', Nx w w' H H' → HR K w' h' H' → Q r H'
def tB (K : PySem.W.Frag) (C : Ca) (e : E) : TT := fun σ H Q => ∃ w h σ' b h', HR K w h H ∧ SR K w H σ' σ ∧ evB C e σ' h = some (b, h') ∧ ∀ H' w', Nx w w' H H' → HR K w' h' H' → Q b H'
def tC' (K : PySem.W.Frag) (C : Ca) (e : Option E) : TT := fun σ H Q => ∃ w h σ' b h', HR K w h H ∧ SR K w H σ' σ ∧ evc C e σ' h = some (b, h') ∧ ∀ H' w', Nx w w' H H' → HR K w' h' H' → Q b H'
/-- J walks xs from this heap on -/
def Wk (K : PySem.W.Frag) (w1 : Wr) (H1 : Hp) (J : L2.It) (xs : List P) (pin : Option Nat) : Prop := ∀ w2 H2 h2, Nx w1 w2 H1 H2 → HR K w2 h2 H2 → (∀ n, pin = some n → h2[n]? = some (.lst xs)) → ∀ i : Nat,
  (∀ x, xs[i]? = some x → J.go i H2 ∧ ∀ v H3, J.yld i H2 v H3 → Nx w2 w2 H2 H3 ∧ HR K w2 h2 H3 ∧ Rp K w2.ban H3 x v) ∧ (xs.length ≤ i → J.stop i H2)
def tI (K : PySem.W.Frag) (C : Ca) (it : It) : TI := fun σ H R => ∃ w h σ' xs pin h', HR K w h H ∧ SR K w H σ' σ ∧ evi C it σ' h = some (xs, pin, h') ∧ ∀ J H' w', Nx w w' H H' → HR K w' h' H' → Wk K w' H' J xs pin → R J H'
def slots : Tg → List Nat
  | .one i => [i]
  | .tup is => is
def tG (K : PySem.W.Frag) (t : Tg) : TG := fun v σ H Q => ∃ w σ' d σ1', SR K w H σ' σ ∧ Rp K w.ban H d v ∧ tgD t d σ' = some σ1' ∧ ∀ σ1, SR K w H σ1' σ1 → (∀ vs, (∀ i ∈ slots t, i ∈ vs) → wipe σ1 vs = wipe σ vs) → Q σ1 H
theorem PE.imp {X : Cx} {ex : Expr} {t t' : TE} (h : PE X ex t) (i : ∀ σ H Q, t' σ H Q → t σ H Q) : PE X ex t' := fun pins s σ H Q I q => h pins s σ H Q I (i σ H Q q)
theorem PT.imp {X : Cx} {ex : Expr} {t t' : TT} (h : PT X ex t) (i : ∀ σ H Q, t' σ H Q → t σ H Q) : PT X ex t' := fun pins s σ H Q I q => h pins s σ H Q I (i σ H Q q)
theorem PW.imp {X : Cx} {ex : Expr} {t t' : TT} (h : PW X ex t) (i : ∀ σ H Q, t' σ H Q → t σ H Q) : PW X ex t' := fun wh pins s σ H Q I q => h wh pins s σ H Q I (i σ H Q q)
theorem PA.imp {X : Cx} {ex : List Expr} {t t' : TA} (h : PA X ex t) (i : ∀ σ H Q, t' σ H Q → t σ H Q) : PA X ex t' := fun p pins s σ H Q I q => h p pins s σ H Q I (i σ H Q q)
theorem PO.imp {X : Cx} {ex : Option Expr} {t t' : TO} (h : PO X ex t) (i : ∀ σ H Q, t' σ H Q → t σ H Q) : PO X ex t' := fun pins s σ H Q I q => h pins s σ H Q I (i σ H Q q)
theorem PI.imp {X : Cx} {tg ex : Expr} {t t' : TI} (h : PI X tg ex t) (i : ∀ σ H Q, t' σ H Q → t σ H Q) : PI X tg ex t' := fun pins s σ H Q I q => h pins s σ H Q I (i σ H Q q)
theorem PG.imp {X : Cx} {tg : Expr} {t t' : TG} (h : PG X tg t) (i : ∀ v σ H Q, t' v σ H Q → t v σ H Q) : PG X tg t' := fun pins s σ H v u Q I r q => h pins s σ H v u Q I r (i v σ H Q q)
theorem PS.imp {X : Cx} {st : Stmt} {t t' : TS} (h : PS X st t) (i : ∀ D σ H, t' D σ H → t D σ H) : PS X st t' := fun pins s σ H D I q => h pins s σ H D I (i D σ H q)
theorem PSs.imp {X : Cx} {st : List Stmt} {t t' : TS} (h : PSs X st t) (i : ∀ D σ H, t' D σ H → t D σ H) : PSs X st t' := fun pins s σ H D I q => h pins s σ H D I (i D σ H q)

/-! ### one expression, then another -/
section
variable {K : PySem.W.Frag} {C : Ca} {w : Wr} {h h1 h2 : Hv} {H : Hp} {σ' : Sv} {σ : L2.St}
theorem tE1 {a : E} {x : D} {R : VK} (hr : HR K w h H) (sr : SR K w H σ' σ) (e1 : ev C a σ' h = some (x, h1))
    (k : ∀ v H1 w1, Nx w w1 H H1 → HR K w1 h1 H1 → SR K w1 H1 σ' σ → RD K w1 H1 x v → R v H1) : tE K C a σ H R :=
  ⟨w, h, σ', x, h1, hr, sr, e1, fun v H1 w1 n hr1 r => k v H1 w1 n hr1 (sr.nx n) r⟩
theorem tE2 {a b : E} {x y : D} {R : V → V → Hp → Prop} (hr : HR K w h H) (sr : SR K w H σ' σ) (e1 : ev C a σ' h = some (x, h1)) (e2 : ev C b σ' h1 = some (y, h2))
    (k : ∀ v u H2 w2, Nx w w2 H H2 → HR K w2 h2 H2 → SR K w2 H2 σ' σ → RD K w2 H2 x v → RD K w2 H2 y u → R v u H2) : tE K C a σ H fun v H1 => tE K C b σ H1 fun u H2 => R v u H2 :=
  tE1 hr sr e1 fun v H1 w1 n1 hr1 sr1 r1 => tE1 hr1 sr1 e2 fun u H2 w2 n2 hr2 sr2 r2 => k v u H2 w2 (n1.trans n2) hr2 sr2 (r1.nx n2) r2
end
theorem Po.nx {K : PySem.W.Frag} {w w1 : Wr} {H H1 : Hp} {h' : Hv} {d : D} {Q : VK} (k : Po K w H h' d Q) (n : Nx w w1 H H1) : Po K w1 H1 h' d Q := fun v H' w' n' hr r => k v H' w' (n.trans n') hr r

/-! ### what the text must look like -/
def notStar : Expr → Bool
  | .Starred .. => false
  | _ => true
def notSlice : Expr → Bool
  | .Slice .. => false
  | _ => true
def notComp : Expr → Bool
  | .ListComp .. => false
  | .SetComp .. => false
  | .DictComp .. => false
  | _ => true
def plainT : Expr → Bool
  | .UnaryOp .. => false
  | .BoolOp .. => false
  | .IfExp .. => false
  | .Compare .. => false
  | _ => true
theorem star_of {e : Expr} {es : List Expr} {env : Env} (h : notStar e = true) : starEach (e :: es) env = (false, eval e env) :: starEach es env := by
  cases e <;> first | rfl | simp [notStar] at h
theorem stars_of {env : Env} {pos : Pos} : ∀ {es : List Expr}, es.all notStar = true → (backTo pos (starEach es env)).any (·.1) = false
  | [], _ => rfl
  | e :: es, h => by
    rw [List.all_cons, Bool.and_eq_true] at h
    have ih := stars_of (env := env) (pos := pos) h.2
    rw [star_of h.1]
    show (false || (backTo pos (starEach es env)).any (·.1)) = false
    rw [ih]; rfl
theorem slice_of {e : Expr} (h : notSlice e = true) : PlainIx e := by
  intro o i
  cases e <;> first | rfl | simp [notSlice] at h
theorem plain_of {e : Expr} {env : Env} (h : plainT e = true) : ∀ whole, isTrue e env whole = (do let v ← whole; standAt e.pos; holding [v] (truthy v)) := by
  intro whole
  cases e <;> first | rfl | simp [plainT] at h
theorem folded_of {e : Expr} {env : Env} (h : (match e with | .Set .. => false | _ => true) = true) : ∀ x, foldedSetIterable e env x = pure x := by
  intro x
  cases e <;> first | rfl | simp at h
/-- built-in functions, types: their names -/
def biB : Bi → Option Str
  | .len => some "len"
  | .sorted => some "sorted"
  | .sum => some "sum"
  | .max1 => some "max"
  | .max2 => some "max"
  | .min1 => some "min"
  | .min2 => some "min"
  | .all => some "all"
  | .any => some "any"
  | .abs => some "abs"
  | _ => none
def biTy : Bi → Option Str
  | .tupleOf => some "tuple"
  | .listOf => some "list"
  | .int => some "int"
  | _ => none
def chkTg (N : List Str) (sc : Scope) : Tg → Expr → Bool
  | .one i, ex => match ex with
    | .Name x _ => (N[i]? == some x) && locB sc x
    | _ => false
  | .tup is, ex => match ex with
    | .Tuple es _ _ => go is es
    | _ => false
where go : List Nat → List Expr → Bool
  | [], [] => true
  | i :: is, .Name x _ :: es => (N[i]? == some x) && locB sc x && go is es
  | _, _ => false
def notSet : Expr → Bool
  | .Set .. => false
  | _ => true
mutual
def chk (T : Tab) (N : List Str) (sc : Scope) : E → Expr → Bool
  | .var i, ex => match ex with
    | .Name x _ => (N[i]? == some x) && visB sc x && !(x == ("__debug__" : Str)) && !(x == ("__classdict__" : Str))
    | _ => false
  | .int i, ex => match ex with
    | .Constant (.int j) _ _ => i == j
    | _ => false
  | .bl i, ex => match ex with
    | .Constant (.bool j) _ _ => i == j
    | _ => false
  | .non, ex => match ex with
    | .Constant .none _ _ => true
    | _ => false
  | .str i, ex => match ex with
    | .Constant (.str j) _ _ => decide (i = j)
    | _ => false
  | .glb x i, ex => match ex with
    | .Name y _ => (x == y) && gloB sc y && T.gs.contains (x, i) && !(y == ("__debug__" : Str))
    | _ => false
  | .tru _, _ => false
  | .op o a b, ex => match ex with
    | .BinOp l op r _ => opIs o op && chk T N sc a l && chk T N sc b r
    | _ => false
  | .neg a, ex => match ex with
    | .UnaryOp .USub l _ => chk T N sc a l
    | _ => false
  | .cmp c a b, ex => match ex with
    | .Compare l [op] [r] _ => cpIs c op && !behindInMarks op r && chk T N sc a l && chk T N sc b r
    | _ => false
  | .chain c c' a b d, ex => match ex with
    | .Compare l [op, op'] [m, r] _ => cpIs c op && cpIs c' op' && !lastMarks [op, op'] [m, r] && chk T N sc a l && chk T N sc b m && chk T N sc d r
    | _ => false
  | .and a b, ex => match ex with
    | .BoolOp .And [x, y] _ => chk T N sc a x && chk T N sc b y
    | .BoolOp .And (x :: y :: z :: r) pos => chk T N sc a x && chk T N sc b (.BoolOp .And (y :: z :: r) pos)
    | _ => false
  | .or a b, ex => match ex with
    | .BoolOp .Or [x, y] _ => chk T N sc a x && chk T N sc b y
    | .BoolOp .Or (x :: y :: z :: r) pos => chk T N sc a x && chk T N sc b (.BoolOp .Or (y :: z :: r) pos)
    | _ => false
  | .not a, ex => match ex with
    | .UnaryOp .Not l _ => chk T N sc a l
    | _ => false
  | .ite c a b, ex => match ex with
    | .IfExp t l r _ => chkT T N sc c t && chk T N sc a l && chk T N sc b r
    | _ => false
  | .tup xs, ex => match ex with
    | .Tuple es _ _ => chks T N sc xs es
    | _ => false
  | .lst xs, ex => match ex with
    | .List es _ => chks T N sc xs es
    | _ => false
  | .idx a i, ex => match ex with
    | .Subscript l r _ => notSlice r && chk T N sc a l && chk T N sc i r
    | _ => false
  | .slc a lo hi, ex => match ex with
    | .Subscript l (.Slice x y none _) _ => chk T N sc a l && chko T N sc lo x && chko T N sc hi y
    | _ => false
  | .call f _ xs, ex => match ex with
    | .Call (.Name x _) (e :: es) [] _ => (T.fs[f]? == some (x, xs.length)) && gloB sc x && !(x == ("__debug__" : Str)) && chks T N sc xs (e :: es)
    | _ => false
  | .bi b xs, ex => match ex with
    | .Call (.Name x _) (e :: es) [] _ => ((biB b == some x) || (biTy b == some x)) && gloB sc x && chks T N sc xs (e :: es)
    | _ => false
  | .isi ty a, ex => match ex with
    | .Call (.Name x _) [e, .Name t _] [] _ => (x == ("isinstance" : Str)) && gloB sc x && gloB sc t && (t == Str.ofString ty) && tyOk ty && notStar e && chk T N sc a e
    | _ => false
  | .dget d k, ex => match ex with
    | .Subscript l r _ => notSlice r && chk T N sc d l && chk T N sc k r
    | _ => false
  | .lc own e t it c, ex => match ex with
    | .ListComp elt [⟨tg, iter, ifs, 0⟩] scope _ => notSet iter && chkTg N scope t tg && (slots t).all (fun i => own.contains i) && chki T N sc it tg iter && chkc T N scope c ifs && chk T N scope e elt && blkC N sc scope (own.map fun i => (N.getD i "", i))
    | _ => false
def chks (T : Tab) (N : List Str) (sc : Scope) : List E → List Expr → Bool
  | [], [] => true
  | e :: es, x :: xs => notStar x && chk T N sc e x && chks T N sc es xs
  | _, _ => false
def chko (T : Tab) (N : List Str) (sc : Scope) : Option E → Option Expr → Bool
  | none, none => true
  | some e, some x => chk T N sc e x
  | _, _ => false
def chkc (T : Tab) (N : List Str) (sc : Scope) : Option E → List Expr → Bool
  | none, [] => true
  | some e, [x] => chkT T N sc e x
  | _, _ => false
def chki (T : Tab) (N : List Str) (sc : Scope) : It → Expr → Expr → Bool
  | .seq e, _, ex => chk T N sc e ex
  | .rng e, _, ex => match ex with
    | .Call (.Name x _) [a] [] _ => (x == ("range" : Str)) && gloB sc x && notStar a && chk T N sc e a
    | _ => false
  | .rng2 e f, _, ex => match ex with
    | .Call (.Name x _) [a, b] [] _ => (x == ("range" : Str)) && gloB sc x && notStar a && notStar b && chk T N sc e a && chk T N sc f b
    | _ => false
  | .zip e f, tg, ex => match tg, ex with
    | .Tuple .., .Call (.Name x _) [a, b] [] _ => (x == ("zip" : Str)) && gloB sc x && notStar a && notStar b && chk T N sc e a && chk T N sc f b
    | _, _ => false
def chkT (T : Tab) (N : List Str) (sc : Scope) : E → Expr → Bool
  | .and a b, ex => match ex with
    | .BoolOp .And [x, y] _ => chkT T N sc a x && chkT T N sc b y
    | .BoolOp .And (x :: y :: z :: r) pos => chkT T N sc a x && chkT T N sc b (.BoolOp .And (y :: z :: r) pos)
    | _ => false
  | .or a b, ex => match ex with
    | .BoolOp .Or [x, y] _ => chkT T N sc a x && chkT T N sc b y
    | .BoolOp .Or (x :: y :: z :: r) pos => chkT T N sc a x && chkT T N sc b (.BoolOp .Or (y :: z :: r) pos)
    | _ => false
  | .not a, ex => match ex with
    | .UnaryOp .Not l _ => chkT T N sc a l
    | _ => false
  | .cmp c a b, ex => match ex with
    | .Compare l [op] [r] _ => cpIs c op && !behindInMarks op r && chk T N sc a l && chk T N sc b r
    | _ => false
  | .chain c c' a b d, ex => match ex with
    | .Compare l [op, op'] [m, r] _ => cpIs c op && cpIs c' op' && !lastMarks [op, op'] [m, r] && chk T N sc a l && chk T N sc b m && chk T N sc d r
    | _ => false
  | .tru a, ex => plainT ex && chk T N sc a ex
  | .var i, ex => plainT ex && match ex with
    | .Name x _ => (N[i]? == some x) && visB sc x && !(x == ("__debug__" : Str)) && !(x == ("__classdict__" : Str))
    | _ => false
  | .call f fr xs, ex => plainT ex && match ex with
    | .Call (.Name x _) (e :: es) [] _ => (T.fs[f]? == some (x, xs.length)) && gloB sc x && !(x == ("__debug__" : Str)) && chks T N sc xs (e :: es)
    | _ => false
  | .bi b xs, ex => plainT ex && match ex with
    | .Call (.Name x _) (e :: es) [] _ => ((biB b == some x) || (biTy b == some x)) && gloB sc x && chks T N sc xs (e :: es)
    | _ => false
  | .isi ty a, ex => plainT ex && match ex with
    | .Call (.Name x _) [e, .Name t _] [] _ => (x == ("isinstance" : Str)) && gloB sc x && gloB sc t && (t == Str.ofString ty) && tyOk ty && notStar e && chk T N sc a e
    | _ => false
  | _, _ => false
end
end Ev

namespace Ev
open PySem PySem.Spec PyProof.Rows L2
set_option autoImplicit false
/-! ### the parts -/
section
variable {X : Cx} {N : List Str} {sc : Scope} {T : Tab} {k : Nat} {C : Ca}
theorem s_var (c : Ct X N sc T k C) {i : Nat} {x : Str} {pos : Pos} (h1 : N[i]? = some x) (h2 : visB sc x = true) (h3 : (x == ("__debug__" : Str)) = false) (h4 : (x == ("__classdict__" : Str)) = false) : PE X (.Name x pos) (tE X.K C (.var i)) := by
  refine PE.imp (pe_var (i := i) (by rw [c.nm.eN]; exact h1) (c.nm.vis x h2) h3 h4) fun σ H Q ⟨w, h, σ', d, h', hr, sr, e, q⟩ => ?_
  simp only [ev] at e
  split at e
  · rename_i d0 e0
    cases e
    obtain ⟨v, v1, v2⟩ := sr.at' i _ e0
    exact ⟨v, v1, q.now hr v2⟩
  · cases e
theorem s_op (c : Ct X N sc T k C) {o : Op} {op : Operator} {a b : E} {l r : Expr} {pos : Pos} (ho : opIs o op = true) (ha : PE X l (tE X.K C a)) (hb : PE X r (tE X.K C b)) : PE X (.BinOp l op r pos) (tE X.K C (.op o a b)) := by
  refine PE.imp (pe_op (op_ok ho) ha hb) fun σ H Q ⟨w, h, σ', d, h', hr, sr, e, q⟩ => ?_
  simp only [ev] at e
  obtain ⟨⟨x, h1⟩, e1, e⟩ := Option.bind_eq_some_iff.mp e
  obtain ⟨⟨y, h2⟩, e2, e⟩ := Option.bind_eq_some_iff.mp e
  obtain ⟨z, e3, e⟩ := Option.map_eq_some_iff.mp e
  cases e
  exact tE2 hr sr e1 e2 fun v u H2 w2 n hr2 sr2 r1 r2 => ⟨w2, _, x, y, _, hr2, r1, r2, e3, q.nx n⟩
theorem s_neg (c : Ct X N sc T k C) {a : E} {l : Expr} {pos : Pos} (ha : PE X l (tE X.K C a)) : PE X (.UnaryOp .USub l pos) (tE X.K C (.neg a)) := by
  refine PE.imp (pe_un un_neg ha) fun σ H Q ⟨w, h, σ', d, h', hr, sr, e, q⟩ => ?_
  simp only [ev] at e
  obtain ⟨⟨x, h1⟩, e1, e⟩ := Option.bind_eq_some_iff.mp e
  obtain ⟨z, e3, e⟩ := Option.map_eq_some_iff.mp e
  cases e
  exact tE1 hr sr e1 fun v H2 w2 n hr2 sr2 r1 => ⟨z, iOf_ok r1 e3, (q.nx n).now hr2 (.p (.int _))⟩
theorem hu65 {k : Nat} {A : Around} (h : Room k A) : A.units + 65 < cLine := by have := h.un; omega
theorem s_cmp (c : Ct X N sc T k C) {o : Cp} {op : CmpOp} {a b : E} {l r : Expr} {pos : Pos} (ho : cpIs o op = true) (hm : behindInMarks op r = false) (ha : PE X l (tE X.K C a)) (hb : PE X r (tE X.K C b)) : PE X (.Compare l [op] [r] pos) (tE X.K C (.cmp o a b)) := by
  refine PE.imp (pe_cmpR (cmp_ok ho (hu65 c.rm)) ha hb hm) fun σ H Q ⟨w, h, σ', d, h', hr, sr, e, q⟩ => ?_
  simp only [ev] at e
  obtain ⟨⟨x, h1⟩, e1, e⟩ := Option.bind_eq_some_iff.mp e
  obtain ⟨⟨y, h2⟩, e2, e⟩ := Option.bind_eq_some_iff.mp e
  obtain ⟨z, e3, e⟩ := Option.map_eq_some_iff.mp e
  cases e
  exact tE2 hr sr e1 e2 fun v u H2 w2 n hr2 sr2 r1 r2 => ⟨w2, h2, x, y, z, hr2, r1, r2, e3, (q.nx n).now hr2 (.p (.bl _))⟩
theorem chain_read {K : PySem.W.Frag} {o o' : Cp} {a b d : E} {σ : L2.St} {H : Hp} {Q : VK} (t : tE K C (.chain o o' a b d) σ H Q) : tChain (rCp K o) (rCp K o') (tE K C a) (tE K C b) (tE K C d) σ H Q := by
  obtain ⟨w, h, σ', d0, h', hr, sr, e, q⟩ := t
  simp only [ev] at e
  obtain ⟨⟨x, h1⟩, e1, e⟩ := Option.bind_eq_some_iff.mp e
  obtain ⟨⟨y, h2⟩, e2, e⟩ := Option.bind_eq_some_iff.mp e
  obtain ⟨z, e3, e⟩ := Option.bind_eq_some_iff.mp e
  refine tE2 hr sr e1 e2 fun v u H2 w2 n hr2 sr2 r1 r2 => ⟨w2, h2, x, y, z, hr2, r1, r2, e3, z, rfl, ?_⟩
  cases z with
  | true =>
    simp only [if_true] at e ⊢
    obtain ⟨⟨u', h3⟩, e4, e⟩ := Option.bind_eq_some_iff.mp e
    obtain ⟨z', e5, e⟩ := Option.map_eq_some_iff.mp e
    cases e
    exact tE1 hr2 sr2 e4 fun v3 H3 w3 n3 hr3 sr3 r3 => ⟨w3, h3, y, u', z', hr3, r2.nx n3, r3, e5, (q.nx (n.trans n3)).now hr3 (.p (.bl _))⟩
  | false =>
    simp only [Bool.false_eq_true, if_false] at e ⊢
    cases e
    exact (q.nx n).now hr2 (.p (.bl _))
theorem s_chain (c : Ct X N sc T k C) {o o' : Cp} {op op' : CmpOp} {a b d : E} {l m r : Expr} {pos : Pos} (ho : cpIs o op = true) (ho' : cpIs o' op' = true) (hm : lastMarks [op, op'] [m, r] = false)
    (ha : PE X l (tE X.K C a)) (hb : PE X m (tE X.K C b)) (hd : PE X r (tE X.K C d)) : PE X (.Compare l [op, op'] [m, r] pos) (tE X.K C (.chain o o' a b d)) :=
  PE.imp (pe_chain (cmp_ok ho (hu65 c.rm)) (cmp_ok ho' (hu65 c.rm)) ha hb hd hm) fun σ H Q t => chain_read t
/-- a bool's test of an expression -/
theorem tB_of {K : PySem.W.Frag} {a : E} {σ : L2.St} {H : Hp} {Q : Bool → Hp → Prop} (t : tB K C a σ H Q) : tE K C a σ H fun x H1 => ∃ c, x = .bl c ∧ Q c H1 := by
  obtain ⟨w, h, σ', b, h', hr, sr, e, q⟩ := t
  obtain ⟨⟨x, h1⟩, e1, e⟩ := Option.bind_eq_some_iff.mp e
  obtain ⟨z, e2, e⟩ := Option.map_eq_some_iff.mp e
  cases e
  exact tE1 hr sr e1 fun v H1 w1 n hr1 sr1 r => ⟨b, bOf_ok r e2, q _ _ n hr1⟩
theorem s_and (c : Ct X N sc T k C) {a b : E} {x y : Expr} {rest : List Expr} {pos : Pos} (ha : PE X x (tE X.K C a)) (hb : PE X (.BoolOp .And (y :: rest) pos) (tE X.K C b)) : PE X (.BoolOp .And (x :: y :: rest) pos) (tE X.K C (.and a b)) := by
  refine PE.imp (pe_and ha hb) fun σ H Q ⟨w, h, σ', d, h', hr, sr, e, q⟩ => ?_
  simp only [ev] at e
  obtain ⟨⟨x, h1⟩, e1, e⟩ := Option.bind_eq_some_iff.mp e
  obtain ⟨z, e2, e⟩ := Option.bind_eq_some_iff.mp e
  refine tE1 hr sr e1 fun v H1 w1 n hr1 sr1 r => ⟨z, bOf_ok r e2, ?_⟩
  cases z with
  | true =>
    simp only [if_true] at e ⊢
    exact tE1 hr1 sr1 e fun v2 H2 w2 n2 hr2 _ r2 => q _ _ _ (n.trans n2) hr2 r2
  | false =>
    simp only [Bool.false_eq_true, if_false] at e ⊢
    cases e
    exact (q.nx n).now hr1 (.p (.bl _))
theorem s_or (c : Ct X N sc T k C) {a b : E} {x y : Expr} {rest : List Expr} {pos : Pos} (ha : PE X x (tE X.K C a)) (hb : PE X (.BoolOp .Or (y :: rest) pos) (tE X.K C b)) : PE X (.BoolOp .Or (x :: y :: rest) pos) (tE X.K C (.or a b)) := by
  refine PE.imp (pe_or ha hb) fun σ H Q ⟨w, h, σ', d, h', hr, sr, e, q⟩ => ?_
  simp only [ev] at e
  obtain ⟨⟨x, h1⟩, e1, e⟩ := Option.bind_eq_some_iff.mp e
  obtain ⟨z, e2, e⟩ := Option.bind_eq_some_iff.mp e
  refine tE1 hr sr e1 fun v H1 w1 n hr1 sr1 r => ⟨z, bOf_ok r e2, ?_⟩
  cases z with
  | true =>
    simp only [if_true] at e ⊢
    cases e
    exact (q.nx n).now hr1 (.p (.bl _))
  | false =>
    simp only [Bool.false_eq_true, if_false] at e ⊢
    exact tE1 hr1 sr1 e fun v2 H2 w2 n2 hr2 _ r2 => q _ _ _ (n.trans n2) hr2 r2
theorem s_not (c : Ct X N sc T k C) {a : E} {l : Expr} {pos : Pos} (ha : PE X l (tE X.K C a)) : PE X (.UnaryOp .Not l pos) (tE X.K C (.not a)) := by
  refine PE.imp (pe_not ha) fun σ H Q ⟨w, h, σ', d, h', hr, sr, e, q⟩ => ?_
  simp only [ev] at e
  obtain ⟨⟨x, h1⟩, e1, e⟩ := Option.bind_eq_some_iff.mp e
  obtain ⟨z, e3, e⟩ := Option.map_eq_some_iff.mp e
  cases e
  exact tE1 hr sr e1 fun v H2 w2 n hr2 sr2 r1 => ⟨z, bOf_ok r1 e3, (q.nx n).now hr2 (.p (.bl _))⟩
theorem s_ite (c : Ct X N sc T k C) {t a b : E} {x l r : Expr} {pos : Pos} (ht : PT X x (tB X.K C t)) (ha : PE X l (tE X.K C a)) (hb : PE X r (tE X.K C b)) : PE X (.IfExp x l r pos) (tE X.K C (.ite t a b)) := by
  refine PE.imp (pe_ifExp ht ha hb) fun σ H Q ⟨w, h, σ', d, h', hr, sr, e, q⟩ => ?_
  simp only [ev] at e
  obtain ⟨⟨x, h1⟩, e1, e⟩ := Option.bind_eq_some_iff.mp e
  obtain ⟨z, e2, e⟩ := Option.bind_eq_some_iff.mp e
  refine ⟨w, h, σ', z, h1, hr, sr, by simp only [evB, e1, Option.bind_some, e2, Option.map_some], fun H1 w1 n hr1 => ?_⟩
  cases z with
  | true =>
    simp only [if_true] at e ⊢
    exact tE1 hr1 (sr.nx n) e fun v2 H2 w2 n2 hr2 _ r2 => q _ _ _ (n.trans n2) hr2 r2
  | false =>
    simp only [Bool.false_eq_true, if_false] at e ⊢
    exact tE1 hr1 (sr.nx n) e fun v2 H2 w2 n2 hr2 _ r2 => q _ _ _ (n.trans n2) hr2 r2
theorem mapM_ok {K : PySem.W.Frag} {w : Wr} {H : Hp} : ∀ {ds : List D} {ps : List P} {vs : List V}, ds.mapM wp = some ps → RDs K w H ds vs → Rps K w.ban H ps vs
  | [], ps, _, e, .nil => by simp at e; subst e; exact .nil
  | d :: ds, ps, _, e, .cons a b => by
    simp only [List.mapM_cons, Option.bind_eq_bind, Option.pure_def] at e
    obtain ⟨x, e1, e⟩ := Option.bind_eq_some_iff.mp e
    obtain ⟨xs, e2, e⟩ := Option.bind_eq_some_iff.mp e
    cases e
    exact .cons (wp_ok a e1) (mapM_ok e2 b)
theorem s_tup (c : Ct X N sc T k C) {xs : List E} {es : List Expr} {j : Nat} {pos : Pos} (ha : PA X es (tA X.K C xs)) : PE X (.Tuple es j pos) (tE X.K C (.tup xs)) := by
  refine PE.imp (pe_tup ha) fun σ H Q ⟨w, h, σ', d, h', hr, sr, e, q⟩ => ?_
  simp only [ev] at e
  obtain ⟨⟨ds, h1⟩, e1, e⟩ := Option.bind_eq_some_iff.mp e
  obtain ⟨ps, e2, e⟩ := Option.bind_eq_some_iff.mp e
  obtain ⟨d1, e3, e⟩ := Option.map_eq_some_iff.mp e
  cases e
  unfold mkT at e3
  split at e3 <;> try contradiction
  rename_i hl
  cases e3
  refine ⟨w, h, σ', ds, h1, hr, sr, e1, fun vs H1 w1 n hr1 r => ?_⟩
  have rp := mapM_ok e2 r
  have := rp.len
  have hlim := lim_line
  exact ⟨by omega, fun p hp => (q.nx n).newT hr1 rp hp⟩
theorem s_lst (c : Ct X N sc T k C) {xs : List E} {es : List Expr} {pos : Pos} (ha : PA X es (tA X.K C xs)) : PE X (.List es pos) (tE X.K C (.lst xs)) := by
  refine PE.imp (pe_lst ha) fun σ H Q ⟨w, h, σ', d, h', hr, sr, e, q⟩ => ?_
  simp only [ev] at e
  obtain ⟨⟨ds, h1⟩, e1, e⟩ := Option.bind_eq_some_iff.mp e
  obtain ⟨ps, e2, e⟩ := Option.bind_eq_some_iff.mp e
  obtain ⟨d1, e3, e⟩ := Option.map_eq_some_iff.mp e
  cases e
  unfold mkL at e3
  split at e3 <;> try contradiction
  rename_i hl
  cases e3
  refine ⟨w, h, σ', ds, h1, hr, sr, e1, fun vs H1 w1 n hr1 r => ?_⟩
  have rp := mapM_ok e2 r
  have := rp.len
  have hlim := lim_line
  exact ⟨by omega, fun p hp => (q.nx n).newL hr1 rp hp⟩
theorem atI_map {α β : Type} {R : α → β → Prop} {xs : List α} {ys : List β} {i : Int} {x : α} (hl : xs.length = ys.length) (hg : ∀ (j : Nat) (x : α), xs[j]? = some x → ∃ y, ys[j]? = some y ∧ R x y) (e : atI xs i = some x) : ∃ y, atI ys i = some y ∧ R x y := by
  unfold atI at e ⊢
  rw [← hl]
  obtain ⟨j, e1, e2⟩ := Option.bind_eq_some_iff.mp e
  obtain ⟨y, h1, h2⟩ := hg j x e2
  exact ⟨y, by rw [e1]; exact h1, h2⟩
theorem atI_ints {ns : List Int} {i m : Int} (e : atI ns i = some m) : atI (ns.map V.int) i = some (.int m) := by
  obtain ⟨y, g1, g2⟩ := atI_map (R := fun (a : Int) (b : V) => b = .int a) (ys := ns.map V.int) (by simp) (fun j x e => ⟨.int x, by simp [e], rfl⟩) e
  rw [g2] at g1; exact g1
theorem ix_both : IxR X (fun x y H Q => rIxL X.K x y H Q ∨ rIxT X.K x y H Q) := IxR.or ix_list ix_tup
theorem s_idx (c : Ct X N sc T k C) {a i : E} {l r : Expr} {pos : Pos} (hs : notSlice r = true) (ha : PE X l (tE X.K C a)) (hb : PE X r (tE X.K C i)) : PE X (.Subscript l r pos) (tE X.K C (.idx a i)) := by
  refine PE.imp (pe_ix ix_both ha hb (slice_of hs)) fun σ H Q ⟨w, h, σ', d, h', hr, sr, e, q⟩ => ?_
  simp only [ev] at e
  obtain ⟨⟨x, h1⟩, e1, e⟩ := Option.bind_eq_some_iff.mp e
  obtain ⟨⟨y, h2⟩, e2, e⟩ := Option.bind_eq_some_iff.mp e
  obtain ⟨z, e3, e⟩ := Option.map_eq_some_iff.mp e
  cases e
  refine tE2 hr sr e1 e2 fun v u H2 w2 n hr2 sr2 r1 r2 => ?_
  dsimp only at e3
  unfold idxD at e3
  split at e3 <;> try contradiction
  have := r2.int'
  subst this
  split at e3
  · obtain ⟨m, e4, e3⟩ := Option.map_eq_some_iff.mp e3
    subst e3
    cases r1 with
    | scr r1 => exact .inl ⟨_, _, _, _, rfl, rfl, r1.sq, atI_ints e4, (q.nx n).now hr2 (.p (.int _))⟩
  · obtain ⟨xs, e4, e3⟩ := Option.bind_eq_some_iff.mp e3
    obtain ⟨p, e5, e3⟩ := Option.map_eq_some_iff.mp e3
    subst e3
    obtain ⟨a0, vs, rfl, h3, h4⟩ := sq2_ok hr2 r1 e4
    obtain ⟨y, g1, g2⟩ := atI_map (R := Rp X.K w2.ban H2) h4.len (fun j x e => h4.get e) e5
    rcases h3 with h3 | ⟨h3, _⟩
    · exact .inl ⟨_, _, _, _, rfl, rfl, SqL.of h3, g1, (q.nx n).now hr2 (.p g2)⟩
    · exact .inr ⟨_, _, _, _, rfl, rfl, SqT.of h3, g1, (q.nx n).now hr2 (.p g2)⟩
theorem s_o {o : Option E} {x : Option Expr} (h : (o = none ∧ x = none) ∨ ∃ e ex, o = some e ∧ x = some ex ∧ PE X ex (tE X.K C e)) : PO X x (tO X.K C o) := by
  rcases h with ⟨rfl, rfl⟩ | ⟨e, ex, rfl, rfl, h⟩
  · refine PO.imp po_none fun σ H Q ⟨w, h, σ', r, h', hr, sr, e, q⟩ => ?_
    simp only [evo] at e
    cases e
    exact q _ _ (Nx.refl hr) hr
  · refine PO.imp (po_some h) fun σ H Q ⟨w, h, σ', r, h', hr, sr, e, q⟩ => ?_
    simp only [evo] at e
    obtain ⟨⟨x, h1⟩, e1, e⟩ := Option.bind_eq_some_iff.mp e
    obtain ⟨z, e2, e⟩ := Option.map_eq_some_iff.mp e
    cases e
    exact tE1 hr sr e1 fun v H1 w1 n hr1 _ r1 => ⟨z, iOf_ok r1 e2, q _ _ n hr1⟩
theorem cut_rps {K : PySem.W.Frag} {ban : List Addr} {H : Hp} {xs : List P} {vs : List V} (r : Rps K ban H xs vs) (lo hi : Option Int) : Rps K ban H (cutP xs lo hi) (cutV vs lo hi) := by
  unfold cutP cutV
  rw [r.len]
  exact (r.drop _).take _
theorem cut_map {α β : Type} (f : α → β) (xs : List α) (lo hi : Option Int) : cutP (xs.map f) lo hi = (cutP xs lo hi).map f := by
  unfold cutP
  rw [List.length_map, List.map_take, List.map_drop]
theorem cut_ints (ns : List Int) (lo hi : Option Int) : cutV (ns.map V.int) lo hi = (cutP ns lo hi).map V.int := cut_map V.int ns lo hi
theorem s_slc (c : Ct X N sc T k C) {a : E} {lo hi : Option E} {l : Expr} {x y : Option Expr} {p2 pos : Pos} (ha : PE X l (tE X.K C a)) (hl : PO X x (tO X.K C lo)) (hh : PO X y (tO X.K C hi)) : PE X (.Subscript l (.Slice x y none p2) pos) (tE X.K C (.slc a lo hi)) := by
  refine PE.imp (pe_slice (SlR.or sl_list sl_tup) ha hl hh) fun σ H Q ⟨w, h, σ', d, h', hr, sr, e, q⟩ => ?_
  simp only [ev] at e
  obtain ⟨⟨x, h1⟩, e1, e⟩ := Option.bind_eq_some_iff.mp e
  obtain ⟨⟨lv, h2⟩, e2, e⟩ := Option.bind_eq_some_iff.mp e
  obtain ⟨⟨hv, h3⟩, e3, e⟩ := Option.bind_eq_some_iff.mp e
  obtain ⟨z, e4, e⟩ := Option.map_eq_some_iff.mp e
  cases e
  refine tE1 hr sr e1 fun v H1 w1 n1 hr1 sr1 r1 => ⟨w1, h1, σ', lv, h2, hr1, sr1, e2, fun H2 w2 n2 hr2 => ⟨w2, h2, σ', hv, h3, hr2, sr1.nx n2, e3, fun H3 w3 n3 hr3 => ?_⟩⟩
  have r3 := (r1.nx n2).nx n3
  have q3 := ((q.nx n1).nx n2).nx n3
  dsimp only at e4 q3
  unfold slcD at e4
  split at e4
  · cases e4
    cases r3 with
    | scr r3 =>
      refine .inl ⟨_, _, rfl, r3.sq, fun p hp => ?_⟩
      rw [cut_ints]
      exact q3.newL hr3 (Rps.ofInts _) hp
  · split at e4 <;> try contradiction
    rename_i hw
    cases e4
    cases r3 with
    | p r3 =>
      cases r3 with
      | tup g1 g2 => exact .inr ⟨_, _, rfl, g1.sq, by rw [← g2.len]; exact hw, fun p hp => q3.newT hr3 (cut_rps g2 _ _) hp⟩
  · obtain ⟨xs, e5, e4⟩ := Option.map_eq_some_iff.mp e4
    subst e4
    obtain ⟨a0, vs, rfl, g1, g2⟩ := sq_ok hr3 r3 e5
    exact .inl ⟨_, _, rfl, SqL.of g1, fun p hp => q3.newL hr3 (cut_rps g2 _ _) hp⟩
theorem s_args_nil : PA X [] (tA X.K C []) := by
  refine PA.imp pa_nil fun σ H Q ⟨w, h, σ', ds, h', hr, sr, e, q⟩ => ?_
  simp only [evs] at e
  cases e
  exact q _ _ _ (Nx.refl hr) hr .nil
theorem s_args_cons {e : E} {es : List E} {x : Expr} {xs : List Expr} (hs : notStar x = true) (h1 : PE X x (tE X.K C e)) (h2 : PA X xs (tA X.K C es)) : PA X (x :: xs) (tA X.K C (e :: es)) := by
  refine PA.imp (pa_cons h1 h2 (star_of hs)) fun σ H Q ⟨w, h, σ', ds, h', hr, sr, e, q⟩ => ?_
  simp only [evs] at e
  obtain ⟨⟨d, h3⟩, e1, e⟩ := Option.bind_eq_some_iff.mp e
  obtain ⟨⟨ds', h4⟩, e2, e⟩ := Option.map_eq_some_iff.mp e
  cases e
  exact tE1 hr sr e1 fun v H1 w1 n1 hr1 sr1 r1 => ⟨w1, h3, σ', ds', h4, hr1, sr1, e2, fun vs H2 w2 n2 hr2 r2 => q _ _ _ (n1.trans n2) hr2 (.cons (r1.nx n2) r2)⟩
/-- an owned list that is let go, frozen -/
theorem freeze {K : PySem.W.Frag} {w1 w2 : Wr} {H1 H2 : Hp} {h1 h2 : Hv} {n : Nat} {xs : List P} {v : V} (hr1 : HR K w1 h1 H1) (nx : Nx w1 w2 H1 H2) (hr2 : HR K w2 h2 H2) (hn : h1.length ≤ n) (e : h2[n]? = some (.lst xs)) (r : RD K w2 H2 (.ref n) v) :
    Nx w1 w1 H1 H2 ∧ HR K w1 (h2.take h1.length) H2 ∧ RD K w1 H2 (.p (.list xs)) v := by
  obtain ⟨t, et⟩ := nx.pre
  have cut : ∀ i, i < h1.length → w1.ms[i]? = w2.ms[i]? := fun i hi => by rw [← et, List.getElem?_append_left (by rw [hr1.len]; exact hi)]
  have live : ∀ a ∈ w1.ban, ∃ o, H2 a = some o ∧ ∀ xs, o ≠ .tup xs := fun a ha => hr2.liv a (nx.bsub a ha)
  refine ⟨⟨List.prefix_refl _, hr1.sub, fun _ h => h, nx.keep, fun _ h => .inl h, fun _ h => .inl h⟩, ⟨?_, hr1.nd, hr1.sub, live, fun i c hc => ?_⟩, ?_⟩
  · rw [List.length_take, hr1.len]
    have := hr2.len
    rw [← et, List.length_append, hr1.len] at this
    omega
  · have hi : i < h1.length := by
      have := (List.getElem?_eq_some_iff.mp hc).1
      rw [List.length_take] at this
      omega
    rw [List.getElem?_take_of_lt hi] at hc
    obtain ⟨a, e1, e2⟩ := hr2.cel i c hc
    exact ⟨a, (cut i hi).trans e1, e2.imp (fun _ q => q) (fun d v q => Rp.weak nx.bsub q) (fun d v q => Rps.weak nx.bsub q)⟩
  · cases r with
    | ref r =>
      obtain ⟨vs, g1, g2⟩ := hr2.addr e r
      refine .p (.lst g1 (fun hb => ?_) (Rps.weak nx.bsub g2))
      -- the cell is younger than the ban
      have hm := List.mem_of_getElem? r
      rcases nx.newm _ hm with q | q
      · obtain ⟨i, hi⟩ := List.mem_iff_getElem?.mp q
        have hil : i < h1.length := by rw [← hr1.len]; exact (List.getElem?_eq_some_iff.mp hi).1
        rw [cut i hil] at hi
        have := nd_ix hr2.nd hi r
        omega
      · obtain ⟨o, ho, _⟩ := hr1.liv _ hb
        rw [q] at ho; cases ho
theorem evs_len {C : Ca} : ∀ {es : List E} {σ : Sv} {h h' : Hv} {ds : List D}, evs C es σ h = some (ds, h') → ds.length = es.length
  | [], _, _, _, _, e => by simp only [evs] at e; cases e; rfl
  | _ :: es, _, _, _, _, e => by
    simp only [evs] at e
    obtain ⟨⟨d, h3⟩, e1, e⟩ := Option.bind_eq_some_iff.mp e
    obtain ⟨⟨ds', h4⟩, e2, e⟩ := Option.map_eq_some_iff.mp e
    cases e
    simp [evs_len e2]
theorem s_call (c : Ct X N sc T k C) {f : Nat} {fr : Bool} {xs : List E} {x : Str} {e0 : Expr} {es : List Expr} {p pos : Pos} (hf : T.fs[f]? = some (x, xs.length)) (hg : gloB sc x = true) (hd : (x == ("__debug__" : Str)) = false) (hst : (e0 :: es).all notStar = true)
    (ha : PA X (e0 :: es) (tA X.K C xs)) : PE X (.Call (.Name x p) (e0 :: es) [] pos) (tE X.K C (.call f fr xs)) := by
  obtain ⟨fa, fd, ps, hl, hm, hk, hb, F⟩ := c.tb.fn f x _ hf
  rw [List.all_cons, Bool.and_eq_true] at hst
  refine PE.imp (pe_call F c.rm (c.nm.glo x hg) hm hk hb .nil pass0 ha hd (star_of hst.1) (stars_of hst.2)) fun σ H Q ⟨w, h, σ', d, h', hr, sr, e, q⟩ => ?_
  simp only [ev] at e
  obtain ⟨⟨ds, h1⟩, e1, e⟩ := Option.bind_eq_some_iff.mp e
  obtain ⟨⟨d1, h2⟩, e2, e⟩ := Option.bind_eq_some_iff.mp e
  have hlen : ds.length = xs.length := evs_len e1
  refine ⟨w, h, σ', ds, h1, hr, sr, e1, fun vs H1 w1 n1 hr1 r1 => ?_⟩
  show spE X.K C f xs.length (vs ++ []) H1 Q E0
  rw [List.append_nil]
  refine ⟨by rw [← r1.len]; exact hlen, w1, h1, ds, d1, h2, hr1, r1, e2, fun v H2 w2 n2 hr2 r2 => ?_⟩
  cases fr with
  | false =>
    simp only [Bool.false_eq_true, if_false] at e
    cases e
    exact q _ _ _ (n1.trans n2) hr2 r2
  | true =>
    simp only [if_true] at e
    obtain ⟨⟨m, ys⟩, e3, e⟩ := Option.bind_eq_some_iff.mp e
    split at e <;> try contradiction
    rename_i hm
    cases e
    cases d1 with
    | ref n0 =>
      simp only [lstD] at e3
      split at e3 <;> try contradiction
      rename_i zs e4
      cases e3
      obtain ⟨g1, g2, g3⟩ := freeze hr1 n2 hr2 hm e4 r2
      exact q _ _ _ (n1.trans g1) g2 g3
    | p _ => simp [lstD] at e3
    | scr _ => simp [lstD] at e3
end
end Ev

namespace Ev
open PySem PySem.Spec PyProof.Rows L2
set_option autoImplicit false
section
variable {X : Cx} {N : List Str} {sc : Scope} {T : Tab} {k : Nat} {C : Ca}
theorem bi_read {K : PySem.W.Frag} {b : Bi} {xs : List E} {σ : L2.St} {H : Hp} {Q : VK} (t : tE K C (.bi b xs) σ H Q) : tCB (rB K b) (tA K C xs) σ H Q := by
  obtain ⟨w, h, σ', d, h', hr, sr, e, q⟩ := t
  simp only [ev] at e
  obtain ⟨⟨ds, h1⟩, e1, e⟩ := Option.bind_eq_some_iff.mp e
  obtain ⟨d1, e2, e⟩ := Option.map_eq_some_iff.mp e
  cases e
  exact ⟨w, h, σ', ds, _, hr, sr, e1, fun vs H1 w1 n1 hr1 r1 => ⟨w1, _, ds, _, hr1, r1, e2, q.nx n1⟩⟩
theorem bl_ok (c : Ct X N sc T k C) {x : Str} (h : x ∈ blts) : X.mg x = none := c.tb.bl x h
theorem s_biB (c : Ct X N sc T k C) {b : Bi} {xs : List E} {x : Str} {e0 : Expr} {es : List Expr} {p pos : Pos} (hb : biB b = some x) (hg : gloB sc x = true) (hst : (e0 :: es).all notStar = true)
    (ha : PA X (e0 :: es) (tA X.K C xs)) : PE X (.Call (.Name x p) (e0 :: es) [] pos) (tE X.K C (.bi b xs)) := by
  rw [List.all_cons, Bool.and_eq_true] at hst
  have go : ∀ {id : String}, CallR X (.builtin id) (rB X.K b) → x ∈ blts → bootBuiltins x = some (.builtin id) → x ≠ "__name__" → (x == ("__debug__" : Str)) = false → PE X (.Call (.Name x p) (e0 :: es) [] pos) (tE X.K C (.bi b xs)) := fun hc h1 h2 h3 h4 =>
    PE.imp (pe_callB hc (c.nm.glo x hg) (bl_ok c h1) h2 ha h3 h4 (star_of hst.1) (stars_of hst.2)) fun σ H Q t => bi_read t
  have hc := c.nm.calm
  cases b <;> simp only [biB, Option.some.injEq, reduceCtorEq] at hb <;> subst hb
  · exact go bi_len (by decide +kernel) (by decide +kernel) (by decide +kernel) (by decide +kernel)
  · exact go bi_sorted (by decide +kernel) (by decide +kernel) (by decide +kernel) (by decide +kernel)
  · exact go (bi_sum hc) (by decide +kernel) (by decide +kernel) (by decide +kernel) (by decide +kernel)
  · exact go (bi_max1 hc) (by decide +kernel) (by decide +kernel) (by decide +kernel) (by decide +kernel)
  · exact go (bi_min1 hc) (by decide +kernel) (by decide +kernel) (by decide +kernel) (by decide +kernel)
  · exact go (bi_max2 hc) (by decide +kernel) (by decide +kernel) (by decide +kernel) (by decide +kernel)
  · exact go (bi_min2 hc) (by decide +kernel) (by decide +kernel) (by decide +kernel) (by decide +kernel)
  · exact go (bi_all hc) (by decide +kernel) (by decide +kernel) (by decide +kernel) (by decide +kernel)
  · exact go (bi_any hc) (by decide +kernel) (by decide +kernel) (by decide +kernel) (by decide +kernel)
  · exact go bi_abs (by decide +kernel) (by decide +kernel) (by decide +kernel) (by decide +kernel)
theorem s_biT (c : Ct X N sc T k C) {b : Bi} {xs : List E} {x : Str} {e0 : Expr} {es : List Expr} {p pos : Pos} (hb : biTy b = some x) (hg : gloB sc x = true) (hst : (e0 :: es).all notStar = true)
    (ha : PA X (e0 :: es) (tA X.K C xs)) : PE X (.Call (.Name x p) (e0 :: es) [] pos) (tE X.K C (.bi b xs)) := by
  rw [List.all_cons, Bool.and_eq_true] at hst
  have go : ∀ {id : String}, CallR X (.type id) (rB X.K b) → x ∈ blts → bootBuiltins x = some (.type id) → x ≠ "__name__" → (x == ("__debug__" : Str)) = false → PE X (.Call (.Name x p) (e0 :: es) [] pos) (tE X.K C (.bi b xs)) := fun hc h1 h2 h3 h4 =>
    PE.imp (pe_callTy hc (c.nm.glo x hg) (bl_ok c h1) h2 ha h3 h4 (star_of hst.1) (stars_of hst.2)) fun σ H Q t => bi_read t
  cases b <;> simp only [biTy, Option.some.injEq, reduceCtorEq] at hb <;> subst hb
  · exact go bi_tuple (by decide +kernel) (by decide +kernel) (by decide +kernel) (by decide +kernel)
  · exact go (bi_list c.nm.calm) (by decide +kernel) (by decide +kernel) (by decide +kernel) (by decide +kernel)
  · exact go bi_int (by decide +kernel) (by decide +kernel) (by decide +kernel) (by decide +kernel)
theorem ty_boot {ty : String} (h : tyOk ty = true) : Str.ofString ty ∈ blts ∧ bootBuiltins (Str.ofString ty) = some (.type ty) ∧ Str.ofString ty ≠ "__name__" ∧ (Str.ofString ty == ("__debug__" : Str)) = false := by
  simp only [tyOk, Bool.or_eq_true, beq_iff_eq] at h
  rcases h with ((((h | h) | h) | h) | h) | h <;> subst h <;> exact ⟨by decide +kernel, by decide +kernel, by decide +kernel, by decide +kernel⟩
theorem s_isT (c : Ct X N sc T k C) {ty : String} {a : E} {e0 : Expr} {p pos p2 : Pos} (hx : gloB sc "isinstance" = true) (ht : gloB sc (Str.ofString ty) = true) (hty : tyOk ty = true) (hs : notStar e0 = true) (ha : PE X e0 (tE X.K C a)) :
    PE X (.Call (.Name "isinstance" p) [e0, .Name (Str.ofString ty) p2] [] pos) (tE X.K C (.isi ty a)) := by
  obtain ⟨t1, t2, t3, t4⟩ := ty_boot hty
  have hb : PE X (.Name (Str.ofString ty) p2) (tC (.ty ty)) := pe_bltn (c.nm.glo _ ht) (bl_ok c t1) t2 rfl t3 t4
  refine PE.imp (pe_callB (bi_isT hty) (c.nm.glo _ hx) (bl_ok c (by decide +kernel)) (by decide +kernel) (pa_cons ha (pa_cons hb pa_nil) (star_of hs)) (by decide +kernel) (by decide +kernel) (star_of hs) (stars_of rfl)) fun σ H Q t => ?_
  obtain ⟨w, h, σ', d, h', hr, sr, e, q⟩ := t
  simp only [ev] at e
  obtain ⟨⟨d0, h2⟩, e2, e⟩ := Option.bind_eq_some_iff.mp e
  dsimp only at e
  split at e <;> try contradiction
  rename_i hne
  cases e
  exact tE1 hr sr e2 fun v H1 w1 n1 hr1 _ r1 => ⟨v, rfl, w1, _, d0, hr1, r1, fun ns z => by rw [z] at hne; exact absurd hne.1 (by simp [isScr]), hne.2, (q.nx n1).now hr1 (.p (.bl _))⟩
/-- an entry of a dict -/
theorem getK_ok {K : PySem.W.Frag} {ban : List Addr} {H : Hp} {kvs : List (List Int × P)} {kvs' : List (List Key × V)} (r : Paired (fun (q : List Int × P) (q' : List Key × V) => q'.1 = q.1.map Sum.inl ∧ Rp K ban H q.2 q'.2) kvs kvs') (key : List Int) :
    (∀ v, getK kvs key = some v → ∃ v', valV kvs' (key.map Sum.inl) = some v' ∧ Rp K ban H v v') ∧ (getK kvs key = none → valV kvs' (key.map Sum.inl) = none) := by
  induction r with
  | nil => exact ⟨fun v e => by simp [getK] at e, fun _ => rfl⟩
  | @cons q q' l l' h t ih =>
    have inj : q'.1 = key.map Sum.inl ↔ q.1 = key := by
      rw [h.1]
      exact ⟨fun e => (List.map_inj_right (f := (Sum.inl : Int → Key)) (fun _ _ z => Sum.inl.inj z)).mp e, fun e => by rw [e]⟩
    by_cases e0 : q.1 = key
    · refine ⟨fun v e => ?_, fun e => ?_⟩
      · simp [getK, List.find?_cons, e0] at e
        subst e
        exact ⟨_, valV_pos (inj.mpr e0), h.2⟩
      · simp [getK, List.find?_cons, e0] at e
    · have e1 : ¬ q'.1 = key.map Sum.inl := fun z => e0 (inj.mp z)
      have e2 : getK (q :: l) key = getK l key := by simp [getK, List.find?_cons, e0]
      rw [e2, valV_neg e1]
      exact ih
theorem key_ok {K : PySem.W.Frag} {w : Wr} {H : Hp} {d : D} {v : V} {key : List Int} (r : RD K w H d v) (e : keyI d = some key) : ∃ b, v = .ref b ∧ H b = some (.tup ((key.map (Sum.inl : Int → Key)).map kV)) := by
  cases r with
  | p r =>
    cases r with
    | tup h1 h2 =>
      have := h2.ints e
      refine ⟨_, rfl, ?_⟩
      have e2 : (key.map (Sum.inl : Int → Key)).map kV = key.map V.int := by rw [List.map_map]; rfl
      rw [e2, ← this]; exact h1.1
    | non => simp [keyI] at e
    | bl => simp [keyI] at e
    | int => simp [keyI] at e
    | str => simp [keyI] at e
    | lst => simp [keyI] at e
  | ref r => simp [keyI] at e
  | scr r => simp [keyI] at e
theorem dct_ok {K : PySem.W.Frag} {w : Wr} {H : Hp} {h : Hv} {d : D} {v : V} {n : Nat} {kvs : List (List Int × P)} (hr : HR K w h H) (r : RD K w H d v) (e : dctD h d = some (n, kvs)) : ∃ a, d = .ref n ∧ v = .ref a ∧ w.ms[n]? = some a ∧ h[n]? = some (.dct kvs) ∧ CellOk K w.ban H a (.dct kvs) := by
  cases r with
  | @ref n' a r =>
    simp only [dctD] at e
    split at e
    · rename_i q
      cases e
      exact ⟨a, rfl, rfl, r, q, hr.addr q r⟩
    · cases e
  | p r => simp [dctD] at e
  | scr r => simp [dctD] at e
theorem lst_ok {K : PySem.W.Frag} {w : Wr} {H : Hp} {h : Hv} {d : D} {v : V} {n : Nat} {xs : List P} (hr : HR K w h H) (r : RD K w H d v) (e : lstD h d = some (n, xs)) : ∃ a, d = .ref n ∧ v = .ref a ∧ w.ms[n]? = some a ∧ h[n]? = some (.lst xs) ∧ CellOk K w.ban H a (.lst xs) := by
  cases r with
  | @ref n' a r =>
    simp only [lstD] at e
    split at e
    · rename_i q
      cases e
      exact ⟨a, rfl, rfl, r, q, hr.addr q r⟩
    · cases e
  | p r => simp [lstD] at e
  | scr r => simp [lstD] at e
theorem s_dget (c : Ct X N sc T k C) {a i : E} {l r : Expr} {pos : Pos} (hs : notSlice r = true) (ha : PE X l (tE X.K C a)) (hb : PE X r (tE X.K C i)) : PE X (.Subscript l r pos) (tE X.K C (.dget a i)) := by
  refine PE.imp (pe_dget (hu_of c.rm) ha hb (slice_of hs)) fun σ H Q ⟨w, h, σ', d, h', hr, sr, e, q⟩ => ?_
  simp only [ev] at e
  obtain ⟨⟨x, h1⟩, e1, e⟩ := Option.bind_eq_some_iff.mp e
  obtain ⟨⟨y, h2⟩, e2, e⟩ := Option.bind_eq_some_iff.mp e
  obtain ⟨⟨m, kvs⟩, e3, e⟩ := Option.bind_eq_some_iff.mp e
  obtain ⟨key, e4, e⟩ := Option.bind_eq_some_iff.mp e
  obtain ⟨v0, e5, e⟩ := Option.map_eq_some_iff.mp e
  cases e
  refine tE2 hr sr e1 e2 fun v u H2 w2 n hr2 sr2 r1 r2 => ?_
  obtain ⟨a0, _, ev0, hm, hh, kvs', g1, g2⟩ := dct_ok hr2 r1 e3
  obtain ⟨b0, eb, hb0⟩ := key_ok r2 e4
  subst ev0; subst eb
  obtain ⟨v', g3, g4⟩ := (getK_ok g2 key).1 _ e5
  exact ⟨a0, v', rfl, by rw [← g3]; exact DGet.t g1 hb0, (q.nx n).now hr2 (.p g4)⟩

/-! ### targets -/
theorem wipe_set {σ : L2.St} {i : Nat} {v : Option V} : ∀ {vs : List Nat}, i ∈ vs → wipe (σ.set i v) vs = wipe σ vs
  | [], h => by simp at h
  | j :: vs, h => by
    simp only [L2.wipe]
    by_cases hm : i ∈ vs
    · rw [wipe_set hm]
    · have hj : i = j := (List.mem_cons.mp h).resolve_right hm
      subst hj
      have key : ∀ (vs : List Nat), i ∉ vs → wipe (σ.set i v) vs = (wipe σ vs).set i v := by
        intro vs
        induction vs with
        | nil => intro _; rfl
        | cons x vs ih =>
          intro h
          simp only [L2.wipe]
          rw [ih (fun z => h (List.mem_cons_of_mem _ z)), List.set_comm _ _ (fun z => h (by rw [z]; exact List.mem_cons_self))]
      rw [key vs hm, List.set_set]
theorem wipe_wipe {σ : L2.St} : ∀ {vs us : List Nat}, (∀ i ∈ us, i ∈ vs) → wipe (wipe σ us) vs = wipe σ vs
  | vs, [], _ => rfl
  | vs, u :: us, h => by
    simp only [L2.wipe]
    rw [wipe_set (h u List.mem_cons_self)]
    exact wipe_wipe fun i hi => h i (List.mem_cons_of_mem _ hi)
theorem s_name (nm : Nm X N sc) {i : Nat} {x : Str} {pos : Pos} (h1 : N[i]? = some x) (h2 : locB sc x = true) : PG X (.Name x pos) (gName i) :=
  pg_name (by rw [nm.eN]; exact nm.nd) (by rw [nm.eN]; exact h1) (nm.loc x h2) (nm.fn x h2)
theorem assign_name {x : Str} {p : Pos} {es : List Expr} {env : Env} : (assignEach (.Name x p :: es) env) = (false, assign (.Name x p) env) :: assignEach es env := rfl
theorem go_len (nm : Nm X N sc) : ∀ {is : List Nat} {es : List Expr}, chkTg.go N sc is es = true → (assignEach es X.env).length = is.length ∧ (assignEach es X.env).findIdx? (·.1) = none ∧ PGs X es (fun vs σ H Q => ∃ w σ' ds σ1', SR X.K w H σ' σ ∧ Rps X.K w.ban H ds vs ∧ setAll is ds σ' = some σ1' ∧ ∀ σ1, SR X.K w H σ1' σ1 → (∀ vs, (∀ i ∈ is, i ∈ vs) → wipe σ1 vs = wipe σ vs) → Q σ1 H)
  | [], [], _ => by
    refine ⟨rfl, rfl, ?_⟩
    intro pins s σ H vs us Q I r ⟨w, σ', ds, σ1', sr, rp, e, q⟩
    cases ds with
    | nil =>
      cases rp
      simp only [setAll] at e
      cases e
      exact pgs_nil pins s σ H [] us Q I r ⟨rfl, q σ sr fun _ _ => rfl⟩
    | cons => simp [setAll] at e
  | i :: is, [], h => by simp [chkTg.go] at h
  | [], _ :: _, h => by simp [chkTg.go] at h
  | i :: is, ex :: es, h => by
    cases ex <;> simp only [chkTg.go, Bool.false_eq_true, Bool.and_eq_true, beq_iff_eq] at h
    rename_i x p
    obtain ⟨⟨h1, h2⟩, h3⟩ := h
    obtain ⟨l1, l2, l3⟩ := go_len nm h3
    rw [assign_name]
    refine ⟨by simp [l1], ?_, ?_⟩
    · rw [List.findIdx?_cons]
      simp [l2]
    · intro pins s σ H vs us Q I r ⟨w, σ', ds, σ1', sr, rp, e, q⟩
      cases ds with
      | nil => simp [setAll] at e
      | cons d ds =>
        cases rp with
        | @cons _ v _ vs r1 r2 =>
          simp only [setAll] at e
          refine pgs_cons (s_name (pos := p) nm h1 h2) l3 rfl pins s σ H (v :: vs) us Q I r ⟨v, vs, rfl, w, _, ds, σ1', sr.set i (.p r1), r2, e, fun σ1 s1 hw => q σ1 s1 fun ws hws => ?_⟩
          rw [hw ws (fun j hj => hws j (List.mem_cons_of_mem _ hj)), wipe_set (hws i List.mem_cons_self)]
theorem s_tg (nm : Nm X N sc) {t : Tg} {ex : Expr} (h : chkTg N sc t ex = true) : PG X ex (tG X.K t) := by
  cases t with
  | one i =>
    simp only [chkTg] at h
    split at h <;> try contradiction
    simp only [Bool.and_eq_true, beq_iff_eq] at h
    refine PG.imp (s_name nm h.1 h.2) fun v σ H Q ⟨w, σ', d, σ1', sr, rp, e, q⟩ => ?_
    simp only [tgD] at e
    cases e
    exact q _ (sr.set i (.p rp)) fun vs hv => wipe_set (hv i (by simp [slots]))
  | tup is =>
    simp only [chkTg] at h
    split at h <;> try contradiction
    obtain ⟨l1, l2, l3⟩ := go_len nm h
    refine PG.imp (pg_tup nm.calm l3 l1 l2) fun v σ H Q ⟨w, σ', d, σ1', sr, rp, e, q⟩ => ?_
    simp only [tgD] at e
    split at e <;> try contradiction
    rename_i xs
    cases rp with
    | tup h1 h2 =>
      have hl : xs.length = is.length := by
        have : ∀ (is : List Nat) (xs : List P) (σ σ1 : Sv), setAll is xs σ = some σ1 → xs.length = is.length := by
          intro is
          induction is with
          | nil => intro xs σ σ1 e; cases xs <;> simp [setAll] at e ⊢
          | cons i is ih =>
            intro xs σ σ1 e
            cases xs with
            | nil => simp [setAll] at e
            | cons x xs => simp only [setAll] at e; simp [ih _ _ _ e]
        exact this _ _ _ _ e
      exact ⟨_, _, rfl, h1.sq, by rw [← h2.len]; exact hl, w, σ', xs, σ1', sr, h2, e, q⟩

/-! ### what is walked -/
theorem wk_list {K : PySem.W.Frag} {w : Wr} {H : Hp} {a : Addr} {vs : List V} {xs : List P} (h1 : H a = some (.lst vs)) (h2 : a ∉ w.ban) (r : Rps K w.ban H xs vs) : Wk K w H (Itl K a) xs none := by
  intro w2 H2 h2' n hr _ i
  have g1 := n.same h1 h2
  have g2 := r.nx n
  refine ⟨fun x e => ?_, fun hl => ⟨vs, SqL.of g1, by rw [← r.len]; exact hl⟩⟩
  obtain ⟨y, e1, e2⟩ := g2.get e
  refine ⟨⟨vs, y, SqL.of g1, e1⟩, fun v H3 hy => ?_⟩
  obtain ⟨rfl, hy⟩ := hy
  have := hy vs (SqL.of g1)
  rw [e1] at this
  cases this
  exact ⟨Nx.refl hr, hr, e2⟩
theorem wk_ref {K : PySem.W.Frag} {w : Wr} {H : Hp} {n : Nat} {a : Addr} {xs : List P} (hm : w.ms[n]? = some a) : Wk K w H (Itl K a) xs (some n) := by
  intro w2 H2 h2' nx hr hp i
  have hm2 : w2.ms[n]? = some a := by
    obtain ⟨t, e⟩ := nx.pre
    rw [← e, List.getElem?_append_left (List.getElem?_eq_some_iff.mp hm).1]; exact hm
  obtain ⟨vs, g1, g2⟩ := hr.addr (hp n rfl) hm2
  refine ⟨fun x e => ?_, fun hl => ⟨vs, SqL.of g1, by rw [← g2.len]; exact hl⟩⟩
  obtain ⟨y, e1, e2⟩ := g2.get e
  refine ⟨⟨vs, y, SqL.of g1, e1⟩, fun v H3 hy => ?_⟩
  obtain ⟨rfl, hy⟩ := hy
  have := hy vs (SqL.of g1)
  rw [e1] at this
  cases this
  exact ⟨Nx.refl hr, hr, e2⟩
theorem wk_tup {K : PySem.W.Frag} {w : Wr} {H : Hp} {a : Addr} {vs : List V} {xs : List P} (h1 : H a = some (.tup vs)) (h2 : a ∉ w.ban) (r : Rps K w.ban H xs vs) : Wk K w H (Itt K a) xs none := by
  intro w2 H2 h2' n hr _ i
  have g1 := n.same h1 h2
  have g2 := r.nx n
  refine ⟨fun x e => ?_, fun hl => ⟨vs, SqT.of g1, by rw [← r.len]; exact hl⟩⟩
  obtain ⟨y, e1, e2⟩ := g2.get e
  refine ⟨⟨vs, y, SqT.of g1, e1⟩, fun v H3 hy => ?_⟩
  obtain ⟨rfl, hy⟩ := hy
  have := hy vs (SqT.of g1)
  rw [e1] at this
  cases this
  exact ⟨Nx.refl hr, hr, e2⟩
theorem wk_rng {K : PySem.W.Frag} {w : Wr} {H : Hp} (lo hi : Int) : Wk K w H (Itr lo (hi - lo).toNat) (rngL lo hi) none := by
  intro w2 H2 h2' n hr _ i
  have hl : (rngL lo hi).length = (hi - lo).toNat := by simp [rngL]
  refine ⟨fun x e => ?_, fun h => by rw [hl] at h; exact h⟩
  have hi' : i < (hi - lo).toNat := by rw [← hl]; exact (List.getElem?_eq_some_iff.mp e).1
  refine ⟨hi', fun v H3 hy => ?_⟩
  obtain ⟨rfl, rfl⟩ := hy
  refine ⟨Nx.refl hr, hr, ?_⟩
  simp only [rngL, List.getElem?_map, List.getElem?_range hi', Option.map_some, Option.some.injEq] at e
  subst e
  exact .int _
theorem wk_zip {K : PySem.W.Frag} {w : Wr} {H : Hp} {a b : Addr} {vs us : List V} {xs ys : List P} (h1 : H a = some (.lst vs)) (h2 : a ∉ w.ban) (r : Rps K w.ban H xs vs) (h3 : H b = some (.lst us)) (h4 : b ∉ w.ban) (r' : Rps K w.ban H ys us) :
    Wk K w H (Itz K a b) ((xs.zip ys).map fun (a, b) => PyData.tuple [a, b]) none := by
  intro w2 H2 h2' n hr _ i
  have g1 := n.same h1 h2
  have g2 := r.nx n
  have g3 := n.same h3 h4
  have g4 := r'.nx n
  refine ⟨fun x e => ?_, fun hl => ⟨vs, us, SqL.of g1, SqL.of g3, ?_⟩⟩
  · rw [List.getElem?_map] at e
    obtain ⟨⟨x1, x2⟩, e0, e⟩ := Option.map_eq_some_iff.mp e
    subst e
    obtain ⟨e1, e2⟩ := List.getElem?_zip_eq_some.mp e0
    obtain ⟨y1, f1, f2⟩ := g2.get e1
    obtain ⟨y2, f3, f4⟩ := g4.get e2
    refine ⟨⟨vs, us, y1, y2, SqL.of g1, SqL.of g3, f1, f3⟩, fun v H3 hy => ?_⟩
    obtain ⟨Tt, z1, z2, rfl, hf, rfl, q1, q2⟩ := hy
    have := q1 vs (SqL.of g1)
    rw [f1] at this; cases this
    have := q2 us (SqL.of g3)
    rw [f3] at this; cases this
    exact ⟨Nx.alloc hr hf, hr.alloc hf, .tup ⟨upd_same, hr.free hf⟩ (.cons (f2.mono hf (hr.free hf)) (.cons (f4.mono hf (hr.free hf)) .nil))⟩
  · simp only [List.length_map, List.length_zip] at hl
    rw [r.len, r'.len] at hl
    omega
theorem s_seq (c : Ct X N sc T k C) {e : E} {tg ex : Expr} (h : PE X ex (tE X.K C e)) : PI X tg ex (tI X.K C (.seq e)) := by
  intro pins s σ H R I ⟨w, hv, σ', xs, pin, h', hr, sr, e0, q⟩
  simp only [evi] at e0
  obtain ⟨⟨x, h1⟩, e1, e0⟩ := Option.bind_eq_some_iff.mp e0
  dsimp only at e0
  split at e0 <;> try contradiction
  · cases e0
    refine pi_list h pins s σ H R I (tE1 hr sr e1 fun v H1 w1 n1 hr1 _ r1 => ?_)
    cases r1 with
    | p r1 =>
      cases r1 with
      | lst g1 g2 g3 => exact ⟨_, rfl, ⟨_, SqL.of g1⟩, q _ _ _ n1 hr1 (wk_list g1 g2 g3)⟩
  · cases e0
    refine pi_tup h pins s σ H R I (tE1 hr sr e1 fun v H1 w1 n1 hr1 _ r1 => ?_)
    cases r1 with
    | p r1 =>
      cases r1 with
      | tup g1 g3 => exact ⟨_, rfl, ⟨_, g1.sq⟩, q _ _ _ n1 hr1 (wk_tup g1.1 g1.2 g3)⟩
  · obtain ⟨ys, e2, e0⟩ := Option.map_eq_some_iff.mp e0
    cases e0
    refine pi_list h pins s σ H R I (tE1 hr sr e1 fun v H1 w1 n1 hr1 _ r1 => ?_)
    obtain ⟨a, vs, rfl, g1, g2⟩ := sq_ok hr1 r1 e2
    cases r1 with
    | ref r1 => exact ⟨_, rfl, ⟨_, SqL.of g1⟩, q _ _ _ n1 hr1 (wk_ref r1)⟩
theorem s_rng (c : Ct X N sc T k C) {e : E} {tg a : Expr} {p pos : Pos} (hg : gloB sc "range" = true) (hs : notStar a = true) (h : PE X a (tE X.K C e)) : PI X tg (.Call (.Name "range" p) [a] [] pos) (tI X.K C (.rng e)) := by
  refine PI.imp (pi_range1 (c.nm.glo _ hg) (bl_ok c (by decide +kernel)) (pa_cons h pa_nil (star_of hs)) (star_of hs)) fun σ H R ⟨w, hv, σ', xs, pin, h', hr, sr, e0, q⟩ => ?_
  simp only [evi] at e0
  obtain ⟨⟨x, h1⟩, e1, e0⟩ := Option.bind_eq_some_iff.mp e0
  obtain ⟨n, e2, e0⟩ := Option.bind_eq_some_iff.mp e0
  split at e0 <;> try contradiction
  rename_i hn
  cases e0
  have hn := of_decide_eq_true hn
  refine tE1 hr sr e1 fun v H1 w1 n1 hr1 _ r1 => ⟨n, by rw [iOf_ok r1 e2], hn.1, hn.2, q _ _ _ n1 hr1 ?_⟩
  have := wk_rng (K := X.K) (w := w1) (H := H1) 0 n
  rw [Int.sub_zero] at this
  exact this
theorem s_rng2 (c : Ct X N sc T k C) {e f : E} {tg a b : Expr} {p pos : Pos} (hg : gloB sc "range" = true) (hs : notStar a = true) (hs2 : notStar b = true) (h : PE X a (tE X.K C e)) (h2 : PE X b (tE X.K C f)) : PI X tg (.Call (.Name "range" p) [a, b] [] pos) (tI X.K C (.rng2 e f)) := by
  refine PI.imp (pi_range2 (c.nm.glo _ hg) (bl_ok c (by decide +kernel)) (pa_cons h (pa_cons h2 pa_nil (star_of hs2)) (star_of hs)) (by rw [star_of hs, star_of hs2]; rfl) (star_of hs2)) fun σ H R ⟨w, hv, σ', xs, pin, h', hr, sr, e0, q⟩ => ?_
  simp only [evi] at e0
  obtain ⟨⟨x, h1⟩, e1, e0⟩ := Option.bind_eq_some_iff.mp e0
  obtain ⟨⟨y, h3⟩, e2, e0⟩ := Option.bind_eq_some_iff.mp e0
  obtain ⟨i, e4, e0⟩ := Option.bind_eq_some_iff.mp e0
  obtain ⟨j, e5, e0⟩ := Option.bind_eq_some_iff.mp e0
  split at e0 <;> try contradiction
  rename_i hn
  cases e0
  rw [Bool.and_eq_true] at hn
  have hi := of_decide_eq_true hn.1
  have hj := of_decide_eq_true hn.2
  exact tE2 hr sr e1 e2 fun v u H2 w2 n hr2 sr2 r1 r2 => ⟨i, j, by rw [iOf_ok r1 e4, iOf_ok r2 e5], ⟨hi.1, hi.2, hj.1, hj.2⟩, q _ _ _ n hr2 (wk_rng i j)⟩
theorem s_zip (c : Ct X N sc T k C) {e f : E} {a b : Expr} {elts : List Expr} {kk : Nat} {tpos p pos : Pos} (hg : gloB sc "zip" = true) (hs : notStar a = true) (hs2 : notStar b = true) (h : PE X a (tE X.K C e)) (h2 : PE X b (tE X.K C f)) : PI X (.Tuple elts kk tpos) (.Call (.Name "zip" p) [a, b] [] pos) (tI X.K C (.zip e f)) := by
  refine PI.imp (pi_zip (c.nm.glo _ hg) (bl_ok c (by decide +kernel)) (pa_cons h (pa_cons h2 pa_nil (star_of hs2)) (star_of hs)) (star_of hs) (stars_of (by simp [hs2]))) fun σ H R ⟨w, hv, σ', xs, pin, h', hr, sr, e0, q⟩ => ?_
  simp only [evi] at e0
  obtain ⟨⟨x, h1⟩, e1, e0⟩ := Option.bind_eq_some_iff.mp e0
  obtain ⟨⟨y, h3⟩, e2, e0⟩ := Option.bind_eq_some_iff.mp e0
  dsimp only at e0
  split at e0 <;> try contradiction
  cases e0
  refine tE2 hr sr e1 e2 fun v u H2 w2 n hr2 sr2 r1 r2 => ?_
  cases r1 with
  | p r1 =>
    cases r1 with
    | lst g1 g2 g3 =>
      cases r2 with
      | p r2 =>
        cases r2 with
        | lst f1 f2 f3 => exact ⟨_, _, _, _, rfl, SqL.of g1, SqL.of f1, q _ _ _ n hr2 (wk_zip g1 g2 g3 f1 f2 f3)⟩
end
end Ev

namespace Ev
open PySem PySem.Spec PyProof.Rows L2
set_option autoImplicit false
section
variable {K : PySem.W.Frag} {w w' : Wr} {H H' : Hp} {h : Hv} {p : Addr} {o : HO}
theorem HR.ban (r : HR K w h H) (hp : H p = none) (hnt : ∀ xs, o ≠ .tup xs) : HR K ⟨w.ms, p :: w.ban⟩ h (upd H p o) ∧ Nx w ⟨w.ms, p :: w.ban⟩ H (upd H p o) := by
  constructor
  · refine ⟨r.len, r.nd, fun a ha => List.mem_cons_of_mem _ (r.sub a ha), fun a ha => ?_, fun i d e => ?_⟩
    · rcases List.mem_cons.mp ha with q | q
      · subst q; exact ⟨o, upd_same, hnt⟩
      · obtain ⟨u, e, nt⟩ := r.liv a q
        exact ⟨u, (upd_ne (fun z => by rw [z, hp] at e; cases e)).trans e, nt⟩
    · obtain ⟨b, e1, e2⟩ := r.cel i d e
      exact ⟨b, e1, e2.imp (fun u q => (upd_ne (fun z => by rw [z, hp] at q; cases q)).trans q) (fun d v q => Rp.upd' (.inl hp) q) (fun d v q => Rps.upd' (.inl hp) q)⟩
  · refine ⟨List.prefix_refl _, r.sub, fun a h => List.mem_cons_of_mem _ h, fun b u e _ => (upd_ne (fun z => by rw [z, hp] at e; cases e)).trans e, fun a ha => ?_, fun a ha => .inl ha⟩
    rcases List.mem_cons.mp ha with q | q
    · subst q; exact .inr hp
    · exact .inl q
theorem Rp.updBan {ban : List Addr} (hp : p ∈ ban) {d : P} {v : V} (r : Rp K ban H d v) : Rp K ban (upd H p o) d v := Rp.weak (fun a h => List.mem_cons_of_mem _ h) (Rp.upd' (o := o) (.inr hp) r)
theorem Rps.updBan {ban : List Addr} (hp : p ∈ ban) {d : List P} {v : List V} (r : Rps K ban H d v) : Rps K ban (upd H p o) d v := Rps.weak (fun a h => List.mem_cons_of_mem _ h) (Rps.upd' (o := o) (.inr hp) r)
theorem HR.writeBan (r : HR K w h H) (hb : p ∈ w.ban) (hm : p ∉ w.ms) (hnt : ∀ xs, o ≠ .tup xs) : HR K w h (upd H p o) := by
  refine ⟨r.len, r.nd, r.sub, fun a ha => ?_, fun i d e => ?_⟩
  · by_cases q : a = p
    · subst q; exact ⟨o, upd_same, hnt⟩
    · obtain ⟨u, e, nt⟩ := r.liv a ha
      exact ⟨u, (upd_ne q).trans e, nt⟩
  · obtain ⟨b, e1, e2⟩ := r.cel i d e
    have ne : b ≠ p := fun z => hm (by rw [← z]; exact List.mem_of_getElem? e1)
    exact ⟨b, e1, e2.imp (fun u q => (upd_ne ne).trans q) (fun d v q => q.updBan hb) (fun d v q => q.updBan hb)⟩
theorem Nx.updFresh (n : Nx w w' H H') (hp : H p = none) : Nx w w' H (upd H' p o) :=
  ⟨n.pre, n.sub, n.bsub, fun a u e hn => (upd_ne (fun z => by rw [z, hp] at e; cases e)).trans (n.keep a u e hn), n.new, n.newm⟩
theorem Nx.none (n : Nx w w' H H') (r : HR K w' h H') (hp : H' p = none) : H p = none := by
  cases e : H p with
  | none => rfl
  | some u =>
    by_cases hm : p ∈ w.ms
    · obtain ⟨o, ho, _⟩ := r.liv p (n.bsub p (n.sub p hm))
      rw [hp] at ho; cases ho
    · rw [n.keep p u e hm] at hp; cases hp
/-- the list that a comprehension has made, frozen -/
theorem lc_frozen {w2 : Wr} {h2 : Hv} {H2 : Hp} {D : Addr} {vs : List V} {ys : List P} (hr : HR K w h H) (n : Nx w w2 H H2) (r : HR K w2 h2 H2) (hm : D ∉ w2.ms) (hD : H D = none) (hv : H2 D = some (.lst vs)) (rp : Rps K w2.ban H2 ys vs) :
    ∃ w3 : Wr, Nx w w3 H H2 ∧ HR K w3 h2 H2 ∧ RD K w3 H2 (.p (.list ys)) (.ref D) := by
  have hb : ∀ a ∈ w2.ban.filter (fun a => decide (a ≠ D)), a ∈ w2.ban := fun a ha => (List.mem_filter.mp ha).1
  refine ⟨⟨w2.ms, w2.ban.filter fun a => decide (a ≠ D)⟩, ⟨n.pre, n.sub, fun a ha => ?_, n.keep, fun a ha => n.new a (hb a ha), n.newm⟩, ⟨r.len, r.nd, fun a ha => ?_, fun a ha => r.liv a (hb a ha), fun i c e => ?_⟩, .p (.lst hv (fun z => ?_) (Rps.weak hb rp))⟩
  · refine List.mem_filter.mpr ⟨n.bsub a ha, decide_eq_true fun z => ?_⟩
    obtain ⟨u, e, _⟩ := hr.liv a ha
    rw [z, hD] at e; cases e
  · exact List.mem_filter.mpr ⟨r.sub a ha, decide_eq_true fun z => hm (by rw [← z]; exact ha)⟩
  · obtain ⟨a, e1, e2⟩ := r.cel i c e
    exact ⟨a, e1, e2.imp (fun _ q => q) (fun d v q => Rp.weak hb q) (fun d v q => Rps.weak hb q)⟩
  · exact (of_decide_eq_true (List.mem_filter.mp z).2) rfl
/-- .. owned -/
theorem lc_owned {w2 : Wr} {h2 : Hv} {H2 : Hp} {D : Addr} {vs : List V} {ys : List P} (n : Nx w w2 H H2) (r : HR K w2 h2 H2) (hb : D ∈ w2.ban) (hm : D ∉ w2.ms) (hD : H D = none) (hv : H2 D = some (.lst vs)) (rp : Rps K w2.ban H2 ys vs) :
    ∃ w3 : Wr, Nx w w3 H H2 ∧ HR K w3 (h2 ++ [.lst ys]) H2 ∧ RD K w3 H2 (.ref h2.length) (.ref D) := by
  refine ⟨⟨w2.ms ++ [D], w2.ban⟩, ⟨n.pre.trans (List.prefix_append _ _), n.sub, n.bsub, n.keep, n.new, fun a ha => ?_⟩, ⟨by simp [r.len], nd_snoc r.nd hm, fun a ha => ?_, r.liv, fun i c e => ?_⟩, .ref (by rw [← r.len]; simp)⟩
  · rcases List.mem_append.mp ha with q | q
    · exact n.newm a q
    · rw [List.mem_singleton.mp q]; exact .inr hD
  · rcases List.mem_append.mp ha with q | q
    · exact r.sub a q
    · rw [List.mem_singleton.mp q]; exact hb
  · by_cases hl : i < h2.length
    · rw [List.getElem?_append_left hl] at e
      obtain ⟨a, e1, e2⟩ := r.cel i c e
      exact ⟨a, by rw [List.getElem?_append_left (List.getElem?_eq_some_iff.mp e1).1]; exact e1, e2⟩
    · have hi : i = h2.length := by
        have := (List.getElem?_eq_some_iff.mp e).1
        simp at this; omega
      subst hi
      simp at e
      subst e
      exact ⟨D, by rw [← r.len]; simp, vs, hv, rp⟩
end
theorem quiet_ok {C : Ca} : ∀ {e : E} {σ : Sv} {h h' : Hv} {d : D}, quiet e = true → ev C e σ h = some (d, h') → h' = h
  | .var i, σ, h, h', d, _, e0 => by
    simp only [ev] at e0
    split at e0 <;> cases e0
    rfl
  | .int i, σ, h, h', d, _, e0 => by simp only [ev] at e0; cases e0; rfl
  | .bl i, σ, h, h', d, _, e0 => by simp only [ev] at e0; cases e0; rfl
  | .non, σ, h, h', d, _, e0 => by simp only [ev] at e0; cases e0; rfl
  | .str i, σ, h, h', d, _, e0 => by simp only [ev] at e0; cases e0; rfl
  | .glb i j, σ, h, h', d, _, e0 => by simp only [ev] at e0; cases e0; rfl
  | .op o a b, σ, h, h', d, hq, e0 => by
    simp only [quiet, Bool.and_eq_true] at hq
    simp only [ev] at e0
    obtain ⟨⟨x, h1⟩, e1, e0⟩ := Option.bind_eq_some_iff.mp e0
    obtain ⟨⟨y, h2⟩, e2, e0⟩ := Option.bind_eq_some_iff.mp e0
    obtain ⟨z, e3, e0⟩ := Option.map_eq_some_iff.mp e0
    cases e0
    exact (quiet_ok hq.2 e2).trans (quiet_ok hq.1 e1)
  | .cmp o a b, σ, h, h', d, hq, e0 => by
    simp only [quiet, Bool.and_eq_true] at hq
    simp only [ev] at e0
    obtain ⟨⟨x, h1⟩, e1, e0⟩ := Option.bind_eq_some_iff.mp e0
    obtain ⟨⟨y, h2⟩, e2, e0⟩ := Option.bind_eq_some_iff.mp e0
    obtain ⟨z, e3, e0⟩ := Option.map_eq_some_iff.mp e0
    cases e0
    exact (quiet_ok hq.2 e2).trans (quiet_ok hq.1 e1)
  | .idx a b, σ, h, h', d, hq, e0 => by
    simp only [quiet, Bool.and_eq_true] at hq
    simp only [ev] at e0
    obtain ⟨⟨x, h1⟩, e1, e0⟩ := Option.bind_eq_some_iff.mp e0
    obtain ⟨⟨y, h2⟩, e2, e0⟩ := Option.bind_eq_some_iff.mp e0
    obtain ⟨z, e3, e0⟩ := Option.map_eq_some_iff.mp e0
    cases e0
    exact (quiet_ok hq.2 e2).trans (quiet_ok hq.1 e1)
  | .and a b, σ, h, h', d, hq, e0 => by
    simp only [quiet, Bool.and_eq_true] at hq
    simp only [ev] at e0
    obtain ⟨⟨x, h1⟩, e1, e0⟩ := Option.bind_eq_some_iff.mp e0
    obtain ⟨z, e2, e0⟩ := Option.bind_eq_some_iff.mp e0
    have g := quiet_ok hq.1 e1
    split at e0
    · exact (quiet_ok hq.2 e0).trans g
    · cases e0; exact g
  | .or a b, σ, h, h', d, hq, e0 => by
    simp only [quiet, Bool.and_eq_true] at hq
    simp only [ev] at e0
    obtain ⟨⟨x, h1⟩, e1, e0⟩ := Option.bind_eq_some_iff.mp e0
    obtain ⟨z, e2, e0⟩ := Option.bind_eq_some_iff.mp e0
    have g := quiet_ok hq.1 e1
    split at e0
    · cases e0; exact g
    · exact (quiet_ok hq.2 e0).trans g
  | .not a, σ, h, h', d, hq, e0 => by
    simp only [quiet] at hq
    simp only [ev] at e0
    obtain ⟨⟨x, h1⟩, e1, e0⟩ := Option.bind_eq_some_iff.mp e0
    obtain ⟨z, e3, e0⟩ := Option.map_eq_some_iff.mp e0
    cases e0
    exact quiet_ok hq e1
  | .isi T a, σ, h, h', d, hq, e0 => by
    simp only [quiet] at hq
    simp only [ev] at e0
    obtain ⟨⟨x, h1⟩, e1, e0⟩ := Option.bind_eq_some_iff.mp e0
    split at e0 <;> cases e0
    exact quiet_ok hq e1
theorem quietC_ok {C : Ca} {c : Option E} {σ : Sv} {h h' : Hv} {b : Bool} (hq : quietO c = true) (e0 : evc C c σ h = some (b, h')) : h' = h := by
  cases c with
  | none => simp only [evc] at e0; cases e0; rfl
  | some e =>
    simp only [evc] at e0
    obtain ⟨⟨x, h1⟩, e1, e0⟩ := Option.bind_eq_some_iff.mp e0
    obtain ⟨z, e3, e0⟩ := Option.map_eq_some_iff.mp e0
    cases e0
    exact quiet_ok hq e1
/-- what is pinned stands where the walk begins -/
theorem evi_pin {C : Ca} {it : It} {σ : Sv} {h h1 : Hv} {xs : List P} {pin : Option Nat} (e : evi C it σ h = some (xs, pin, h1)) : ∀ n, pin = some n → h1[n]? = some (.lst xs) := by
  intro n en
  subst en
  cases it with
  | seq e' =>
    simp only [evi] at e
    obtain ⟨⟨x, h2⟩, e1, e⟩ := Option.bind_eq_some_iff.mp e
    dsimp only at e
    split at e <;> try cases e
    obtain ⟨ys, e2, e⟩ := Option.map_eq_some_iff.mp e
    cases e
    simp only [sq] at e2
    split at e2 <;> cases e2
    assumption
  | rng e' =>
    simp only [evi] at e
    obtain ⟨⟨x, h2⟩, e1, e⟩ := Option.bind_eq_some_iff.mp e
    obtain ⟨m, e2, e⟩ := Option.bind_eq_some_iff.mp e
    split at e <;> cases e
  | rng2 a b =>
    simp only [evi] at e
    obtain ⟨⟨x, h2⟩, e1, e⟩ := Option.bind_eq_some_iff.mp e
    obtain ⟨⟨x, h2⟩, e1, e⟩ := Option.bind_eq_some_iff.mp e
    obtain ⟨m, e2, e⟩ := Option.bind_eq_some_iff.mp e
    obtain ⟨m, e2, e⟩ := Option.bind_eq_some_iff.mp e
    split at e <;> cases e
  | zip a b =>
    simp only [evi] at e
    obtain ⟨⟨x, h2⟩, e1, e⟩ := Option.bind_eq_some_iff.mp e
    obtain ⟨⟨x, h2⟩, e1, e⟩ := Option.bind_eq_some_iff.mp e
    dsimp only at e
    split at e <;> cases e
/-- what a turn of a comprehension does -/
def lcF (C : Ca) (own : List Nat) (e : E) (t : Tg) (c : Option E) (σ : Sv) : P → Hv → Option (Option P × Hv) := fun x h => (tgD t x (wipeD σ own)).bind fun σ1 =>
        (evc C c σ1 h).bind fun (b, h2) => if b then (ev C e σ1 h2).bind fun (y, h3) => (wp y).map fun y => (some y, h3) else some (none, h2)
theorem lc_read {K : PySem.W.Frag} {C : Ca} {own : List Nat} {e : E} {t : Tg} {it : It} {c : Option E} {w : Wr} {h h1 h2 : Hv} {H : Hp} {σ' : Sv} {σ : L2.St} {xs ys : List P} {Q : VK} (hr : HR K w h H) (sr : SR K w H σ' σ)
    {pin : Option Nat} (e0 : evi C it σ' h = some (xs, pin, h1)) (hq : pin = none ∨ (quiet e && quietO c) = true) (hp : ∀ n, pin = some n → h1[n]? = some (.lst xs)) (hl : xs.length ≤ lim) (e1 : lcGo (lcF C own e t c σ') xs h1 = some (ys, h2)) (hsl : ∀ i ∈ slots t, i ∈ own)
    (fin : ∀ D H2 w2 vs, Nx w w2 H H2 → HR K w2 h2 H2 → D ∈ w2.ban → D ∉ w2.ms → H D = none → H2 D = some (.lst vs) → Rps K w2.ban H2 ys vs → Q (.ref D) H2) :
    tLc (tI K C it) (tG K t) (tC' K C c) (tE K C e) own σ H Q := by
  refine ⟨w, h, σ', xs, pin, h1, hr, sr, e0, fun J H1 w1 n1 hr1 wk D hD => ?_⟩
  have hD0 : H D = none := n1.none hr1 hD
  have hqc : ∀ n, pin = some n → quiet e = true ∧ quietO c = true := fun n en => by
    rcases hq with q | q
    · rw [en] at q; cases q
    · rw [Bool.and_eq_true] at q; exact q
  obtain ⟨hrB, nB⟩ := hr1.ban (o := .lst []) hD (fun _ z => by cases z)
  refine ⟨fun i m Hc => ∃ w2 hc acc vs rest, m = xs.length - i ∧ i ≤ xs.length ∧ Nx w1 w2 H1 Hc ∧ HR K w2 hc Hc ∧ D ∈ w2.ban ∧ D ∉ w2.ms ∧ Hc D = some (.lst vs) ∧ Rps K w2.ban Hc acc vs ∧ acc.length ≤ i ∧ (∀ n, pin = some n → hc[n]? = some (.lst xs)) ∧ lcGo (lcF C own e t c σ') (xs.drop i) hc = some (rest, h2) ∧ acc ++ rest = ys,
    ⟨_, _, _, [], [], ys, rfl, Nat.zero_le _, nB, hrB, List.mem_cons_self, fun z => hr1.free hD (hr1.sub _ z), upd_same, .nil, Nat.zero_le _, hp, e1, rfl⟩, ?_⟩
  rintro i m Hc ⟨w2, hc, acc, vs, rest, rfl, hi, n2, hr2, hb, hm, hv, rp, ha, hpn, eg, ey⟩
  have wk2 := wk w2 Hc hc n2 hr2 hpn i
  by_cases hlt : i < xs.length
  · refine .inr ?_
    have hx : xs[i]? = some xs[i] := by simp [hlt]
    obtain ⟨go, yld⟩ := wk2.1 _ hx
    have ed : xs.drop i = xs[i] :: xs.drop (i + 1) := List.drop_eq_getElem_cons hlt
    rw [ed] at eg
    simp only [lcGo] at eg
    obtain ⟨⟨y, h3⟩, eg1, g3⟩ := Option.bind_eq_some_iff.mp eg
    clear eg
    obtain ⟨⟨rest', h4⟩, eg2, g4⟩ := Option.map_eq_some_iff.mp g3
    clear g3
    dsimp only at eg2 g4
    unfold lcF at eg1
    obtain ⟨σ1', et, eg1⟩ := Option.bind_eq_some_iff.mp eg1
    obtain ⟨⟨b, h5⟩, ec, eg1⟩ := Option.bind_eq_some_iff.mp eg1
    dsimp only at eg1
    refine ⟨go, fun Hn => ∃ w2 hc acc vs rest, i + 1 ≤ xs.length ∧ Nx w1 w2 H1 Hn ∧ HR K w2 hc Hn ∧ D ∈ w2.ban ∧ D ∉ w2.ms ∧ Hn D = some (.lst vs) ∧ Rps K w2.ban Hn acc vs ∧ acc.length ≤ i + 1 ∧ (∀ n, pin = some n → hc[n]? = some (.lst xs)) ∧ lcGo (lcF C own e t c σ') (xs.drop (i + 1)) hc = some (rest, h2) ∧ acc ++ rest = ys,
      fun Hn ⟨w2, hc, acc, vs, rest, q⟩ => ⟨_, by omega, w2, hc, acc, vs, rest, rfl, q⟩, fun v H3 hy => ?_⟩
    obtain ⟨n3, hr3, rv⟩ := yld v H3 hy
    have srw : SR K w2 H3 (wipeD σ' own) (wipe σ own) := (((sr.nx n1).nx n2).nx n3).wipe own
    refine ⟨w2, _, _, σ1', srw, rv, et, fun σ1 s1 hw => ⟨?_, w2, hc, σ1', b, h5, hr3, s1, ec, fun H4 w4 n4 hr4 => ?_⟩⟩
    · rw [hw own hsl]; exact wipe_wipe fun _ z => z
    have hb4 : D ∈ w4.ban := n4.bsub _ hb
    have hm4 : D ∉ w4.ms := fun z => by
      rcases n4.newm D z with q | q
      · exact hm q
      · rw [n3.keep D _ hv hm] at q; cases q
    have hv4 : H4 D = some (.lst vs) := n4.keep D _ (n3.keep D _ hv hm) hm
    have rp4 : Rps K w4.ban H4 acc vs := (rp.nx n3).nx n4
    cases b with
    | false =>
      simp only [Bool.false_eq_true, if_false] at eg1 ⊢
      cases eg1
      cases g4
      exact ⟨w4, _, acc, vs, _, hlt, (n2.trans n3).trans n4, hr4, hb4, hm4, hv4, rp4, by omega, fun n en => by rw [quietC_ok (hqc n en).2 ec]; exact hpn n en, eg2, ey⟩
    | true =>
      simp only [if_true] at eg1 ⊢
      obtain ⟨⟨yd, h6⟩, ee, eg1⟩ := Option.bind_eq_some_iff.mp eg1
      obtain ⟨yp, ew, eg1⟩ := Option.map_eq_some_iff.mp eg1
      cases eg1
      cases g4
      refine tE1 hr4 (s1.nx n4) ee fun v5 H5 w5 n5 hr5 _ r5 => ?_
      have hb5 : D ∈ w5.ban := n5.bsub _ hb4
      have hm5 : D ∉ w5.ms := fun z => by
        rcases n5.newm D z with q | q
        · exact hm4 q
        · rw [hv4] at q; cases q
      have hv5 : H5 D = some (.lst vs) := n5.keep D _ hv4 hm4
      have rp5 : Rps K w5.ban H5 acc vs := rp4.nx n5
      have hlim := lim_line
      have hlv := rp.len
      refine ⟨vs, hv5, by omega, w5, _, acc ++ [yp], vs ++ [v5], rest', hlt, (((n2.trans n3).trans n4).trans n5).updFresh hD, hr5.writeBan hb5 hm5 (fun _ z => by cases z), hb5, hm5, upd_same, (rp5.append (.cons (wp_ok r5 ew) .nil)).updBan hb5, by simp; omega, fun n en => by rw [quiet_ok (hqc n en).1 ee, quietC_ok (hqc n en).2 ec]; exact hpn n en, eg2, by rw [List.append_assoc]; exact ey⟩
  · refine .inl ⟨wk2.2 (by omega), ?_⟩
    have : xs.drop i = [] := List.drop_eq_nil_of_le (by omega)
    rw [this] at eg
    simp only [lcGo] at eg
    cases eg
    rw [List.append_nil] at ey
    subst ey
    exact fin D Hc w2 vs (n1.trans n2) hr2 hb hm hD0 hv rp
theorem evc_lc {C : Ca} {own : List Nat} {e : E} {t : Tg} {it : It} {c : Option E} {σ : Sv} {h h' : Hv} {d : D} (e0 : ev C (.lc own e t it c) σ h = some (d, h')) : ∃ xs pin h1 ys, evi C it σ h = some (xs, pin, h1) ∧ (pin = none ∨ (quiet e && quietO c) = true) ∧ xs.length ≤ lim ∧ lcGo (lcF C own e t c σ) xs h1 = some (ys, h') ∧ d = .p (.list ys) := by
  simp only [ev] at e0
  obtain ⟨⟨xs, pin, h1⟩, e1, e0⟩ := Option.bind_eq_some_iff.mp e0
  dsimp only at e0
  split at e0 <;> try contradiction
  rename_i hl
  obtain ⟨⟨ys, h2⟩, e2, e0⟩ := Option.map_eq_some_iff.mp e0
  cases e0
  exact ⟨xs, pin, h1, ys, e1, hl.2, hl.1, e2, rfl⟩
section
variable {X : Cx} {N : List Str} {sc : Scope} {T : Tab} {k : Nat} {C : Ca}
theorem relabel_free {env : Env} : ∀ {names : List (Str × NameKind)} {x : Str}, names.lookup x = some .free →
    (names.map fun (n, k) => if (k == NameKind.free && env.scope.kind == .function && env.kindOf n == some .cell) then (n, NameKind.cell) else (n, k)).lookup x = some .cell ∨
    (names.map fun (n, k) => if (k == NameKind.free && env.scope.kind == .function && env.kindOf n == some .cell) then (n, NameKind.cell) else (n, k)).lookup x = some .free
  | [], _, h => by simp at h
  | (n, k₀) :: r, x, h => by
    have ih := @relabel_free env r x
    show List.lookup x ((if (k₀ == NameKind.free && env.scope.kind == .function && env.kindOf n == some .cell) = true then (n, NameKind.cell) else (n, k₀)) :: (r.map _)) = _ ∨ List.lookup x ((if (k₀ == NameKind.free && env.scope.kind == .function && env.kindOf n == some .cell) = true then (n, NameKind.cell) else (n, k₀)) :: (r.map _)) = _
    cases hx : x == n with
    | true =>
      simp only [List.lookup_cons, hx] at h
      cases h
      by_cases hc : (NameKind.free == NameKind.free && env.scope.kind == .function && env.kindOf n == some .cell) = true
      · rw [if_pos hc]; left; simp only [List.lookup_cons, hx]
      · rw [if_neg hc]; right; simp only [List.lookup_cons, hx]
    | false =>
      simp only [List.lookup_cons, hx] at h
      by_cases hc : (k₀ == NameKind.free && env.scope.kind == .function && env.kindOf n == some .cell) = true
      · rw [if_pos hc]; simp only [List.lookup_cons, hx]; exact ih h
      · rw [if_neg hc]; simp only [List.lookup_cons, hx]; exact ih h
theorem relabel_keep {env : Env} {scope : Scope} {x : Str} {k : NameKind} (hk : k ≠ .free) (h : scope.names.lookup x = some k) : (relabel scope env).names.lookup x = some k := lookup_relS_keep (sc := env.scope) hk h
theorem Ct.blk (c : Ct X N sc T k C) {scope : Scope} (hk : scope.kind = .function) (s : Shared) (H : Hp) (a : Addr) (cl : List (Str × Addr)) (fp : List Addr) : Ct (X.blk s H scope (compEnvC scope cl a X.env) fp) N scope T k C := by
  refine ⟨⟨c.nm.eN, c.nm.nd, hk, fun x h => ?_, fun x h => ?_, fun x h => ?_, fun x h => ?_, fun x h => ?_, fun x h => ?_, fun x h => relabel_keep (by decide) h, c.nm.calm, rfl⟩, c.tb, c.rm⟩
  · unfold visB at h
    split at h <;> try contradiction
    · rename_i q; exact .inl (relabel_keep (by decide) q)
    · rename_i q; exact .inr (.inl (relabel_keep (by decide) q))
    · rename_i q
      rcases relabel_free (env := X.env) q with z | z
      · exact .inr (.inl z)
      · exact .inr (.inr z)
  · unfold locB at h
    split at h <;> try contradiction
    · rename_i q; exact .inl (relabel_keep (by decide) q)
    · rename_i q; exact .inr (relabel_keep (by decide) q)
  · unfold locB at h
    split at h <;> try contradiction
    · rename_i q; exact .inr (relabel_keep (by decide) q)
    · rename_i q; exact .inl (by show (scope.names.lookup x == some .cell) = true; rw [q]; rfl)
  · unfold lo1B at h
    split at h <;> try contradiction
    rename_i q; exact relabel_keep (by decide) q
  · unfold gloB at h
    split at h <;> try contradiction
    rename_i q; exact relabel_keep (by decide) q
  · rcases h with q | q
    · exact .inl (relabel_keep (by decide) q)
    · exact relabel_free (env := X.env) q
theorem s_blk (c : Ct X N sc T k C) {scope : Scope} {own : List (Str × Nat)} (h : blkC N sc scope own = true) : BlkOk X.N X.env.scope scope own := by
  have b := blkOk_by h
  rw [c.nm.eN]
  exact ⟨b.kind, b.uniq, b.ix, fun y hy e => c.nm.cap _ (b.free y hy e), b.own⟩
theorem own_map (N : List Str) (own : List Nat) : (own.map fun i => (N.getD i "", i)).map (·.2) = own := by
  rw [List.map_map]; exact List.map_id' own
theorem s_ifs {c : Option E} {ifs : List Expr} (h : (c = none ∧ ifs = []) ∨ ∃ e ex, c = some e ∧ ifs = [ex] ∧ PT X ex (tB X.K C e)) : PTs X ifs (tC' X.K C c) := by
  rcases h with ⟨rfl, rfl⟩ | ⟨e, ex, rfl, rfl, h⟩
  · intro pins s σ H Q I ⟨w, hv, σ', b, h', hr, sr, e, q⟩
    simp only [evc] at e
    cases e
    exact pts_nil pins s σ H Q I (q _ _ (Nx.refl hr) hr)
  · intro pins s σ H Q I ⟨w, hv, σ', b, h', hr, sr, e, q⟩
    simp only [evc] at e
    exact pts_one h pins s σ H Q I ⟨w, hv, σ', b, h', hr, sr, e, q⟩
/-- a test that is a value's truth -/
theorem tru_read {K : PySem.W.Frag} {a : E} {σ : L2.St} {H : Hp} {Q : Bool → Hp → Prop} (t : tB K C (.tru a) σ H Q) : tE K C a σ H fun x H' => ∃ k, TruV K x H' k ∧ Q k H' := by
  obtain ⟨w, h, σ', b, h', hr, sr, e, q⟩ := t
  obtain ⟨⟨x, h1⟩, e1, e⟩ := Option.bind_eq_some_iff.mp e
  obtain ⟨z, e2, e⟩ := Option.map_eq_some_iff.mp e
  cases e
  simp only [ev] at e1
  obtain ⟨⟨y, h2⟩, e3, e1⟩ := Option.bind_eq_some_iff.mp e1
  obtain ⟨b2, e4, e1⟩ := Option.map_eq_some_iff.mp e1
  cases e1
  simp only [bOf] at e2
  cases e2
  refine tE1 hr sr e3 fun v H1 w1 n hr1 _ r => ⟨b, ?_, q _ _ n hr1⟩
  have key : ∀ xs : List P, sq2 _ y = some xs → b = !xs.isEmpty → TruV K v H1 b := fun xs e5 eb => by
    obtain ⟨a0, vs, rfl, g1, g2⟩ := sq2_ok hr1 r e5
    have hl := g2.len
    have : xs.isEmpty = vs.isEmpty := by cases xs <;> cases vs <;> simp at hl ⊢
    rcases g1 with g1 | ⟨g1, _⟩
    · exact .inl ⟨vs, SqL.of g1, by rw [eb, this]⟩
    · exact .inr (.inl ⟨vs, SqT.of g1, by rw [eb, this]⟩)
  dsimp only at e4
  unfold truD at e4
  split at e4
  · cases e4; cases r with
    | p r => cases r; rfl
  · cases e4; cases r with
    | p r => cases r; rfl
  · cases e4; cases r with
    | p r => cases r; rfl
  · obtain ⟨xs, e5, e6⟩ := Option.map_eq_some_iff.mp e4
    exact key xs e5 e6.symm
theorem w_and {a b : E} {x y : Expr} {rest : List Expr} {pos : Pos} (ha : PT X x (tB X.K C a)) (hb : PW X (.BoolOp .And (y :: rest) pos) (tB X.K C b)) : PW X (.BoolOp .And (x :: y :: rest) pos) (tB X.K C (.and a b)) := by
  refine PW.imp (pw_and ha hb) fun σ H Q ⟨w, h, σ', d, h', hr, sr, e, q⟩ => ?_
  simp only [evB, ev] at e
  obtain ⟨⟨x, h1⟩, e1, e⟩ := Option.bind_eq_some_iff.mp e
  obtain ⟨⟨x2, h2⟩, e2, e1⟩ := Option.bind_eq_some_iff.mp e1
  obtain ⟨z, e3, e1⟩ := Option.bind_eq_some_iff.mp e1
  refine ⟨w, h, σ', z, h2, hr, sr, by simp only [evB, e2, Option.bind_some, e3, Option.map_some], fun H1 w1 n hr1 => ?_⟩
  cases z with
  | true =>
    simp only [if_true] at e1 ⊢
    exact ⟨w1, h2, σ', d, h', hr1, sr.nx n, by simp only [evB]; rw [e1]; exact e, fun H2 w2 n2 hr2 => q _ _ (n.trans n2) hr2⟩
  | false =>
    simp only [Bool.false_eq_true, if_false] at e1 ⊢
    cases e1
    simp only [bOf, Option.map_some] at e
    cases e
    exact q _ _ n hr1
theorem w_or {a b : E} {x y : Expr} {rest : List Expr} {pos : Pos} (ha : PT X x (tB X.K C a)) (hb : PW X (.BoolOp .Or (y :: rest) pos) (tB X.K C b)) : PW X (.BoolOp .Or (x :: y :: rest) pos) (tB X.K C (.or a b)) := by
  refine PW.imp (pw_or ha hb) fun σ H Q ⟨w, h, σ', d, h', hr, sr, e, q⟩ => ?_
  simp only [evB, ev] at e
  obtain ⟨⟨x, h1⟩, e1, e⟩ := Option.bind_eq_some_iff.mp e
  obtain ⟨⟨x2, h2⟩, e2, e1⟩ := Option.bind_eq_some_iff.mp e1
  obtain ⟨z, e3, e1⟩ := Option.bind_eq_some_iff.mp e1
  refine ⟨w, h, σ', z, h2, hr, sr, by simp only [evB, e2, Option.bind_some, e3, Option.map_some], fun H1 w1 n hr1 => ?_⟩
  cases z with
  | false =>
    simp only [Bool.false_eq_true, if_false] at e1 ⊢
    exact ⟨w1, h2, σ', d, h', hr1, sr.nx n, by simp only [evB]; rw [e1]; exact e, fun H2 w2 n2 hr2 => q _ _ (n.trans n2) hr2⟩
  | true =>
    simp only [if_true] at e1 ⊢
    cases e1
    simp only [bOf, Option.map_some] at e
    cases e
    exact q _ _ n hr1
theorem w_not {a : E} {l : Expr} {pos : Pos} (ha : PT X l (tB X.K C a)) : PT X (.UnaryOp .Not l pos) (tB X.K C (.not a)) := by
  refine PT.imp (pt_not ha) fun σ H Q ⟨w, h, σ', d, h', hr, sr, e, q⟩ => ?_
  simp only [evB, ev] at e
  obtain ⟨⟨x, h1⟩, e1, e⟩ := Option.bind_eq_some_iff.mp e
  obtain ⟨⟨x2, h2⟩, e2, e1⟩ := Option.bind_eq_some_iff.mp e1
  obtain ⟨z, e3, e1⟩ := Option.map_eq_some_iff.mp e1
  cases e1
  simp only [bOf, Option.map_some] at e
  cases e
  exact ⟨w, h, σ', z, _, hr, sr, by simp only [evB, e2, Option.bind_some, e3, Option.map_some], fun H1 w1 n hr1 => q _ _ n hr1⟩
theorem w_cmp (c : Ct X N sc T k C) {o : Cp} {op : CmpOp} {a b : E} {l r : Expr} {pos : Pos} (ho : cpIs o op = true) (hm : behindInMarks op r = false) (ha : PE X l (tE X.K C a)) (hb : PE X r (tE X.K C b)) : PT X (.Compare l [op] [r] pos) (tB X.K C (.cmp o a b)) := by
  refine PT.imp (pt_cmpR (cmp_ok ho (hu65 c.rm)) ha hb hm) fun σ H Q ⟨w, h, σ', d, h', hr, sr, e, q⟩ => ?_
  simp only [evB, ev] at e
  obtain ⟨⟨x, h1⟩, e1, e⟩ := Option.bind_eq_some_iff.mp e
  obtain ⟨⟨x2, h2⟩, e2, e1⟩ := Option.bind_eq_some_iff.mp e1
  obtain ⟨⟨x3, h3⟩, e3, e1⟩ := Option.bind_eq_some_iff.mp e1
  obtain ⟨z, e4, e1⟩ := Option.map_eq_some_iff.mp e1
  cases e1
  simp only [bOf, Option.map_some] at e
  cases e
  exact tE2 hr sr e2 e3 fun v u H2 w2 n hr2 sr2 r1 r2 => ⟨w2, _, x2, x3, _, hr2, r1, r2, e4, _, rfl, q _ _ n hr2⟩
theorem tChain_mono {r r' : R2} {ta tb tc : TE} {σ : L2.St} {H : Hp} {Q : VK} (t : tChain r r' ta tb tc σ H Q) : tChain r r' ta tb tc σ H Q := t
theorem w_chain (c : Ct X N sc T k C) {o o' : Cp} {op op' : CmpOp} {a b d : E} {l m r : Expr} {pos : Pos} (ho : cpIs o op = true) (ho' : cpIs o' op' = true) (hm : lastMarks [op, op'] [m, r] = false)
    (ha : PE X l (tE X.K C a)) (hb : PE X m (tE X.K C b)) (hd : PE X r (tE X.K C d)) : PT X (.Compare l [op, op'] [m, r] pos) (tB X.K C (.chain o o' a b d)) := by
  refine PT.imp (pt_chain (cmp_ok ho (hu65 c.rm)) (cmp_ok ho' (hu65 c.rm)) ha hb hd hm) fun σ H Q t => ?_
  exact chain_read (tB_of t)
end
end Ev

namespace Ev
open PySem PySem.Spec PyProof.Rows L2
set_option autoImplicit false
theorem chks_star {T : Tab} {N : List Str} {sc : Scope} : ∀ {es : List E} {xs : List Expr}, chks T N sc es xs = true → xs.all notStar = true
  | [], [], _ => rfl
  | [], _ :: _, h => by simp [chks] at h
  | _ :: _, [], h => by simp [chks] at h
  | _ :: es, x :: xs, h => by
    simp only [chks, Bool.and_eq_true] at h
    rw [List.all_cons, h.1.1, chks_star h.2]
    rfl
theorem folded_set {e : Expr} {env : Env} (h : notSet e = true) : ∀ x, foldedSetIterable e env x = pure x := by
  intro x
  cases e <;> first | rfl | simp [notSet] at h
set_option maxHeartbeats 4000000
mutual
theorem snd : ∀ (e : E) {X : Cx} {N : List Str} {sc : Scope} {T : Tab} {k : Nat} {C : Ca} {x : Expr}, Ct X N sc T k C → chk T N sc e x = true → PE X x (tE X.K C e)
  | .var i, X, N, sc, T, k, C, x, c, h => by
    simp only [chk] at h
    split at h <;> try contradiction
    simp only [Bool.and_eq_true, beq_iff_eq, Bool.not_eq_true'] at h
    exact s_var c h.1.1.1 h.1.1.2 h.1.2 h.2
  | .int i, X, N, sc, T, k, C, x, c, h => by
    simp only [chk] at h
    split at h <;> try contradiction
    simp only [beq_iff_eq] at h
    subst h
    exact PE.imp pe_int fun σ H Q ⟨w, h, σ', d, h', hr, sr, e, q⟩ => by simp only [ev] at e; cases e; exact q.now hr (.p (.int _))
  | .bl i, X, N, sc, T, k, C, x, c, h => by
    simp only [chk] at h
    split at h <;> try contradiction
    simp only [beq_iff_eq] at h
    subst h
    exact PE.imp pe_bl fun σ H Q ⟨w, h, σ', d, h', hr, sr, e, q⟩ => by simp only [ev] at e; cases e; exact q.now hr (.p (.bl _))
  | .non, X, N, sc, T, k, C, x, c, h => by
    simp only [chk] at h
    split at h <;> try contradiction
    exact PE.imp pe_non fun σ H Q ⟨w, h, σ', d, h', hr, sr, e, q⟩ => by simp only [ev] at e; cases e; exact q.now hr (.p .non)
  | .str i, X, N, sc, T, k, C, x, c, h => by
    simp only [chk] at h
    split at h <;> try contradiction
    simp only [decide_eq_true_eq] at h
    subst h
    exact PE.imp pe_str fun σ H Q ⟨w, h, σ', d, h', hr, sr, e, q⟩ => by simp only [ev] at e; cases e; exact q.now hr (.p (.str _))
  | .glb y i, X, N, sc, T, k, C, x, c, h => by
    simp only [chk] at h
    split at h <;> try contradiction
    simp only [Bool.and_eq_true, beq_iff_eq, Bool.not_eq_true', List.contains_iff_mem] at h
    obtain ⟨⟨⟨h1, h2⟩, h3⟩, h4⟩ := h
    subst h1
    obtain ⟨t, ht⟩ := c.tb.gl _ _ h3
    exact PE.imp (pe_glob (v := .int i) (c.nm.glo _ h2) ht ⟨t, rfl⟩ h4) fun σ H Q ⟨w, h, σ', d, h', hr, sr, e, q⟩ => by simp only [ev] at e; cases e; exact q.now hr (.p (.int _))
  | .tru _, X, N, sc, T, k, C, x, c, h => by simp [chk] at h
  | .op o a b, X, N, sc, T, k, C, x, c, h => by
    simp only [chk] at h
    split at h <;> try contradiction
    simp only [Bool.and_eq_true] at h
    exact s_op c h.1.1 (snd a c h.1.2) (snd b c h.2)
  | .neg a, X, N, sc, T, k, C, x, c, h => by
    simp only [chk] at h
    split at h <;> try contradiction
    exact s_neg c (snd a c h)
  | .cmp o a b, X, N, sc, T, k, C, x, c, h => by
    simp only [chk] at h
    split at h <;> try contradiction
    simp only [Bool.and_eq_true, Bool.not_eq_true'] at h
    exact s_cmp c h.1.1.1 h.1.1.2 (snd a c h.1.2) (snd b c h.2)
  | .chain o o' a b d, X, N, sc, T, k, C, x, c, h => by
    simp only [chk] at h
    split at h <;> try contradiction
    simp only [Bool.and_eq_true, Bool.not_eq_true'] at h
    obtain ⟨⟨⟨⟨⟨h1, h2⟩, h3⟩, h4⟩, h5⟩, h6⟩ := h
    exact s_chain c h1 h2 h3 (snd a c h4) (snd b c h5) (snd d c h6)
  | .and a b, X, N, sc, T, k, C, x, c, h => by
    simp only [chk] at h
    split at h <;> try contradiction
    · simp only [Bool.and_eq_true] at h
      exact s_and c (snd a c h.1) (pe_one (snd b c h.2))
    · simp only [Bool.and_eq_true] at h
      exact s_and c (snd a c h.1) (snd b c h.2)
  | .or a b, X, N, sc, T, k, C, x, c, h => by
    simp only [chk] at h
    split at h <;> try contradiction
    · simp only [Bool.and_eq_true] at h
      exact s_or c (snd a c h.1) (pe_one (snd b c h.2))
    · simp only [Bool.and_eq_true] at h
      exact s_or c (snd a c h.1) (snd b c h.2)
  | .not a, X, N, sc, T, k, C, x, c, h => by
    simp only [chk] at h
    split at h <;> try contradiction
    exact s_not c (snd a c h)
  | .ite t a b, X, N, sc, T, k, C, x, c, h => by
    simp only [chk] at h
    split at h <;> try contradiction
    simp only [Bool.and_eq_true] at h
    exact s_ite c (sndT t c h.1.1) (snd a c h.1.2) (snd b c h.2)
  | .tup xs, X, N, sc, T, k, C, x, c, h => by
    simp only [chk] at h
    split at h <;> try contradiction
    exact s_tup c (snds xs c h)
  | .lst xs, X, N, sc, T, k, C, x, c, h => by
    simp only [chk] at h
    split at h <;> try contradiction
    exact s_lst c (snds xs c h)
  | .idx a i, X, N, sc, T, k, C, x, c, h => by
    simp only [chk] at h
    split at h <;> try contradiction
    simp only [Bool.and_eq_true] at h
    exact s_idx c h.1.1 (snd a c h.1.2) (snd i c h.2)
  | .slc a lo hi, X, N, sc, T, k, C, x, c, h => by
    simp only [chk] at h
    split at h <;> try contradiction
    simp only [Bool.and_eq_true] at h
    exact s_slc c (snd a c h.1.1) (sndo lo c h.1.2) (sndo hi c h.2)
  | .call f fr xs, X, N, sc, T, k, C, x, c, h => by
    simp only [chk] at h
    split at h <;> try contradiction
    simp only [Bool.and_eq_true, beq_iff_eq, Bool.not_eq_true'] at h
    exact s_call c h.1.1.1 h.1.1.2 h.1.2 (chks_star h.2) (snds xs c h.2)
  | .bi b xs, X, N, sc, T, k, C, x, c, h => by
    simp only [chk] at h
    split at h <;> try contradiction
    simp only [Bool.and_eq_true, Bool.or_eq_true, beq_iff_eq] at h
    obtain ⟨⟨g1, g2⟩, g3⟩ := h
    rcases g1 with g1 | g1
    · exact s_biB c g1 g2 (chks_star g3) (snds xs c g3)
    · exact s_biT c g1 g2 (chks_star g3) (snds xs c g3)
  | .isi ty a, X, N, sc, T, k, C, x, c, h => by
    simp only [chk] at h
    split at h <;> try contradiction
    simp only [Bool.and_eq_true, beq_iff_eq] at h
    obtain ⟨⟨⟨⟨⟨⟨g1, g2⟩, g3⟩, g4⟩, g5⟩, g6⟩, g7⟩ := h
    subst g1; subst g4
    exact s_isT c g2 g3 g5 g6 (snd a c g7)
  | .dget d i, X, N, sc, T, k, C, x, c, h => by
    simp only [chk] at h
    split at h <;> try contradiction
    simp only [Bool.and_eq_true] at h
    exact s_dget c h.1.1 (snd d c h.1.2) (snd i c h.2)
  | .lc own e t it cd, X, N, sc, T, k, C, x, c, h => by
    simp only [chk] at h
    split at h <;> try contradiction
    rename_i elt tg iter ifs scope pos
    simp only [Bool.and_eq_true, List.all_eq_true, List.contains_iff_mem] at h
    obtain ⟨⟨⟨⟨⟨⟨h0, h1⟩, h2⟩, h3⟩, h4⟩, h5⟩, h6⟩ := h
    have bk := blkOk_by h6
    have pe := pe_lc (pos := pos) (g := tG X.K t) (tt := tC' X.K C cd) (te := tE X.K C e) (wi := tI X.K C it) c.nm.calm (by rw [c.nm.eN]; exact c.nm.nd) (sndi it c h3) (s_blk c h6) (fun s H C' cl fp => s_tg (c.blk bk.kind s H C' cl fp).nm h1) (fun s H C' cl fp => sndc cd (c.blk bk.kind s H C' cl fp) h4)
      (fun s H C' cl fp => snd e (c.blk bk.kind s H C' cl fp) h5) (folded_set h0)
    rw [own_map] at pe
    refine PE.imp pe fun σ H Q ⟨w, hv, σ', d, h', hr, sr, e0, q⟩ => ?_
    obtain ⟨xs, pin, h1', ys, e1, eq, e2, e3, rfl⟩ := evc_lc e0
    exact lc_read hr sr e1 eq (evi_pin e1) e2 e3 h2 fun D H2 w2 vs n r hb hm hD hv rp => by
      obtain ⟨w3, g1, g2, g3⟩ := lc_frozen hr n r hm hD hv rp
      exact q _ _ _ g1 g2 g3
termination_by e => sizeOf e
theorem snds : ∀ (es : List E) {X : Cx} {N : List Str} {sc : Scope} {T : Tab} {k : Nat} {C : Ca} {xs : List Expr}, Ct X N sc T k C → chks T N sc es xs = true → PA X xs (tA X.K C es)
  | [], X, N, sc, T, k, C, [], c, h => s_args_nil
  | [], X, N, sc, T, k, C, _ :: _, c, h => by simp [chks] at h
  | _ :: _, X, N, sc, T, k, C, [], c, h => by simp [chks] at h
  | e :: es, X, N, sc, T, k, C, x :: xs, c, h => by
    simp only [chks, Bool.and_eq_true] at h
    exact s_args_cons h.1.1 (snd e c h.1.2) (snds es c h.2)
termination_by e => sizeOf e
theorem sndo : ∀ (o : Option E) {X : Cx} {N : List Str} {sc : Scope} {T : Tab} {k : Nat} {C : Ca} {x : Option Expr}, Ct X N sc T k C → chko T N sc o x = true → PO X x (tO X.K C o)
  | none, X, N, sc, T, k, C, x, c, h => by
    cases x with
    | none => exact s_o (.inl ⟨rfl, rfl⟩)
    | some _ => simp [chko] at h
  | some e, X, N, sc, T, k, C, x, c, h => by
    cases x with
    | none => simp [chko] at h
    | some ex => simp only [chko] at h; exact s_o (.inr ⟨e, ex, rfl, rfl, snd e c h⟩)
termination_by e => sizeOf e
theorem sndc : ∀ (o : Option E) {X : Cx} {N : List Str} {sc : Scope} {T : Tab} {k : Nat} {C : Ca} {x : List Expr}, Ct X N sc T k C → chkc T N sc o x = true → PTs X x (tC' X.K C o)
  | none, X, N, sc, T, k, C, [], c, h => s_ifs (.inl ⟨rfl, rfl⟩)
  | none, X, N, sc, T, k, C, _ :: _, c, h => by simp [chkc] at h
  | some e, X, N, sc, T, k, C, [], c, h => by simp [chkc] at h
  | some e, X, N, sc, T, k, C, [x], c, h => by simp only [chkc] at h; exact s_ifs (.inr ⟨e, x, rfl, rfl, sndT e c h⟩)
  | some e, X, N, sc, T, k, C, _ :: _ :: _, c, h => by simp [chkc] at h
termination_by e => sizeOf e
theorem sndi : ∀ (it : It) {X : Cx} {N : List Str} {sc : Scope} {T : Tab} {k : Nat} {C : Ca} {tg x : Expr}, Ct X N sc T k C → chki T N sc it tg x = true → PI X tg x (tI X.K C it)
  | .seq e, X, N, sc, T, k, C, tg, x, c, h => by simp only [chki] at h; exact s_seq c (snd e c h)
  | .rng e, X, N, sc, T, k, C, tg, x, c, h => by
    simp only [chki] at h
    split at h <;> try contradiction
    simp only [Bool.and_eq_true, beq_iff_eq] at h
    obtain ⟨⟨⟨h1, h2⟩, h3⟩, h4⟩ := h
    subst h1
    exact s_rng c h2 h3 (snd e c h4)
  | .rng2 e f, X, N, sc, T, k, C, tg, x, c, h => by
    simp only [chki] at h
    split at h <;> try contradiction
    simp only [Bool.and_eq_true, beq_iff_eq] at h
    obtain ⟨⟨⟨⟨⟨h1, h2⟩, h3⟩, h4⟩, h5⟩, h6⟩ := h
    subst h1
    exact s_rng2 c h2 h3 h4 (snd e c h5) (snd f c h6)
  | .zip e f, X, N, sc, T, k, C, tg, x, c, h => by
    simp only [chki] at h
    split at h <;> try contradiction
    simp only [Bool.and_eq_true, beq_iff_eq] at h
    obtain ⟨⟨⟨⟨⟨h1, h2⟩, h3⟩, h4⟩, h5⟩, h6⟩ := h
    subst h1
    exact s_zip c h2 h3 h4 (snd e c h5) (snd f c h6)
termination_by e => sizeOf e
theorem sndT : ∀ (e : E) {X : Cx} {N : List Str} {sc : Scope} {T : Tab} {k : Nat} {C : Ca} {x : Expr}, Ct X N sc T k C → chkT T N sc e x = true → PT X x (tB X.K C e)
  | .and a b, X, N, sc, T, k, C, x, c, h => by
    simp only [chkT] at h
    split at h <;> try contradiction
    · simp only [Bool.and_eq_true] at h
      exact PW.pt (w_and (sndT a c h.1) (pw_and1 (sndT b c h.2)))
    · simp only [Bool.and_eq_true] at h
      exact PW.pt (w_and (sndT a c h.1) (sndW b c h.2))
  | .or a b, X, N, sc, T, k, C, x, c, h => by
    simp only [chkT] at h
    split at h <;> try contradiction
    · simp only [Bool.and_eq_true] at h
      exact PW.pt (w_or (sndT a c h.1) (pw_or1 (sndT b c h.2)))
    · simp only [Bool.and_eq_true] at h
      exact PW.pt (w_or (sndT a c h.1) (sndW b c h.2))
  | .not a, X, N, sc, T, k, C, x, c, h => by
    simp only [chkT] at h
    split at h <;> try contradiction
    exact w_not (sndT a c h)
  | .cmp o a b, X, N, sc, T, k, C, x, c, h => by
    simp only [chkT] at h
    split at h <;> try contradiction
    simp only [Bool.and_eq_true, Bool.not_eq_true'] at h
    exact w_cmp c h.1.1.1 h.1.1.2 (snd a c h.1.2) (snd b c h.2)
  | .chain o o' a b d, X, N, sc, T, k, C, x, c, h => by
    simp only [chkT] at h
    split at h <;> try contradiction
    simp only [Bool.and_eq_true, Bool.not_eq_true'] at h
    obtain ⟨⟨⟨⟨⟨h1, h2⟩, h3⟩, h4⟩, h5⟩, h6⟩ := h
    exact w_chain c h1 h2 h3 (snd a c h4) (snd b c h5) (snd d c h6)
  | .tru a, X, N, sc, T, k, C, x, c, h => by
    simp only [chkT, Bool.and_eq_true] at h
    exact PT.imp (pt_truth (snd a c h.2) (plain_of h.1)) fun σ H Q t => tru_read t
  | .var i, X, N, sc, T, k, C, x, c, h => by
    simp only [chkT, Bool.and_eq_true] at h
    obtain ⟨hp, h⟩ := h
    split at h <;> try contradiction
    simp only [Bool.and_eq_true, beq_iff_eq, Bool.not_eq_true'] at h
    exact PT.imp (pt_val (s_var c h.1.1.1 h.1.1.2 h.1.2 h.2) (plain_of hp)) fun σ H Q t => tB_of t
  | .call f fr xs, X, N, sc, T, k, C, x, c, h => by
    simp only [chkT, Bool.and_eq_true] at h
    obtain ⟨hp, h⟩ := h
    split at h <;> try contradiction
    simp only [Bool.and_eq_true, beq_iff_eq, Bool.not_eq_true'] at h
    exact PT.imp (pt_val (s_call c h.1.1.1 h.1.1.2 h.1.2 (chks_star h.2) (snds xs c h.2)) (plain_of hp)) fun σ H Q t => tB_of t
  | .bi b xs, X, N, sc, T, k, C, x, c, h => by
    simp only [chkT, Bool.and_eq_true] at h
    obtain ⟨hp, h⟩ := h
    split at h <;> try contradiction
    simp only [Bool.and_eq_true, Bool.or_eq_true, beq_iff_eq] at h
    obtain ⟨⟨g1, g2⟩, g3⟩ := h
    rcases g1 with g1 | g1
    · exact PT.imp (pt_val (s_biB c g1 g2 (chks_star g3) (snds xs c g3)) (plain_of hp)) fun σ H Q t => tB_of t
    · exact PT.imp (pt_val (s_biT c g1 g2 (chks_star g3) (snds xs c g3)) (plain_of hp)) fun σ H Q t => tB_of t
  | .isi ty a, X, N, sc, T, k, C, x, c, h => by
    simp only [chkT, Bool.and_eq_true] at h
    obtain ⟨hp, h⟩ := h
    split at h <;> try contradiction
    simp only [Bool.and_eq_true, beq_iff_eq] at h
    obtain ⟨⟨⟨⟨⟨⟨g1, g2⟩, g3⟩, g4⟩, g5⟩, g6⟩, g7⟩ := h
    subst g1; subst g4
    exact PT.imp (pt_val (s_isT c g2 g3 g5 g6 (snd a c g7)) (plain_of hp)) fun σ H Q t => tB_of t
  | .int _, X, N, sc, T, k, C, x, c, h => by simp [chkT] at h
  | .bl _, X, N, sc, T, k, C, x, c, h => by simp [chkT] at h
  | .non, X, N, sc, T, k, C, x, c, h => by simp [chkT] at h
  | .str _, X, N, sc, T, k, C, x, c, h => by simp [chkT] at h
  | .glb _ _, X, N, sc, T, k, C, x, c, h => by simp [chkT] at h
  | .op _ _ _, X, N, sc, T, k, C, x, c, h => by simp [chkT] at h
  | .neg _, X, N, sc, T, k, C, x, c, h => by simp [chkT] at h
  | .ite _ _ _, X, N, sc, T, k, C, x, c, h => by simp [chkT] at h
  | .tup _, X, N, sc, T, k, C, x, c, h => by simp [chkT] at h
  | .lst _, X, N, sc, T, k, C, x, c, h => by simp [chkT] at h
  | .idx _ _, X, N, sc, T, k, C, x, c, h => by simp [chkT] at h
  | .slc _ _ _, X, N, sc, T, k, C, x, c, h => by simp [chkT] at h
  | .dget _ _, X, N, sc, T, k, C, x, c, h => by simp [chkT] at h
  | .lc _ _ _ _ _, X, N, sc, T, k, C, x, c, h => by simp [chkT] at h
termination_by e => sizeOf e
theorem sndW : ∀ (e : E) {X : Cx} {N : List Str} {sc : Scope} {T : Tab} {k : Nat} {C : Ca} {bo : BoolOp} {vs : List Expr} {pos : Pos}, Ct X N sc T k C → chkT T N sc e (.BoolOp bo vs pos) = true → PW X (.BoolOp bo vs pos) (tB X.K C e)
  | .and a b, X, N, sc, T, k, C, bo, vs, pos, c, h => by
    simp only [chkT] at h
    split at h <;> try contradiction
    · rename_i e; cases e
      simp only [Bool.and_eq_true] at h
      exact w_and (sndT a c h.1) (pw_and1 (sndT b c h.2))
    · rename_i e; cases e
      simp only [Bool.and_eq_true] at h
      exact w_and (sndT a c h.1) (sndW b c h.2)
  | .or a b, X, N, sc, T, k, C, bo, vs, pos, c, h => by
    simp only [chkT] at h
    split at h <;> try contradiction
    · rename_i e; cases e
      simp only [Bool.and_eq_true] at h
      exact w_or (sndT a c h.1) (pw_or1 (sndT b c h.2))
    · rename_i e; cases e
      simp only [Bool.and_eq_true] at h
      exact w_or (sndT a c h.1) (sndW b c h.2)
  | .not _, X, N, sc, T, k, C, bo, vs, pos, c, h => by simp [chkT] at h
  | .cmp _ _ _, X, N, sc, T, k, C, bo, vs, pos, c, h => by simp [chkT] at h
  | .chain _ _ _ _ _, X, N, sc, T, k, C, bo, vs, pos, c, h => by simp [chkT] at h
  | .tru _, X, N, sc, T, k, C, bo, vs, pos, c, h => by simp [chkT, plainT] at h
  | .var _, X, N, sc, T, k, C, bo, vs, pos, c, h => by simp [chkT, plainT] at h
  | .call _ _ _, X, N, sc, T, k, C, bo, vs, pos, c, h => by simp [chkT, plainT] at h
  | .bi _ _, X, N, sc, T, k, C, bo, vs, pos, c, h => by simp [chkT, plainT] at h
  | .isi _ _, X, N, sc, T, k, C, bo, vs, pos, c, h => by simp [chkT, plainT] at h
  | .int _, X, N, sc, T, k, C, bo, vs, pos, c, h => by simp [chkT] at h
  | .bl _, X, N, sc, T, k, C, bo, vs, pos, c, h => by simp [chkT] at h
  | .non, X, N, sc, T, k, C, bo, vs, pos, c, h => by simp [chkT] at h
  | .str _, X, N, sc, T, k, C, bo, vs, pos, c, h => by simp [chkT] at h
  | .glb _ _, X, N, sc, T, k, C, bo, vs, pos, c, h => by simp [chkT] at h
  | .op _ _ _, X, N, sc, T, k, C, bo, vs, pos, c, h => by simp [chkT] at h
  | .neg _, X, N, sc, T, k, C, bo, vs, pos, c, h => by simp [chkT] at h
  | .ite _ _ _, X, N, sc, T, k, C, bo, vs, pos, c, h => by simp [chkT] at h
  | .tup _, X, N, sc, T, k, C, bo, vs, pos, c, h => by simp [chkT] at h
  | .lst _, X, N, sc, T, k, C, bo, vs, pos, c, h => by simp [chkT] at h
  | .idx _ _, X, N, sc, T, k, C, bo, vs, pos, c, h => by simp [chkT] at h
  | .slc _ _ _, X, N, sc, T, k, C, bo, vs, pos, c, h => by simp [chkT] at h
  | .dget _ _, X, N, sc, T, k, C, bo, vs, pos, c, h => by simp [chkT] at h
  | .lc _ _ _ _ _, X, N, sc, T, k, C, bo, vs, pos, c, h => by simp [chkT] at h
termination_by e => sizeOf e
end
end Ev

namespace Ev
open PySem PySem.Spec PyProof.Rows L2
set_option autoImplicit false
def PoS (K : PySem.W.Frag) (w : Wr) (H : Hp) (o : Out) (D : Ends) : Prop := match o with
  | .nx σ1' h1 => ∀ σ1 H1 w1, Nx w w1 H H1 → HR K w1 h1 H1 → SR K w1 H1 σ1' σ1 → D.nx σ1 H1
  | .rt d h1 => ∀ v H1 w1, Nx w w1 H H1 → HR K w1 h1 H1 → RD K w1 H1 d v → D.rt v H1
  | .bk σ1' h1 => ∀ σ1 H1 w1, Nx w w1 H H1 → HR K w1 h1 H1 → SR K w1 H1 σ1' σ1 → D.bk σ1 H1
  | .ct σ1' h1 => ∀ σ1 H1 w1, Nx w w1 H H1 → HR K w1 h1 H1 → SR K w1 H1 σ1' σ1 → D.ct σ1 H1
theorem PoS.nx {K : PySem.W.Frag} {w w1 : Wr} {H H1 : Hp} {o : Out} {D : Ends} (k : PoS K w H o D) (n : Nx w w1 H H1) : PoS K w1 H1 o D := by
  cases o with
  | nx σ h => exact fun σ1 H2 w2 n2 hr sr => k σ1 H2 w2 (n.trans n2) hr sr
  | rt σ h => exact fun σ1 H2 w2 n2 hr sr => k σ1 H2 w2 (n.trans n2) hr sr
  | bk σ h => exact fun σ1 H2 w2 n2 hr sr => k σ1 H2 w2 (n.trans n2) hr sr
  | ct σ h => exact fun σ1 H2 w2 n2 hr sr => k σ1 H2 w2 (n.trans n2) hr sr
def tS (K : PySem.W.Frag) (C : Ca) (fu : Nat) (s : S) : TS := fun D σ H => ∃ w h σ' o, HR K w h H ∧ SR K w H σ' σ ∧ ex C fu s σ' h = some o ∧ PoS K w H o D
def tSs (K : PySem.W.Frag) (C : Ca) (fu : Nat) (s : List S) : TS := fun D σ H => ∃ w h σ' o, HR K w h H ∧ SR K w H σ' σ ∧ exs C fu s σ' h = some o ∧ PoS K w H o D
/-- what follows, at any heap that bears the list as a cell of its own -/
def PoN (K : PySem.W.Frag) (w : Wr) (H : Hp) (h' : Hv) (xs : List P) (Q : VK) : Prop :=
  ∀ (v : V) (H' : Hp) (w' : Wr), Nx w w' H H' → HR K w' (h' ++ [.lst xs]) H' → RD K w' H' (.ref h'.length) v → Q v H'
def tN (K : PySem.W.Frag) (C : Ca) (e : E) : TE := fun σ H Q => ∃ w h σ' xs h', HR K w h H ∧ SR K w H σ' σ ∧ ev C e σ' h = some (.p (.list xs), h') ∧ PoN K w H h' xs Q
theorem PoN.nx {K : PySem.W.Frag} {w w1 : Wr} {H H1 : Hp} {h' : Hv} {d : List P} {Q : VK} (k : PoN K w H h' d Q) (n : Nx w w1 H H1) : PoN K w1 H1 h' d Q := fun v H' w' n' hr r => k v H' w' (n.trans n') hr r
theorem PoN.new {K : PySem.W.Frag} {w : Wr} {H : Hp} {h : Hv} {xs : List P} {Q : VK} {vs : List V} (k : PoN K w H h xs Q) (hr : HR K w h H) (r : Rps K w.ban H xs vs) {p : Addr} (hp : H p = none) : Q (.ref p) (upd H p (.lst vs)) := by
  obtain ⟨g1, g2⟩ := hr.push (c := .lst xs) (o := .lst vs) hp ⟨vs, upd_same, Rps.upd' (.inl hp) r⟩
  exact k _ _ _ g2 g1 (.ref (by show (w.ms ++ [p])[h.length]? = some p; rw [← hr.len]; simp))
section
variable {X : Cx} {N : List Str} {sc : Scope} {T : Tab} {k : Nat} {C : Ca} {fu : Nat}
theorem n_lst (c : Ct X N sc T k C) {xs : List E} {es : List Expr} {pos : Pos} (ha : PA X es (tA X.K C xs)) : PE X (.List es pos) (tN X.K C (.lst xs)) := by
  refine PE.imp (pe_lst ha) fun σ H Q ⟨w, h, σ', d, h', hr, sr, e, q⟩ => ?_
  simp only [ev] at e
  obtain ⟨⟨ds, h1⟩, e1, e⟩ := Option.bind_eq_some_iff.mp e
  obtain ⟨ps, e2, e⟩ := Option.bind_eq_some_iff.mp e
  obtain ⟨d1, e3, e⟩ := Option.map_eq_some_iff.mp e
  cases e
  unfold mkL at e3
  split at e3 <;> try contradiction
  rename_i hl
  cases e3
  refine ⟨w, h, σ', ds, _, hr, sr, e1, fun vs H1 w1 n hr1 r => ?_⟩
  have rp := mapM_ok e2 r
  have := rp.len
  have hlim := lim_line
  exact ⟨by omega, fun p hp => (q.nx n).new hr1 rp hp⟩
/-- the parts of a comprehension -/
theorem lc_parts (c : Ct X N sc T k C) {own : List Nat} {e : E} {t : Tg} {it : It} {cd : Option E} {x : Expr} (h : chk T N sc (.lc own e t it cd) x = true) :
    ∃ elt tg iter ifs scope pos, x = .ListComp elt [⟨tg, iter, ifs, 0⟩] scope pos ∧ (∀ i ∈ slots t, i ∈ own) ∧ PI X tg iter (tI X.K C it) ∧ BlkOk X.N X.env.scope scope (own.map fun i => (N.getD i "", i)) ∧
      (∀ (s : Shared) (H : Hp) (C' : Addr) (cl : List (Str × Addr)) (fp : List Addr), PG (X.blk s H scope (compEnvC scope cl C' X.env) fp) tg (tG X.K t)) ∧
      (∀ (s : Shared) (H : Hp) (C' : Addr) (cl : List (Str × Addr)) (fp : List Addr), PTs (X.blk s H scope (compEnvC scope cl C' X.env) fp) ifs (tC' X.K C cd)) ∧
      (∀ (s : Shared) (H : Hp) (C' : Addr) (cl : List (Str × Addr)) (fp : List Addr), PE (X.blk s H scope (compEnvC scope cl C' X.env) fp) elt (tE X.K C e)) ∧
      ∀ x, foldedSetIterable iter X.env x = pure x := by
  simp only [chk] at h
  split at h <;> try contradiction
  rename_i elt tg iter ifs scope pos
  simp only [Bool.and_eq_true, List.all_eq_true, List.contains_iff_mem] at h
  obtain ⟨⟨⟨⟨⟨⟨h0, h1⟩, h2⟩, h3⟩, h4⟩, h5⟩, h6⟩ := h
  have bk := blkOk_by h6
  exact ⟨elt, tg, iter, ifs, scope, pos, rfl, h2, sndi it c h3, s_blk c h6, fun s H C' cl fp => s_tg (c.blk bk.kind s H C' cl fp).nm h1, fun s H C' cl fp => sndc cd (c.blk bk.kind s H C' cl fp) h4,
      fun s H C' cl fp => snd e (c.blk bk.kind s H C' cl fp) h5, folded_set h0⟩
theorem lc_readE {K : PySem.W.Frag} {own : List Nat} {e : E} {t : Tg} {it : It} {cd : Option E} {σ : L2.St} {H : Hp} {Q : VK} (hsl : ∀ i ∈ slots t, i ∈ own) (tt : tE K C (.lc own e t it cd) σ H Q) : tLc (tI K C it) (tG K t) (tC' K C cd) (tE K C e) own σ H Q := by
  obtain ⟨w, hv, σ', d, h', hr, sr, e0, q⟩ := tt
  obtain ⟨xs, pin, h1', ys, e1, eq, e2, e3, rfl⟩ := evc_lc e0
  exact lc_read hr sr e1 eq (evi_pin e1) e2 e3 hsl fun D H2 w2 vs n r hb hm hD hv rp => by
    obtain ⟨w3, g1, g2, g3⟩ := lc_frozen hr n r hm hD hv rp
    exact q _ _ _ g1 g2 g3
theorem lc_readN {K : PySem.W.Frag} {own : List Nat} {e : E} {t : Tg} {it : It} {cd : Option E} {σ : L2.St} {H : Hp} {Q : VK} (hsl : ∀ i ∈ slots t, i ∈ own) (tt : tN K C (.lc own e t it cd) σ H Q) : tLc (tI K C it) (tG K t) (tC' K C cd) (tE K C e) own σ H Q := by
  obtain ⟨w, hv, σ', d, h', hr, sr, e0, q⟩ := tt
  obtain ⟨xs, pin, h1', ys, e1, eq, e2, e3, e4⟩ := evc_lc e0
  cases e4
  exact lc_read hr sr e1 eq (evi_pin e1) e2 e3 hsl fun D H2 w2 vs n r hb hm hD hv rp => by
    obtain ⟨w3, g1, g2, g3⟩ := lc_owned n r hb hm hD hv rp
    exact q _ _ _ g1 g2 g3
theorem sndN (c : Ct X N sc T k C) {e : E} {x : Expr} (hf : fresh e = true) (h : chk T N sc e x = true) : PE X x (tN X.K C e) := by
  cases e <;> simp [fresh] at hf
  · simp only [chk] at h
    split at h <;> try contradiction
    exact n_lst c (snds _ c h)
  · obtain ⟨elt, tg, iter, ifs, scope, pos, rfl, h2, p1, p2, p3, p4, p5, p6⟩ := lc_parts c h
    have pe := pe_lc (pos := pos) c.nm.calm (by rw [c.nm.eN]; exact c.nm.nd) p1 p2 p3 p4 p5 p6
    rw [own_map] at pe
    exact PE.imp pe fun σ H Q t => lc_readN h2 t
/-! ### x = e -/
def isComp : Expr → Option (Scope × Nat)
  | .ListComp _ _ s pos => some (s, pos.line)
  | _ => none
/-- the store is exchanged with the comprehension's end -/
def swapB (sc : Scope) (x : Str) (line : Nat) : Expr → Bool
  | .ListComp _ _ s pos => lo1B sc x && (line == pos.line) && !(s.names.any fun (n, k) => n == x && (k == .local || k == .cell))
  | _ => false
def noComp2 : Expr → Bool
  | .SetComp .. => false
  | .DictComp .. => false
  | _ => true
theorem swap_no {ex : Expr} {t : Expr} {l : Nat} {env : Env} (h : notComp ex = true) : swapsWith ex (some t) l env = pure false := by
  cases ex <;> first | rfl | simp [notComp] at h
theorem swap_no0 {ex : Expr} {l : Nat} {env : Env} (h : notComp ex = true) : swapsWith ex none l env = pure false := by
  cases ex <;> first | rfl | simp [notComp] at h
def cellB (sc : Scope) (x : Str) : Bool := match sc.names.lookup x with
  | some .cell => true
  | _ => false
theorem swap_cell {ex : Expr} {x : Str} {p : Pos} {l : Nat} {env : Env} (hk : env.scope.names.lookup x = some .cell) : swapsWith ex (some (.Name x p)) l env = pure false := by
  have hk' : env.kindOf x = some .cell := hk
  have hb : (NameKind.cell == NameKind.local) = false := by decide
  cases ex <;> first | rfl | (unfold swapsWith; simp [hk', hb])
theorem n_setC (c : Ct X N sc T k C) {i : Nat} {x : Str} {p pos : Pos} {e : Expr} {te : TE} (h1 : N[i]? = some x) (h2 : locB sc x = true) (hn : cellB sc x = true) (he : PE X e te) : PS X (.Assign [.Name x p] e pos) (tAsg te (gName i)) :=
  ps_set (by rw [c.nm.eN]; exact c.nm.nd) (by rw [c.nm.eN]; exact h1) (c.nm.loc x h2) he (swap_cell (c.nm.ce1 x (by unfold cellB at hn; split at hn <;> first | assumption | contradiction))) (c.nm.fn x h2)
theorem n_set (c : Ct X N sc T k C) {i : Nat} {x : Str} {p pos : Pos} {e : Expr} {te : TE} (h1 : N[i]? = some x) (h2 : locB sc x = true) (hn : notComp e = true) (he : PE X e te) : PS X (.Assign [.Name x p] e pos) (tAsg te (gName i)) :=
  ps_set (by rw [c.nm.eN]; exact c.nm.nd) (by rw [c.nm.eN]; exact h1) (c.nm.loc x h2) he (swap_no hn) (c.nm.fn x h2)
theorem lo1_loc {sc : Scope} {x : Str} (h : lo1B sc x = true) : locB sc x = true := by
  unfold lo1B at h; unfold locB
  split at h <;> try contradiction
  rename_i q; rw [q]
theorem n_setLc (c : Ct X N sc T k C) {i : Nat} {x : Str} {p pos : Pos} {own : List Nat} {e : E} {t : Tg} {it : It} {cd : Option E} {ex : Expr} {te : TE} (h1 : N[i]? = some x) (h2 : swapB sc x p.line ex = true) (h : chk T N sc (.lc own e t it cd) ex = true)
    (rd : (∀ i ∈ slots t, i ∈ own) → ∀ σ H Q, te σ H Q → tLc (tI X.K C it) (tG X.K t) (tC' X.K C cd) (tE X.K C e) own σ H Q) : PS X (.Assign [.Name x p] ex pos) (tAsg te (gName i)) := by
  obtain ⟨elt, tg, iter, ifs, scope, cpos, rfl, hs, p1, p2, p3, p4, p5, p6⟩ := lc_parts c h
  simp only [swapB, Bool.and_eq_true, Bool.not_eq_true'] at h2
  have hl := c.nm.lo1 x h2.1.1
  have ps := ps_setLc (i := i) (y := x) (py := p) (pos := cpos) (spos := pos) c.nm.calm (by rw [c.nm.eN]; exact c.nm.nd) (by rw [c.nm.eN]; exact h1) hl (sw_true c.nm.kd hl h2.1.2 h2.2) p1 p2 p3 p4 p5 p6
  rw [own_map] at ps
  exact PS.imp ps fun D σ H q => rd hs σ H _ q
/-- x = e, whatever e is -/
def chkSet (T : Tab) (N : List Str) (sc : Scope) (i : Nat) (e : E) (st : Stmt) : Bool := match st with
  | .Assign [.Name x p] ex _ => (N[i]? == some x) && locB sc x && chk T N sc e ex && (notComp ex || cellB sc x || (swapB sc x p.line ex && isLc e))
  | _ => false
where isLc : E → Bool
  | .lc .. => true
  | _ => false
theorem s_set (c : Ct X N sc T k C) {i : Nat} {e : E} {st : Stmt} (h : chkSet T N sc i e st = true) : PS X st (tAsg (tE X.K C e) (gName i)) := by
  unfold chkSet at h
  split at h <;> try contradiction
  simp only [Bool.and_eq_true, Bool.or_eq_true, beq_iff_eq] at h
  obtain ⟨⟨⟨h1, h2⟩, h3⟩, h4⟩ := h
  rcases h4 with (h4 | h4) | ⟨h4, h5⟩
  · exact n_set c h1 h2 h4 (snd e c h3)
  · exact n_setC c h1 h2 h4 (snd e c h3)
  · cases e <;> simp [chkSet.isLc] at h5
    exact n_setLc c h1 h4 h3 fun hs σ H Q t => lc_readE hs t
theorem s_setN (c : Ct X N sc T k C) {i : Nat} {e : E} {st : Stmt} (hf : fresh e = true) (h : chkSet T N sc i e st = true) : PS X st (tAsg (tN X.K C e) (gName i)) := by
  unfold chkSet at h
  split at h <;> try contradiction
  simp only [Bool.and_eq_true, Bool.or_eq_true, beq_iff_eq] at h
  obtain ⟨⟨⟨h1, h2⟩, h3⟩, h4⟩ := h
  rcases h4 with (h4 | h4) | ⟨h4, h5⟩
  · exact n_set c h1 h2 h4 (sndN c hf h3)
  · exact n_setC c h1 h2 h4 (sndN c hf h3)
  · cases e <;> simp [chkSet.isLc] at h5
    exact n_setLc c h1 h4 h3 fun hs σ H Q t => lc_readN hs t
/-! ### o[i] = e, methods -/
def notTup : Expr → Bool
  | .Tuple .. => false
  | _ => true
theorem sub_assign {o i : Expr} {pos : Pos} {env : Env} (h : notSlice i = true) : ∀ v, assign (.Subscript o i pos) env v = (do
      let ov ← holding [v] (eval o env)
      let iv ← holding [v, ov] (eval i env)
      standAt pos
      holding [v, ov, iv] (setItem ov iv v)
      release [v, ov, iv] []) := by
  intro v
  cases i <;> first | rfl | simp [notSlice] at h
theorem swap_sub {ex : Expr} {o i : Expr} {p : Pos} {l : Nat} {env : Env} (h : notComp ex = true) : swapsWithSole [.Subscript o i p] ex l env = pure false := by
  show swapsWith ex (some (.Subscript o i p)) l env = pure false
  exact swap_no h
theorem stores_sub {ex : Expr} {o i : Expr} {p : Pos} {env : Env} : swappedStores [.Subscript o i p] ex env = pure none := rfl
theorem stores_tup {ex : Expr} {es : List Expr} {kk : Nat} {p : Pos} {env : Env} (h : notTup ex = true) : swappedStores [.Tuple es kk p] ex env = pure none := by
  cases ex <;> first | rfl | simp [notTup] at h
theorem set_both (hu : X.A.units + 1 < cLine) : PSet X (fun o i v H Q => rSetL o i v H Q ∨ ∃ a H', o = .ref a ∧ DPut H a i v H' ∧ Q H') := by
  intro pins s σ H o i v ov iv u Q I ro ri rv h
  rcases h with h | ⟨a, H', e, g, q⟩
  · exact set_list pins s σ H o i v ov iv u Q I ro ri rv h
  · subst e
    cases ro
    exact d_setItem hu I g ri rv fun s' I' => ⟨H', I', q⟩
theorem setK_ok {K : PySem.W.Frag} {ban : List Addr} {H : Hp} {kvs : List (List Int × P)} {kvs' : List (List Key × V)} {v : P} {v' : V} (rv : Rp K ban H v v') (key : List Int) (r : Paired (fun (q : List Int × P) (q' : List Key × V) => q'.1 = q.1.map Sum.inl ∧ Rp K ban H q.2 q'.2) kvs kvs') :
    Paired (fun (q : List Int × P) (q' : List Key × V) => q'.1 = q.1.map Sum.inl ∧ Rp K ban H q.2 q'.2) (setK kvs key v) (putK kvs' (key.map Sum.inl) v') := by
  have inj : ∀ (q : List Int × P) (q' : List Key × V), q'.1 = q.1.map Sum.inl → (q'.1 = key.map Sum.inl ↔ q.1 = key) := fun q q' h => by
    rw [h]
    exact ⟨fun e => (List.map_inj_right (f := (Sum.inl : Int → Key)) (fun _ _ z => Sum.inl.inj z)).mp e, fun e => by rw [e]⟩
  have hany : (kvs.any fun q => decide (q.1 = key)) = (kvs'.any fun q => decide (q.1 = key.map Sum.inl)) := by
    induction r with
    | nil => rfl
    | cons h t ih =>
      rw [List.any_cons, List.any_cons, ih]
      congr 1
      rw [decide_eq_decide]
      exact (inj _ _ h.1).symm
  have hmap : Paired (fun (q : List Int × P) (q' : List Key × V) => q'.1 = q.1.map Sum.inl ∧ Rp K ban H q.2 q'.2) (kvs.map fun q => if q.1 = key then (q.1, v) else q) (kvs'.map fun kv => if kv.1 = key.map Sum.inl then (kv.1, v') else kv) := by
    clear hany
    induction r with
    | nil => exact .nil
    | @cons q q' l l' h t ih =>
      rw [List.map_cons, List.map_cons]
      refine .cons ?_ ih
      by_cases e : q.1 = key
      · simp only [if_pos e, if_pos ((inj q q' h.1).mpr e)]; exact ⟨h.1, rv⟩
      · simp only [if_neg e, if_neg (fun z => e ((inj q q' h.1).mp z))]; exact h
  unfold setK putK
  rw [hany]
  split
  · exact hmap
  · exact Paired.snoc r ⟨rfl, rv⟩

theorem s_put (c : Ct X N sc T k C) {o i e : E} {ox ix ex : Expr} {p pos : Pos} (hs : notSlice ix = true) (hn : notComp ex = true) (ho : PE X ox (tE X.K C o)) (hi : PE X ix (tE X.K C i)) (he : PE X ex (tE X.K C e)) : PS X (.Assign [.Subscript ox ix p] ex pos) (tS X.K C fu (.put o i e)) := by
  refine PS.imp (ps_asg he (pg_sub ho hi (set_both (hu_of c.rm)) (sub_assign hs)) (swap_sub hn) stores_sub rfl) fun D σ H ⟨w, h, σ', out, hr, sr, e0, q⟩ => ?_
  simp only [Ev.ex] at e0
  obtain ⟨⟨v, h1⟩, e1, e0⟩ := Option.bind_eq_some_iff.mp e0
  obtain ⟨vp, e2, e0⟩ := Option.bind_eq_some_iff.mp e0
  obtain ⟨⟨x, h2⟩, e3, e0⟩ := Option.bind_eq_some_iff.mp e0
  obtain ⟨⟨y, h3⟩, e4, e0⟩ := Option.bind_eq_some_iff.mp e0
  dsimp only at e0
  refine tE1 hr sr e1 fun vv H1 w1 n1 hr1 sr1 r1 => tE2 hr1 sr1 e3 e4 fun vx vy H3 w3 n3 hr3 sr3 r3 r4 => ?_
  have rv := (wp_ok r1 e2).nx n3
  have q3 := (q.nx n1).nx n3
  split at e0
  · rename_i n xs el
    obtain ⟨kk, e5, e0⟩ := Option.bind_eq_some_iff.mp e0
    obtain ⟨j, e6, e0⟩ := Option.map_eq_some_iff.mp e0
    subst e0
    obtain ⟨a, _, rfl, hm, hh, vs, g1, g2⟩ := lst_ok hr3 r3 el
    rw [iOf_ok r4 e5]
    refine .inl ⟨a, vs, kk, j, rfl, rfl, g1, by rw [← g2.len]; exact e6, ?_⟩
    have hb := hr3.sub a (List.mem_of_getElem? hm)
    obtain ⟨f1, f2⟩ := hr3.write (c := .lst (xs.set j vp)) (o := .lst (vs.set j vv)) hm ⟨_, upd_same, (g2.set rv j).updBan hb⟩
    exact q3 _ _ _ f2 f1 (sr3.nx f2)
  · obtain ⟨⟨n, kvs⟩, el, e0⟩ := Option.bind_eq_some_iff.mp e0
    obtain ⟨key, e5, e0⟩ := Option.bind_eq_some_iff.mp e0
    dsimp only at e0
    split at e0 <;> try contradiction
    rename_i hl
    cases e0
    obtain ⟨a, _, rfl, hm, hh, kvs', g1, g2⟩ := dct_ok hr3 r3 el
    obtain ⟨b, rfl, hb0⟩ := key_ok r4 e5
    have hb := hr3.sub a (List.mem_of_getElem? hm)
    have hlim := lim_line
    have hlen : kvs.length = kvs'.length := Paired.length g2
    refine .inr ⟨a, _, rfl, DPut.t g1 hb0 (by omega), ?_⟩
    obtain ⟨f1, f2⟩ := hr3.write (c := .dct (setK kvs key vp)) (o := .dT (putK kvs' (key.map Sum.inl) vv)) hm ⟨_, upd_same, paired_mono (setK_ok rv key g2) fun q q' z => ⟨z.1, z.2.updBan hb⟩⟩
    exact q3 _ _ _ f2 f1 (sr3.nx f2)
/-- which objects a method may be asked of -/
def plainO : Expr → Bool
  | .Name .. => true
  | .Subscript .. => true
  | _ => false
theorem base_of {o : Expr} {m : Str} {env : Env} (h : plainO o = true) : attributeBase o m env (eval o env) = eval o env := by
  cases o <;> first | rfl | simp [plainO] at h
theorem few_of {e : Expr} {env : Env} {p : Pos} (h : notStar e = true) : ((backTo p (starEach [e] env)).all (fun x => !x.1) && (backToKw p (keywordEach [] env)).all (fun x => x.1.isSome)
      && decide (([e]).length + ([] : List Keyword).length + (if ([] : List Keyword).isEmpty then 0 else 1) < 30)) = true := by
  rw [star_of h]; rfl
theorem one_arg {K : PySem.W.Frag} {e : E} {σ : L2.St} {H : Hp} {w : Wr} {h h1 : Hv} {σ' : Sv} {d : D} {Q : List V → Hp → Prop} (hr : HR K w h H) (sr : SR K w H σ' σ) (e1 : ev C e σ' h = some (d, h1))
    (q : ∀ v H' w', Nx w w' H H' → HR K w' h1 H' → SR K w' H' σ' σ → RD K w' H' d v → Q [v] H') : tA K C [e] σ H Q :=
  ⟨w, h, σ', [d], h1, hr, sr, by simp [evs, e1], fun vs H' w' n hr' r => by obtain ⟨v, rfl, rv⟩ := r.one; exact q v H' w' n hr' (sr.nx n) rv⟩
theorem s_app (c : Ct X N sc T k C) {o e : E} {ox ex : Expr} {ap cp pos : Pos} (hp : plainO ox = true) (hs : notStar ex = true) (hl : (ap.endLine == cp.line) = true) (ho : PE X ox (tE X.K C o)) (he : PA X [ex] (tA X.K C [e])) :
    PS X (.Expr (.Call (.Attribute ox "append" ap) [ex] [] cp) pos) (tS X.K C fu (.app o e)) := by
  refine PS.imp (ps_expr (pe_bm PySem.F.plainAttrs_list PySem.F.slot_list_append PySem.F.type_list_append mt_append ho he (base_of hp) (few_of hs) hl (star_of hs) rfl) (swap_no0 rfl)) fun D σ H ⟨w, h, σ', out, hr, sr, e0, q⟩ => ?_
  simp only [Ev.ex] at e0
  obtain ⟨⟨x, h1⟩, e1, e0⟩ := Option.bind_eq_some_iff.mp e0
  obtain ⟨⟨n0, xs0⟩, e2, e0⟩ := Option.bind_eq_some_iff.mp e0
  obtain ⟨⟨v, h2⟩, e3, e0⟩ := Option.bind_eq_some_iff.mp e0
  obtain ⟨vp, e4, e0⟩ := Option.bind_eq_some_iff.mp e0
  obtain ⟨⟨n, xs⟩, e5, e0⟩ := Option.bind_eq_some_iff.mp e0
  dsimp only at e0
  split at e0 <;> try contradiction
  rename_i hlt
  cases e0
  refine tE1 hr sr e1 fun vx H1 w1 n1 hr1 sr1 r1 => ?_
  obtain ⟨a, _, rfl, hm, _, vs, g1, _⟩ := lst_ok hr1 r1 e2
  refine ⟨.inl ⟨rfl, _, SqL.of g1⟩, one_arg hr1 sr1 e3 fun vv H2 w2 n2 hr2 sr2 r2 => ?_⟩
  obtain ⟨a', ed, ea, hm', _, vs', g1', g2'⟩ := lst_ok hr2 (r1.nx n2) e5
  cases ea
  have hb := hr2.sub a (List.mem_of_getElem? hm')
  have hlim := lim_line
  have hlen := g2'.len
  refine ⟨a, vs', vv, rfl, rfl, g1', by omega, ?_⟩
  obtain ⟨f1, f2⟩ := hr2.write (c := .lst (xs ++ [vp])) (o := .lst (vs' ++ [vv])) hm' ⟨_, upd_same, (g2'.append (.cons (wp_ok r2 e4) .nil)).updBan hb⟩
  exact q _ _ _ ((n1.trans n2).trans f2) f1 (sr2.nx f2)
theorem s_ext (c : Ct X N sc T k C) {o e : E} {ox ex : Expr} {ap cp pos : Pos} (hp : plainO ox = true) (hs : notStar ex = true) (hl : (ap.endLine == cp.line) = true) (ho : PE X ox (tE X.K C o)) (he : PA X [ex] (tA X.K C [e])) :
    PS X (.Expr (.Call (.Attribute ox "extend" ap) [ex] [] cp) pos) (tS X.K C fu (.ext o e)) := by
  refine PS.imp (ps_expr (pe_bm PySem.F.plainAttrs_list PySem.F.slot_list_extend PySem.F.type_list_extend mt_extend ho he (base_of hp) (few_of hs) hl (star_of hs) rfl) (swap_no0 rfl)) fun D σ H ⟨w, h, σ', out, hr, sr, e0, q⟩ => ?_
  simp only [Ev.ex] at e0
  obtain ⟨⟨x, h1⟩, e1, e0⟩ := Option.bind_eq_some_iff.mp e0
  obtain ⟨⟨n0, xs0⟩, e2, e0⟩ := Option.bind_eq_some_iff.mp e0
  obtain ⟨⟨v, h2⟩, e3, e0⟩ := Option.bind_eq_some_iff.mp e0
  obtain ⟨⟨n, xs⟩, e5, e0⟩ := Option.bind_eq_some_iff.mp e0
  dsimp only at e0
  split at e0 <;> try contradiction
  split at e0 <;> try contradiction
  rename_i ys hlt
  cases e0
  refine tE1 hr sr e1 fun vx H1 w1 n1 hr1 sr1 r1 => ?_
  obtain ⟨a, _, rfl, hm, _, vs, g1, _⟩ := lst_ok hr1 r1 e2
  refine ⟨.inl ⟨rfl, _, SqL.of g1⟩, one_arg hr1 sr1 e3 fun vv H2 w2 n2 hr2 sr2 r2 => ?_⟩
  obtain ⟨a', ed, ea, hm', _, vs', g1', g2'⟩ := lst_ok hr2 (r1.nx n2) e5
  cases ea
  cases r2 with
  | p r2 =>
    cases r2 with
    | @lst b us _ k1 k2 k3 =>
      have hb := hr2.sub a (List.mem_of_getElem? hm')
      have hlim := lim_line
      have hlen := g2'.len
      have hlen2 := k3.len
      refine ⟨a, b, vs', us, rfl, rfl, g1', k1, by omega, ?_⟩
      obtain ⟨f1, f2⟩ := hr2.write (c := .lst (xs ++ _)) (o := .lst (vs' ++ us)) hm' ⟨_, upd_same, (g2'.append k3).updBan hb⟩
      exact q _ _ _ ((n1.trans n2).trans f2) f1 (sr2.nx f2)
end
end Ev

namespace Ev
open PySem PySem.Spec PyProof.Rows L2
set_option autoImplicit false
section
variable {X : Cx} {N : List Str} {sc : Scope} {T : Tab} {k : Nat} {C : Ca} {fu : Nat}
theorem ip_fdiv : PIp X .FloorDiv (fun x y H Q => ∃ i j, x = .int i ∧ y = .int j ∧ (0 < j ∧ j < 2 ^ 256) ∧ Q (.int (i / j)) H) := by
  intro pins s σ H x y v u Q I r1 r2 ⟨i, j, e1, e2, hc, q⟩
  subst e1; subst e2
  obtain ⟨t, rfl⟩ := r1
  obtain ⟨t', rfl⟩ := r2
  exact ifloordiv_int (Int.ne_of_gt hc.1) (by rw [Int.fdiv_eq_ediv_of_nonneg i (Int.le_of_lt hc.1)]; exact ⟨.int _, H, I.tok _, ⟨_, rfl⟩, q⟩) (.inl (PyProof.noPylong_of_log2 (log2_256 hc.1 hc.2)))
def augIs : Op → Operator → Bool
  | .add, .Add => true
  | .sub, .Sub => true
  | .fdiv, .FloorDiv => true
  | _, _ => false
theorem s_aug (c : Ct X N sc T k C) {i : Nat} {o : Op} {op : Operator} {e : E} {x : Str} {ex : Expr} {p pos : Pos} (h1 : N[i]? = some x) (h2 : locB sc x = true) (ho : augIs o op = true) (he : PE X ex (tE X.K C e)) : PS X (.AugAssign (.Name x p) op ex pos) (tS X.K C fu (.aug i o e)) := by
  have hN : X.N.Nodup := by rw [c.nm.eN]; exact c.nm.nd
  have hi : X.N[i]? = some x := by rw [c.nm.eN]; exact h1
  have key : ∀ {D : Ends} {σ : L2.St} {H : Hp} {ti : TIp} {w : Wr} {h : Hv} {σ' : Sv} {x0 : Int} {y : Ev.D} {h1 : Hv} {y0 z : Int}, HR X.K w h H → SR X.K w H σ' σ → σ'[i]? = some (some (.p (.int x0))) → ev C e σ' h = some (y, h1) → iOf y = some y0 →
      PoS X.K w H (.nx (σ'.set i (some (.p (.int z)))) h1) D → (∀ H Q, Q (V.int z) H → ti (.int x0) (.int y0) H Q) → tAug i (tE X.K C e) ti D σ H := fun {D σ H ti w h σ' x0 y h1 y0 z} hr sr ex0 e1 e2 q ht => by
    obtain ⟨v, v1, v2⟩ := sr.at' i _ ex0
    have := v2.int'
    subst this
    refine ⟨_, v1, tE1 hr sr e1 fun vy H1 w1 n1 hr1 sr1 r1 => ?_⟩
    rw [iOf_ok r1 e2]
    exact ht _ _ (q _ _ _ n1 hr1 (sr1.set i (.p (.int _))))
  cases o <;> cases op <;> simp [augIs] at ho
  · refine PS.imp (ps_aug hN hi (c.nm.loc x h2) he ip_add (c.nm.fn x h2)) fun D σ H ⟨w, h, σ', out, hr, sr, e0, q⟩ => ?_
    simp only [Ev.ex] at e0
    split at e0 <;> try contradiction
    rename_i ex0
    obtain ⟨⟨y, h1⟩, e1, e0⟩ := Option.bind_eq_some_iff.mp e0
    obtain ⟨y0, e2, e0⟩ := Option.bind_eq_some_iff.mp e0
    cases e0
    exact key hr sr ex0 e1 e2 q fun H Q q => ⟨_, _, rfl, rfl, q⟩
  · refine PS.imp (ps_aug hN hi (c.nm.loc x h2) he ip_sub (c.nm.fn x h2)) fun D σ H ⟨w, h, σ', out, hr, sr, e0, q⟩ => ?_
    simp only [Ev.ex] at e0
    split at e0 <;> try contradiction
    rename_i ex0
    obtain ⟨⟨y, h1⟩, e1, e0⟩ := Option.bind_eq_some_iff.mp e0
    obtain ⟨y0, e2, e0⟩ := Option.bind_eq_some_iff.mp e0
    cases e0
    exact key hr sr ex0 e1 e2 q fun H Q q => ⟨_, _, rfl, rfl, q⟩
  · refine PS.imp (ps_aug hN hi (c.nm.loc x h2) he ip_fdiv (c.nm.fn x h2)) fun D σ H ⟨w, h, σ', out, hr, sr, e0, q⟩ => ?_
    simp only [Ev.ex] at e0
    split at e0 <;> try contradiction
    rename_i ex0
    obtain ⟨⟨y, h1⟩, e1, e0⟩ := Option.bind_eq_some_iff.mp e0
    obtain ⟨y0, e2, e0⟩ := Option.bind_eq_some_iff.mp e0
    dsimp only at e0
    split at e0 <;> try contradiction
    rename_i hc
    cases e0
    exact key hr sr ex0 e1 e2 q fun H Q q => ⟨_, _, rfl, rfl, hc, q⟩
theorem swap_tup {ex : Expr} {es : List Expr} {kk : Nat} {p : Pos} {l : Nat} {env : Env} (h : notComp ex = true) : swapsWithSole [.Tuple es kk p] ex l env = pure false := by
  show swapsWith ex (some (.Tuple es kk p)) l env = pure false
  exact swap_no h
theorem s_unp (c : Ct X N sc T k C) {is : List Nat} {e : E} {tg ex : Expr} {pos : Pos} (ht : (match tg with | .Tuple .. => true | _ => false) = true) (hg : chkTg N sc (.tup is) tg = true) (hn : notComp ex = true) (hnt : notTup ex = true) (he : PE X ex (tE X.K C e)) : PS X (.Assign [tg] ex pos) (tS X.K C fu (.unp is e)) := by
  cases tg <;> simp at ht
  refine PS.imp (ps_asg he (s_tg c.nm hg) (swap_tup hn) (stores_tup hnt) rfl) fun D σ H ⟨w, h, σ', out, hr, sr, e0, q⟩ => ?_
  simp only [Ev.ex] at e0
  obtain ⟨⟨d, h1⟩, e1, e0⟩ := Option.bind_eq_some_iff.mp e0
  obtain ⟨dp, e2, e0⟩ := Option.bind_eq_some_iff.mp e0
  obtain ⟨σ1', e3, e0⟩ := Option.map_eq_some_iff.mp e0
  subst e0
  exact tE1 hr sr e1 fun v H1 w1 n1 hr1 sr1 r1 => ⟨w1, σ', dp, σ1', sr1, wp_ok r1 e2, e3, fun σ1 s1 _ => q _ _ _ n1 hr1 s1⟩
theorem s_dnew (c : Ct X N sc T k C) {i : Nat} {x : Str} {p p2 pos : Pos} (h1 : N[i]? = some x) (h2 : locB sc x = true) : PS X (.Assign [.Name x p] (.Dict [] [] p2) pos) (tS X.K C fu (.dnew i)) := by
  refine PS.imp (n_set c h1 h2 rfl pe_dnewT) fun D σ H ⟨w, h, σ', out, hr, sr, e0, q⟩ => ?_
  simp only [Ev.ex] at e0
  cases e0
  intro a ha
  obtain ⟨f1, f2⟩ := hr.push (c := .dct []) (o := .dT []) ha ⟨[], upd_same, .nil⟩
  exact q _ _ _ f2 f1 ((sr.nx f2).set i (.ref (by show (w.ms ++ [a])[h.length]? = some a; rw [← hr.len]; simp)))
theorem s_exp (c : Ct X N sc T k C) {e : E} {ex : Expr} {pos : Pos} (hn : notComp ex = true) (he : PE X ex (tE X.K C e)) : PS X (.Expr ex pos) (tS X.K C fu (.exp e)) := by
  refine PS.imp (ps_expr he (swap_no0 hn)) fun D σ H ⟨w, h, σ', out, hr, sr, e0, q⟩ => ?_
  simp only [Ev.ex] at e0
  obtain ⟨⟨d, h1⟩, e1, e0⟩ := Option.map_eq_some_iff.mp e0
  subst e0
  exact tE1 hr sr e1 fun v H1 w1 n1 hr1 sr1 r1 => q _ _ _ n1 hr1 sr1
theorem s_ret (c : Ct X N sc T k C) {e : E} {ex : Expr} {pos : Pos} (he : PE X ex (tE X.K C e)) : PS X (.Return (some ex) pos) (tS X.K C fu (.ret e)) := by
  refine PS.imp (ps_ret he) fun D σ H ⟨w, h, σ', out, hr, sr, e0, q⟩ => ?_
  simp only [Ev.ex] at e0
  obtain ⟨⟨d, h1⟩, e1, e0⟩ := Option.map_eq_some_iff.mp e0
  subst e0
  exact tE1 hr sr e1 fun v H1 w1 n1 hr1 sr1 r1 => q _ _ _ n1 hr1 r1
theorem own1_ok {d : D} {h h1 : Hv} {d' : D} (e : own1 (d, h) = some (d', h1)) : ∃ xs, d = .p (.list xs) ∧ d' = .ref h.length ∧ h1 = h ++ [.lst xs] := by
  unfold own1 at e
  split at e <;> try contradiction
  rename_i xs h2 e2
  cases e2
  cases e
  exact ⟨_, rfl, rfl, rfl⟩
theorem s_retN (c : Ct X N sc T k C) {e : E} {ex : Expr} {pos : Pos} (he : PE X ex (tN X.K C e)) : PS X (.Return (some ex) pos) (tS X.K C fu (.retN e)) := by
  refine PS.imp (ps_ret he) fun D σ H ⟨w, h, σ', out, hr, sr, e0, q⟩ => ?_
  simp only [Ev.ex] at e0
  split at e0 <;> try contradiction
  obtain ⟨⟨d, h1⟩, e1, e0⟩ := Option.bind_eq_some_iff.mp e0
  obtain ⟨⟨d2, h2⟩, e2, e0⟩ := Option.map_eq_some_iff.mp e0
  subst e0
  obtain ⟨xs, rfl, rfl, rfl⟩ := own1_ok e2
  exact ⟨w, h, σ', xs, h1, hr, sr, e1, fun v H1 w1 n1 hr1 r1 => q _ _ _ n1 hr1 r1⟩
theorem s_setS (c : Ct X N sc T k C) {i : Nat} {e : E} {st : Stmt} (h : chkSet T N sc i e st = true) : PS X st (tS X.K C fu (.set i e)) := by
  refine PS.imp (s_set c h) fun D σ H ⟨w, h, σ', out, hr, sr, e0, q⟩ => ?_
  simp only [Ev.ex] at e0
  obtain ⟨⟨d, h1⟩, e1, e0⟩ := Option.map_eq_some_iff.mp e0
  subst e0
  exact tE1 hr sr e1 fun v H1 w1 n1 hr1 sr1 r1 => q _ _ _ n1 hr1 (sr1.set i r1)
theorem s_setNS (c : Ct X N sc T k C) {i : Nat} {e : E} {st : Stmt} (hf : fresh e = true) (h : chkSet T N sc i e st = true) : PS X st (tS X.K C fu (.setN i e)) := by
  refine PS.imp (s_setN c hf h) fun D σ H ⟨w, h, σ', out, hr, sr, e0, q⟩ => ?_
  simp only [Ev.ex] at e0
  split at e0 <;> try contradiction
  obtain ⟨⟨d, h1⟩, e1, e0⟩ := Option.bind_eq_some_iff.mp e0
  obtain ⟨⟨d2, h2⟩, e2, e0⟩ := Option.map_eq_some_iff.mp e0
  subst e0
  obtain ⟨xs, rfl, rfl, rfl⟩ := own1_ok e2
  exact ⟨w, h, σ', xs, h1, hr, sr, e1, fun v H1 w1 n1 hr1 r1 => q _ _ _ n1 hr1 ((sr.nx n1).set i r1)⟩
theorem s_if (c : Ct X N sc T k C) {t : E} {a b : List S} {tx : Expr} {ax bx : List Stmt} {pos : Pos} (ht : PT X tx (tB X.K C t)) (ha : PSs X ax (tSs X.K C fu a)) (hb : PSs X bx (tSs X.K C fu b)) : PS X (.If tx ax bx pos) (tS X.K C fu (.ite t a b)) := by
  refine PS.imp (ps_if ht ha hb) fun D σ H ⟨w, h, σ', out, hr, sr, e0, q⟩ => ?_
  simp only [Ev.ex] at e0
  obtain ⟨⟨b, h1⟩, e1, e0⟩ := Option.bind_eq_some_iff.mp e0
  refine ⟨w, h, σ', b, h1, hr, sr, e1, fun H1 w1 n1 hr1 => ?_⟩
  cases b with
  | true => simp only [if_true] at e0 ⊢; exact ⟨w1, h1, σ', out, hr1, sr.nx n1, e0, q.nx n1⟩
  | false => simp only [Bool.false_eq_true, if_false] at e0 ⊢; exact ⟨w1, h1, σ', out, hr1, sr.nx n1, e0, q.nx n1⟩
theorem po_of (c : Ct X N sc T k C) : PassesOwn (model X.prog X.w) X.A X.env X.xe := by
  rw [c.nm.po]; exact PassesOwn.never
theorem s_whl (c : Ct X N sc T k C) {t : E} {b : List S} {tx : Expr} {bx : List Stmt} {pos : Pos} (ht : PT X tx (tB X.K C t)) (hb : PSs X bx (tSs X.K C fu b)) : PS X (.While tx bx [] pos) (tS X.K C fu (.whl t b)) := by
  refine PS.imp (ps_while (po_of c) ht hb) fun D σ H ⟨w, h, σ', out, hr, sr, e0, q⟩ => ?_
  simp only [Ev.ex] at e0
  refine ⟨fun m σ1 H1 => ∃ w1 h1 σ1', Nx w w1 H H1 ∧ HR X.K w1 h1 H1 ∧ SR X.K w1 H1 σ1' σ1 ∧ whGo (evB C t) (exs C fu b) m σ1' h1 = some out, ⟨fu, w, h, σ', Nx.refl hr, hr, sr, e0⟩, ?_⟩
  rintro m σ1 H1 ⟨w1, h1, σ1', n1, hr1, sr1, e1⟩
  cases m with
  | zero => simp [whGo] at e1
  | succ m =>
    simp only [whGo] at e1
    obtain ⟨⟨bv, h2⟩, e2, e1⟩ := Option.bind_eq_some_iff.mp e1
    refine ⟨w1, h1, σ1', bv, h2, hr1, sr1, e2, fun H2 w2 n2 hr2 => ?_⟩
    have sr2 := sr1.nx n2
    have q2 := (q.nx n1).nx n2
    cases bv with
    | false =>
      simp only [Bool.false_eq_true, if_false] at e1 ⊢
      cases e1
      exact q2 _ _ _ (Nx.refl hr2) hr2 sr2
    | true =>
      simp only [if_true] at e1 ⊢
      obtain ⟨o2, e3, e1⟩ := Option.bind_eq_some_iff.mp e1
      refine ⟨_, fun σ3 H3 z => ⟨m, Nat.lt_succ_self m, z⟩, w2, h2, σ1', o2, hr2, sr2, e3, ?_⟩
      have n12 := n1.trans n2
      cases o2 with
      | nx σ3' h3 => exact fun σ3 H3 w3 n3 hr3 sr3 => ⟨w3, h3, σ3', n12.trans n3, hr3, sr3, e1⟩
      | ct σ3' h3 => exact fun σ3 H3 w3 n3 hr3 sr3 => ⟨w3, h3, σ3', n12.trans n3, hr3, sr3, e1⟩
      | bk σ3' h3 => cases e1; exact fun σ3 H3 w3 n3 hr3 sr3 => q2 _ _ _ n3 hr3 sr3
      | rt d h3 => cases e1; exact fun v H3 w3 n3 hr3 r3 => q2 _ _ _ n3 hr3 r3
theorem s_for (c : Ct X N sc T k C) {t : Tg} {it : It} {b : List S} {tg ix : Expr} {bx : List Stmt} {pos : Pos} (hs : notSet ix = true) (hi : PI X tg ix (tI X.K C it)) (hg : PG X tg (tG X.K t)) (hb : PSs X bx (tSs X.K C fu b)) : PS X (.For tg ix bx [] pos) (tS X.K C fu (.frr t it b)) := by
  refine PS.imp (ps_for (po_of c) c.nm.calm hi hg hb (folded_set hs)) fun D σ H ⟨w, h, σ', out, hr, sr, e0, q⟩ => ?_
  simp only [Ev.ex] at e0
  obtain ⟨⟨xs, pin, h1⟩, e1, e0⟩ := Option.bind_eq_some_iff.mp e0
  dsimp only at e0
  split at e0 <;> try contradiction
  rename_i hpin
  subst hpin
  refine ⟨w, h, σ', xs, none, h1, hr, sr, e1, fun J H1 w1 n1 hr1 wk => ?_⟩
  generalize hF : (fun x σ h => (tgD t x σ).bind fun σ1 => exs C fu b σ1 h) = F at e0
  refine ⟨fun i m σ2 H2 => ∃ w2 h2 σ2', m = xs.length - i ∧ i ≤ xs.length ∧ Nx w1 w2 H1 H2 ∧ HR X.K w2 h2 H2 ∧ SR X.K w2 H2 σ2' σ2 ∧ frGo F (xs.drop i) σ2' h2 = some out, ⟨_, w1, h1, σ', rfl, Nat.zero_le _, Nx.refl hr1, hr1, sr.nx n1, e0⟩, ?_⟩
  rintro i m σ2 H2 ⟨w2, h2, σ2', rfl, hil, n2, hr2, sr2, e2⟩
  have wk2 := wk w2 H2 h2 n2 hr2 (fun _ z => by cases z) i
  have q2 := (q.nx n1).nx n2
  by_cases hlt : i < xs.length
  · refine .inr ?_
    have hx : xs[i]? = some xs[i] := by simp [hlt]
    obtain ⟨go, yld⟩ := wk2.1 _ hx
    have ed : xs.drop i = xs[i] :: xs.drop (i + 1) := List.drop_eq_getElem_cons hlt
    rw [ed] at e2
    simp only [frGo] at e2
    obtain ⟨o2, e3, e2⟩ := Option.bind_eq_some_iff.mp e2
    rw [← hF] at e3
    obtain ⟨σ3', e4, e3⟩ := Option.bind_eq_some_iff.mp e3
    refine ⟨go, _, fun σ3 H3 z => ⟨xs.length - (i + 1), by omega, z⟩, fun v H3 hy => ?_⟩
    obtain ⟨n3, hr3, rv⟩ := yld v H3 hy
    refine ⟨w2, σ2', _, σ3', sr2.nx n3, rv, e4, fun σ3 s3 _ => ⟨w2, h2, σ3', o2, hr3, s3, e3, ?_⟩⟩
    have n23 := n2.trans n3
    have q3 := q2.nx n3
    cases o2 with
    | nx σ5' h5 => exact fun σ5 H5 w5 n5 hr5 sr5 => ⟨w5, h5, σ5', rfl, hlt, n23.trans n5, hr5, sr5, e2⟩
    | ct σ5' h5 => exact fun σ5 H5 w5 n5 hr5 sr5 => ⟨w5, h5, σ5', rfl, hlt, n23.trans n5, hr5, sr5, e2⟩
    | bk σ5' h5 => cases e2; exact fun σ5 H5 w5 n5 hr5 sr5 => q3 _ _ _ n5 hr5 sr5
    | rt d h5 => cases e2; exact fun v H5 w5 n5 hr5 r5 => q3 _ _ _ n5 hr5 r5
  · refine .inl ⟨wk2.2 (by omega), ?_⟩
    have : xs.drop i = [] := List.drop_eq_nil_of_le (by omega)
    rw [this] at e2
    simp only [frGo] at e2
    cases e2
    exact q2 _ _ _ (Nx.refl hr2) hr2 sr2
theorem few_of2 {e f : Expr} {env : Env} {p : Pos} (h : notStar e = true) (h2 : notStar f = true) : ((backTo p (starEach [e, f] env)).all (fun x => !x.1) && (backToKw p (keywordEach [] env)).all (fun x => x.1.isSome)
      && decide (([e, f]).length + ([] : List Keyword).length + (if ([] : List Keyword).isEmpty then 0 else 1) < 30)) = true := by
  rw [star_of h, star_of h2]; rfl
theorem drop_ok {K : PySem.W.Frag} {ban : List Addr} {H : Hp} {kvs : List (List Int × P)} {kvs' : List (List Key × V)} (key : List Int) (r : Paired (fun (q : List Int × P) (q' : List Key × V) => q'.1 = q.1.map Sum.inl ∧ Rp K ban H q.2 q'.2) kvs kvs') :
    Paired (fun (q : List Int × P) (q' : List Key × V) => q'.1 = q.1.map Sum.inl ∧ Rp K ban H q.2 q'.2) (kvs.filter fun q => decide (q.1 ≠ key)) (dropK kvs' (key.map Sum.inl)) := by
  induction r with
  | nil => exact .nil
  | @cons q q' l l' h t ih =>
    have inj : q'.1 = key.map Sum.inl ↔ q.1 = key := by
      rw [h.1]
      exact ⟨fun e => (List.map_inj_right (f := (Sum.inl : Int → Key)) (fun _ _ z => Sum.inl.inj z)).mp e, fun e => by rw [e]⟩
    by_cases e : q.1 = key
    · rw [List.filter_cons, if_neg (by simp [e]), dropK_pos (inj.mpr e)]
      exact ih
    · rw [List.filter_cons, if_pos (by simp [e]), dropK_neg fun z => e (inj.mp z)]
      exact .cons h ih
theorem two_args {K : PySem.W.Frag} {e f : E} {σ : L2.St} {H : Hp} {w : Wr} {h h1 h2 : Hv} {σ' : Sv} {d d2 : D} {Q : List V → Hp → Prop} (hr : HR K w h H) (sr : SR K w H σ' σ) (e1 : ev C e σ' h = some (d, h1)) (e2 : ev C f σ' h1 = some (d2, h2))
    (q : ∀ v u H' w', Nx w w' H H' → HR K w' h2 H' → SR K w' H' σ' σ → RD K w' H' d v → RD K w' H' d2 u → Q [v, u] H') : tA K C [e, f] σ H Q :=
  ⟨w, h, σ', [d, d2], h2, hr, sr, by simp [evs, e1, e2], fun vs H' w' n hr' r => by obtain ⟨v, u, rfl, rv, ru⟩ := r.two; exact q v u H' w' n hr' (sr.nx n) rv ru⟩
theorem s_dpop (c : Ct X N sc T k C) {o e f : E} {ox ex fx : Expr} {ap cp pos : Pos} (hp : plainO ox = true) (hs : notStar ex = true) (hs2 : notStar fx = true) (hl : (ap.endLine == cp.line) = true) (ho : PE X ox (tE X.K C o)) (he : PA X [ex, fx] (tA X.K C [e, f])) :
    PS X (.Expr (.Call (.Attribute ox "pop" ap) [ex, fx] [] cp) pos) (tS X.K C fu (.dpop o e f)) := by
  refine PS.imp (ps_expr (pe_bm PySem.F.plainAttrs_dict PySem.F.slot_dict_pop PySem.F.type_dict_pop (mt_popT (hu_of c.rm)) ho he (base_of hp) (few_of2 hs hs2) hl (star_of hs) (stars_of (by simp [hs2]))) (swap_no0 rfl)) fun D σ H ⟨w, h, σ', out, hr, sr, e0, q⟩ => ?_
  simp only [Ev.ex] at e0
  obtain ⟨⟨x, h1⟩, e1, e0⟩ := Option.bind_eq_some_iff.mp e0
  obtain ⟨⟨n0, kvs0⟩, e2, e0⟩ := Option.bind_eq_some_iff.mp e0
  obtain ⟨⟨y, h2⟩, e3, e0⟩ := Option.bind_eq_some_iff.mp e0
  obtain ⟨⟨z, h3⟩, e4, e0⟩ := Option.bind_eq_some_iff.mp e0
  obtain ⟨⟨n, kvs⟩, e5, e0⟩ := Option.bind_eq_some_iff.mp e0
  obtain ⟨key, e6, e0⟩ := Option.bind_eq_some_iff.mp e0
  obtain ⟨zp, e7, e0⟩ := Option.map_eq_some_iff.mp e0
  subst e0
  refine tE1 hr sr e1 fun vx H1 w1 n1 hr1 sr1 r1 => ?_
  obtain ⟨a, _, rfl, hm, _, kvs1, g1, _⟩ := dct_ok hr1 r1 e2
  refine ⟨.inr (.inr (.inl ⟨rfl, .inr ⟨_, g1⟩⟩)), two_args hr1 sr1 e3 e4 fun vy vz H2 w2 n2 hr2 sr2 r2 r3 => ?_⟩
  obtain ⟨a', ed, ea, hm', hcell, kvs', g1', g2'⟩ := dct_ok hr2 (r1.nx n2) e5
  cases ea
  obtain ⟨b, rfl, hb0⟩ := key_ok r2 e6
  have hb := hr2.sub a (List.mem_of_getElem? hm')
  refine ⟨a, b, vz, kvs', _, rfl, rfl, g1', hb0, fun v hv => ?_, fun hv => ?_⟩
  · obtain ⟨f1, f2⟩ := hr2.write (c := .dct (kvs.filter fun q => decide (q.1 ≠ key))) (o := .dT (dropK kvs' (key.map Sum.inl))) hm' ⟨_, upd_same, paired_mono (drop_ok key g2') fun q q' z => ⟨z.1, z.2.updBan hb⟩⟩
    exact q _ _ _ ((n1.trans n2).trans f2) f1 (sr2.nx f2)
  · have hd := drop_ok key g2'
    have hnone : dropK kvs' (key.map Sum.inl) = kvs' := dropK_no (valV_not hv)
    have hsame : (kvs.filter fun q => decide (q.1 ≠ key)) = kvs := by
      rw [List.filter_eq_self]
      intro qq hq
      refine decide_eq_true fun z => ?_
      obtain ⟨i, hi⟩ := List.mem_iff_getElem?.mp hq
      obtain ⟨q2, f1, f2⟩ := paired_get' g2' hi
      exact valV_not hv (List.mem_map.mpr ⟨q2, List.mem_of_getElem? f1, by rw [f2.1, z]⟩)
    rw [hsame] at q
    have hset : h3.set n (.dct kvs) = h3 := by
      refine List.ext_getElem? fun i => ?_
      by_cases e : n = i
      · subst e
        rw [List.getElem?_set_self (List.getElem?_eq_some_iff.mp hcell).1, hcell]
      · rw [List.getElem?_set_ne e]
    dsimp only at q
    rw [hset] at q
    exact q _ _ _ (n1.trans n2) hr2 sr2
theorem s_nil : PSs X [] (tSs X.K C fu []) := by
  refine PSs.imp pss_nil fun D σ H ⟨w, h, σ', out, hr, sr, e0, q⟩ => ?_
  simp only [exs] at e0
  cases e0
  exact q _ _ _ (Nx.refl hr) hr sr
theorem s_cons {s : S} {ss : List S} {st : Stmt} {sts : List Stmt} (h1 : PS X st (tS X.K C fu s)) (h2 : PSs X sts (tSs X.K C fu ss)) : PSs X (st :: sts) (tSs X.K C fu (s :: ss)) := by
  refine PSs.imp (pss_cons h1 h2) fun D σ H ⟨w, h, σ', out, hr, sr, e0, q⟩ => ?_
  simp only [exs] at e0
  obtain ⟨o1, e1, e0⟩ := Option.bind_eq_some_iff.mp e0
  refine ⟨w, h, σ', o1, hr, sr, e1, ?_⟩
  cases o1 with
  | nx σ1' h1 => exact fun σ1 H1 w1 n1 hr1 sr1 => ⟨w1, h1, σ1', out, hr1, sr1, e0, q.nx n1⟩
  | rt d h1 => cases e0; exact q
  | bk d h1 => cases e0; exact q
  | ct d h1 => cases e0; exact q
end
def notDoc : Stmt → Bool := fun _ => true
mutual
def chkS (T : Tab) (N : List Str) (sc : Scope) : S → Stmt → Bool
  | .set i e, st => chkSet T N sc i e st
  | .setN i e, st => fresh e && chkSet T N sc i e st
  | .dnew i, st => match st with
    | .Assign [.Name x _] (.Dict [] [] _) _ => (N[i]? == some x) && locB sc x
    | _ => false
  | .unp is e, st => match st with
    | .Assign [.Tuple es a b] ex _ => chkTg N sc (.tup is) (.Tuple es a b) && notComp ex && notTup ex && chk T N sc e ex
    | _ => false
  | .par _ _ _ _, _ => false
  | .put o i e, st => match st with
    | .Assign [.Subscript ox ix _] ex _ => notSlice ix && notComp ex && chk T N sc o ox && chk T N sc i ix && chk T N sc e ex
    | _ => false
  | .aug i o e, st => match st with
    | .AugAssign (.Name x _) op ex _ => (N[i]? == some x) && locB sc x && augIs o op && chk T N sc e ex
    | _ => false
  | .app o e, st => match st with
    | .Expr (.Call (.Attribute ox m ap) [ex] [] cp) _ => (m == ("append" : Str)) && plainO ox && notStar ex && (ap.endLine == cp.line) && chk T N sc o ox && chk T N sc e ex
    | _ => false
  | .ext o e, st => match st with
    | .Expr (.Call (.Attribute ox m ap) [ex] [] cp) _ => (m == ("extend" : Str)) && plainO ox && notStar ex && (ap.endLine == cp.line) && chk T N sc o ox && chk T N sc e ex
    | _ => false
  | .dpop o e f, st => match st with
    | .Expr (.Call (.Attribute ox m ap) [ex, fx] [] cp) _ => (m == ("pop" : Str)) && plainO ox && notStar ex && notStar fx && (ap.endLine == cp.line) && chk T N sc o ox && chk T N sc e ex && chk T N sc f fx
    | _ => false
  | .ret e, st => match st with
    | .Return (some ex) _ => chk T N sc e ex
    | _ => false
  | .retN e, st => match st with
    | .Return (some ex) _ => fresh e && chk T N sc e ex
    | _ => false
  | .ret0, st => match st with
    | .Return none _ => true
    | _ => false
  | .ite t a b, st => match st with
    | .If tx ax bx _ => chkT T N sc t tx && chkSs T N sc a ax && chkSs T N sc b bx
    | _ => false
  | .whl t b, st => match st with
    | .While tx bx [] _ => chkT T N sc t tx && chkSs T N sc b bx
    | _ => false
  | .frr t it b, st => match st with
    | .For tg ix bx [] _ => notSet ix && chki T N sc it tg ix && chkTg N sc t tg && chkSs T N sc b bx
    | _ => false
  | .brk, st => match st with
    | .Break _ => true
    | _ => false
  | .cnt, st => match st with
    | .Continue _ => true
    | _ => false
  | .pass, st => match st with
    | .Pass _ => true
    | _ => false
  | .exp e, st => match st with
    | .Expr ex _ => notComp ex && chk T N sc e ex
    | _ => false
  | .bad, _ => true
def chkSs (T : Tab) (N : List Str) (sc : Scope) : List S → List Stmt → Bool
  | [], [] => true
  | s :: ss, st :: sts => chkS T N sc s st && chkSs T N sc ss sts
  | _, _ => false
end
set_option maxHeartbeats 4000000
mutual
theorem sndS : ∀ (s : S) {X : Cx} {N : List Str} {sc : Scope} {T : Tab} {k : Nat} {C : Ca} {fu : Nat} {st : Stmt}, Ct X N sc T k C → chkS T N sc s st = true → PS X st (tS X.K C fu s)
  | .set i e, X, N, sc, T, k, C, fu, st, c, h => by simp only [chkS] at h; exact s_setS c h
  | .setN i e, X, N, sc, T, k, C, fu, st, c, h => by simp only [chkS, Bool.and_eq_true] at h; exact s_setNS c h.1 h.2
  | .dnew i, X, N, sc, T, k, C, fu, st, c, h => by
    simp only [chkS] at h
    split at h <;> try contradiction
    simp only [Bool.and_eq_true, beq_iff_eq] at h
    exact s_dnew c h.1 h.2
  | .unp is e, X, N, sc, T, k, C, fu, st, c, h => by
    simp only [chkS] at h
    split at h <;> try contradiction
    simp only [Bool.and_eq_true] at h
    exact s_unp c rfl h.1.1.1 h.1.1.2 h.1.2 (snd e c h.2)
  | .par _ _ _ _, X, N, sc, T, k, C, fu, st, c, h => by simp [chkS] at h
  | .put o i e, X, N, sc, T, k, C, fu, st, c, h => by
    simp only [chkS] at h
    split at h <;> try contradiction
    simp only [Bool.and_eq_true] at h
    exact s_put c h.1.1.1.1 h.1.1.1.2 (snd o c h.1.1.2) (snd i c h.1.2) (snd e c h.2)
  | .aug i o e, X, N, sc, T, k, C, fu, st, c, h => by
    simp only [chkS] at h
    split at h <;> try contradiction
    simp only [Bool.and_eq_true, beq_iff_eq] at h
    exact s_aug c h.1.1.1 h.1.1.2 h.1.2 (snd e c h.2)
  | .app o e, X, N, sc, T, k, C, fu, st, c, h => by
    simp only [chkS] at h
    split at h <;> try contradiction
    simp only [Bool.and_eq_true, beq_iff_eq] at h
    obtain ⟨⟨⟨⟨⟨h1, h2⟩, h3⟩, h4⟩, h5⟩, h6⟩ := h
    subst h1
    exact s_app c h2 h3 (by rw [h4]; exact beq_self_eq_true _) (snd o c h5) (s_args_cons h3 (snd e c h6) s_args_nil)
  | .ext o e, X, N, sc, T, k, C, fu, st, c, h => by
    simp only [chkS] at h
    split at h <;> try contradiction
    simp only [Bool.and_eq_true, beq_iff_eq] at h
    obtain ⟨⟨⟨⟨⟨h1, h2⟩, h3⟩, h4⟩, h5⟩, h6⟩ := h
    subst h1
    exact s_ext c h2 h3 (by rw [h4]; exact beq_self_eq_true _) (snd o c h5) (s_args_cons h3 (snd e c h6) s_args_nil)
  | .dpop o e f, X, N, sc, T, k, C, fu, st, c, h => by
    simp only [chkS] at h
    split at h <;> try contradiction
    simp only [Bool.and_eq_true, beq_iff_eq] at h
    obtain ⟨⟨⟨⟨⟨⟨⟨h1, h2⟩, h3⟩, h3'⟩, h4⟩, h5⟩, h6⟩, h7⟩ := h
    subst h1
    exact s_dpop c h2 h3 h3' (by rw [h4]; exact beq_self_eq_true _) (snd o c h5) (s_args_cons h3 (snd e c h6) (s_args_cons h3' (snd f c h7) s_args_nil))
  | .ret e, X, N, sc, T, k, C, fu, st, c, h => by
    simp only [chkS] at h
    split at h <;> try contradiction
    exact s_ret c (snd e c h)
  | .retN e, X, N, sc, T, k, C, fu, st, c, h => by
    simp only [chkS] at h
    split at h <;> try contradiction
    simp only [Bool.and_eq_true] at h
    exact s_retN c (sndN c h.1 h.2)
  | .ret0, X, N, sc, T, k, C, fu, st, c, h => by
    simp only [chkS] at h
    split at h <;> try contradiction
    exact PS.imp ps_retN fun D σ H ⟨w, h, σ', out, hr, sr, e0, q⟩ => by simp only [Ev.ex] at e0; cases e0; exact q _ _ _ (Nx.refl hr) hr (.p .non)
  | .ite t a b, X, N, sc, T, k, C, fu, st, c, h => by
    simp only [chkS] at h
    split at h <;> try contradiction
    simp only [Bool.and_eq_true] at h
    exact s_if c (sndT t c h.1.1) (sndSs a c h.1.2) (sndSs b c h.2)
  | .whl t b, X, N, sc, T, k, C, fu, st, c, h => by
    simp only [chkS] at h
    split at h <;> try contradiction
    simp only [Bool.and_eq_true] at h
    exact s_whl c (sndT t c h.1) (sndSs b c h.2)
  | .frr t it b, X, N, sc, T, k, C, fu, st, c, h => by
    simp only [chkS] at h
    split at h <;> try contradiction
    simp only [Bool.and_eq_true] at h
    exact s_for c h.1.1.1 (sndi it c h.1.1.2) (s_tg c.nm h.1.2) (sndSs b c h.2)
  | .brk, X, N, sc, T, k, C, fu, st, c, h => by
    simp only [chkS] at h
    split at h <;> try contradiction
    exact PS.imp ps_break fun D σ H ⟨w, h, σ', out, hr, sr, e0, q⟩ => by simp only [Ev.ex] at e0; cases e0; exact q _ _ _ (Nx.refl hr) hr sr
  | .cnt, X, N, sc, T, k, C, fu, st, c, h => by
    simp only [chkS] at h
    split at h <;> try contradiction
    exact PS.imp ps_continue fun D σ H ⟨w, h, σ', out, hr, sr, e0, q⟩ => by simp only [Ev.ex] at e0; cases e0; exact q _ _ _ (Nx.refl hr) hr sr
  | .pass, X, N, sc, T, k, C, fu, st, c, h => by
    simp only [chkS] at h
    split at h <;> try contradiction
    exact PS.imp ps_pass fun D σ H ⟨w, h, σ', out, hr, sr, e0, q⟩ => by simp only [Ev.ex] at e0; cases e0; exact q _ _ _ (Nx.refl hr) hr sr
  | .exp e, X, N, sc, T, k, C, fu, st, c, h => by
    simp only [chkS] at h
    split at h <;> try contradiction
    simp only [Bool.and_eq_true] at h
    exact s_exp c h.1 (snd e c h.2)
  | .bad, X, N, sc, T, k, C, fu, st, c, h => PS.imp ps_never fun D σ H ⟨w, h, σ', out, hr, sr, e0, q⟩ => by simp [Ev.ex] at e0
termination_by s => sizeOf s
theorem sndSs : ∀ (s : List S) {X : Cx} {N : List Str} {sc : Scope} {T : Tab} {k : Nat} {C : Ca} {fu : Nat} {st : List Stmt}, Ct X N sc T k C → chkSs T N sc s st = true → PSs X st (tSs X.K C fu s)
  | [], X, N, sc, T, k, C, fu, [], c, h => s_nil
  | [], X, N, sc, T, k, C, fu, _ :: _, c, h => by simp [chkSs] at h
  | _ :: _, X, N, sc, T, k, C, fu, [], c, h => by simp [chkSs] at h
  | s :: ss, X, N, sc, T, k, C, fu, st :: sts, c, h => by
    simp only [chkSs, Bool.and_eq_true] at h
    exact s_cons (sndS s c h.1) (sndSs ss c h.2)
termination_by s => sizeOf s
end
end Ev

namespace Ev
open PySem PySem.Spec PyProof.Rows L2
set_option autoImplicit false
section
variable {K : PySem.W.Frag} {w w1 : Wr} {H H1 : Hp} {h h1 : Hv}
theorem trunc (hr : HR K w h H) (nx : Nx w w1 H H1) (hr1 : HR K w1 h1 H1) : Nx w w H H1 ∧ HR K w (h1.take h.length) H1 := by
  obtain ⟨t, et⟩ := nx.pre
  have cut : ∀ i : Nat, i < h.length → w.ms[i]? = w1.ms[i]? := fun i hi => by rw [← et, List.getElem?_append_left (by rw [hr.len]; exact hi)]
  refine ⟨⟨List.prefix_refl _, hr.sub, fun _ h => h, nx.keep, fun _ h => .inl h, fun _ h => .inl h⟩, ⟨?_, hr.nd, hr.sub, fun a ha => hr1.liv a (nx.bsub a ha), fun i c hc => ?_⟩⟩
  · rw [List.length_take, hr.len]
    have := hr1.len
    rw [← et, List.length_append, hr.len] at this
    omega
  · have hi : i < h.length := by
      have := (List.getElem?_eq_some_iff.mp hc).1
      rw [List.length_take] at this
      omega
    rw [List.getElem?_take_of_lt hi] at hc
    obtain ⟨a, e1, e2⟩ := hr1.cel i c hc
    exact ⟨a, (cut i hi).trans e1, e2.imp (fun _ q => q) (fun d v q => Rp.weak nx.bsub q) (fun d v q => Rps.weak nx.bsub q)⟩
theorem cutms (hr : HR K w h H) (nx : Nx w w1 H H1) : ∀ i : Nat, i < h.length → w.ms[i]? = w1.ms[i]? := fun i hi => by
  obtain ⟨t, et⟩ := nx.pre
  rw [← et, List.getElem?_append_left (by rw [hr.len]; exact hi)]
theorem trunc1 (hr : HR K w h H) (nx : Nx w w1 H H1) (hr1 : HR K w1 h1 H1) {n : Nat} {a : Addr} {c : Cell} (hn : h.length ≤ n) (ha : w1.ms[n]? = some a) (hc : h1[n]? = some c) :
    ∃ w2, Nx w w2 H H1 ∧ HR K w2 (h1.take h.length ++ [c]) H1 ∧ RD K w2 H1 (.ref h.length) (.ref a) := by
  obtain ⟨_, hr0⟩ := trunc hr nx hr1
  have ham : a ∈ w1.ms := List.mem_of_getElem? ha
  have hnm : a ∉ w.ms := fun q => by
    obtain ⟨i, hi⟩ := List.mem_iff_getElem?.mp q
    have hil : i < h.length := by rw [← hr.len]; exact (List.getElem?_eq_some_iff.mp hi).1
    rw [cutms hr nx i hil] at hi
    have := nd_ix hr1.nd hi ha
    omega
  have hb : ∀ b ∈ a :: w.ban, b ∈ w1.ban := fun b hb => (List.mem_cons.mp hb).elim (fun e => by rw [e]; exact hr1.sub a ham) fun q => nx.bsub b q
  have hHa : H a = none := (nx.newm a ham).resolve_left hnm
  refine ⟨⟨w.ms ++ [a], a :: w.ban⟩, ⟨List.prefix_append _ _, hr.sub, fun b q => List.mem_cons_of_mem _ q, nx.keep, fun b q => ?_, fun b q => ?_⟩, ⟨?_, nd_snoc hr.nd hnm, fun b q => ?_, fun b q => hr1.liv b (hb b q), fun i c' e => ?_⟩, .ref ?_⟩
  · rcases List.mem_cons.mp q with q | q
    · rw [q]; exact .inr hHa
    · exact .inl q
  · rcases List.mem_append.mp q with q | q
    · exact .inl q
    · rw [List.mem_singleton.mp q]; exact .inr hHa
  · rw [List.length_append, List.length_append, hr0.len]; rfl
  · rcases List.mem_append.mp q with q | q
    · exact List.mem_cons_of_mem _ (hr.sub b q)
    · rw [List.mem_singleton.mp q]; exact List.mem_cons_self
  · have hl0 : (h1.take h.length).length = h.length := by rw [← hr0.len, hr.len]
    by_cases hl : i < h.length
    · rw [List.getElem?_append_left (by rw [hl0]; exact hl), List.getElem?_take_of_lt hl] at e
      obtain ⟨b, e1, e2⟩ := hr1.cel i c' e
      exact ⟨b, by show (w.ms ++ [a])[i]? = some b; rw [List.getElem?_append_left (by rw [hr.len]; exact hl), cutms hr nx i hl]; exact e1, e2.imp (fun _ q => q) (fun d v q => Rp.weak hb q) (fun d v q => Rps.weak hb q)⟩
    · have hi : i = h.length := by
        have := (List.getElem?_eq_some_iff.mp e).1
        rw [List.length_append, hl0] at this
        simp at this; omega
      subst hi
      rw [List.getElem?_append_right (by rw [hl0]; exact Nat.le_refl _), hl0, Nat.sub_self] at e
      simp at e
      subst e
      exact ⟨a, by show (w.ms ++ [a])[h.length]? = some a; rw [← hr.len]; simp, (hr1.addr hc ha).imp (fun _ q => q) (fun d v q => Rp.weak hb q) (fun d v q => Rps.weak hb q)⟩
  · show (w.ms ++ [a])[h.length]? = some a
    rw [← hr.len]; simp
end
theorem sr_start {K : PySem.W.Frag} {w : Wr} {H : Hp} {N : List Str} {ds : List D} {vs : List V} {nn np : Nat} (r : RDs K w H ds vs) (hn : N.length = nn) (hp : ds.length = np) : SR K w H (ds.map some ++ List.replicate (nn - np) none) (L2.start N vs) := by
  have hl := r.len
  refine ⟨by unfold L2.start; simp [hn]; omega, fun i d e => ?_⟩
  unfold L2.start
  by_cases hi : i < ds.length
  · rw [List.getElem?_append_left (by simpa using hi), List.getElem?_map] at e
    obtain ⟨d', e1, e2⟩ := Option.map_eq_some_iff.mp e
    cases e2
    have : ∀ {ds : List D} {vs : List V} {i : Nat}, RDs K w H ds vs → ds[i]? = some d → ∃ v, vs[i]? = some v ∧ RD K w H d v := by
      intro ds vs i r
      induction r generalizing i with
      | nil => intro e; simp at e
      | cons a b ih =>
        intro e
        cases i with
        | zero => simp at e; subst e; exact ⟨_, rfl, a⟩
        | succ i => simpa using ih (i := i) (by simpa using e)
    obtain ⟨v, v1, v2⟩ := this r e1
    exact ⟨v, by rw [List.getElem?_append_left (by simpa [← hl] using hi), List.getElem?_map, v1]; rfl, v2⟩
  · rw [List.getElem?_append_right (by simpa using hi), List.getElem?_replicate] at e
    split at e <;> cases e
/-- one def of the text, as the small language has it -/
structure Fx (K : PySem.W.Frag) (mg : Str → Option Value) (T : Tab) (fd' : Fd) (x : Str) (n : Nat) : Prop where
  ok : ∃ f fd st N ps qual, fd'.np = n ∧ ps.length = n ∧ N.length = fd'.nn ∧ mg x = some (.ref f) ∧ PySem.W.keepIn K (.ref f) = true ∧ Binds K fd ps [] ∧ Fun K x qual st f fd ∧ FnScope N ps (defScope st) ∧ chkSs T N (defScope st) fd'.body (defBody st) = true
theorem nm_fn {P : Program} {w : World} {K : PySem.W.Frag} {mg : Str → Option Value} {base : Heap} {N ps : List Str} {qual : Str} {sc : Scope} {f : Addr} {cdv : Value} {A : Around} {outer : List Env} {s : Shared} {H : Hp} {E : XK} (S : FnScope N ps sc) :
    Nm (cxOf CX0 P w K mg base N qual sc f cdv A outer s H E).nox N sc := by
  refine ⟨rfl, S.nd, S.kind, fun x h => ?_, fun x h => ?_, fun x h => .inl rfl, fun x h => ?_, fun x h => ?_, fun x h => h, fun x h => h, rfl, rfl⟩
  · unfold visB at h
    split at h <;> try contradiction
    · rename_i q; exact .inl q
    · rename_i q; exact .inr (.inl q)
    · rename_i q; exact .inr (.inr q)
  · unfold locB at h
    split at h <;> try contradiction
    · rename_i q; exact .inl q
    · rename_i q; exact .inr q
  · unfold lo1B at h
    split at h <;> try contradiction
    rename_i q; exact q
  · unfold gloB at h
    split at h <;> try contradiction
    rename_i q; exact q
section
variable {P : Program} {w : World} {K : PySem.W.Frag} {mg : Str → Option Value} {base : Heap} {T : Tab} {F : List Fd} {fu : Nat}
theorem fn_ok {d j : Nat} {x qual : Str} {n : Nat} {fd' : Fd} {f : Addr} {fd : FuncData} {st : Stmt} {N ps : List Str} (tb : Tb P w K mg base T d (run F fu d)) (hF : F[j]? = some fd') (h7 : Fun K x qual st f fd) (h1 : fd'.np = n) (h2 : ps.length = n) (h3 : N.length = fd'.nn)
    (h8 : FnScope N ps (defScope st)) (h9 : chkSs T N (defScope st) fd'.body (defBody st) = true) : FnOk P w K mg base CX0 (d + 1) f fd ps (spE K (run F fu (d + 1)) j n) := by
  refine h7.ok h8 (fun vs H Q E h => by rw [h2]; exact h.1) fun cdv A outer s H vs Q E hr hsp => ?_
  obtain ⟨hl, wr, h, ds, d0, h', hR, rds, e, po⟩ := hsp
  have ct : Ct (cxOf CX0 P w K mg base N qual (defScope st) f cdv A outer s H E).nox N (defScope st) T d (run F fu d) := ⟨nm_fn h8, tb, hr⟩
  refine ⟨_, sndSs fd'.body (fu := fu) ct h9, ?_⟩
  simp only [run, hF] at e
  split at e <;> try contradiction
  rename_i hp
  obtain ⟨out, e1, e2⟩ := Option.bind_eq_some_iff.mp e
  refine ⟨wr, h, _, out, hR, sr_start rds h3 hp, e1, ?_⟩
  cases out with
  | nx σ1 h1' =>
    simp only [finish] at e2
    cases e2
    intro σ2 H2 w2 n2 hr2 _
    obtain ⟨g1, g2⟩ := trunc hR n2 hr2
    exact po _ _ _ g1 g2 (.p .non)
  | bk σ1 h1' => simp [finish] at e2
  | ct σ1 h1' => simp [finish] at e2
  | rt dv h1' =>
    intro v H2 w2 n2 hr2 r2
    obtain ⟨g1, g2⟩ := trunc hR n2 hr2
    cases dv with
    | p x0 =>
      simp only [finish] at e2
      cases e2
      cases r2 with
      | p r2 => exact po _ _ _ g1 g2 (.p (Rp.weak n2.bsub r2))
    | scr ns =>
      simp only [finish] at e2
      cases e2
      cases r2 with
      | scr r2 => exact po _ _ _ g1 g2 (.scr (r2.elim (fun q => .inl ⟨q.1, fun z => q.2 (n2.bsub _ z)⟩) .inr))
    | ref m =>
      simp only [finish] at e2
      cases r2 with
      | @ref _ a r2 =>
        split at e2
        · rename_i hm
          cases e2
          exact po _ _ _ g1 g2 (.ref (by rw [cutms hR n2 m hm]; exact r2))
        · rename_i hm
          split at e2 <;> try contradiction
          rename_i c0 hc
          cases e2
          obtain ⟨w3, f1, f2, f3⟩ := trunc1 hR n2 hr2 (by omega) r2 hc
          exact po _ _ _ f1 f2 f3
theorem fn_step {d j : Nat} {x : Str} {n : Nat} {fd' : Fd} (tb : Tb P w K mg base T d (run F fu d)) (hF : F[j]? = some fd') (fx : Fx K mg T fd' x n) :
    ∃ f fd ps, ps.length = n ∧ mg x = some (.ref f) ∧ PySem.W.keepIn K (.ref f) = true ∧ Binds K fd ps [] ∧ FnOk P w K mg base CX0 (d + 1) f fd ps (spE K (run F fu (d + 1)) j n) := by
  obtain ⟨f, fd, st, N, ps, qual, h1, h2, h3, h4, h5, h6, h7, h8, h9⟩ := fx.ok
  exact ⟨f, fd, ps, h2, h4, h5, h6, fn_ok tb hF h7 h1 h2 h3 h8 h9⟩
theorem all_ok (hF : ∀ (j : Nat) (x : Str) (n : Nat), T.fs[j]? = some (x, n) → ∃ fd', F[j]? = some fd' ∧ Fx K mg T fd' x n) (gl : ∀ (x : Str) (i : Int), (x, i) ∈ T.gs → ∃ t, mg x = some (.int i t)) (bl : ∀ x ∈ blts, mg x = none) : ∀ d, Tb P w K mg base T d (run F fu d)
  | 0 => by
    refine ⟨fun j x n e => ?_, gl, bl⟩
    obtain ⟨fd', e1, fx⟩ := hF j x n e
    obtain ⟨f, fd, st, N, ps, qual, h1, h2, h3, h4, h5, h6, h7, h8, h9⟩ := fx.ok
    refine ⟨f, fd, ps, h2, h4, h5, h6, ⟨fun vs H Q E h => by rw [h2]; exact h.1, fun A outer s H args us vs Q E _ _ _ _ h => ?_⟩⟩
    obtain ⟨_, w, h, ds, d, h', _, _, e, _⟩ := h
    simp [run] at e
  | d + 1 => by
    have tb := all_ok hF gl bl d
    refine ⟨fun j x n e => ?_, gl, bl⟩
    obtain ⟨fd', e1, fx⟩ := hF j x n e
    exact fn_step tb e1 fx
end
theorem hr_nil {K : PySem.W.Frag} {H : Hp} : HR K ⟨[], []⟩ [] H := ⟨rfl, List.nodup_nil, fun a h => absurd h (by simp), fun a h => absurd h (by simp), fun i c e => absurd e (by simp)⟩
/-- the law's own def, at the depth that is wanted -/
theorem law_fn {P : Program} {w : World} {K : PySem.W.Frag} {mg : Str → Option Value} {base : Heap} {T : Tab} {F : List Fd} {fu d j : Nat} {x qual : Str} {n : Nat} {fd' : Fd} {f : Addr} {fd : FuncData} {st : Stmt} {N ps : List Str}
    (tb : Tb P w K mg base T d (run F fu d)) (hF : F[j]? = some fd') (h7 : Fun K x qual st f fd) (h1 : fd'.np = n) (h2 : ps.length = n) (h3 : N.length = fd'.nn) (h8 : FnScope N ps (defScope st)) (h9 : chkSs T N (defScope st) fd'.body (defBody st) = true) :
    FnOk P w K mg base CX0 (d + 1) f fd ps (spE K (run F fu (d + 1)) j n) := fn_ok tb hF h7 h1 h2 h3 h8 h9
/-- the law's promise -/
def spLaw (K : PySem.W.Frag) : Sp := fun vs H Q _ => ∃ (a : Addr) (ns : List Int), vs = [.ref a] ∧ Scr K [] H a (ns.map V.int) ∧ ns.length ≤ 63 ∧ ∀ H', Q (.bl true) H'
theorem scr_of {K : PySem.W.Frag} {H : Hp} {a : Addr} {vs : List V} (o : Only H) (h : SqL K H a vs) : Scr K [] H a vs := by
  rcases h with (h | h) | h
  · rcases o a with q | ⟨ob, xs, q⟩
    · rw [h] at q; cases q
    · rw [h] at q; cases q
  · exact .inl ⟨h, by simp⟩
  · exact .inr h
theorem law_ok {P : Program} {w : World} {K : PySem.W.Frag} {mg : Str → Option Value} {base : Heap} {T : Tab} {F : List Fd} {j d : Nat} {fa : Addr} {fd : FuncData} {x : Str}
    (tb : ∀ fu, FnOk P w K mg base CX0 d fa fd [x] (spE K (run F fu d) j 1)) (hl : ∀ ns : List Int, ns.length ≤ 63 → ∃ fu h', run F fu d j [.scr ns] [] = some (.p (.bool true), h')) : FnOk P w K mg base CX0 d fa fd [x] (spLaw K) := by
  refine ⟨fun vs H Q E h => ?_, fun A outer s H args us vs Q E hr he hb hv h => ?_⟩
  · obtain ⟨a, ns, rfl, _⟩ := h; rfl
  · obtain ⟨a, ns, rfl, hs, hn, q⟩ := h
    obtain ⟨fu, h', e⟩ := hl ns hn
    refine (tb fu).run A outer s H args us [.ref a] Q E hr he hb hv ⟨rfl, ⟨[], []⟩, [], [.scr ns], _, h', hr_nil, .cons (.scr hs) .nil, e, fun v H' w' _ _ r => ?_⟩
    rw [bOf_ok r rfl]
    exact q H'
end Ev

namespace Lw
open PySem L2 Ev
/-- places_reached: web, place, reached, at, here, one, other, worth -/
def b_places_reached : List S := [.setN 2 (.lst [(.var 1)]), .set 3 (.int 0), .whl (.cmp .lt (.var 3) (.bi .len [(.var 2)])) [.set 4 (.idx (.var 2) (.var 3)), .ext (.var 2) (.lc [5, 6, 7] (.var 6) (.tup [5, 6, 7]) (.seq (.idx (.var 0) (.int 1))) (some (.and (.cmp .eq (.var 5) (.var 4)) (.cmp .notin (.var 6) (.var 2))))), .aug 3 .add (.int 1)], .ret (.var 2)]
/-- groups_of: web, many, reached, groups, place, group, other -/
def b_groups_of : List S := [.set 1 (.idx (.var 0) (.int 0)), .set 2 (.lc [4] (.call 0 true [(.var 0), (.var 4)]) (.one 4) (.rng (.var 1)) none), .setN 3 (.lst []), .frr (.one 4) (.rng (.var 1)) [.set 5 (.bi .tupleOf [(.lc [6] (.var 6) (.one 6) (.rng (.var 1)) (some (.and (.cmp .isin (.var 6) (.idx (.var 2) (.var 4))) (.cmp .isin (.var 4) (.idx (.var 2) (.var 6))))))]), .ite (.cmp .eq (.idx (.var 5) (.int 0)) (.var 4)) [.app (.var 3) (.var 5)] []], .ret (.var 3)]
/-- _law_cell_at: _law_script, _law_k -/
def b__law_cell_at : List S := [.ite (.cmp .lt (.var 1) (.bi .len [(.var 0)])) [.ret (.idx (.var 0) (.var 1))] [], .ret (.int 0)]
/-- _law_next: _law_seed -/
def b__law_next : List S := [.set 0 (.op .mod (.op .add (.var 0) (.int 7919)) (.int 2147483647)), .ret (.op .mod (.op .add (.op .add (.op .mul (.var 0) (.var 0)) (.op .mul (.int 48271) (.var 0))) (.int 12345)) (.int 2147483629))]
/-- _law_pen_of: _law_cell, _law_left -/
def b__law_pen_of : List S := [.set 1 (.bi .max2 [(.var 0), (.op .sub (.int 0) (.var 0))]), .retN (.lst [(.var 1), (.bi .int [(.cmp .ge (.var 1) (.op .pow (.int 10) (.int 18)))]), (.op .mod (.var 1) (.int 1000003))])]
/-- _law_draw: _law_pen, _law_many, _law_found -/
def b__law_draw : List S := [.ite (.cmp .eq (.idx (.var 0) (.int 1)) (.int 1)) [.set 2 (.op .mod (.idx (.var 0) (.int 0)) (.var 1)), .put (.var 0) (.int 0) (.op .fdiv (.idx (.var 0) (.int 0)) (.var 1)), .ret (.var 2)] [], .put (.var 0) (.int 2) (.call 3 false [(.op .add (.call 3 false [(.idx (.var 0) (.int 2))]) (.int 7))]), .ret (.op .mod (.op .fdiv (.idx (.var 0) (.int 2)) (.int 64)) (.var 1))]
/-- _law_web_by: _law_pen, _law_most, _law_many, _law_way, _law_size, _law_found, _law_turn, _law_place, _law_one, _law_other -/
def b__law_web_by : List S := [.set 2 (.op .add (.int 1) (.call 5 false [(.var 0), (.var 1)])), .set 3 (.call 5 false [(.var 0), (.int 4)]), .set 4 (.idx (.lst [(.int 2), (.int 7), (.int 40), (.op .pow (.int 10) (.int 30))]) (.call 5 false [(.var 0), (.int 4)])), .dnew 5, .ite (.cmp .gt (.var 3) (.int 0)) [.frr (.one 7) (.rng (.var 2)) [.put (.var 5) (.tup [(.var 7), (.op .mod (.op .add (.var 7) (.int 1)) (.var 2))]) (.op .sub (.call 5 false [(.var 0), (.op .add (.op .mul (.int 2) (.var 4)) (.int 1))]) (.var 4))]] [], .frr (.one 6) (.rng (.call 5 false [(.var 0), (.bi .min2 [(.int 17), (.op .mul (.int 3) (.var 2))])])) [.set 8 (.call 5 false [(.var 0), (.var 2)]), .set 9 (.call 5 false [(.var 0), (.var 2)]), .ite (.or (.cmp .gt (.var 3) (.int 1)) (.cmp .ne (.var 8) (.var 9))) [.put (.var 5) (.tup [(.var 8), (.var 9)]) (.op .sub (.call 5 false [(.var 0), (.op .add (.op .mul (.int 2) (.var 4)) (.int 1))]) (.var 4))] []], .ite (.cmp .eq (.var 3) (.int 3)) [.dpop (.var 5) (.tup [(.int 0), (.op .mod (.int 1) (.var 2))]) (.int 0)] [], .ret (.tup [(.var 2), (.bi .tupleOf [(.bi .sorted [(.lc [8, 9] (.tup [(.var 8), (.var 9), (.dget (.var 5) (.tup [(.var 8), (.var 9)]))]) (.tup [8, 9]) (.seq (.bi .listOf [(.var 5)])) none)])])])]
/-- _law_come: _law_web, _law_found, _law_more, _law_place, _law_a, _law_b, _law_worth, _law_new -/
def b__law_come : List S := [.setN 1 (.lc [3] (.lst [(.var 3)]) (.one 3) (.rng (.idx (.var 0) (.int 0))) none), .set 2 (.bl true), .whl (.var 2) [.set 2 (.bl false), .frr (.tup [4, 5, 6]) (.seq (.idx (.var 0) (.int 1))) [.set 7 (.lc [3] (.var 3) (.one 3) (.seq (.idx (.var 1) (.var 5))) (some (.cmp .notin (.var 3) (.idx (.var 1) (.var 4))))), .ite (.cmp .ne (.var 7) (.lst [])) [.put (.var 1) (.var 4) (.op .add (.idx (.var 1) (.var 4)) (.var 7)), .set 2 (.bl true)] []]], .ret (.var 1)]
/-- _law_groups: _law_web, _law_come_here, _law_found, _law_place, _law_group, _law_other -/
def b__law_groups : List S := [.set 1 (.call 7 true [(.var 0)]), .setN 2 (.lst []), .frr (.one 3) (.rng (.idx (.var 0) (.int 0))) [.set 4 (.bi .tupleOf [(.lc [5] (.var 5) (.one 5) (.seq (.bi .sorted [(.idx (.var 1) (.var 3))])) (some (.cmp .isin (.var 3) (.idx (.var 1) (.var 5)))))]), .ite (.cmp .notin (.var 4) (.var 2)) [.app (.var 2) (.var 4)] []], .ret (.var 2)]
/-- law: _law_script, _law_cell, _law_web, _law_turn, _law_found, _law_group -/
def b_law : List S := [.ite (.or (.cmp .ne (.call 1 true [(.tup [(.int 1), (.tup [])])]) (.lst [(.tup [(.int 0)])])) (.cmp .ne (.call 1 true [(.tup [(.int 2), (.tup [(.tup [(.int 0), (.int 1), (.int 5)])])])]) (.lst [(.tup [(.int 0)]), (.tup [(.int 1)])]))) [.ret (.bl false)] [], .frr (.one 1) (.seq (.op .add (.lst [(.call 2 false [(.var 0), (.int 0)])]) (.slc (.var 0) (some (.int 1)) (some (.int 6))))) [.set 2 (.call 6 false [(.call 4 false [(.var 1)]), (.int 8)]), .frr (.one 3) (.rng (.int 2)) [.set 4 (.call 1 false [(.var 2)]), .ite (.or (.not (.isi "list" (.var 4))) (.cmp .ne (.var 4) (.call 8 true [(.var 2)]))) [.ret (.bl false)] [], .ite (.not (.bi .all [(.lc [5] (.isi "tuple" (.var 5)) (.one 5) (.seq (.var 4)) none)])) [.ret (.bl false)] [], .app (.var 4) (.tup [])]], .ret (.bl true)]
def fds : List Fd := [⟨2, 8, b_places_reached⟩, ⟨1, 7, b_groups_of⟩, ⟨2, 2, b__law_cell_at⟩, ⟨1, 1, b__law_next⟩, ⟨1, 2, b__law_pen_of⟩, ⟨2, 3, b__law_draw⟩, ⟨2, 10, b__law_web_by⟩, ⟨1, 8, b__law_come⟩, ⟨1, 6, b__law_groups⟩, ⟨1, 6, b_law⟩]
def tab : Tab := ⟨[("places_reached", 2), ("groups_of", 1), ("_law_cell_at", 2), ("_law_next", 1), ("_law_pen_of", 1), ("_law_draw", 2), ("_law_web_by", 2), ("_law_come", 1), ("_law_groups", 1), ("law", 1)], []⟩
end Lw

section
namespace Lw
open Ev
open PySem (PyData Str)
set_option autoImplicit false
section
variable {fu d : Nat}
theorem run_at {j : Nat} {fd : Fd} {args : List D} {h : Hv} (hF : fds[j]? = some fd) (hn : args.length = fd.np) : run fds fu (d + 1) j args h = (exs (run fds fu d) fu fd.body (args.map some ++ List.replicate (fd.nn - fd.np) none) h).bind (finish h.length) := by
  simp only [run, hF, hn, if_true]
def nxt (x : Int) : Int := let y := (x + 7919) % 2147483647; (y * y + 48271 * y + 12345) % 2147483629
theorem big_of {x : Int} (h1 : 0 ≤ x) (h2 : x < 2147483647) : big64 x = true := by
  unfold big64; exact decide_eq_true ⟨by omega, by omega⟩
theorem next_ok (x : Int) (h : Hv) : run fds fu (d + 1) 3 [.p (.int x)] h = some (.p (.int (nxt x)), h) := by
  rw [run_at (fd := ⟨1, 1, b__law_next⟩) rfl rfl]
  have hb : big64 ((x + 7919) % 2147483647) = true := big_of (Int.emod_nonneg _ (by omega)) (Int.emod_lt_of_pos _ (by omega))
  simp [b__law_next, exs, ex, ev, opD, opI, hb, finish, nxt]
end
end Lw

end
section
namespace Lw
open Ev
open PySem (PyData Str)
set_option autoImplicit false
abbrev pen (a b c : Int) : Cell := .lst [.int a, .int b, .int c]
theorem sh_int (i : Int) : PySem.SeqAt.shaped (.int i) = true := by
  unfold PySem.SeqAt.shaped; simp [PyData.canLay0, PyData.depth]
theorem take_set {h : Hv} {n : Nat} {c : Cell} : (h.set n c).take h.length = h.set n c := List.take_of_length_le (by simp)
section
variable {fu d : Nat}
theorem eqv_int (i j : Int) : PyData.eqv (.int i) (.int j) = (i == j) := by simp [PyData.eqv]
theorem cmp_eq_int (h : Hv) (i j : Int) : cmpD .eq h (.p (.int i)) (.p (.int j)) = some (i == j) := by
  simp [cmpD, dat, sh_int, eqv_int]
theorem cmp_ne_int (h : Hv) (i j : Int) : cmpD .ne h (.p (.int i)) (.p (.int j)) = some (!(i == j)) := by
  simp [cmpD, dat, sh_int, eqv_int]
theorem draw_ok {n : Nat} {a b c m : Int} {h : Hv} (hn : h[n]? = some (pen a b c)) (hm : 0 < m) (hb : m < 2 ^ 256) : ∃ v a' c', 0 ≤ v ∧ v < m ∧ run fds fu (d + 2) 5 [.ref n, .p (.int m)] h = some (.p (.int v), h.set n (pen a' b c')) := by
  have hl : n < h.length := (List.getElem?_eq_some_iff.mp hn).1
  have hb2 := hb
  simp only [Int.reducePow] at hb2
  by_cases e : b = 1
  · subst e
    refine ⟨a % m, a / m, c, Int.emod_nonneg _ (by omega), Int.emod_lt_of_pos _ hm, ?_⟩
    rw [run_at (fd := ⟨2, 3, b__law_draw⟩) rfl rfl]
    simp [b__law_draw, exs, ex, ev, evB, idxD, sq2, sq, hn, L2.atI, L2.ixN, cmp_eq_int, bOf, opD, opI, hm, hb2, wp, lstD, iOf, finish, take_set, pen]
  · refine ⟨nxt (nxt c + 7) / 64 % m, a, nxt (nxt c + 7), Int.emod_nonneg _ (by omega), Int.emod_lt_of_pos _ hm, ?_⟩
    rw [run_at (fd := ⟨2, 3, b__law_draw⟩) rfl rfl]
    have e2 : (b == 1) = false := by simp [e]
    have hs : ∀ c : Cell, (h.set n c)[n]? = some c := fun c => List.getElem?_set_self hl
    simp [b__law_draw, exs, ex, ev, evs, evB, idxD, sq2, sq, hn, hs, L2.atI, L2.ixN, cmp_eq_int, e2, bOf, opD, opI, hm, wp, lstD, iOf, finish, take_set, next_ok, pen]
theorem pen_of_ok (x : Int) (h : Hv) : ∃ a b c, run fds fu (d + 1) 4 [.p (.int x)] h = some (.ref h.length, h ++ [pen a b c]) := by
  refine ⟨if 0 - x > x then 0 - x else x, if (10 : Int) ^ 18 ≤ (if 0 - x > x then 0 - x else x) then 1 else 0, (if 0 - x > x then 0 - x else x) % 1000003, ?_⟩
  rw [run_at (fd := ⟨1, 2, b__law_pen_of⟩) rfl rfl]
  simp [b__law_pen_of, exs, ex, ev, evs, opD, opI, biD, fresh, wp, mkL, lim, own1, finish, pen, cmpD]
theorem cell_at_ok (ns : List Int) (k : Nat) (h : Hv) : ∃ x, run fds fu (d + 1) 2 [.scr ns, .p (.int k)] h = some (.p (.int x), h) := by
  rw [run_at (fd := ⟨2, 2, b__law_cell_at⟩) rfl rfl]
  by_cases e : k < ns.length
  · refine ⟨ns[k], ?_⟩
    have e1 : decide ((k : Int) < (ns.length : Int)) = true := decide_eq_true (by omega)
    have e2 : L2.atI ns (k : Int) = some ns[k] := L2.atI_nat (by simp [e])
    simp [b__law_cell_at, exs, ex, ev, evs, evB, cmpD, biD, e, bOf, idxD, e2, finish]
  · refine ⟨0, ?_⟩
    simp [b__law_cell_at, exs, ex, ev, evs, evB, cmpD, biD, e, bOf, finish]
end
end Lw

end
section
namespace Lw
open Ev
open PySem (PyData Str)
set_option autoImplicit false
theorem exs_nx {C : Ca} {fu : Nat} {s : S} {ss : List S} {σ σ1 : Sv} {h h1 : Hv} (e : ex C fu s σ h = some (.nx σ1 h1)) : exs C fu (s :: ss) σ h = exs C fu ss σ1 h1 := by
  simp only [exs, e, Option.bind_some]
theorem exs_rt {C : Ca} {fu : Nat} {s : S} {ss : List S} {σ : Sv} {h h1 : Hv} {d : D} (e : ex C fu s σ h = some (.rt d h1)) : exs C fu (s :: ss) σ h = some (.rt d h1) := by
  simp only [exs, e, Option.bind_some]
theorem exs_one {C : Ca} {fu : Nat} {s : S} {σ σ1 : Sv} {h h1 : Hv} (e : ex C fu s σ h = some (.nx σ1 h1)) : exs C fu [s] σ h = some (.nx σ1 h1) := by
  rw [exs_nx e]; simp only [exs]
theorem exs_nil {C : Ca} {fu : Nat} {σ : Sv} {h : Hv} : exs C fu [] σ h = some (.nx σ h) := by simp only [exs]
theorem ite_true {C : Ca} {fu : Nat} {t : E} {a b : List S} {σ : Sv} {h h1 : Hv} (e : evB C t σ h = some (true, h1)) : ex C fu (.ite t a b) σ h = exs C fu a σ h1 := by
  simp only [ex, e, Option.bind_some, if_true]
theorem ite_false {C : Ca} {fu : Nat} {t : E} {a b : List S} {σ : Sv} {h h1 : Hv} (e : evB C t σ h = some (false, h1)) : ex C fu (.ite t a b) σ h = exs C fu b σ h1 := by
  simp only [ex, e, Option.bind_some, Bool.false_eq_true, if_false]
theorem frr_ok {C : Ca} {fu : Nat} {t : Tg} {it : It} {b : List S} {σ : Sv} {h h1 : Hv} {xs : List P} (e : evi C it σ h = some (xs, none, h1)) : ex C fu (.frr t it b) σ h = frGo (fun x σ h => (tgD t x σ).bind fun σ1 => exs C fu b σ1 h) xs σ h1 := by
  simp only [ex, e, Option.bind_some, if_true]
theorem set_ok {C : Ca} {fu : Nat} {i : Nat} {e : E} {σ : Sv} {h h1 : Hv} {v : D} (e0 : ev C e σ h = some (v, h1)) : ex C fu (.set i e) σ h = some (.nx (σ.set i (some v)) h1) := by
  simp only [ex, e0, Option.map_some]
theorem cmp_lt_int (h : Hv) (i j : Int) : cmpD .lt h (.p (.int i)) (.p (.int j)) = some (decide (i < j)) := rfl
theorem cmp_le_int (h : Hv) (i j : Int) : cmpD .le h (.p (.int i)) (.p (.int j)) = some (decide (i ≤ j)) := rfl
theorem cmp_gt_int (h : Hv) (i j : Int) : cmpD .gt h (.p (.int i)) (.p (.int j)) = some (decide (j < i)) := rfl
theorem cmp_ge_int (h : Hv) (i j : Int) : cmpD .ge h (.p (.int i)) (.p (.int j)) = some (decide (j ≤ i)) := rfl
/-- a loop, by what holds behind each turn -/
theorem frGo_inv {F : P → Sv → Hv → Option Out} (Inv : Nat → Sv → Hv → Prop) : ∀ (xs : List P) (i : Nat) (σ : Sv) (h : Hv), Inv i σ h → (∀ j (x : P), xs[j]? = some x → ∀ σ h, Inv (i + j) σ h → ∃ σ' h', F x σ h = some (.nx σ' h') ∧ Inv (i + j + 1) σ' h') → ∃ σ' h', frGo F xs σ h = some (.nx σ' h') ∧ Inv (i + xs.length) σ' h'
  | [], i, σ, h, hi, _ => ⟨σ, h, rfl, hi⟩
  | x :: xs, i, σ, h, hi, st => by
    obtain ⟨σ1, h1, e1, h2⟩ := st 0 x rfl σ h hi
    obtain ⟨σ2, h3, e2, h4⟩ := frGo_inv Inv xs (i + 1) σ1 h1 h2 fun j y hy σ h hj => by
      have e : i + 1 + j = i + (j + 1) := by omega
      rw [e] at hj ⊢
      exact st (j + 1) y (by simpa using hy) σ h hj
    refine ⟨σ2, h3, ?_, ?_⟩
    · simp only [frGo, e1, Option.bind_some]; exact e2
    · have e : i + (x :: xs).length = i + 1 + xs.length := by simp; omega
      rw [e]; exact h4
theorem rng_get {m : Int} {j : Nat} {x : P} (h : (rngL 0 m)[j]? = some x) : x = .int (j : Int) ∧ (j : Int) < m := by
  have hl : (rngL 0 m).length = (m - 0).toNat := by simp [rngL]
  have hj := (List.getElem?_eq_some_iff.mp h).1
  rw [hl] at hj
  simp only [rngL, List.getElem?_map, List.getElem?_range hj, Option.map_some, Option.some.injEq] at h
  subst h
  exact ⟨by simp, by omega⟩
/-- the dict's entries -/
structure KOk (many : Int) (kvs : List (List Int × P)) : Prop where
  mem : ∀ q ∈ kvs, ∃ x y v, q = ([x, y], PyData.int v) ∧ 0 ≤ x ∧ x < many ∧ 0 ≤ y ∧ y < many
  nd : (kvs.map (·.1)).Nodup
theorem setK_len (kvs : List (List Int × P)) (k : List Int) (v : P) : (setK kvs k v).length ≤ kvs.length + 1 := by
  unfold setK; split <;> simp
theorem KOk.put {many : Int} {kvs : List (List Int × P)} (K : KOk many kvs) {x y v : Int} (h1 : 0 ≤ x) (h2 : x < many) (h3 : 0 ≤ y) (h4 : y < many) : KOk many (setK kvs [x, y] (.int v)) := by
  unfold setK
  split
  · refine ⟨fun q hq => ?_, ?_⟩
    · obtain ⟨q0, hq0, e⟩ := List.mem_map.mp hq
      obtain ⟨x0, y0, v0, e0, b1, b2, b3, b4⟩ := K.mem q0 hq0
      subst e0
      split at e
      · subst e; exact ⟨x0, y0, v, rfl, b1, b2, b3, b4⟩
      · subst e; exact ⟨x0, y0, v0, rfl, b1, b2, b3, b4⟩
    · rw [List.map_map]
      have : ((fun q : List Int × P => q.1) ∘ fun q => if q.1 = [x, y] then (q.1, PyData.int v) else q) = fun q => q.1 := by
        funext q
        simp only [Function.comp]
        split <;> rfl
      rw [this]
      exact K.nd
  · rename_i hno
    refine ⟨fun q hq => ?_, ?_⟩
    · rcases List.mem_append.mp hq with hq | hq
      · exact K.mem q hq
      · rw [List.mem_singleton.mp hq]; exact ⟨x, y, v, rfl, h1, h2, h3, h4⟩
    · rw [List.map_append]
      refine L2.nd_snoc K.nd fun hm => hno ?_
      obtain ⟨q, hq, e⟩ := List.mem_map.mp hm
      exact List.any_eq_true.mpr ⟨q, hq, decide_eq_true e⟩
theorem KOk.drop {many : Int} {kvs : List (List Int × P)} (K : KOk many kvs) (k : List Int) : KOk many (kvs.filter fun q => decide (q.1 ≠ k)) :=
  ⟨fun q hq => K.mem q (List.mem_filter.mp hq).1, K.nd.sublist (List.filter_sublist.map _)⟩
theorem KOk.get {many : Int} : ∀ {kvs : List (List Int × P)}, KOk many kvs → ∀ {q : List Int × P}, q ∈ kvs → getK kvs q.1 = some q.2
  | [], _, _, h => by simp at h
  | q0 :: kvs, K, q, h => by
    have nd : (q0.1 :: kvs.map (·.1)).Nodup := K.nd
    obtain ⟨n1, n2⟩ := List.nodup_cons.mp nd
    have K' : KOk many kvs := ⟨fun q hq => K.mem q (List.mem_cons_of_mem _ hq), n2⟩
    rcases List.mem_cons.mp h with e | h
    · subst e; simp [getK, List.find?_cons]
    · have hne : ¬ q0.1 = q.1 := fun e => n1 (by rw [e]; exact List.mem_map.mpr ⟨q, h, rfl⟩)
      have := K'.get h
      simp [getK, List.find?_cons, hne] at this ⊢
      exact this
/-- heap of the web's making -/
abbrev wh (h : Hv) (n : Nat) (a b c : Int) (kvs : List (List Int × P)) : Hv := h.set n (pen a b c) ++ [.dct kvs]
section
variable {fu d n : Nat} {h : Hv} {b : Int}
theorem wh_pen (hl : n < h.length) (a c : Int) (kvs : List (List Int × P)) : (wh h n a b c kvs)[n]? = some (pen a b c) := by
  unfold wh
  rw [List.getElem?_append_left (by simpa using hl)]
  exact List.getElem?_set_self hl
theorem wh_set (hl : n < h.length) (a c a' c' : Int) (kvs : List (List Int × P)) : (wh h n a b c kvs).set n (pen a' b c') = wh h n a' b c' kvs := by
  unfold wh
  rw [List.set_append_left _ _ (by simpa using hl), List.set_set]
theorem wh_dct (a c : Int) (kvs : List (List Int × P)) : (wh h n a b c kvs)[h.length]? = some (.dct kvs) := by
  unfold wh
  rw [List.getElem?_append_right (by simp)]
  simp
theorem wh_put (a c : Int) (kvs kvs' : List (List Int × P)) : (wh h n a b c kvs).set h.length (.dct kvs') = wh h n a b c kvs' := by
  unfold wh
  rw [List.set_append_right _ _ (by simp)]
  simp
theorem wdraw (hl : n < h.length) (a c : Int) (kvs : List (List Int × P)) {m : Int} (hm : 0 < m) (hb : m < 2 ^ 256) : ∃ v a' c', 0 ≤ v ∧ v < m ∧ run fds fu (d + 2) 5 [.ref n, .p (.int m)] (wh h n a b c kvs) = some (.p (.int v), wh h n a' b c' kvs) := by
  obtain ⟨v, a', c', h1, h2, h3⟩ := draw_ok (fu := fu) (d := d) (wh_pen (b := b) hl a c kvs) hm hb
  rw [wh_set hl] at h3
  exact ⟨v, a', c', h1, h2, h3⟩
/-- the frame of the web's making -/
abbrev wσ (n : Nat) (h : Hv) (most many way size : Int) (t p o q : Option D) : Sv := [some (.ref n), some (.p (.int most)), some (.p (.int many)), some (.p (.int way)), some (.p (.int size)), some (.ref h.length), t, p, o, q]
theorem put_ok (hl : n < h.length) {most many way size : Int} {t p o q : Option D} {a c : Int} {kvs : List (List Int × P)} {e1 e2 : E} {x y : Int} (hs : 0 < size) (hs2 : size ≤ 10 ^ 30) (hk : kvs.length < lim)
    (he : ∀ hh, evs (run fds fu (d + 2)) [e1, e2] (wσ n h most many way size t p o q) hh = some ([.p (.int x), .p (.int y)], hh)) :
    ∃ v a' c', ex (run fds fu (d + 2)) fu (.put (.var 5) (.tup [e1, e2]) (.op .sub (.call 5 false [.var 0, .op .add (.op .mul (.int 2) (.var 4)) (.int 1)]) (.var 4))) (wσ n h most many way size t p o q) (wh h n a b c kvs) =
      some (.nx (wσ n h most many way size t p o q) (wh h n a' b c' (setK kvs [x, y] (.int v)))) := by
  obtain ⟨v, a', c', h1, h2, h3⟩ := wdraw (fu := fu) (d := d) (b := b) hl a c kvs (m := 2 * size + 1) (by omega) (by omega)
  refine ⟨v - size, a', c', ?_⟩
  have hb : (big64 2 || big64 size) = true := by simp [big64]
  have hd := wh_dct (h := h) (n := n) (b := b) a' c' kvs
  have hp := wh_put (h := h) (n := n) (b := b) a' c' kvs (setK kvs [x, y] (.int (v - size)))
  have hlst : lstD (wh h n a' b c' kvs) (.ref h.length) = none := by simp only [lstD, hd]
  have hdct : dctD (wh h n a' b c' kvs) (.ref h.length) = some (h.length, kvs) := by simp only [dctD, hd]
  have ha : evs (run fds fu (d + 2)) [.var 0, .op .add (.op .mul (.int 2) (.var 4)) (.int 1)] (wσ n h most many way size t p o q) (wh h n a b c kvs) = some ([.ref n, .p (.int (2 * size + 1))], wh h n a b c kvs) := by
    have hb2 : big64 2 = true := by simp [big64]
    simp [evs, ev, opD, opI, hb2]
  have hm : List.mapM wp [D.p (PyData.int x), D.p (PyData.int y)] = some [PyData.int x, PyData.int y] := by simp [wp]
  have hT : mkT [PyData.int x, PyData.int y] = some (.p (.tuple [.int x, .int y])) := by simp [mkT, lim]
  have hK : keyI (.p (.tuple [.int x, .int y])) = some [x, y] := by simp [keyI, intsP]
  simp only [ex, ev, ha, he, h3, Option.bind_some, Option.map_some, List.getElem?_cons_zero, List.getElem?_cons_succ, Bool.false_eq_true, if_false, opD, opI, wp, hm, hT, hlst, hdct, hK, hk, if_true, hp]
end
end Lw

end
section
namespace Lw
open Ev
open PySem (PyData Str)
set_option autoImplicit false
abbrev kb : List S := b__law_web_by
/-- what holds while the web is made: at most i entries -/
def WInv (h : Hv) (n : Nat) (b most many way size : Int) (i : Nat) (σ : Sv) (hh : Hv) : Prop := ∃ t p o q a c kvs, σ = wσ n h most many way size t p o q ∧ hh = wh h n a b c kvs ∧ KOk many kvs ∧ kvs.length ≤ i
section
variable {fu d n : Nat} {h : Hv} {b most many way size : Int}
def wb4 : S := .ite (.cmp .gt (.var 3) (.int 0)) [.frr (.one 7) (.rng (.var 2)) [.put (.var 5) (.tup [(.var 7), (.op .mod (.op .add (.var 7) (.int 1)) (.var 2))]) (.op .sub (.call 5 false [(.var 0), (.op .add (.op .mul (.int 2) (.var 4)) (.int 1))]) (.var 4))]] []
def wb5 : S := .frr (.one 6) (.rng (.call 5 false [(.var 0), (.bi .min2 [(.int 17), (.op .mul (.int 3) (.var 2))])])) [.set 8 (.call 5 false [(.var 0), (.var 2)]), .set 9 (.call 5 false [(.var 0), (.var 2)]), .ite (.or (.cmp .gt (.var 3) (.int 1)) (.cmp .ne (.var 8) (.var 9))) [.put (.var 5) (.tup [(.var 8), (.var 9)]) (.op .sub (.call 5 false [(.var 0), (.op .add (.op .mul (.int 2) (.var 4)) (.int 1))]) (.var 4))] []]
def wb6 : S := .ite (.cmp .eq (.var 3) (.int 3)) [.dpop (.var 5) (.tup [(.int 0), (.op .mod (.int 1) (.var 2))]) (.int 0)] []
def wb7 : S := .ret (.tup [(.var 2), (.bi .tupleOf [(.bi .sorted [(.lc [8, 9] (.tup [(.var 8), (.var 9), (.dget (.var 5) (.tup [(.var 8), (.var 9)]))]) (.tup [8, 9]) (.seq (.bi .listOf [(.var 5)])) none)])])])
theorem kb_eq : kb = [.set 2 (.op .add (.int 1) (.call 5 false [(.var 0), (.var 1)])), .set 3 (.call 5 false [(.var 0), (.int 4)]), .set 4 (.idx (.lst [(.int 2), (.int 7), (.int 40), (.op .pow (.int 10) (.int 30))]) (.call 5 false [(.var 0), (.int 4)])), .dnew 5, wb4, wb5, wb6, wb7] := rfl
end
end Lw

end
section
namespace Lw
open Ev
open PySem (PyData Str)
set_option autoImplicit false
section
variable {fu d n : Nat} {h : Hv} {b most many way size : Int}
theorem wb4_ok (hl : n < h.length) (hm : 1 ≤ many) (hm8 : many ≤ 8) (hs : 0 < size) (hs2 : size ≤ 10 ^ 30) {σ : Sv} {hh : Hv} (I : WInv h n b most many way size 0 σ hh) : ∃ σ' hh', ex (run fds fu (d + 2)) fu wb4 σ hh = some (.nx σ' hh') ∧ WInv h n b most many way size 8 σ' hh' := by
  obtain ⟨t, p, o, q, a, c, kvs, rfl, rfl, K, kl⟩ := I
  by_cases hw : 0 < way
  · have hsm : small many = true := by unfold small; exact decide_eq_true ⟨by omega, by omega⟩
    obtain ⟨σ', hh', e, I'⟩ := frGo_inv (F := fun x σ h => (tgD (.one 7) x σ).bind fun σ1 => exs (run fds fu (d + 2)) fu [.put (.var 5) (.tup [(.var 7), (.op .mod (.op .add (.var 7) (.int 1)) (.var 2))]) (.op .sub (.call 5 false [(.var 0), (.op .add (.op .mul (.int 2) (.var 4)) (.int 1))]) (.var 4))] σ1 h)
      (WInv h n b most many way size) (rngL 0 many) 0 (wσ n h most many way size t p o q) (wh h n a b c kvs) ⟨t, p, o, q, a, c, kvs, rfl, rfl, K, kl⟩ fun j x hx σ hh I => by
        obtain ⟨t, p, o, q, a, c, kvs, rfl, rfl, K, kl⟩ := I
        obtain ⟨rfl, hj⟩ := rng_get hx
        have hlim : kvs.length < lim := by unfold lim; omega
        obtain ⟨v, a', c', e⟩ := put_ok (fu := fu) (d := d) (b := b) (most := most) (many := many) (way := way) (size := size) (t := t) (p := some (.p (.int j))) (o := o) (q := q) (a := a) (c := c) (kvs := kvs) (e1 := .var 7) (e2 := .op .mod (.op .add (.var 7) (.int 1)) (.var 2)) (x := j) (y := ((j : Int) + 1) % many) hl hs hs2 hlim
          (fun hh => by simp [evs, ev, opD, opI, show (0 : Int) < many by omega])
        refine ⟨_, _, ?_, t, some (.p (.int j)), o, q, a', c', setK kvs [(j : Int), ((j : Int) + 1) % many] (.int v), rfl, rfl, K.put (v := v) (by omega) hj (Int.emod_nonneg _ (by omega)) (Int.emod_lt_of_pos _ (by omega)), Nat.le_trans (setK_len _ _ _) (by omega)⟩
        show (exs (run fds fu (d + 2)) fu _ (wσ n h most many way size t (some (.p (.int j))) o q) (wh h n a b c kvs)) = _
        exact exs_one e
    have hl8 : (rngL 0 many).length ≤ 8 := by simp [rngL]; omega
    refine ⟨σ', hh', ?_, ?_⟩
    · have e1 : evB (run fds fu (d + 2)) (.cmp .gt (.var 3) (.int 0)) (wσ n h most many way size t p o q) (wh h n a b c kvs) = some (true, wh h n a b c kvs) := by simp [evB, ev, cmpD, hw, bOf]
      have e2 : evi (run fds fu (d + 2)) (.rng (.var 2)) (wσ n h most many way size t p o q) (wh h n a b c kvs) = some (rngL 0 many, none, wh h n a b c kvs) := by simp [evi, ev, iOf, hsm]
      exact (ite_true e1).trans (exs_one ((frr_ok e2).trans e))
    · obtain ⟨t, p, o, q, a, c, kvs, e1, e2, K, kl⟩ := I'
      exact ⟨t, p, o, q, a, c, kvs, e1, e2, K, by omega⟩
  · refine ⟨_, _, ?_, t, p, o, q, a, c, kvs, rfl, rfl, K, by omega⟩
    simp [wb4, ex, evB, ev, cmpD, hw, bOf, exs]
end
end Lw

end
section
namespace Lw
open Ev
open PySem (PyData Str)
set_option autoImplicit false
section
variable {fu d n : Nat} {h : Hv} {b most many way size : Int}
theorem wb5_ok (hl : n < h.length) (hm : 1 ≤ many) (hm8 : many ≤ 8) (hs : 0 < size) (hs2 : size ≤ 10 ^ 30) {σ : Sv} {hh : Hv} (I : WInv h n b most many way size 8 σ hh) : ∃ σ' hh', ex (run fds fu (d + 2)) fu wb5 σ hh = some (.nx σ' hh') ∧ WInv h n b most many way size 25 σ' hh' := by
  obtain ⟨t, p, o, q, a, c, kvs, rfl, rfl, K, kl⟩ := I
  have h3 : (if 3 * many < 17 then 3 * many else 17) > 0 := by split <;> omega
  have h3b : (if 3 * many < 17 then 3 * many else 17) ≤ 17 := by split <;> omega
  obtain ⟨u, a1, c1, g1, g2, g3⟩ := wdraw (fu := fu) (d := d) (b := b) hl a c kvs (m := if 3 * many < 17 then 3 * many else 17) (by omega) (by omega)
  have hb3 : big64 3 = true := by simp [big64]
  have hsm : small u = true := by unfold small; exact decide_eq_true ⟨by omega, by omega⟩
  have e1 : evi (run fds fu (d + 2)) (.rng (.call 5 false [(.var 0), (.bi .min2 [(.int 17), (.op .mul (.int 3) (.var 2))])])) (wσ n h most many way size t p o q) (wh h n a b c kvs) = some (rngL 0 u, none, wh h n a1 b c1 kvs) := by
    have ha : evs (run fds fu (d + 2)) [(.var 0), (.bi .min2 [(.int 17), (.op .mul (.int 3) (.var 2))])] (wσ n h most many way size t p o q) (wh h n a b c kvs) = some ([.ref n, .p (.int (if 3 * many < 17 then 3 * many else 17))], wh h n a b c kvs) := by
      simp [evs, ev, opD, opI, hb3, biD]
    simp [evi, ev, ha, g3, iOf, hsm]
  obtain ⟨σ', hh', e, I'⟩ := frGo_inv (F := fun x σ h => (tgD (.one 6) x σ).bind fun σ1 => exs (run fds fu (d + 2)) fu [.set 8 (.call 5 false [(.var 0), (.var 2)]), .set 9 (.call 5 false [(.var 0), (.var 2)]), .ite (.or (.cmp .gt (.var 3) (.int 1)) (.cmp .ne (.var 8) (.var 9))) [.put (.var 5) (.tup [(.var 8), (.var 9)]) (.op .sub (.call 5 false [(.var 0), (.op .add (.op .mul (.int 2) (.var 4)) (.int 1))]) (.var 4))] []] σ1 h)
      (WInv h n b most many way size) (rngL 0 u) 8 (wσ n h most many way size t p o q) (wh h n a1 b c1 kvs) ⟨t, p, o, q, a1, c1, kvs, rfl, rfl, K, kl⟩ fun j x hx σ hh I => by
        obtain ⟨t, p, o, q, a, c, kvs, rfl, rfl, K, kl⟩ := I
        obtain ⟨rfl, hj⟩ := rng_get hx
        have hlim : kvs.length < lim := by unfold lim; omega
        obtain ⟨x, a1, c1, x1, x2, x3⟩ := wdraw (fu := fu) (d := d) (b := b) hl a c kvs (m := many) (by omega) (by omega)
        obtain ⟨y, a2, c2, y1, y2, y3⟩ := wdraw (fu := fu) (d := d) (b := b) hl a1 c1 kvs (m := many) (by omega) (by omega)
        obtain ⟨v, a3, c3, e⟩ := put_ok (fu := fu) (d := d) (b := b) (most := most) (many := many) (way := way) (size := size) (t := some (.p (.int j))) (p := p) (o := some (.p (.int x))) (q := some (.p (.int y))) (a := a2) (c := c2) (kvs := kvs) (e1 := .var 8) (e2 := .var 9) (x := x) (y := y) hl hs hs2 hlim
          (fun hh => by simp [evs, ev])
        have f1 : ex (run fds fu (d + 2)) fu (.set 8 (.call 5 false [(.var 0), (.var 2)])) (wσ n h most many way size (some (.p (.int j))) p o q) (wh h n a b c kvs) = some (.nx (wσ n h most many way size (some (.p (.int j))) p (some (.p (.int x))) q) (wh h n a1 b c1 kvs)) := by
          simp [ex, ev, evs, x3]
        have f2 : ex (run fds fu (d + 2)) fu (.set 9 (.call 5 false [(.var 0), (.var 2)])) (wσ n h most many way size (some (.p (.int j))) p (some (.p (.int x))) q) (wh h n a1 b c1 kvs) = some (.nx (wσ n h most many way size (some (.p (.int j))) p (some (.p (.int x))) (some (.p (.int y)))) (wh h n a2 b c2 kvs)) := by
          simp [ex, ev, evs, y3]
        have f3 : evB (run fds fu (d + 2)) (.or (.cmp .gt (.var 3) (.int 1)) (.cmp .ne (.var 8) (.var 9))) (wσ n h most many way size (some (.p (.int j))) p (some (.p (.int x))) (some (.p (.int y)))) (wh h n a2 b c2 kvs) = some (if 1 < way then true else !(x == y), wh h n a2 b c2 kvs) := by
          by_cases hw : 1 < way
          · simp [evB, ev, cmpD, hw, bOf]
          · simp only [evB, ev, List.getElem?_cons_zero, List.getElem?_cons_succ, Option.bind_some, cmp_gt_int, cmp_ne_int, hw, decide_false, Option.map_some, bOf, Bool.false_eq_true, if_false]
        cases hc : (if 1 < way then true else !(x == y)) with
        | true =>
          refine ⟨_, _, ?_, some (.p (.int j)), p, some (.p (.int x)), some (.p (.int y)), a3, c3, setK kvs [x, y] (.int v), rfl, rfl, K.put (v := v) x1 x2 y1 y2, Nat.le_trans (setK_len _ _ _) (by omega)⟩
          show (exs (run fds fu (d + 2)) fu _ (wσ n h most many way size (some (.p (.int j))) p o q) (wh h n a b c kvs)) = _
          rw [exs_nx f1, exs_nx f2]
          rw [hc] at f3
          exact exs_one ((ite_true f3).trans (exs_one e))
        | false =>
          refine ⟨_, _, ?_, some (.p (.int j)), p, some (.p (.int x)), some (.p (.int y)), a2, c2, kvs, rfl, rfl, K, by omega⟩
          show (exs (run fds fu (d + 2)) fu _ (wσ n h most many way size (some (.p (.int j))) p o q) (wh h n a b c kvs)) = _
          rw [exs_nx f1, exs_nx f2]
          rw [hc] at f3
          exact exs_one ((ite_false f3).trans exs_nil)
  have hl17 : (rngL 0 u).length ≤ 17 := by simp [rngL]; omega
  refine ⟨σ', hh', ?_, ?_⟩
  · exact (frr_ok e1).trans e
  · obtain ⟨t, p, o, q, a, c, kvs, e1, e2, K, kl⟩ := I'
    exact ⟨t, p, o, q, a, c, kvs, e1, e2, K, by omega⟩
end
end Lw

end
section
namespace Lw
open Ev
open PySem (PyData Str)
set_option autoImplicit false
section
variable {fu d n : Nat} {h : Hv} {b most many way size : Int}
theorem wb6_ok (hm : 1 ≤ many) {σ : Sv} {hh : Hv} (I : WInv h n b most many way size 25 σ hh) : ∃ σ' hh', ex (run fds fu (d + 2)) fu wb6 σ hh = some (.nx σ' hh') ∧ WInv h n b most many way size 25 σ' hh' := by
  obtain ⟨t, p, o, q, a, c, kvs, rfl, rfl, K, kl⟩ := I
  by_cases hw : way = 3
  · refine ⟨_, _, ?_, t, p, o, q, a, c, kvs.filter fun q => decide (q.1 ≠ [0, 1 % many]), rfl, rfl, K.drop _, Nat.le_trans (List.length_filter_le _ _) kl⟩
    have hd := wh_dct (h := h) (n := n) (b := b) a c kvs
    have hdct : dctD (wh h n a b c kvs) (.ref h.length) = some (h.length, kvs) := by simp only [dctD, hd]
    have hp := wh_put (h := h) (n := n) (b := b) a c kvs (kvs.filter fun q => decide (q.1 ≠ [0, 1 % many]))
    have h0 : (0 : Int) < many := by omega
    subst hw
    have e1 : evB (run fds fu (d + 2)) (.cmp .eq (.var 3) (.int 3)) (wσ n h most many 3 size t p o q) (wh h n a b c kvs) = some (true, wh h n a b c kvs) := by
      have := cmp_eq_int (wh h n a b c kvs) 3 3
      simp only [evB, ev, List.getElem?_cons_zero, List.getElem?_cons_succ, Option.bind_some, this, Option.map_some, bOf]
      rfl
    have e2 : ev (run fds fu (d + 2)) (.tup [(.int 0), (.op .mod (.int 1) (.var 2))]) (wσ n h most many 3 size t p o q) (wh h n a b c kvs) = some (.p (.tuple [.int 0, .int (1 % many)]), wh h n a b c kvs) := by
      simp [ev, evs, opD, opI, h0, wp, mkT, lim]
    have e3 : ev (run fds fu (d + 2)) (.var 5) (wσ n h most many 3 size t p o q) (wh h n a b c kvs) = some (.ref h.length, wh h n a b c kvs) := by simp [ev]
    have e4 : ev (run fds fu (d + 2)) (.int 0) (wσ n h most many 3 size t p o q) (wh h n a b c kvs) = some (.p (.int 0), wh h n a b c kvs) := by simp [ev]
    have hK : keyI (.p (.tuple [.int 0, .int (1 % many)])) = some [0, 1 % many] := by simp [keyI, intsP]
    simp only [wb6, ex, e1, Option.bind_some, if_true, exs, e2, e3, e4, hdct, hK, wp, Option.map_some, hp]
  · refine ⟨_, _, ?_, t, p, o, q, a, c, kvs, rfl, rfl, K, kl⟩
    have e1 : evB (run fds fu (d + 2)) (.cmp .eq (.var 3) (.int 3)) (wσ n h most many way size t p o q) (wh h n a b c kvs) = some (false, wh h n a b c kvs) := by
      have := cmp_eq_int (wh h n a b c kvs) way 3
      simp only [evB, ev, List.getElem?_cons_zero, List.getElem?_cons_succ, Option.bind_some, this, Option.map_some, bOf]
      have : (way == 3) = false := by simp [hw]
      rw [this]
    simp only [wb6, ex, e1, Option.bind_some, Bool.false_eq_true, if_false, exs]
end
end Lw

end
section
namespace Lw
open Ev
open PySem (PyData Str)
set_option autoImplicit false
abbrev Ar := Int × Int × Int
def tri (q : Ar) : P := .tuple [.int q.1, .int q.2.1, .int q.2.2]
def webP (many : Int) (ar : List Ar) : P := .tuple [.int many, .tuple (ar.map tri)]
structure AOk (many : Int) (ar : List Ar) : Prop where
  mem : ∀ q ∈ ar, 0 ≤ q.1 ∧ q.1 < many ∧ 0 ≤ q.2.1 ∧ q.2.1 < many
  nd : (ar.map fun q => (q.1, q.2.1)).Nodup
  len : ar.length ≤ 25
theorem lcGo_map {f : P → Hv → Option (Option P × Hv)} {g : P → Option P} {h : Hv} : ∀ xs : List P, (∀ x ∈ xs, f x h = some (g x, h)) → lcGo f xs h = some (xs.filterMap g, h)
  | [], _ => rfl
  | x :: xs, H => by
    have e := lcGo_map (f := f) (g := g) (h := h) xs fun y hy => H y (List.mem_cons_of_mem _ hy)
    simp only [lcGo, H x List.mem_cons_self, Option.bind_some, e, Option.map_some, List.filterMap_cons]
    cases g x <;> rfl
section
variable {C : Ca} {σ : Sv} {h h1 h2 h3 : Hv}
theorem ev_var {i : Nat} {d : D} (e : σ[i]? = some (some d)) : ev C (.var i) σ h = some (d, h) := by simp only [ev, e]
theorem evs_nil : evs C [] σ h = some ([], h) := by simp only [evs]
theorem evs_cons {e : E} {es : List E} {d : D} {ds : List D} (e1 : ev C e σ h = some (d, h1)) (e2 : evs C es σ h1 = some (ds, h2)) : evs C (e :: es) σ h = some (d :: ds, h2) := by simp only [evs, e1, e2, Option.bind_some, Option.map_some]
theorem ev_bi1 {b : Bi} {e : E} {d r : D} (e1 : ev C e σ h = some (d, h1)) (e2 : biD b h1 [d] = some r) : ev C (.bi b [e]) σ h = some (r, h1) := by simp only [ev, evs, e1, e2, Option.bind_some, Option.map_some]
theorem ev_tup {es : List E} {ds : List D} {ps : List P} {r : D} (e1 : evs C es σ h = some (ds, h1)) (e2 : ds.mapM wp = some ps) (e3 : mkT ps = some r) : ev C (.tup es) σ h = some (r, h1) := by simp only [ev, e1, e2, e3, Option.bind_some, Option.map_some]
theorem ev_lst {es : List E} {ds : List D} {ps : List P} {r : D} (e1 : evs C es σ h = some (ds, h1)) (e2 : ds.mapM wp = some ps) (e3 : mkL ps = some r) : ev C (.lst es) σ h = some (r, h1) := by simp only [ev, e1, e2, e3, Option.bind_some, Option.map_some]
theorem ev_idx {a i : E} {x y z : D} (e1 : ev C a σ h = some (x, h1)) (e2 : ev C i σ h1 = some (y, h2)) (e3 : idxD h2 x y = some z) : ev C (.idx a i) σ h = some (z, h2) := by simp only [ev, e1, e2, e3, Option.bind_some, Option.map_some]
theorem ev_cmp {c : Cp} {a i : E} {x y : D} {b : Bool} (e1 : ev C a σ h = some (x, h1)) (e2 : ev C i σ h1 = some (y, h2)) (e3 : cmpD c h2 x y = some b) : ev C (.cmp c a i) σ h = some (.p (.bool b), h2) := by simp only [ev, e1, e2, e3, Option.bind_some, Option.map_some]
theorem ev_op {o : Op} {a i : E} {x y z : D} (e1 : ev C a σ h = some (x, h1)) (e2 : ev C i σ h1 = some (y, h2)) (e3 : opD o h2 x y = some z) : ev C (.op o a i) σ h = some (z, h2) := by simp only [ev, e1, e2, e3, Option.bind_some, Option.map_some]
theorem ev_callF {f : Nat} {es : List E} {ds : List D} {d : D} (e1 : evs C es σ h = some (ds, h1)) (e2 : C f ds h1 = some (d, h2)) : ev C (.call f false es) σ h = some (d, h2) := by simp only [ev, e1, e2, Option.bind_some, Bool.false_eq_true, if_false]
theorem ev_callT {f : Nat} {es : List E} {ds : List D} {xs : List P} (e1 : evs C es σ h = some (ds, h1)) (e2 : C f ds h1 = some (.ref h1.length, h1 ++ [.lst xs])) : ev C (.call f true es) σ h = some (.p (.list xs), h1) := by
  have hg : (h1 ++ [Cell.lst xs])[h1.length]? = some (.lst xs) := by simp
  have : lstD (h1 ++ [.lst xs]) (.ref h1.length) = some (h1.length, xs) := by simp only [lstD, hg]
  simp only [ev, e1, e2, this, Option.bind_some, if_true, Nat.le_refl, List.take_left']
theorem ev_and {a b : E} {x y : Bool} (e1 : ev C a σ h = some (.p (.bool x), h1)) (e2 : x = true → ev C b σ h1 = some (.p (.bool y), h1)) : ev C (.and a b) σ h = some (.p (.bool (x && y)), h1) := by
  cases x
  · simp only [ev, e1, Option.bind_some, bOf, Bool.false_eq_true, if_false, Bool.false_and]
  · simp only [ev, e1, Option.bind_some, bOf, if_true, Bool.true_and]; exact e2 rfl
theorem ev_or {a b : E} {x y : Bool} (e1 : ev C a σ h = some (.p (.bool x), h1)) (e2 : x = false → ev C b σ h1 = some (.p (.bool y), h1)) : ev C (.or a b) σ h = some (.p (.bool (x || y)), h1) := by
  cases x
  · simp only [ev, e1, Option.bind_some, bOf, Bool.false_eq_true, if_false, Bool.false_or]; exact e2 rfl
  · simp only [ev, e1, Option.bind_some, bOf, if_true, Bool.true_or]
theorem ev_not {a : E} {x : Bool} (e1 : ev C a σ h = some (.p (.bool x), h1)) : ev C (.not a) σ h = some (.p (.bool (!x)), h1) := by simp only [ev, e1, Option.bind_some, bOf, Option.map_some]
theorem evB_ok {a : E} {x : Bool} (e1 : ev C a σ h = some (.p (.bool x), h1)) : evB C a σ h = some (x, h1) := by simp only [evB, e1, Option.bind_some, bOf, Option.map_some]
theorem evc_ok {a : E} {x : Bool} (e1 : ev C a σ h = some (.p (.bool x), h1)) : evc C (some a) σ h = some (x, h1) := by simp only [evc, e1, Option.bind_some, bOf, Option.map_some]
theorem ret_ok {fu : Nat} {e : E} {v : D} (e0 : ev C e σ h = some (v, h1)) : ex C fu (.ret e) σ h = some (.rt v h1) := by simp only [ex, e0, Option.map_some]
theorem setN_ok {fu i : Nat} {e : E} {xs : List P} (hf : fresh e = true) (e0 : ev C e σ h = some (.p (.list xs), h1)) : ex C fu (.setN i e) σ h = some (.nx (σ.set i (some (.ref h1.length))) (h1 ++ [.lst xs])) := by simp only [ex, hf, e0, Option.bind_some, own1, Option.map_some, if_true]
/-- a comprehension without effects -/
theorem ev_lc {own : List Nat} {e : E} {t : Tg} {it : It} {c : Option E} {xs : List P} (g : P → Option P) (e1 : evi C it σ h = some (xs, none, h1)) (hl : xs.length ≤ lim)
    (H : ∀ x ∈ xs, ∃ σ1, tgD t x (wipeD σ own) = some σ1 ∧ ((evc C c σ1 h1 = some (false, h1) ∧ g x = none) ∨ (evc C c σ1 h1 = some (true, h1) ∧ ∃ y, ev C e σ1 h1 = some (.p y, h1) ∧ g x = some y))) :
    ev C (.lc own e t it c) σ h = some (.p (.list (xs.filterMap g)), h1) := by
  simp only [ev, e1, Option.bind_some, hl, true_or, and_self, if_true]
  rw [lcGo_map (g := g)]
  · rfl
  · intro x hx
    obtain ⟨σ1, f1, f⟩ := H x hx
    rcases f with ⟨f2, f3⟩ | ⟨f2, y, f3, f4⟩
    · simp only [f1, Option.bind_some, f2, f3, Bool.false_eq_true, if_false]
    · simp only [f1, Option.bind_some, f2, f3, f4, if_true, wp, Option.map_some]
/-- the same, over a cell -/
theorem ev_lcR {own : List Nat} {e : E} {t : Tg} {it : It} {c : Option E} {xs : List P} {n : Nat} (hq : (quiet e && quietO c) = true) (g : P → Option P) (e1 : evi C it σ h = some (xs, some n, h1)) (hl : xs.length ≤ lim)
    (H : ∀ x ∈ xs, ∃ σ1, tgD t x (wipeD σ own) = some σ1 ∧ ((evc C c σ1 h1 = some (false, h1) ∧ g x = none) ∨ (evc C c σ1 h1 = some (true, h1) ∧ ∃ y, ev C e σ1 h1 = some (.p y, h1) ∧ g x = some y))) :
    ev C (.lc own e t it c) σ h = some (.p (.list (xs.filterMap g)), h1) := by
  simp only [ev, e1, Option.bind_some, hl, hq, or_true, and_self, if_true]
  rw [lcGo_map (g := g)]
  · rfl
  · intro x hx
    obtain ⟨σ1, f1, f⟩ := H x hx
    rcases f with ⟨f2, f3⟩ | ⟨f2, y, f3, f4⟩
    · simp only [f1, Option.bind_some, f2, f3, Bool.false_eq_true, if_false]
    · simp only [f1, Option.bind_some, f2, f3, f4, if_true, wp, Option.map_some]
end
/-- an entry as an arrow -/
def kt (q : List Int × P) : Ar := match q with
  | ([x, y], .int v) => (x, y, v)
  | _ => (0, 0, 0)
def a3 (q : Ar) : List Int := [q.1, q.2.1, q.2.2]
def b3 : List Int → Ar
  | [x, y, v] => (x, y, v)
  | _ => (0, 0, 0)
theorem tri_a3 (q : Ar) : tri q = .tuple ((a3 q).map .int) := rfl
theorem b3_a3 (q : Ar) : b3 (a3 q) = q := rfl
theorem intsP_map (ns : List Int) : intsP (ns.map .int) = some ns := by
  induction ns with
  | nil => rfl
  | cons i r ih => simp [intsP, ih]
theorem tuples_tri : ∀ ar : List Ar, tuples (ar.map tri) = some (ar.map a3)
  | [] => rfl
  | q :: r => by
    have : intsP [PyData.int q.1, PyData.int q.2.1, PyData.int q.2.2] = some (a3 q) := intsP_map (a3 q)
    simp [tuples, tri, this, tuples_tri r]
theorem sortT_perm (xs : List (List Int)) : (sortT xs).Perm xs := List.mergeSort_perm _ _
theorem fm_congr {α β : Type} {f g : α → Option β} : ∀ {xs : List α}, (∀ x ∈ xs, f x = g x) → xs.filterMap f = xs.filterMap g
  | [], _ => rfl
  | x :: xs, H => by
    rw [List.filterMap_cons, List.filterMap_cons, H x List.mem_cons_self, fm_congr fun y hy => H y (List.mem_cons_of_mem _ hy)]
theorem nd_of_map {α β : Type} {f : α → β} {xs : List α} (h : (xs.map f).Nodup) : xs.Nodup := (List.pairwise_map.mp h).imp fun hne e => hne (by rw [e])
/-- the arrows in their order -/
def sortA (ar : List Ar) : List Ar := (sortT (ar.map a3)).map b3
theorem sortA_perm (ar : List Ar) : (sortA ar).Perm ar := by
  have h := (sortT_perm (ar.map a3)).map b3
  unfold sortA
  refine h.trans ?_
  rw [List.map_map]
  have : (b3 ∘ a3) = id := by funext q; exact b3_a3 q
  rw [this, List.map_id]
theorem sortA_tri (ar : List Ar) : (sortT (ar.map a3)).map (fun ns => PyData.tuple (ns.map .int)) = (sortA ar).map tri := by
  unfold sortA
  rw [List.map_map]
  refine List.map_congr_left fun l hl => ?_
  have hp := sortT_perm (ar.map a3)
  obtain ⟨q, _, e⟩ := List.mem_map.mp (hp.mem_iff.mp hl)
  subst e
  simp only [Function.comp, b3_a3, tri_a3]
theorem sorted_ok {h : Hv} {ar : List Ar} (nd : ar.Nodup) (hl : ar.length < 64) : biD .sorted h [.p (.list (ar.map tri))] = some (.p (.list ((sortA ar).map tri))) := by
  cases ar with
  | nil =>
    have : sortA [] = [] := List.Perm.nil_eq (sortA_perm []).symm |>.symm
    rw [this]
    simp [biD, sq, intsP]
  | cons q r =>
    have e1 : intsP (tri q :: r.map tri) = none := rfl
    have e2 : tuples (tri q :: r.map tri) = some ((q :: r).map a3) := tuples_tri (q :: r)
    have n2 : ((q :: r).map a3).Nodup := by
      refine List.Pairwise.map a3 (fun a b hab e => hab ?_) nd
      rw [← b3_a3 a, ← b3_a3 b, e]
    have l2 : ((q :: r).map a3).length < 64 := by simpa using hl
    have e3 : (((q :: r).map a3).all fun ns => !ns.isEmpty) = true := by
      rw [List.all_eq_true]
      intro l hl
      obtain ⟨q, _, e⟩ := List.mem_map.mp hl
      subst e; rfl
    simp only [biD, sq, List.map_cons, Option.bind_some, e1, e2]
    simp only [List.map_cons] at n2 l2 e3
    have := sortA_tri (q :: r)
    simp only [List.map_cons] at this
    simp only [List.map_cons, n2, l2, e3, and_self, if_true, this]
section
variable {fu d n : Nat} {h : Hv} {b most many way size : Int}
theorem wb7_ok (hm : 1 ≤ many) {σ : Sv} {hh : Hv} (I : WInv h n b most many way size 25 σ hh) : ∃ ar a c kvs, AOk many ar ∧ ex (run fds fu (d + 2)) fu wb7 σ hh = some (.rt (.p (webP many ar)) (wh h n a b c kvs)) := by
  obtain ⟨t, p, o, q, a, c, kvs, rfl, rfl, K, kl⟩ := I
  have hd := wh_dct (h := h) (n := n) (b := b) a c kvs
  have hdct : dctD (wh h n a b c kvs) (.ref h.length) = some (h.length, kvs) := by simp only [dctD, hd]
  have hkt : ∀ q ∈ kvs, q = ([(kt q).1, (kt q).2.1], .int (kt q).2.2) ∧ 0 ≤ (kt q).1 ∧ (kt q).1 < many ∧ 0 ≤ (kt q).2.1 ∧ (kt q).2.1 < many := by
    intro q hq
    obtain ⟨x, y, v, e, r⟩ := K.mem q hq
    subst e
    exact ⟨rfl, r⟩
  have hnd : ((kvs.map kt).map fun q => (q.1, q.2.1)).Nodup := by
    rw [List.map_map]
    have h1 : (kvs.map fun q => q.1).Pairwise (· ≠ ·) := K.nd
    rw [List.pairwise_map] at h1
    refine List.pairwise_map.mpr (List.Pairwise.imp_of_mem ?_ h1)
    intro q q' hq hq' hne e
    apply hne
    have e1 := (hkt q hq).1
    have e2 := (hkt q' hq').1
    simp only [Function.comp, Prod.mk.injEq] at e
    rw [e1, e2, e.1, e.2]
  have hP := sortA_perm (kvs.map kt)
  refine ⟨sortA (kvs.map kt), a, c, kvs, ⟨?_, ?_, ?_⟩, ?_⟩
  · intro q hq
    obtain ⟨q0, hq0, e⟩ := List.mem_map.mp (hP.mem_iff.mp hq)
    subst e
    exact (hkt q0 hq0).2
  · exact (hP.map _).nodup_iff.mpr hnd
  · rw [hP.length_eq]; simpa using kl
  · have hl : (ev (run fds fu (d + 2)) (.lc [8, 9] (.tup [(.var 8), (.var 9), (.dget (.var 5) (.tup [(.var 8), (.var 9)]))]) (.tup [8, 9]) (.seq (.bi .listOf [(.var 5)])) none) (wσ n h most many way size t p o q) (wh h n a b c kvs)) = some (.p (.list ((kvs.map kt).map tri)), wh h n a b c kvs) := by
      have e1 : evi (run fds fu (d + 2)) (.seq (.bi .listOf [(.var 5)])) (wσ n h most many way size t p o q) (wh h n a b c kvs) = some (kvs.map fun q => .tuple (q.1.map .int), none, wh h n a b c kvs) := by
        simp only [evi, ev, evs, List.getElem?_cons_zero, List.getElem?_cons_succ, Option.bind_some, Option.map_some, biD, hd]
      have hlen : (kvs.map fun q => PyData.tuple (q.1.map .int)).length ≤ lim := by
        simp only [List.length_map]; unfold lim; omega
      simp only [ev, e1, Option.bind_some, hlen, true_or, and_self, if_true, true_and]
      rw [lcGo_map (g := fun x => match x with | .tuple [.int x, .int y] => (getK kvs [x, y]).map fun v => .tuple [.int x, .int y, v] | _ => none)]
      · simp only [Option.map_some, Option.some.injEq, Prod.mk.injEq, and_true, D.p.injEq, PyData.list.injEq]
        rw [List.filterMap_map, List.map_map]
        rw [show kvs.map (tri ∘ kt) = kvs.filterMap (fun q => some (tri (kt q))) from (congrFun List.filterMap_eq_map kvs).symm]
        refine fm_congr fun q hq => ?_
        have e := (hkt q hq).1
        have g := K.get hq
        have : q.1.map PyData.int = [.int (kt q).1, .int (kt q).2.1] := by rw [e]; rfl
        have g' : getK kvs [(kt q).1, (kt q).2.1] = some (.int (kt q).2.2) := by
          have e1 : q.1 = [(kt q).1, (kt q).2.1] := by rw [e]; rfl
          have e2 : q.2 = .int (kt q).2.2 := by rw [e]; rfl
          rw [← e1, ← e2]; exact g
        simp only [Function.comp, this, g', Option.map_some, tri]
      · intro x hx
        obtain ⟨q0, hq, rfl⟩ := List.mem_map.mp hx
        have e := (hkt q0 hq).1
        have g := K.get hq
        have : q0.1.map PyData.int = [.int (kt q0).1, .int (kt q0).2.1] := by rw [e]; rfl
        have g' : getK kvs [(kt q0).1, (kt q0).2.1] = some (.int (kt q0).2.2) := by
          have e1 : q0.1 = [(kt q0).1, (kt q0).2.1] := by rw [e]; rfl
          have e2 : q0.2 = .int (kt q0).2.2 := by rw [e]; rfl
          rw [← e1, ← e2]; exact g
        have hm2 : List.mapM wp [D.p (PyData.int (kt q0).1), D.p (PyData.int (kt q0).2.1)] = some [.int (kt q0).1, .int (kt q0).2.1] := by simp [wp]
        have hT : mkT [PyData.int (kt q0).1, .int (kt q0).2.1] = some (.p (.tuple [.int (kt q0).1, .int (kt q0).2.1])) := by simp [mkT, lim]
        have hK : keyI (.p (.tuple [.int (kt q0).1, .int (kt q0).2.1])) = some [(kt q0).1, (kt q0).2.1] := by simp [keyI, intsP]
        have hm3 : List.mapM wp [D.p (PyData.int (kt q0).1), D.p (PyData.int (kt q0).2.1), D.p (PyData.int (kt q0).2.2)] = some [.int (kt q0).1, .int (kt q0).2.1, .int (kt q0).2.2] := by simp [wp]
        have hT3 : mkT [PyData.int (kt q0).1, .int (kt q0).2.1, .int (kt q0).2.2] = some (.p (.tuple [.int (kt q0).1, .int (kt q0).2.1, .int (kt q0).2.2])) := by simp [mkT, lim]
        simp only [this, tgD, setAll, wipeD, wσ, List.set_cons_zero, List.set_cons_succ, Option.bind_some, evc, if_true, evs, ev, List.getElem?_cons_zero, List.getElem?_cons_succ, Option.map_some, hm2, hT, hdct, hK, g', hm3, hT3, wp]
    have hs := sorted_ok (h := wh h n a b c kvs) (ar := kvs.map kt) (nd_of_map hnd) (by simp; omega)
    have hm2 : List.mapM wp [D.p (PyData.int many), D.p (PyData.tuple ((sortA (kvs.map kt)).map tri))] = some [.int many, .tuple ((sortA (kvs.map kt)).map tri)] := by simp [wp]
    have hT : mkT [PyData.int many, .tuple ((sortA (kvs.map kt)).map tri)] = some (.p (.tuple [.int many, .tuple ((sortA (kvs.map kt)).map tri)])) := by simp [mkT, lim]
    have f1 := ev_bi1 hl hs
    have f2 := ev_bi1 (b := .tupleOf) (r := .p (.tuple ((sortA (kvs.map kt)).map tri))) f1 rfl
    have f3 : evs (run fds fu (d + 2)) [(.var 2), (.bi .tupleOf [(.bi .sorted [(.lc [8, 9] (.tup [(.var 8), (.var 9), (.dget (.var 5) (.tup [(.var 8), (.var 9)]))]) (.tup [8, 9]) (.seq (.bi .listOf [(.var 5)])) none)])])] (wσ n h most many way size t p o q) (wh h n a b c kvs) = some ([.p (.int many), .p (.tuple ((sortA (kvs.map kt)).map tri))], wh h n a b c kvs) := evs_cons (ev_var rfl) (evs_cons f2 evs_nil)
    exact ret_ok (ev_tup f3 hm2 hT)
theorem web_by_ok {a c : Int} (hn : h[n]? = some (pen a b c)) : ∃ many ar a' c', 1 ≤ many ∧ many ≤ 8 ∧ AOk many ar ∧ run fds fu (d + 3) 6 [.ref n, .p (.int 8)] h = some (.p (webP many ar), h.set n (pen a' b c')) := by
  have hl : n < h.length := (List.getElem?_eq_some_iff.mp hn).1
  have hs : ∀ c : Cell, (h.set n c)[n]? = some c := fun c => List.getElem?_set_self hl
  have hl' : ∀ c : Cell, n < (h.set n c).length := fun c => by simpa using hl
  obtain ⟨v1, a1, c1, p1, q1, e1⟩ := draw_ok (fu := fu) (d := d) hn (m := 8) (by omega) (by omega)
  obtain ⟨v2, a2, c2, p2, q2, e2⟩ := draw_ok (fu := fu) (d := d) (hs (pen a1 b c1)) (m := 4) (by omega) (by omega)
  rw [List.set_set] at e2
  obtain ⟨v3, a3', c3, p3, q3, e3⟩ := draw_ok (fu := fu) (d := d) (hs (pen a2 b c2)) (m := 4) (by omega) (by omega)
  rw [List.set_set] at e3
  obtain ⟨size, z1, z2, z3⟩ : ∃ size : Int, 0 < size ∧ size ≤ 10 ^ 30 ∧ idxD (h.set n (pen a3' b c3)) (.p (.list [.int 2, .int 7, .int 40, .int (10 ^ 30)])) (.p (.int v3)) = some (.p (.int size)) := by
    have : v3 = 0 ∨ v3 = 1 ∨ v3 = 2 ∨ v3 = 3 := by omega
    rcases this with e | e | e | e <;> subst e
    · exact ⟨2, by omega, by omega, rfl⟩
    · exact ⟨7, by omega, by omega, rfl⟩
    · exact ⟨40, by omega, by omega, rfl⟩
    · exact ⟨10 ^ 30, by omega, by omega, rfl⟩
  have I0 : WInv h n b 8 (1 + v1) v2 size 0 (wσ n h 8 (1 + v1) v2 size none none none none) (wh h n a3' b c3 []) := ⟨none, none, none, none, a3', c3, [], rfl, rfl, ⟨by simp, by simp⟩, by simp⟩
  obtain ⟨σ4, h4, f4, I4⟩ := wb4_ok (fu := fu) (d := d) hl (by omega) (by omega) z1 z2 I0
  obtain ⟨σ5, h5, f5, I5⟩ := wb5_ok (fu := fu) (d := d) hl (by omega) (by omega) z1 z2 I4
  obtain ⟨σ6, h6, f6, I6⟩ := wb6_ok (fu := fu) (d := d) (by omega) I5
  obtain ⟨ar, a7, c7, kvs, A, f7⟩ := wb7_ok (fu := fu) (d := d) (by omega) I6
  refine ⟨1 + v1, ar, a7, c7, by omega, by omega, A, ?_⟩
  rw [run_at (fd := ⟨2, 10, b__law_web_by⟩) rfl rfl]
  have g1 : ex (run fds fu (d + 2)) fu (.set 2 (.op .add (.int 1) (.call 5 false [(.var 0), (.var 1)]))) [some (.ref n), some (.p (.int 8)), none, none, none, none, none, none, none, none] h = some (.nx [some (.ref n), some (.p (.int 8)), some (.p (.int (1 + v1))), none, none, none, none, none, none, none] (h.set n (pen a1 b c1))) := by
    simp [ex, ev, evs, e1, opD, opI]
  have g2 : ex (run fds fu (d + 2)) fu (.set 3 (.call 5 false [(.var 0), (.int 4)])) [some (.ref n), some (.p (.int 8)), some (.p (.int (1 + v1))), none, none, none, none, none, none, none] (h.set n (pen a1 b c1)) = some (.nx [some (.ref n), some (.p (.int 8)), some (.p (.int (1 + v1))), some (.p (.int v2)), none, none, none, none, none, none] (h.set n (pen a2 b c2))) := by
    simp [ex, ev, evs, e2]
  have hL : ev (run fds fu (d + 2)) (.lst [(.int 2), (.int 7), (.int 40), (.op .pow (.int 10) (.int 30))]) [some (.ref n), some (.p (.int 8)), some (.p (.int (1 + v1))), some (.p (.int v2)), none, none, none, none, none, none] (h.set n (pen a2 b c2)) = some (.p (.list [.int 2, .int 7, .int 40, .int (10 ^ 30)]), h.set n (pen a2 b c2)) := by
    simp [ev, evs, opD, opI, wp, mkL, lim]
  have g3 : ex (run fds fu (d + 2)) fu (.set 4 (.idx (.lst [(.int 2), (.int 7), (.int 40), (.op .pow (.int 10) (.int 30))]) (.call 5 false [(.var 0), (.int 4)]))) [some (.ref n), some (.p (.int 8)), some (.p (.int (1 + v1))), some (.p (.int v2)), none, none, none, none, none, none] (h.set n (pen a2 b c2)) = some (.nx [some (.ref n), some (.p (.int 8)), some (.p (.int (1 + v1))), some (.p (.int v2)), some (.p (.int size)), none, none, none, none, none] (h.set n (pen a3' b c3))) := by
    have hC : ev (run fds fu (d + 2)) (.call 5 false [(.var 0), (.int 4)]) [some (.ref n), some (.p (.int 8)), some (.p (.int (1 + v1))), some (.p (.int v2)), none, none, none, none, none, none] (h.set n (pen a2 b c2)) = some (.p (.int v3), h.set n (pen a3' b c3)) := by
      simp [ev, evs, e3]
    refine set_ok (v := .p (.int size)) ?_
    rw [ev, hL, Option.bind_some]
    show ((ev (run fds fu (d + 2)) (.call 5 false [(.var 0), (.int 4)]) _ (h.set n (pen a2 b c2))).bind _) = _
    rw [hC, Option.bind_some]
    show (Option.map _ (idxD (h.set n (pen a3' b c3)) _ (.p (.int v3)))) = _
    rw [z3]; rfl
  have g4 : ex (run fds fu (d + 2)) fu (.dnew 5) [some (.ref n), some (.p (.int 8)), some (.p (.int (1 + v1))), some (.p (.int v2)), some (.p (.int size)), none, none, none, none, none] (h.set n (pen a3' b c3)) = some (.nx (wσ n h 8 (1 + v1) v2 size none none none none) (wh h n a3' b c3 [])) := by
    simp [ex]
  show (exs (run fds fu (d + 2)) fu kb [some (.ref n), some (.p (.int 8)), none, none, none, none, none, none, none, none] h).bind _ = _
  rw [kb_eq, exs_nx g1, exs_nx g2, exs_nx g3, exs_nx g4, exs_nx f4, exs_nx f5, exs_nx f6, exs_rt f7]
  simp only [Option.bind_some, finish]
  unfold wh
  rw [List.take_append_of_le_length (by simp), take_set]
end
end Lw

end
section
namespace Lw
open Ev
open PySem (PyData Str)
set_option autoImplicit false
abbrev nts (R : List Int) : List P := R.map .int
theorem eqvAll_ints : ∀ (a b : List Int), PyData.eqvAll (nts a) (nts b) = decide (a = b)
  | [], [] => by simp [PyData.eqvAll]
  | [], y :: b => by simp [PyData.eqvAll]
  | x :: a, [] => by simp [PyData.eqvAll]
  | x :: a, y :: b => by
    have := eqvAll_ints a b
    simp only [nts] at this
    simp only [nts, List.map_cons, PyData.eqvAll, eqv_int, this]
    by_cases h1 : x = y <;> by_cases h2 : a = b <;> simp [h1, h2]
theorem eqv_tup (a b : List Int) : PyData.eqv (.tuple (nts a)) (.tuple (nts b)) = decide (a = b) := by
  rw [PyData.eqv, eqvAll_ints]
theorem eqvAll_tups : ∀ (a : List (List Int)), PyData.eqvAll (a.map fun l => .tuple (nts l)) (a.map fun l => .tuple (nts l)) = true
  | [] => by simp [PyData.eqvAll]
  | x :: a => by
    have := eqvAll_tups a
    simp only [List.map_cons, PyData.eqvAll, eqv_tup, this, decide_true, Bool.and_self]
theorem lay_ints : ∀ a : List Int, PyData.canLayAll0 (nts a) = true
  | [] => by simp [PyData.canLayAll0]
  | x :: a => by
    have := lay_ints a
    simp only [nts] at this
    simp only [nts, List.map_cons, PyData.canLayAll0, this, PyData.canLay0, Bool.and_self]
theorem dep_ints : ∀ a : List Int, PyData.depthAll (nts a) = 0
  | [] => by simp [PyData.depthAll]
  | x :: a => by
    have := dep_ints a
    simp only [nts] at this
    simp [nts, PyData.depthAll, this, PyData.depth]
theorem sh_tup (a : List Int) : PySem.SeqAt.shaped (.tuple (nts a)) = true := by
  unfold PySem.SeqAt.shaped
  rw [PyData.canLay0, lay_ints, PyData.depth, dep_ints]; rfl
theorem sh_list (a : List Int) : PySem.SeqAt.shaped (.list (nts a)) = true := by
  unfold PySem.SeqAt.shaped
  rw [PyData.canLay0, lay_ints, PyData.depth, dep_ints]; rfl
theorem lay_tups : ∀ a : List (List Int), PyData.canLayAll0 (a.map fun l => .tuple (nts l)) = true
  | [] => by simp [PyData.canLayAll0]
  | x :: a => by
    have := lay_tups a
    simp only [List.map_cons, PyData.canLayAll0, this, PyData.canLay0, lay_ints, Bool.and_self]
theorem dep_tups : ∀ a : List (List Int), PyData.depthAll (a.map fun l => .tuple (nts l)) ≤ 1
  | [] => by simp [PyData.depthAll]
  | x :: a => by
    have := dep_tups a
    simp only [List.map_cons, PyData.depthAll, PyData.depth, dep_ints]
    omega
theorem sh_tups (a : List (List Int)) : PySem.SeqAt.shaped (.list (a.map fun l => .tuple (nts l))) = true := by
  unfold PySem.SeqAt.shaped
  rw [PyData.canLay0, lay_tups, PyData.depth, Bool.true_and]
  exact decide_eq_true (by have := dep_tups a; omega)
theorem sh_all (a : List Int) : (nts a).all PySem.SeqAt.shaped = true := by
  rw [List.all_eq_true]; intro x hx
  obtain ⟨i, _, rfl⟩ := List.mem_map.mp hx
  exact sh_int i
theorem sh_allT (a : List (List Int)) : (a.map fun l => PyData.tuple (nts l)).all PySem.SeqAt.shaped = true := by
  rw [List.all_eq_true]; intro x hx
  obtain ⟨i, _, rfl⟩ := List.mem_map.mp hx
  exact sh_tup i
theorem any_ints (a : List Int) (x : Int) : ((nts a).any fun y => y.eqv (.int x)) = decide (x ∈ a) := by
  rw [Bool.eq_iff_iff, List.any_eq_true, decide_eq_true_iff]
  constructor
  · rintro ⟨y, hy, e⟩
    obtain ⟨i, hi, rfl⟩ := List.mem_map.mp hy
    rw [eqv_int] at e
    have : i = x := by simpa using e
    exact this ▸ hi
  · intro h
    exact ⟨.int x, List.mem_map.mpr ⟨x, h, rfl⟩, by rw [eqv_int]; simp⟩
theorem any_tups (a : List (List Int)) (x : List Int) : ((a.map fun l => PyData.tuple (nts l)).any fun y => y.eqv (.tuple (nts x))) = decide (x ∈ a) := by
  rw [Bool.eq_iff_iff, List.any_eq_true, decide_eq_true_iff]
  constructor
  · rintro ⟨y, hy, e⟩
    obtain ⟨i, hi, rfl⟩ := List.mem_map.mp hy
    rw [eqv_tup] at e
    have : i = x := by simpa using e
    exact this ▸ hi
  · intro h
    exact ⟨.tuple (nts x), List.mem_map.mpr ⟨x, h, rfl⟩, by rw [eqv_tup]; simp⟩
theorem cmp_isin {h : Hv} {b : D} {R : List Int} {x : Int} (e : sq2 h b = some (nts R)) : cmpD .isin h (.p (.int x)) b = some (decide (x ∈ R)) := by
  simp only [cmpD, e, Option.bind_some, sh_int, sh_all, Bool.and_self, if_true, any_ints]
theorem cmp_notin {h : Hv} {b : D} {R : List Int} {x : Int} (e : sq2 h b = some (nts R)) : cmpD .notin h (.p (.int x)) b = some (!decide (x ∈ R)) := by
  simp only [cmpD, e, Option.bind_some, sh_int, sh_all, Bool.and_self, if_true, any_ints]
theorem cmp_notinT {h : Hv} {b : D} {R : List (List Int)} {x : List Int} (e : sq2 h b = some (R.map fun l => .tuple (nts l))) : cmpD .notin h (.p (.tuple (nts x))) b = some (!decide (x ∈ R)) := by
  simp only [cmpD, e, Option.bind_some, sh_tup, sh_allT, Bool.and_self, if_true, any_tups]
/-! ### ways -/
inductive Rc (ar : List Ar) : Int → Int → Prop
  | refl (x : Int) : Rc ar x x
  | head {x y z w : Int} : (x, y, w) ∈ ar → Rc ar y z → Rc ar x z
theorem Rc.trans {ar : List Ar} {x y z : Int} (h : Rc ar x y) (k : Rc ar y z) : Rc ar x z := by
  induction h with
  | refl x => exact k
  | head e _ ih => exact .head e (ih k)
theorem Rc.one {ar : List Ar} {x y w : Int} (h : (x, y, w) ∈ ar) : Rc ar x y := .head h (.refl _)
/-- so many at most -/
theorem pig : ∀ (n : Nat) (R : List Int), R.Nodup → (∀ x ∈ R, 0 ≤ x ∧ x < n) → R.length ≤ n
  | 0, R, _, h => by
    cases R with
    | nil => simp
    | cons x R => have := h x List.mem_cons_self; omega
  | n + 1, R, nd, h => by
    have h1 := pig n (R.erase n) (nd.erase _) fun x hx => by
      have := (List.Nodup.mem_erase_iff nd).mp hx
      have h2 := h x this.2
      have h3 : x ≠ n := this.1
      omega
    rw [List.length_erase] at h1
    split at h1 <;> omega
/-- rising lists with the same members -/
theorem rise_ext : ∀ {a b : List Int}, a.Pairwise (· < ·) → b.Pairwise (· < ·) → (∀ x, x ∈ a ↔ x ∈ b) → a = b
  | [], [], _, _, _ => rfl
  | [], y :: b, _, _, h => absurd ((h y).mpr List.mem_cons_self) (by simp)
  | x :: a, [], _, _, h => absurd ((h x).mp List.mem_cons_self) (by simp)
  | x :: a, y :: b, ha, hb, h => by
    obtain ⟨a1, a2⟩ := List.pairwise_cons.mp ha
    obtain ⟨b1, b2⟩ := List.pairwise_cons.mp hb
    have e : x = y := by
      rcases List.mem_cons.mp ((h x).mp List.mem_cons_self) with e | e
      · exact e
      · rcases List.mem_cons.mp ((h y).mpr List.mem_cons_self) with e' | e'
        · exact e'.symm
        · have := b1 x e; have := a1 y e'; omega
    subst e
    congr 1
    refine rise_ext a2 b2 fun z => ?_
    constructor
    · intro hz
      rcases List.mem_cons.mp ((h z).mp (List.mem_cons_of_mem _ hz)) with e | e
      · have := a1 z hz; omega
      · exact e
    · intro hz
      rcases List.mem_cons.mp ((h z).mpr (List.mem_cons_of_mem _ hz)) with e | e
      · have := b1 z hz; omega
      · exact e
def rg (m : Int) : List Int := (List.range m.toNat).map fun (i : Nat) => (i : Int)
theorem rg_mem {m x : Int} : x ∈ rg m ↔ 0 ≤ x ∧ x < m := by
  unfold rg
  simp only [List.mem_map, List.mem_range]
  constructor
  · rintro ⟨i, h, rfl⟩; omega
  · intro h; exact ⟨x.toNat, by omega, by omega⟩
theorem rg_rise (m : Int) : (rg m).Pairwise (· < ·) := by
  unfold rg
  rw [List.pairwise_map]
  exact List.pairwise_lt_range.imp fun h => by omega
theorem rngL_eq (m : Int) : rngL 0 m = nts (rg m) := by
  unfold rngL nts rg
  rw [List.map_map]
  simp
theorem rg_len (m : Int) : (rg m).length = m.toNat := by simp [rg]
theorem rg_get {m x : Int} (h0 : 0 ≤ x) (h1 : x < m) : (rg m)[x.toNat]? = some x := by
  unfold rg
  rw [List.getElem?_map, List.getElem?_range (by omega)]
  simp; omega
theorem atI_rg {α : Type} {m x : Int} {f : Int → α} (h0 : 0 ≤ x) (h1 : x < m) : L2.atI ((rg m).map f) x = some (f x) := by
  have := L2.atI_nat (xs := (rg m).map f) (j := x.toNat) (v := f x) (by rw [List.getElem?_map, rg_get h0 h1]; rfl)
  rw [show ((x.toNat : Nat) : Int) = x by omega] at this
  exact this
end Lw

end
section
namespace Lw
open Ev
open PySem (PyData Str)
set_option autoImplicit false
section
variable {C : Ca} {fu : Nat} {σ : Sv} {h h1 : Hv}
theorem ext_ok {o e : E} {n : Nat} {xs ys : List P} (e1 : ev C o σ h = some (.ref n, h)) (hn : h[n]? = some (.lst xs)) (e2 : ev C e σ h = some (.p (.list ys), h)) (hl : xs.length + ys.length ≤ lim) : ex C fu (.ext o e) σ h = some (.nx σ (h.set n (.lst (xs ++ ys)))) := by
  have : lstD h (.ref n) = some (n, xs) := by simp only [lstD, hn]
  simp only [ex, e1, e2, this, hl, Option.bind_some, if_true]
theorem app_ok {o e : E} {n : Nat} {xs : List P} {y : P} (e1 : ev C o σ h = some (.ref n, h)) (hn : h[n]? = some (.lst xs)) (e2 : ev C e σ h = some (.p y, h)) (hl : xs.length < lim) : ex C fu (.app o e) σ h = some (.nx σ (h.set n (.lst (xs ++ [y])))) := by
  have : lstD h (.ref n) = some (n, xs) := by simp only [lstD, hn]
  simp only [ex, e1, e2, this, hl, Option.bind_some, if_true, wp]
theorem last_get (h : Hv) (c : Cell) : (h ++ [c])[h.length]? = some c := by simp
theorem last_set (h : Hv) (c c' : Cell) : (h ++ [c]).set h.length c' = h ++ [c'] := by
  rw [List.set_append_right _ _ (Nat.le_refl _)]; simp
theorem fin_last (h : Hv) (c : Cell) : finish h.length (.rt (.ref h.length) (h ++ [c])) = some (.ref h.length, h ++ [c]) := by
  simp [finish]
end
theorem wh_inv {t : Sv → Hv → Option (Bool × Hv)} {f : Sv → Hv → Option Out} (Inv : Nat → Sv → Hv → Prop) (Post : Sv → Hv → Prop)
    (st : ∀ m σ h, Inv m σ h → (∃ h1, t σ h = some (false, h1) ∧ Post σ h1) ∨ (∃ h1 σ2 h2 m', t σ h = some (true, h1) ∧ f σ h1 = some (.nx σ2 h2) ∧ m' < m ∧ Inv m' σ2 h2)) :
    ∀ fu m σ h, Inv m σ h → m < fu → ∃ σ' h', whGo t f fu σ h = some (.nx σ' h') ∧ Post σ' h'
  | 0, m, _, _, _, hf => by omega
  | fu + 1, m, σ, h, hi, hf => by
    rcases st m σ h hi with ⟨h1, e, p⟩ | ⟨h1, σ2, h2, m', e1, e2, hm, hi2⟩
    · exact ⟨σ, h1, by simp only [whGo, e, Option.bind_some, Bool.false_eq_true, if_false], p⟩
    · obtain ⟨σ', h', e, p⟩ := wh_inv Inv Post st fu m' σ2 h2 hi2 (by omega)
      exact ⟨σ', h', by simp only [whGo, e1, e2, Option.bind_some, if_true]; exact e, p⟩
def news (ar : List Ar) (R : List Int) (x : Int) : List Int := (ar.filter fun q => decide (q.1 = x ∧ q.2.1 ∉ R)).map fun q => q.2.1
structure RI (ar : List Ar) (many pl : Int) (R : List Int) (k : Nat) : Prop where
  nd : R.Nodup
  mem : ∀ x ∈ R, 0 ≤ x ∧ x < many ∧ Rc ar pl x
  self : pl ∈ R
  le : k ≤ R.length
  cl : ∀ i x, i < k → R[i]? = some x → ∀ y w, (x, y, w) ∈ ar → y ∈ R
theorem news_mem {ar : List Ar} {R : List Int} {x y : Int} : y ∈ news ar R x ↔ (∃ w, (x, y, w) ∈ ar) ∧ y ∉ R := by
  unfold news
  simp only [List.mem_map, List.mem_filter, decide_eq_true_eq]
  constructor
  · rintro ⟨q, ⟨h1, h2, h3⟩, rfl⟩
    exact ⟨⟨q.2.2, by rw [← h2]; exact h1⟩, h3⟩
  · rintro ⟨⟨w, h1⟩, h2⟩
    exact ⟨(x, y, w), ⟨h1, rfl, h2⟩, rfl⟩
theorem news_nd {ar : List Ar} {many : Int} (A : AOk many ar) (R : List Int) (x : Int) : (news ar R x).Nodup := by
  unfold news
  have h1 := (List.pairwise_map.mp A.nd).filter fun q => decide (q.1 = x ∧ q.2.1 ∉ R)
  refine List.pairwise_map.mpr (List.Pairwise.imp_of_mem ?_ h1)
  intro a b ha hb hne e
  have h2 := (List.mem_filter.mp ha).2
  have h3 := (List.mem_filter.mp hb).2
  simp only [decide_eq_true_eq] at h2 h3
  exact hne (by rw [h2.1, h3.1, e])
theorem RI.step {ar : List Ar} {many pl : Int} {R : List Int} {k : Nat} {x : Int} (A : AOk many ar) (I : RI ar many pl R k) (hx : R[k]? = some x) : RI ar many pl (R ++ news ar R x) (k + 1) := by
  have hk : k < R.length := (List.getElem?_eq_some_iff.mp hx).1
  have hxR : x ∈ R := List.mem_of_getElem? hx
  refine ⟨?_, ?_, ?_, ?_, ?_⟩
  · refine List.nodup_append.mpr ⟨I.nd, news_nd A _ _, fun a ha b hb e => ?_⟩
    subst e
    exact (news_mem.mp hb).2 ha
  · intro y hy
    rcases List.mem_append.mp hy with hy | hy
    · exact I.mem y hy
    · obtain ⟨⟨w, hw⟩, _⟩ := news_mem.mp hy
      have := A.mem _ hw
      exact ⟨this.2.2.1, this.2.2.2, (I.mem x hxR).2.2.trans (.one hw)⟩
  · exact List.mem_append_left _ I.self
  · simp; omega
  · intro i z hi hz y w hw
    rw [List.getElem?_append_left (by omega)] at hz
    by_cases e : i = k
    · subst e
      rw [hx] at hz
      cases hz
      by_cases hy : y ∈ R
      · exact List.mem_append_left _ hy
      · exact List.mem_append_right _ (news_mem.mpr ⟨⟨w, hw⟩, hy⟩)
    · exact List.mem_append_left _ (I.cl i z (by omega) hz y w hw)
theorem RI.end {ar : List Ar} {many pl : Int} {R : List Int} (I : RI ar many pl R R.length) {x : Int} : x ∈ R ↔ Rc ar pl x := by
  refine ⟨fun h => (I.mem x h).2.2, fun h => ?_⟩
  have : ∀ a b, Rc ar a b → a ∈ R → b ∈ R := by
    intro a b r
    induction r with
    | refl x => exact id
    | head e _ ih =>
      intro ha
      obtain ⟨i, hi⟩ := List.mem_iff_getElem?.mp ha
      exact ih (I.cl i _ (List.getElem?_eq_some_iff.mp hi).1 hi _ _ e)
  exact this pl x h I.self
abbrev pσ (W : P) (pl k : Int) (m : Nat) (hr : Option D) : Sv := [some (.p W), some (.p (.int pl)), some (.ref m), some (.p (.int k)), hr, none, none, none]
section
variable {fu d : Nat} {h : Hv} {many pl : Int} {ar : List Ar}
theorem webP_1 {C : Ca} {σ : Sv} (e : σ[0]? = some (some (.p (webP many ar)))) : ev C (.idx (.var 0) (.int 1)) σ h = some (.p (.tuple (ar.map tri)), h) := by
  simp [ev, e, idxD, sq2, webP, L2.atI, L2.ixN]
theorem webP_0 {C : Ca} {σ : Sv} (e : σ[0]? = some (some (.p (webP many ar)))) : ev C (.idx (.var 0) (.int 0)) σ h = some (.p (.int many), h) := by
  simp [ev, e, idxD, sq2, webP, L2.atI, L2.ixN]
def gnew (R : List Int) (x : Int) : P → Option P
  | .tuple [.int a, .int b, .int _] => if a = x ∧ b ∉ R then some (.int b) else none
  | _ => none
theorem gnew_eq (R : List Int) (x : Int) : ∀ ar : List Ar, (ar.map tri).filterMap (gnew R x) = nts (news ar R x)
  | [] => rfl
  | q :: r => by
    have ih := gnew_eq R x r
    simp only [List.map_cons, List.filterMap_cons, news, List.filter_cons]
    by_cases hc : q.1 = x ∧ q.2.1 ∉ R
    · have : gnew R x (tri q) = some (.int q.2.1) := if_pos hc
      rw [this, ih]; simp [hc, news]
    · have : gnew R x (tri q) = none := if_neg hc
      rw [this, ih]; simp [hc, news]
theorem places_ok (A : AOk many ar) (hm8 : many ≤ 8) (h0 : 0 ≤ pl) (h1 : pl < many) (hfu : 9 ≤ fu) : ∃ R : List Int, R.Nodup ∧ (∀ x, x ∈ R ↔ Rc ar pl x) ∧ (∀ x ∈ R, 0 ≤ x ∧ x < many) ∧ run fds fu (d + 1) 0 [.p (webP many ar), .p (.int pl)] h = some (.ref h.length, h ++ [.lst (nts R)]) := by
  rw [run_at (fd := ⟨2, 8, b_places_reached⟩) rfl rfl]
  generalize run fds fu d = C
  have g1 : ex C fu (.setN 2 (.lst [(.var 1)])) [some (.p (webP many ar)), some (.p (.int pl)), none, none, none, none, none, none] h = some (.nx [some (.p (webP many ar)), some (.p (.int pl)), some (.ref h.length), none, none, none, none, none] (h ++ [.lst (nts [pl])])) := by
    simp [ex, ev, evs, fresh, wp, mkL, lim, own1]
  have g2 : ex C fu (.set 3 (.int 0)) [some (.p (webP many ar)), some (.p (.int pl)), some (.ref h.length), none, none, none, none, none] (h ++ [.lst (nts [pl])]) = some (.nx (pσ (webP many ar) pl 0 h.length none) (h ++ [.lst (nts [pl])])) := by
    simp [ex, ev]
  obtain ⟨σ', h', e, ⟨R, k, hr, e1, e2, I, hk⟩⟩ := wh_inv
    (t := evB C (.cmp .lt (.var 3) (.bi .len [(.var 2)])))
    (f := exs C fu [.set 4 (.idx (.var 2) (.var 3)), .ext (.var 2) (.lc [5, 6, 7] (.var 6) (.tup [5, 6, 7]) (.seq (.idx (.var 0) (.int 1))) (some (.and (.cmp .eq (.var 5) (.var 4)) (.cmp .notin (.var 6) (.var 2))))), .aug 3 .add (.int 1)])
    (fun m σ hh => ∃ (R : List Int) (k : Nat) (hr : Option D), σ = pσ (webP many ar) pl k h.length hr ∧ hh = h ++ [.lst (nts R)] ∧ RI ar many pl R k ∧ m = 8 - k)
    (fun σ hh => ∃ (R : List Int) (k : Nat) (hr : Option D), σ = pσ (webP many ar) pl k h.length hr ∧ hh = h ++ [.lst (nts R)] ∧ RI ar many pl R k ∧ k = R.length)
    (by
      rintro m σ hh ⟨R, k, hr, rfl, rfl, I, rfl⟩
      have hq : sq (h ++ [.lst (nts R)]) (.ref h.length) = some (nts R) := by simp only [sq, last_get]
      have hq2 : sq2 (h ++ [.lst (nts R)]) (.ref h.length) = some (nts R) := hq
      have hv : ev C (.var 2) (pσ (webP many ar) pl k h.length hr) (h ++ [.lst (nts R)]) = some (.ref h.length, h ++ [.lst (nts R)]) := ev_var rfl
      have hlen : ev C (.bi .len [(.var 2)]) (pσ (webP many ar) pl k h.length hr) (h ++ [.lst (nts R)]) = some (.p (.int R.length), h ++ [.lst (nts R)]) := by
        refine ev_bi1 hv ?_
        show Option.map _ (sq2 _ (.ref h.length)) = _
        rw [hq2]; simp
      have hb := evB_ok (ev_cmp (c := .lt) (ev_var (i := 3) (σ := pσ (webP many ar) pl k h.length hr) rfl) hlen (cmp_lt_int _ _ _))
      by_cases hk : k < R.length
      · right
        have hd : decide ((k : Int) < (R.length : Int)) = true := decide_eq_true (by omega)
        rw [hd] at hb
        obtain ⟨x, hx⟩ : ∃ x, R[k]? = some x := ⟨R[k], by simp [hk]⟩
        have I' := I.step A hx
        have hR := pig 8 _ I.nd fun x hx => by have := I.mem x hx; omega
        have hR' := pig 8 _ I'.nd fun x hx => by have := I'.mem x hx; omega
        have f1 : ex C fu (.set 4 (.idx (.var 2) (.var 3))) (pσ (webP many ar) pl k h.length hr) (h ++ [.lst (nts R)]) = some (.nx (pσ (webP many ar) pl k h.length (some (.p (.int x)))) (h ++ [.lst (nts R)])) := by
          refine set_ok (ev_idx hv (ev_var (i := 3) rfl) ?_)
          have : L2.atI (nts R) (k : Int) = some (.int x) := L2.atI_nat (by simp [hx])
          simp only [idxD, hq2, Option.bind_some, this, Option.map_some]
        have f2 : ev C (.lc [5, 6, 7] (.var 6) (.tup [5, 6, 7]) (.seq (.idx (.var 0) (.int 1))) (some (.and (.cmp .eq (.var 5) (.var 4)) (.cmp .notin (.var 6) (.var 2))))) (pσ (webP many ar) pl k h.length (some (.p (.int x)))) (h ++ [.lst (nts R)]) = some (.p (.list (nts (news ar R x))), h ++ [.lst (nts R)]) := by
          rw [← gnew_eq R x ar]
          refine ev_lc (gnew R x) ?_ ?_ ?_
          · rw [evi, webP_1 (many := many) (ar := ar) rfl]; rfl
          · have := A.len; simp only [List.length_map]; unfold lim; omega
          · intro t ht
            obtain ⟨q, hq0, rfl⟩ := List.mem_map.mp ht
            refine ⟨[some (.p (webP many ar)), some (.p (.int pl)), some (.ref h.length), some (.p (.int k)), some (.p (.int x)), some (.p (.int q.1)), some (.p (.int q.2.1)), some (.p (.int q.2.2))], rfl, ?_⟩
            have hc : evc C (some (.and (.cmp .eq (.var 5) (.var 4)) (.cmp .notin (.var 6) (.var 2)))) [some (.p (webP many ar)), some (.p (.int pl)), some (.ref h.length), some (.p (.int k)), some (.p (.int x)), some (.p (.int q.1)), some (.p (.int q.2.1)), some (.p (.int q.2.2))] (h ++ [.lst (nts R)]) = some ((q.1 == x) && !decide (q.2.1 ∈ R), h ++ [.lst (nts R)]) :=
              evc_ok (ev_and (ev_cmp (ev_var rfl) (ev_var rfl) (cmp_eq_int _ _ _)) fun _ => ev_cmp (ev_var rfl) (ev_var rfl) (cmp_notin hq2))
            by_cases hh : q.1 = x ∧ q.2.1 ∉ R
            · right
              refine ⟨?_, .int q.2.1, ev_var rfl, if_pos hh⟩
              rw [hc]; simp [hh.1, hh.2]
            · left
              refine ⟨?_, if_neg hh⟩
              rw [hc]
              have : ((q.1 == x) && !decide (q.2.1 ∈ R)) = false := by
                by_cases a : q.1 = x <;> by_cases b : q.2.1 ∈ R <;> simp_all
              rw [this]
        have f3 := ext_ok (fu := fu) (ev_var (C := C) (σ := pσ (webP many ar) pl k h.length (some (.p (.int x)))) (i := 2) rfl) (last_get h _) f2 (by
          rw [List.length_append] at hR'
          simp only [List.length_map]; unfold lim; omega)
        rw [last_set, ← List.map_append] at f3
        have f4 : ex C fu (.aug 3 .add (.int 1)) (pσ (webP many ar) pl k h.length (some (.p (.int x)))) (h ++ [.lst (nts (R ++ news ar R x))]) = some (.nx (pσ (webP many ar) pl ((k + 1 : Nat) : Int) h.length (some (.p (.int x)))) (h ++ [.lst (nts (R ++ news ar R x))])) := by
          simp [ex, ev, iOf]
        refine ⟨_, _, _, 8 - (k + 1), hb, ?_, by omega, R ++ news ar R x, k + 1, some (.p (.int x)), rfl, rfl, I', rfl⟩
        rw [exs_nx f1, exs_nx f3, exs_one f4]
      · left
        have hd : decide ((k : Int) < (R.length : Int)) = false := decide_eq_false (by omega)
        rw [hd] at hb
        exact ⟨_, hb, R, k, hr, rfl, rfl, I, by have := I.le; omega⟩)
    fu 8 _ _ ⟨[pl], 0, none, rfl, rfl, ⟨by simp, by simp; exact ⟨h0, h1, .refl _⟩, by simp, by simp, by simp⟩, rfl⟩ (by omega)
  subst e1 e2 hk
  refine ⟨R, I.nd, fun x => I.end, fun x hx => ⟨(I.mem x hx).1, (I.mem x hx).2.1⟩, ?_⟩
  show (exs C fu b_places_reached [some (.p (webP many ar)), some (.p (.int pl)), none, none, none, none, none, none] h).bind _ = _
  unfold b_places_reached
  have e' : ex C fu (.whl (.cmp .lt (.var 3) (.bi .len [(.var 2)])) [.set 4 (.idx (.var 2) (.var 3)), .ext (.var 2) (.lc [5, 6, 7] (.var 6) (.tup [5, 6, 7]) (.seq (.idx (.var 0) (.int 1))) (some (.and (.cmp .eq (.var 5) (.var 4)) (.cmp .notin (.var 6) (.var 2))))), .aug 3 .add (.int 1)]) (pσ (webP many ar) pl 0 h.length none) (h ++ [.lst (nts [pl])]) = some (.nx (pσ (webP many ar) pl R.length h.length hr) (h ++ [.lst (nts R)])) := by
    rw [ex]; exact e
  rw [exs_nx g1, exs_nx g2, exs_nx e', exs_rt (ret_ok (ev_var rfl)), Option.bind_some, fin_last]
end
end Lw

end
section
namespace Lw
open Ev
open PySem (PyData Str)
set_option autoImplicit false
def gsel (c : Int → Bool) : P → Option P
  | .int x => if c x then some (.int x) else none
  | _ => none
theorem gsel_eq (c : Int → Bool) : ∀ l : List Int, (nts l).filterMap (gsel c) = nts (l.filter c)
  | [] => rfl
  | x :: l => by
    have ih := gsel_eq c l
    simp only [nts, List.map_cons, List.filterMap_cons, List.filter_cons, gsel] at ih ⊢
    by_cases h : c x
    · simp only [h, if_true, ih, List.map_cons]
    · simp only [h, Bool.false_eq_true, if_false, ih]
def gval (f : Int → P) : P → Option P
  | .int x => some (f x)
  | _ => none
theorem gval_eq (f : Int → P) : ∀ l : List Int, (nts l).filterMap (gval f) = l.map f
  | [] => rfl
  | x :: l => by
    have ih := gval_eq f l
    simp only [nts, List.map_cons, List.filterMap_cons, gval] at ih ⊢
    rw [ih]
open Classical in
/-- the group of a place -/
noncomputable def Gp (many : Int) (ar : List Ar) (p : Int) : List Int := (rg many).filter fun x => decide (Rc ar p x ∧ Rc ar x p)
section
variable {many : Int} {ar : List Ar}
theorem Gp_mem {p x : Int} : x ∈ Gp many ar p ↔ (0 ≤ x ∧ x < many) ∧ Rc ar p x ∧ Rc ar x p := by
  unfold Gp
  rw [List.mem_filter, rg_mem]
  simp
theorem Gp_rise (p : Int) : (Gp many ar p).Pairwise (· < ·) := (rg_rise many).filter _
theorem Gp_self {p : Int} (h0 : 0 ≤ p) (h1 : p < many) : p ∈ Gp many ar p := Gp_mem.mpr ⟨⟨h0, h1⟩, .refl _, .refl _⟩
theorem Gp_cons {p : Int} (h0 : 0 ≤ p) (h1 : p < many) : ∃ a t, Gp many ar p = a :: t ∧ 0 ≤ a ∧ a ≤ p ∧ Rc ar p a ∧ Rc ar a p := by
  have hs := Gp_self (ar := ar) h0 h1
  have hr := Gp_rise (many := many) (ar := ar) p
  cases e : Gp many ar p with
  | nil => rw [e] at hs; simp at hs
  | cons a t =>
    have ha : a ∈ Gp many ar p := by rw [e]; exact List.mem_cons_self
    have := Gp_mem.mp ha
    refine ⟨a, t, rfl, this.1.1, ?_, this.2⟩
    rw [e] at hs hr
    rcases List.mem_cons.mp hs with e | h
    · omega
    · have := (List.pairwise_cons.mp hr).1 p h; omega
theorem Gp_eq {p q : Int} (h1 : Rc ar p q) (h2 : Rc ar q p) : Gp many ar p = Gp many ar q := by
  refine rise_ext (Gp_rise p) (Gp_rise q) fun x => ?_
  rw [Gp_mem, Gp_mem]
  constructor
  · rintro ⟨r, a, b⟩; exact ⟨r, h2.trans a, b.trans h1⟩
  · rintro ⟨r, a, b⟩; exact ⟨r, h1.trans a, b.trans h2⟩
def isHd (many : Int) (ar : List Ar) (p : Int) : Prop := (Gp many ar p).head? = some p
open Classical in
/-- the groups of the first i places -/
noncomputable def grs (many : Int) (ar : List Ar) (i : Nat) : List (List Int) := (((rg many).take i).filter fun p => decide (isHd many ar p)).map (Gp many ar)
theorem rg_get_nat {i : Nat} (h : (i : Int) < many) : (rg many)[i]? = some (i : Int) := by
  have := rg_get (m := many) (x := i) (by omega) h
  simpa using this
theorem grs_step {i : Nat} (h : (i : Int) < many) : grs many ar (i + 1) = (open Classical in if isHd many ar i then grs many ar i ++ [Gp many ar i] else grs many ar i) := by
  unfold grs
  rw [List.take_succ, rg_get_nat h]
  simp only [Option.toList_some, List.filter_append, List.map_append]
  split <;> rename_i hh <;> simp [hh, List.filter_cons]
theorem grs_len (i : Nat) : (grs many ar i).length ≤ i := by
  unfold grs
  rw [List.length_map]
  refine Nat.le_trans (List.length_filter_le _ _) ?_
  simp; omega
/-- a group stands already just where its head is another -/
theorem grs_has {i : Nat} (h : (i : Int) < many) : Gp many ar i ∈ grs many ar i ↔ ¬ isHd many ar i := by
  obtain ⟨a, t, e, a0, a1, a2, a3⟩ := Gp_cons (many := many) (ar := ar) (p := i) (by omega) h
  unfold grs
  constructor
  · intro hm hh
    obtain ⟨q, hq, eq⟩ := List.mem_map.mp hm
    have hq1 := (List.mem_filter.mp hq).1
    obtain ⟨j, hj⟩ := List.mem_iff_getElem?.mp hq1
    have hji : j < i := by
      have := (List.getElem?_eq_some_iff.mp hj).1
      simp at this; omega
    rw [List.getElem?_take_of_lt hji, rg_get_nat (by omega)] at hj
    cases hj
    have hs := Gp_self (many := many) (ar := ar) (p := (j : Int)) (by omega) (by omega)
    rw [eq] at hs
    have hr := Gp_rise (many := many) (ar := ar) i
    unfold isHd at hh
    rw [e] at hh hs hr
    simp at hh
    rcases List.mem_cons.mp hs with e | h
    · omega
    · have := (List.pairwise_cons.mp hr).1 _ h; omega
  · intro hh
    have hne : a ≠ i := fun e2 => hh (by unfold isHd; rw [e]; simp [e2])
    have eG := Gp_eq (many := many) a2 a3
    refine List.mem_map.mpr ⟨a, List.mem_filter.mpr ⟨?_, ?_⟩, eG.symm⟩
    · refine List.mem_iff_getElem?.mpr ⟨a.toNat, ?_⟩
      rw [List.getElem?_take_of_lt (by omega), rg_get a0 (by omega)]
    · have : isHd many ar a := by
        unfold isHd
        rw [← eG, e]; rfl
      simpa using this
abbrev gT (l : List Int) : P := .tuple (nts l)
end
end Lw

end
section
namespace Lw
open Ev
open PySem (PyData Str)
set_option autoImplicit false
abbrev gσ (W : P) (many : Int) (Rv : P) (m : Nat) (p g : Option D) : Sv := [some (.p W), some (.p (.int many)), some (.p Rv), some (.ref m), p, g, none]
section
variable {fu d : Nat} {h : Hv} {many : Int} {ar : List Ar}
theorem small_of (h0 : 0 ≤ many) (h1 : many ≤ 8) : small many = true := by unfold small; exact decide_eq_true ⟨by omega, by omega⟩
theorem groups_ok (A : AOk many ar) (hm : 1 ≤ many) (hm8 : many ≤ 8) (hfu : 9 ≤ fu) : run fds fu (d + 2) 1 [.p (webP many ar)] h = some (.ref h.length, h ++ [.lst ((grs many ar many.toNat).map gT)]) := by
  rw [run_at (fd := ⟨1, 7, b_groups_of⟩) rfl rfl]
  have hP : ∀ p : Int, ∃ R : List Int, 0 ≤ p → p < many → R.Nodup ∧ (∀ x, x ∈ R ↔ Rc ar p x) ∧ (∀ x ∈ R, 0 ≤ x ∧ x < many) ∧ run fds fu (d + 1) 0 [.p (webP many ar), .p (.int p)] h = some (.ref h.length, h ++ [.lst (nts R)]) := by
    intro p
    by_cases h0 : 0 ≤ p
    · by_cases h1 : p < many
      · obtain ⟨R, r⟩ := places_ok (fu := fu) (d := d) (h := h) A hm8 h0 h1 hfu
        exact ⟨R, fun _ _ => r⟩
      · exact ⟨[], fun _ h => absurd h h1⟩
    · exact ⟨[], fun h => absurd h h0⟩
  obtain ⟨R, hR⟩ := Classical.skolem.mp hP
  generalize hC : run fds fu (d + 1) = C
  rw [hC] at hR
  have hsm : small many = true := small_of (by omega) hm8
  have g1 : ex C fu (.set 1 (.idx (.var 0) (.int 0))) [some (.p (webP many ar)), none, none, none, none, none, none] h = some (.nx [some (.p (webP many ar)), some (.p (.int many)), none, none, none, none, none] h) := set_ok (webP_0 rfl)
  have hrl : (nts (rg many)).length ≤ lim := by simp only [List.length_map, rg_len]; unfold lim; omega
  have g2 : ex C fu (.set 2 (.lc [4] (.call 0 true [(.var 0), (.var 4)]) (.one 4) (.rng (.var 1)) none)) [some (.p (webP many ar)), some (.p (.int many)), none, none, none, none, none] h = some (.nx [some (.p (webP many ar)), some (.p (.int many)), some (.p (.list ((rg many).map fun p => .list (nts (R p))))), none, none, none, none] h) := by
    refine set_ok ?_
    rw [← gval_eq]
    refine ev_lc (gval fun p => .list (nts (R p))) ?_ hrl ?_
    · simp [evi, ev, iOf, hsm, rngL_eq]
    · intro x hx
      obtain ⟨p, hp, rfl⟩ := List.mem_map.mp hx
      obtain ⟨p0, p1⟩ := rg_mem.mp hp
      refine ⟨_, rfl, .inr ⟨by simp only [evc], _, ?_, rfl⟩⟩
      exact ev_callT (evs_cons (ev_var rfl) (evs_cons (ev_var rfl) evs_nil)) (hR p p0 p1).2.2.2
  have g3 : ex C fu (.setN 3 (.lst [])) [some (.p (webP many ar)), some (.p (.int many)), some (.p (.list ((rg many).map fun p => .list (nts (R p))))), none, none, none, none] h = some (.nx (gσ (webP many ar) many (.list ((rg many).map fun p => .list (nts (R p)))) h.length none none) (h ++ [.lst []])) := by
    simp [ex, ev, evs, fresh, mkL, lim, own1]
  obtain ⟨σ', h', e, ⟨p, g, e1, e2⟩⟩ := frGo_inv
    (F := fun x σ h => (tgD (.one 4) x σ).bind fun σ1 => exs C fu [.set 5 (.bi .tupleOf [(.lc [6] (.var 6) (.one 6) (.rng (.var 1)) (some (.and (.cmp .isin (.var 6) (.idx (.var 2) (.var 4))) (.cmp .isin (.var 4) (.idx (.var 2) (.var 6))))))]), .ite (.cmp .eq (.idx (.var 5) (.int 0)) (.var 4)) [.app (.var 3) (.var 5)] []] σ1 h)
    (fun i σ hh => ∃ p g, σ = gσ (webP many ar) many (.list ((rg many).map fun p => .list (nts (R p)))) h.length p g ∧ hh = h ++ [.lst ((grs many ar i).map gT)])
    (rngL 0 many) 0 (gσ (webP many ar) many (.list ((rg many).map fun p => .list (nts (R p)))) h.length none none) (h ++ [.lst []]) ⟨none, none, rfl, by simp [grs]⟩ (by
      intro j x hx σ hh I
      obtain ⟨p, g, rfl, rfl⟩ := I
      obtain ⟨rfl, hj⟩ := rng_get hx
      rw [Nat.zero_add]
      have hRj := hR j (by omega) hj
      have f1 : ex C fu (.set 5 (.bi .tupleOf [(.lc [6] (.var 6) (.one 6) (.rng (.var 1)) (some (.and (.cmp .isin (.var 6) (.idx (.var 2) (.var 4))) (.cmp .isin (.var 4) (.idx (.var 2) (.var 6))))))])) (gσ (webP many ar) many (.list ((rg many).map fun p => .list (nts (R p)))) h.length (some (.p (.int j))) g) (h ++ [.lst ((grs many ar j).map gT)]) = some (.nx (gσ (webP many ar) many (.list ((rg many).map fun p => .list (nts (R p)))) h.length (some (.p (.int j))) (some (.p (gT (Gp many ar j))))) (h ++ [.lst ((grs many ar j).map gT)])) := by
        refine set_ok (v := .p (gT (Gp many ar j))) (ev_bi1 (d := .p (.list (nts (Gp many ar j)))) ?_ rfl)
        have : Gp many ar j = (rg many).filter fun x => decide (x ∈ R j ∧ (j : Int) ∈ R x) := by
          unfold Gp
          refine List.filter_congr fun x hx => ?_
          obtain ⟨x0, x1⟩ := rg_mem.mp hx
          have := hR x x0 x1
          have e1 := hRj.2.1 x
          have e2 := this.2.1 j
          rw [Bool.eq_iff_iff]
          simp only [decide_eq_true_eq]
          rw [e1, e2]
        rw [this, ← gsel_eq]
        refine ev_lc (gsel _) ?_ hrl ?_
        · simp [evi, ev, iOf, hsm, rngL_eq]
        · intro t ht
          obtain ⟨x, hx, rfl⟩ := List.mem_map.mp ht
          obtain ⟨x0, x1⟩ := rg_mem.mp hx
          refine ⟨[some (.p (webP many ar)), some (.p (.int many)), some (.p (.list ((rg many).map fun p => .list (nts (R p))))), some (.ref h.length), some (.p (.int j)), g, some (.p (.int x))], rfl, ?_⟩
          have hc : evc C (some (.and (.cmp .isin (.var 6) (.idx (.var 2) (.var 4))) (.cmp .isin (.var 4) (.idx (.var 2) (.var 6))))) [some (.p (webP many ar)), some (.p (.int many)), some (.p (.list ((rg many).map fun p => .list (nts (R p))))), some (.ref h.length), some (.p (.int j)), g, some (.p (.int x))] (h ++ [.lst ((grs many ar j).map gT)]) = some (decide (x ∈ R j) && decide ((j : Int) ∈ R x), h ++ [.lst ((grs many ar j).map gT)]) := by
            refine evc_ok (ev_and (ev_cmp (ev_var rfl) (ev_idx (z := .p (.list (nts (R j)))) (ev_var rfl) (ev_var rfl) ?_) (cmp_isin rfl)) fun _ => ev_cmp (ev_var rfl) (ev_idx (z := .p (.list (nts (R x)))) (ev_var rfl) (ev_var rfl) ?_) (cmp_isin rfl))
            · simp only [idxD, sq2, sq, Option.bind_some, atI_rg (f := fun p => PyData.list (nts (R p))) (show (0 : Int) ≤ j by omega) hj, Option.map_some]
            · simp only [idxD, sq2, sq, Option.bind_some, atI_rg (f := fun p => PyData.list (nts (R p))) x0 x1, Option.map_some]
          by_cases hh : x ∈ R j ∧ (j : Int) ∈ R x
          · right
            refine ⟨?_, .int x, ev_var rfl, if_pos (decide_eq_true hh)⟩
            rw [hc]; simp [hh.1, hh.2]
          · left
            refine ⟨?_, if_neg (by simpa using hh)⟩
            rw [hc]
            have : (decide (x ∈ R j) && decide ((j : Int) ∈ R x)) = false := by
              by_cases a : x ∈ R j <;> by_cases b : (j : Int) ∈ R x <;> simp_all
            rw [this]
      obtain ⟨a, t, eG, a0, a1, _, _⟩ := Gp_cons (many := many) (ar := ar) (p := (j : Int)) (by omega) hj
      have f2 : evB C (.cmp .eq (.idx (.var 5) (.int 0)) (.var 4)) (gσ (webP many ar) many (.list ((rg many).map fun p => .list (nts (R p)))) h.length (some (.p (.int j))) (some (.p (gT (Gp many ar j))))) (h ++ [.lst ((grs many ar j).map gT)]) = some (a == (j : Int), h ++ [.lst ((grs many ar j).map gT)]) := by
        refine evB_ok (ev_cmp (ev_idx (z := .p (.int a)) (ev_var rfl) (by simp only [ev]; rfl) ?_) (ev_var rfl) (cmp_eq_int _ _ _))
        rw [eG]
        simp [idxD, sq2, L2.atI, L2.ixN]
      refine ⟨_, _, ?_, some (.p (.int j)), some (.p (gT (Gp many ar j))), rfl, rfl⟩
      show (exs C fu _ (gσ (webP many ar) many (.list ((rg many).map fun p => .list (nts (R p)))) h.length (some (.p (.int j))) g) (h ++ [.lst ((grs many ar j).map gT)])) = _
      rw [exs_nx f1]
      have hst := grs_step (ar := ar) hj
      by_cases ha : a = j
      · have hd : isHd many ar j := by unfold isHd; rw [eG, ha]; rfl
        rw [if_pos hd] at hst
        rw [hst, List.map_append]
        have hb : (a == (j : Int)) = true := by simp [ha]
        rw [hb] at f2
        have f3 := app_ok (fu := fu) (ev_var (C := C) (σ := gσ (webP many ar) many (.list ((rg many).map fun p => .list (nts (R p)))) h.length (some (.p (.int j))) (some (.p (gT (Gp many ar j))))) (i := 3) rfl) (last_get h (.lst ((grs many ar j).map gT))) (ev_var (i := 5) rfl) (by
          have := grs_len (many := many) (ar := ar) j
          simp only [List.length_map]; unfold lim; omega)
        rw [last_set] at f3
        exact exs_one ((ite_true f2).trans (exs_one f3))
      · have hd : ¬ isHd many ar j := by unfold isHd; rw [eG]; simpa using ha
        rw [if_neg hd] at hst
        rw [hst]
        have hb : (a == (j : Int)) = false := by simp [ha]
        rw [hb] at f2
        exact exs_one ((ite_false f2).trans exs_nil))
  have hlen : (rngL 0 many).length = many.toNat := by simp [rngL]
  rw [Nat.zero_add, hlen] at e2
  show (exs C fu b_groups_of [some (.p (webP many ar)), none, none, none, none, none, none] h).bind _ = _
  unfold b_groups_of
  have e' := (frr_ok (C := C) (fu := fu) (t := .one 4) (it := .rng (.var 1)) (b := [.set 5 (.bi .tupleOf [(.lc [6] (.var 6) (.one 6) (.rng (.var 1)) (some (.and (.cmp .isin (.var 6) (.idx (.var 2) (.var 4))) (.cmp .isin (.var 4) (.idx (.var 2) (.var 6))))))]), .ite (.cmp .eq (.idx (.var 5) (.int 0)) (.var 4)) [.app (.var 3) (.var 5)] []]) (σ := gσ (webP many ar) many (.list ((rg many).map fun p => .list (nts (R p)))) h.length none none) (h := h ++ [.lst []]) (xs := rngL 0 many) (h1 := h ++ [.lst []]) (by simp [evi, ev, iOf, hsm])).trans e
  subst e1 e2
  rw [exs_nx g1, exs_nx g2, exs_nx g3, exs_nx e', exs_rt (ret_ok (ev_var rfl)), Option.bind_some, fin_last]
end
end Lw

end
section
namespace Lw
open Ev
open PySem (PyData Str)
set_option autoImplicit false
structure CI (ar : List Ar) (many : Int) (f : Int → List Int) : Prop where
  nd : ∀ p, 0 ≤ p → p < many → (f p).Nodup
  mem : ∀ p, 0 ≤ p → p < many → ∀ x ∈ f p, 0 ≤ x ∧ x < many ∧ Rc ar p x
  self : ∀ p, 0 ≤ p → p < many → p ∈ f p
abbrev cV (many : Int) (f : Int → List Int) : List P := (rg many).map fun p => .list (nts (f p))
def tot (many : Int) (f : Int → List Int) : Nat := ((rg many).map fun p => (f p).length).sum
theorem sum_le8 {l : List Int} {f : Int → Nat} (h : ∀ p ∈ l, f p ≤ 8) : (l.map f).sum ≤ 8 * l.length := by
  induction l with
  | nil => simp
  | cons a l ih =>
    have h1 := h a List.mem_cons_self
    have h2 := ih fun p hp => h p (List.mem_cons_of_mem _ hp)
    simp only [List.map_cons, List.sum_cons, List.length_cons]
    omega
theorem sum_le {l : List Int} {f g : Int → Nat} (h : ∀ p ∈ l, f p ≤ g p) : (l.map f).sum ≤ (l.map g).sum := by
  induction l with
  | nil => simp
  | cons a l ih =>
    have h1 := h a List.mem_cons_self
    have h2 := ih fun p hp => h p (List.mem_cons_of_mem _ hp)
    simp only [List.map_cons, List.sum_cons]
    omega
theorem sum_lt {l : List Int} {f g : Int → Nat} (h : ∀ p ∈ l, f p ≤ g p) {a : Int} (ha : a ∈ l) (h2 : f a < g a) : (l.map f).sum < (l.map g).sum := by
  induction l with
  | nil => simp at ha
  | cons b l ih =>
    have h1 := h b List.mem_cons_self
    have h3 := sum_le (l := l) fun p hp => h p (List.mem_cons_of_mem _ hp)
    simp only [List.map_cons, List.sum_cons]
    rcases List.mem_cons.mp ha with e | e
    · subst e; omega
    · have := ih (fun p hp => h p (List.mem_cons_of_mem _ hp)) e; omega
theorem CI.tot {ar : List Ar} {many : Int} {f : Int → List Int} (I : CI ar many f) (hm : 1 ≤ many) (hm8 : many ≤ 8) : tot many f ≤ 64 := by
  have := sum_le8 (l := rg many) (f := fun p => (f p).length) fun p hp => by
    obtain ⟨p0, p1⟩ := rg_mem.mp hp
    exact pig 8 _ (I.nd p p0 p1) fun x hx => by have := I.mem p p0 p1 x hx; omega
  rw [rg_len] at this
  unfold Lw.tot
  omega
def upd1 (f : Int → List Int) (a : Int) (n : List Int) : Int → List Int := fun p => if p = a then f a ++ n else f p
theorem cV_set {many a : Int} {f : Int → List Int} {n : List Int} (h0 : 0 ≤ a) (h1 : a < many) : (cV many f).set a.toNat (.list (nts (f a ++ n))) = cV many (upd1 f a n) := by
  apply List.ext_getElem?
  intro i
  rw [List.getElem?_set]
  by_cases e : a.toNat = i
  · subst e
    have : a.toNat < (cV many f).length := by simp [rg_len]; omega
    rw [if_pos rfl, if_pos this, List.getElem?_map, rg_get h0 h1]
    simp [upd1]
  · rw [if_neg e, List.getElem?_map, List.getElem?_map]
    cases hi : (rg many)[i]? with
    | none => rfl
    | some p =>
      have hl := (List.getElem?_eq_some_iff.mp hi).1
      rw [rg_len] at hl
      rw [rg_get_nat (by omega)] at hi
      cases hi
      have : (i : Int) ≠ a := by omega
      simp [upd1, this]
theorem CI.upd {ar : List Ar} {many a b w : Int} {f : Int → List Int} (A : AOk many ar) (I : CI ar many f) (ha : (a, b, w) ∈ ar) : CI ar many (upd1 f a ((f b).filter fun x => !decide (x ∈ f a))) := by
  have hr := A.mem _ ha
  refine ⟨fun p p0 p1 => ?_, fun p p0 p1 x hx => ?_, fun p p0 p1 => ?_⟩
  · unfold upd1
    split
    · rename_i e; subst e
      refine List.nodup_append.mpr ⟨I.nd _ p0 p1, (I.nd b hr.2.2.1 hr.2.2.2).filter _, fun x hx y hy e => ?_⟩
      subst e
      have := (List.mem_filter.mp hy).2
      simp at this
      exact this hx
    · exact I.nd p p0 p1
  · unfold upd1 at hx
    split at hx
    · rename_i e; subst e
      rcases List.mem_append.mp hx with hx | hx
      · exact I.mem _ p0 p1 x hx
      · have := I.mem b hr.2.2.1 hr.2.2.2 x (List.mem_filter.mp hx).1
        exact ⟨this.1, this.2.1, .head ha this.2.2⟩
    · exact I.mem p p0 p1 x hx
  · unfold upd1
    split
    · rename_i e; subst e
      exact List.mem_append_left _ (I.self _ p0 p1)
    · exact I.self p p0 p1
def Cl (ar : List Ar) (f : Int → List Int) : Prop := ∀ a b w, (a, b, w) ∈ ar → ∀ x ∈ f b, x ∈ f a
theorem CI.end {ar : List Ar} {many : Int} {f : Int → List Int} (A : AOk many ar) (I : CI ar many f) (c : Cl ar f) {p x : Int} (p0 : 0 ≤ p) (p1 : p < many) : x ∈ f p ↔ Rc ar p x := by
  refine ⟨fun h => (I.mem p p0 p1 x h).2.2, fun h => ?_⟩
  induction h with
  | refl x => exact I.self _ p0 p1
  | head e _ ih =>
    have := A.mem _ e
    exact c _ _ _ e _ (ih this.2.2.1 this.2.2.2)
theorem eqv_lst (a b : List Int) : PyData.eqv (.list (nts a)) (.list (nts b)) = decide (a = b) := by
  rw [PyData.eqv, eqvAll_ints]
section
variable {C : Ca} {fu : Nat} {σ : Sv} {h h1 : Hv}
theorem putL_ok {o i e : E} {n : Nat} {v : P} {a : Int} {xs : List P} (e1 : ev C e σ h = some (.p v, h)) (e2 : ev C o σ h = some (.ref n, h)) (e3 : ev C i σ h = some (.p (.int a), h)) (hn : h[n]? = some (.lst xs)) (h0 : 0 ≤ a) (h1 : a < xs.length) : ex C fu (.put o i e) σ h = some (.nx σ (h.set n (.lst (xs.set a.toNat v)))) := by
  have hl : lstD h (.ref n) = some (n, xs) := by simp only [lstD, hn]
  have hx : L2.ixN xs.length a = some a.toNat := by
    unfold L2.ixN
    rw [if_pos h0]
    simp; omega
  simp only [ex, e1, e2, e3, Option.bind_some, wp, hl, iOf, hx, Option.map_some]
end
abbrev cσ (W : P) (m : Nat) (more : Bool) (a b w n : Option D) : Sv := [some (.p W), some (.ref m), some (.p (.bool more)), none, a, b, w, n]
section
variable {fu d : Nat} {h : Hv} {many : Int} {ar : List Ar} {C : Ca}
abbrev cB : List S := [.set 7 (.lc [3] (.var 3) (.one 3) (.seq (.idx (.var 1) (.var 5))) (some (.cmp .notin (.var 3) (.idx (.var 1) (.var 4))))), .ite (.cmp .ne (.var 7) (.lst [])) [.put (.var 1) (.var 4) (.op .add (.idx (.var 1) (.var 4)) (.var 7)), .set 2 (.bl true)] []]
/-- one pass: f0 ahead of it -/
def PInv (h : Hv) (ar : List Ar) (many : Int) (f0 : Int → List Int) (j : Nat) (σ : Sv) (hh : Hv) : Prop := ∃ f more a b w n, σ = cσ (webP many ar) h.length more a b w n ∧ hh = h ++ [.lst (cV many f)] ∧ CI ar many f ∧ (more = true → tot many f0 < tot many f) ∧ (more = false → f = f0 ∧ ∀ i q, i < j → ar[i]? = some q → ∀ x ∈ f q.2.1, x ∈ f q.1)
theorem pass_step (A : AOk many ar) (hm8 : many ≤ 8) {f0 : Int → List Int} {j : Nat} {q : Ar} (hq : ar[j]? = some q) {σ : Sv} {hh : Hv} (I : PInv h ar many f0 j σ hh) : ∃ σ' hh', ((tgD (.tup [4, 5, 6]) (tri q) σ).bind fun σ1 => exs C fu cB σ1 hh) = some (.nx σ' hh') ∧ PInv h ar many f0 (j + 1) σ' hh' := by
  obtain ⟨f, more, a, b, w, n, rfl, rfl, I, t1, t2⟩ := I
  have hqm : (q.1, q.2.1, q.2.2) ∈ ar := List.mem_of_getElem? hq
  obtain ⟨q0, q1, q2, q3⟩ := A.mem q hqm
  have hsq : sq2 (h ++ [.lst (cV many f)]) (.ref h.length) = some (cV many f) := by
    have hq : sq (h ++ [.lst (cV many f)]) (.ref h.length) = some (cV many f) := by simp only [sq, last_get]
    exact hq
  have hi : ∀ {σ : Sv} {e : E} {x : Int}, σ[1]? = some (some (.ref h.length)) → ev C e σ (h ++ [.lst (cV many f)]) = some (.p (.int x), h ++ [.lst (cV many f)]) → 0 ≤ x → x < many → ev C (.idx (.var 1) e) σ (h ++ [.lst (cV many f)]) = some (.p (.list (nts (f x))), h ++ [.lst (cV many f)]) := by
    intro σ e x hσ he x0 x1
    refine ev_idx (ev_var hσ) he ?_
    simp only [idxD, hsq, Option.bind_some, atI_rg (f := fun p => PyData.list (nts (f p))) x0 x1, Option.map_some]
  have hl8 := pig 8 _ (I.nd q.2.1 q2 q3) fun x hx => by have := I.mem _ q2 q3 x hx; omega
  have hl8' := pig 8 _ (I.nd q.1 q0 q1) fun x hx => by have := I.mem _ q0 q1 x hx; omega
  have f1 : ex C fu (.set 7 (.lc [3] (.var 3) (.one 3) (.seq (.idx (.var 1) (.var 5))) (some (.cmp .notin (.var 3) (.idx (.var 1) (.var 4)))))) (cσ (webP many ar) h.length more (some (.p (.int q.1))) (some (.p (.int q.2.1))) (some (.p (.int q.2.2))) n) (h ++ [.lst (cV many f)]) = some (.nx (cσ (webP many ar) h.length more (some (.p (.int q.1))) (some (.p (.int q.2.1))) (some (.p (.int q.2.2))) (some (.p (.list (nts ((f q.2.1).filter fun x => !decide (x ∈ f q.1))))))) (h ++ [.lst (cV many f)])) := by
    refine set_ok (v := .p (.list (nts ((f q.2.1).filter fun x => !decide (x ∈ f q.1))))) ?_
    rw [← gsel_eq]
    refine ev_lc (gsel _) ?_ (by simp only [List.length_map]; unfold lim; omega) ?_
    · rw [evi, hi rfl (ev_var rfl) q2 q3]; rfl
    · intro t ht
      obtain ⟨x, hx, rfl⟩ := List.mem_map.mp ht
      refine ⟨[some (.p (webP many ar)), some (.ref h.length), some (.p (.bool more)), some (.p (.int x)), some (.p (.int q.1)), some (.p (.int q.2.1)), some (.p (.int q.2.2)), n], rfl, ?_⟩
      have hc : evc C (some (.cmp .notin (.var 3) (.idx (.var 1) (.var 4)))) [some (.p (webP many ar)), some (.ref h.length), some (.p (.bool more)), some (.p (.int x)), some (.p (.int q.1)), some (.p (.int q.2.1)), some (.p (.int q.2.2)), n] (h ++ [.lst (cV many f)]) = some (!decide (x ∈ f q.1), h ++ [.lst (cV many f)]) :=
        evc_ok (ev_cmp (ev_var rfl) (hi rfl (ev_var rfl) q0 q1) (cmp_notin rfl))
      by_cases hh : x ∈ f q.1
      · left
        refine ⟨?_, if_neg (by simp [hh])⟩
        rw [hc]; simp [hh]
      · right
        refine ⟨?_, .int x, ev_var rfl, if_pos (by simp [hh])⟩
        rw [hc]; simp [hh]
  generalize hN : (f q.2.1).filter (fun x => !decide (x ∈ f q.1)) = N at f1
  have f2 : evB C (.cmp .ne (.var 7) (.lst [])) (cσ (webP many ar) h.length more (some (.p (.int q.1))) (some (.p (.int q.2.1))) (some (.p (.int q.2.2))) (some (.p (.list (nts N))))) (h ++ [.lst (cV many f)]) = some (!decide (N = []), h ++ [.lst (cV many f)]) := by
    refine evB_ok (ev_cmp (y := .p (.list (nts []))) (ev_var rfl) (by simp [ev, evs, mkL, lim]) ?_)
    simp only [cmpD, dat, Option.bind_some, sh_list, Bool.and_self, if_true, eqv_lst]
  show ∃ σ' hh', (exs C fu cB (cσ (webP many ar) h.length more (some (.p (.int q.1))) (some (.p (.int q.2.1))) (some (.p (.int q.2.2))) n) (h ++ [.lst (cV many f)])) = _ ∧ _
  have hNb : N.length ≤ 8 := by rw [← hN]; exact Nat.le_trans (List.length_filter_le _ _) hl8
  by_cases hE : N = []
  · refine ⟨_, _, ?_, f, more, some (.p (.int q.1)), some (.p (.int q.2.1)), some (.p (.int q.2.2)), some (.p (.list (nts N))), rfl, rfl, I, t1, fun hf => ⟨(t2 hf).1, ?_⟩⟩
    · unfold cB
      rw [exs_nx f1]
      have hb : (!decide (N = [])) = false := by simp [hE]
      rw [hb] at f2
      exact exs_one ((ite_false f2).trans exs_nil)
    · intro i q' hi' hq' x hx
      by_cases e : i = j
      · subst e
        rw [hq] at hq'
        cases hq'
        by_cases hc : x ∈ f q.1
        · exact hc
        · have : x ∈ N := by rw [← hN]; exact List.mem_filter.mpr ⟨hx, by simp [hc]⟩
          rw [hE] at this; simp at this
      · exact (t2 hf).2 i q' (by omega) hq' x hx
  · have I' := I.upd A hqm
    simp only [hN] at I'
    refine ⟨_, _, ?_, upd1 f q.1 N, true, some (.p (.int q.1)), some (.p (.int q.2.1)), some (.p (.int q.2.2)), some (.p (.list (nts N))), rfl, rfl, I', fun _ => ?_, fun hf => by simp at hf⟩
    · unfold cB
      rw [exs_nx f1]
      have hb : (!decide (N = [])) = true := by simp [hE]
      rw [hb] at f2
      have hv : ev C (.op .add (.idx (.var 1) (.var 4)) (.var 7)) (cσ (webP many ar) h.length more (some (.p (.int q.1))) (some (.p (.int q.2.1))) (some (.p (.int q.2.2))) (some (.p (.list (nts N))))) (h ++ [.lst (cV many f)]) = some (.p (.list (nts (f q.1 ++ N))), h ++ [.lst (cV many f)]) := by
        refine ev_op (hi rfl (ev_var rfl) q0 q1) (ev_var rfl) ?_
        have : (nts (f q.1) ++ nts N).length ≤ lim := by simp only [List.length_append, List.length_map]; unfold lim; omega
        simp only [opD, sq, Option.bind_some, mkL, this, if_true, nts, List.map_append]
      have f3 := putL_ok (fu := fu) hv (ev_var (i := 1) rfl) (ev_var (i := 4) rfl) (last_get h _) q0 (by simp [rg_len]; omega)
      rw [last_set, cV_set q0 q1] at f3
      have f4 : ex C fu (.set 2 (.bl true)) (cσ (webP many ar) h.length more (some (.p (.int q.1))) (some (.p (.int q.2.1))) (some (.p (.int q.2.2))) (some (.p (.list (nts N))))) (h ++ [.lst (cV many (upd1 f q.1 N))]) = some (.nx (cσ (webP many ar) h.length true (some (.p (.int q.1))) (some (.p (.int q.2.1))) (some (.p (.int q.2.2))) (some (.p (.list (nts N))))) (h ++ [.lst (cV many (upd1 f q.1 N))])) := by
        simp [ex, ev]
      refine exs_one ((ite_true f2).trans ?_)
      rw [exs_nx f3, exs_one f4]
    · have hlt : tot many f < tot many (upd1 f q.1 N) := by
        refine sum_lt (a := q.1) (fun p hp => ?_) (rg_mem.mpr ⟨q0, q1⟩) ?_
        · unfold upd1; split
          · rename_i e; subst e; simp
          · exact Nat.le_refl _
        · have : 0 < N.length := List.length_pos_iff.mpr hE
          simp [upd1]; exact this
      cases hmo : more with
      | true => exact Nat.lt_trans (t1 hmo) hlt
      | false => rw [← (t2 hmo).1]; exact hlt
theorem come_ok (A : AOk many ar) (hm : 1 ≤ many) (hm8 : many ≤ 8) (hfu : 66 ≤ fu) : ∃ f : Int → List Int, (∀ p, 0 ≤ p → p < many → (f p).Nodup ∧ (∀ x ∈ f p, 0 ≤ x ∧ x < many) ∧ ∀ x, x ∈ f p ↔ Rc ar p x) ∧ run fds fu (d + 1) 7 [.p (webP many ar)] h = some (.ref h.length, h ++ [.lst (cV many f)]) := by
  rw [run_at (fd := ⟨1, 8, b__law_come⟩) rfl rfl]
  generalize run fds fu d = C
  have hsm : small many = true := small_of (by omega) hm8
  have hrl : (nts (rg many)).length ≤ lim := by simp only [List.length_map, rg_len]; unfold lim; omega
  have g1 : ex C fu (.setN 1 (.lc [3] (.lst [(.var 3)]) (.one 3) (.rng (.idx (.var 0) (.int 0))) none)) [some (.p (webP many ar)), none, none, none, none, none, none, none] h = some (.nx [some (.p (webP many ar)), some (.ref h.length), none, none, none, none, none, none] (h ++ [.lst (cV many fun p => [p])])) := by
    refine setN_ok rfl ?_
    unfold cV
    rw [← gval_eq]
    refine ev_lc (gval fun p => .list (nts [p])) ?_ hrl ?_
    · rw [evi, webP_0 (many := many) (ar := ar) rfl]
      simp [iOf, hsm, rngL_eq]
    · intro x hx
      obtain ⟨p, hp, rfl⟩ := List.mem_map.mp hx
      refine ⟨_, rfl, .inr ⟨by simp only [evc], _, ?_, rfl⟩⟩
      exact ev_lst (evs_cons (ev_var rfl) evs_nil) (ps := nts [p]) (by simp [wp]) (by simp [mkL, lim])
  have g2 : ex C fu (.set 2 (.bl true)) [some (.p (webP many ar)), some (.ref h.length), none, none, none, none, none, none] (h ++ [.lst (cV many fun p => [p])]) = some (.nx (cσ (webP many ar) h.length true none none none none) (h ++ [.lst (cV many fun p => [p])])) := by
    simp [ex, ev]
  obtain ⟨σ', h', e, ⟨f, a, b, w, n, e1, e2, I, cl⟩⟩ := wh_inv
    (t := evB C (.var 2))
    (f := exs C fu [.set 2 (.bl false), .frr (.tup [4, 5, 6]) (.seq (.idx (.var 0) (.int 1))) cB])
    (fun m σ hh => ∃ f more a b w n, σ = cσ (webP many ar) h.length more a b w n ∧ hh = h ++ [.lst (cV many f)] ∧ CI ar many f ∧ (more = false → Cl ar f) ∧ m = if more then 65 - tot many f else 0)
    (fun σ hh => ∃ f a b w n, σ = cσ (webP many ar) h.length false a b w n ∧ hh = h ++ [.lst (cV many f)] ∧ CI ar many f ∧ Cl ar f)
    (by
      rintro m σ hh ⟨f, more, a, b, w, n, rfl, rfl, I, cl, rfl⟩
      have hb : evB C (.var 2) (cσ (webP many ar) h.length more a b w n) (h ++ [.lst (cV many f)]) = some (more, h ++ [.lst (cV many f)]) := evB_ok (ev_var rfl)
      cases more with
      | false => exact .inl ⟨_, hb, f, a, b, w, n, rfl, rfl, I, cl rfl⟩
      | true =>
        right
        have k1 : ex C fu (.set 2 (.bl false)) (cσ (webP many ar) h.length true a b w n) (h ++ [.lst (cV many f)]) = some (.nx (cσ (webP many ar) h.length false a b w n) (h ++ [.lst (cV many f)])) := by
          simp [ex, ev]
        obtain ⟨σ2, h2, k2, P⟩ := frGo_inv (F := fun x σ h => (tgD (.tup [4, 5, 6]) x σ).bind fun σ1 => exs C fu cB σ1 h)
          (PInv h ar many f) (ar.map tri) 0 (cσ (webP many ar) h.length false a b w n) (h ++ [.lst (cV many f)])
          ⟨f, false, a, b, w, n, rfl, rfl, I, fun h => by simp at h, fun _ => ⟨rfl, fun i q hi => by omega⟩⟩
          (by
            intro j x hx σ hh I
            rw [List.getElem?_map] at hx
            cases hq : ar[j]? with
            | none => rw [hq] at hx; simp at hx
            | some q =>
              rw [hq] at hx
              cases hx
              rw [Nat.zero_add] at I ⊢
              exact pass_step A hm8 hq I)
        obtain ⟨f', more', a', b', w', n', e1, e2, I', t1, t2⟩ := P
        have T := I.tot hm hm8
        have T' := I'.tot hm hm8
        refine ⟨_, σ2, h2, if more' then 65 - tot many f' else 0, hb, ?_, ?_, f', more', a', b', w', n', e1, e2, I', ?_, rfl⟩
        · rw [exs_nx k1]
          refine exs_one ((frr_ok ?_).trans k2)
          rw [evi, webP_1 (many := many) (ar := ar) rfl]; rfl
        · cases hmo : more' with
          | true => have := t1 hmo; simp; omega
          | false => simp; omega
        · intro hf x y w hw z hz
          obtain ⟨i, hi⟩ := List.mem_iff_getElem?.mp hw
          have hil := (List.getElem?_eq_some_iff.mp hi).1
          exact (t2 hf).2 i (x, y, w) (by simpa using hil) hi z hz)
    fu (65 - tot many fun p => [p]) _ _ ⟨fun p => [p], true, none, none, none, none, rfl, rfl, ⟨by simp, by
      intro p p0 p1 x hx
      rw [List.mem_singleton.mp hx]
      exact ⟨p0, p1, .refl _⟩, by simp⟩, fun h => by simp at h, rfl⟩ (by omega)
  subst e1 e2
  refine ⟨f, fun p p0 p1 => ⟨I.nd p p0 p1, fun x hx => ⟨(I.mem p p0 p1 x hx).1, (I.mem p p0 p1 x hx).2.1⟩, fun x => I.end A cl p0 p1⟩, ?_⟩
  show (exs C fu b__law_come [some (.p (webP many ar)), none, none, none, none, none, none, none] h).bind _ = _
  unfold b__law_come
  have e' : ex C fu (.whl (.var 2) [.set 2 (.bl false), .frr (.tup [4, 5, 6]) (.seq (.idx (.var 0) (.int 1))) cB]) (cσ (webP many ar) h.length true none none none none) (h ++ [.lst (cV many fun p => [p])]) = some (.nx (cσ (webP many ar) h.length false a b w n) (h ++ [.lst (cV many f)])) := by
    rw [ex]; exact e
  rw [exs_nx g1, exs_nx g2, exs_nx e', exs_rt (ret_ok (ev_var rfl)), Option.bind_some, fin_last]
end
end Lw

end
section
set_option maxHeartbeats 0
namespace Lw
open Ev
open PySem (PyData Str)
set_option autoImplicit false
abbrev lσ (W Cv : P) (m : Nat) (p g : Option D) : Sv := [some (.p W), some (.p Cv), some (.ref m), p, g, none]
theorem msort_rise {l : List Int} (nd : l.Nodup) : (l.mergeSort fun a b => decide (a ≤ b)).Pairwise (· < ·) := by
  have h1 := List.pairwise_mergeSort (le := fun a b : Int => decide (a ≤ b)) (fun a b c h1 h2 => by simp at *; omega) (fun a b => by simp; omega) l
  have h2 : (l.mergeSort fun a b => decide (a ≤ b)).Nodup := (List.mergeSort_perm l _).nodup_iff.mpr nd
  have h3 := h1.and h2
  refine h3.imp fun {a b} h => ?_
  have h4 := h.1
  simp at h4
  have := h.2
  omega
section
variable {fu d : Nat} {h : Hv} {many : Int} {ar : List Ar} {C : Ca}
abbrev lB : List S := [.set 4 (.bi .tupleOf [(.lc [5] (.var 5) (.one 5) (.seq (.bi .sorted [(.idx (.var 1) (.var 3))])) (some (.cmp .isin (.var 3) (.idx (.var 1) (.var 5)))))]), .ite (.cmp .notin (.var 4) (.var 2)) [.app (.var 2) (.var 4)] []]
theorem lgroups_ok (A : AOk many ar) (hm : 1 ≤ many) (hm8 : many ≤ 8) (hfu : 66 ≤ fu) : run fds fu (d + 2) 8 [.p (webP many ar)] h = some (.ref h.length, h ++ [.lst ((grs many ar many.toNat).map gT)]) := by
  rw [run_at (fd := ⟨1, 6, b__law_groups⟩) rfl rfl]
  obtain ⟨f, hf, hrun⟩ := come_ok (fu := fu) (d := d) (h := h) A hm hm8 hfu
  generalize hC : run fds fu (d + 1) = C
  rw [hC] at hrun
  have hsm : small many = true := small_of (by omega) hm8
  have g1 : ex C fu (.set 1 (.call 7 true [(.var 0)])) [some (.p (webP many ar)), none, none, none, none, none] h = some (.nx [some (.p (webP many ar)), some (.p (.list (cV many f))), none, none, none, none] h) :=
    set_ok (ev_callT (evs_cons (ev_var rfl) evs_nil) hrun)
  have g2 : ex C fu (.setN 2 (.lst [])) [some (.p (webP many ar)), some (.p (.list (cV many f))), none, none, none, none] h = some (.nx (lσ (webP many ar) (.list (cV many f)) h.length none none) (h ++ [.lst []])) := by
    simp [ex, ev, evs, fresh, mkL, lim, own1]
  obtain ⟨σ', h', e, ⟨p, g, e1, e2⟩⟩ := frGo_inv
    (F := fun x σ h => (tgD (.one 3) x σ).bind fun σ1 => exs C fu lB σ1 h)
    (fun i σ hh => ∃ p g, σ = lσ (webP many ar) (.list (cV many f)) h.length p g ∧ hh = h ++ [.lst ((grs many ar i).map gT)])
    (rngL 0 many) 0 (lσ (webP many ar) (.list (cV many f)) h.length none none) (h ++ [.lst []]) ⟨none, none, rfl, by simp [grs]⟩ (by
      intro j x hx σ hh I
      obtain ⟨p, g, rfl, rfl⟩ := I
      obtain ⟨rfl, hj⟩ := rng_get hx
      rw [Nat.zero_add]
      have hi : ∀ {σ : Sv} {e : E} {x : Int} {hh : Hv}, σ[1]? = some (some (.p (.list (cV many f)))) → ev C e σ hh = some (.p (.int x), hh) → 0 ≤ x → x < many → ev C (.idx (.var 1) e) σ hh = some (.p (.list (nts (f x))), hh) := by
        intro σ e x hh hσ he x0 x1
        refine ev_idx (ev_var hσ) he ?_
        simp only [idxD, sq2, sq, Option.bind_some, atI_rg (f := fun p => PyData.list (nts (f p))) x0 x1, Option.map_some]
      have hfj := hf j (by omega) hj
      have hl8 := pig 8 _ hfj.1 fun x hx => by have := hfj.2.1 x hx; omega
      have hp := List.mergeSort_perm (f j) fun a b => decide (a ≤ b)
      have f1 : ex C fu (.set 4 (.bi .tupleOf [(.lc [5] (.var 5) (.one 5) (.seq (.bi .sorted [(.idx (.var 1) (.var 3))])) (some (.cmp .isin (.var 3) (.idx (.var 1) (.var 5)))))])) (lσ (webP many ar) (.list (cV many f)) h.length (some (.p (.int j))) g) (h ++ [.lst ((grs many ar j).map gT)]) = some (.nx (lσ (webP many ar) (.list (cV many f)) h.length (some (.p (.int j))) (some (.p (gT (Gp many ar j))))) (h ++ [.lst ((grs many ar j).map gT)])) := by
        refine set_ok (v := .p (gT (Gp many ar j))) (ev_bi1 (d := .p (.list (nts (Gp many ar j)))) ?_ rfl)
        have : Gp many ar j = ((f j).mergeSort fun a b => decide (a ≤ b)).filter fun x => decide ((j : Int) ∈ f x) := by
          refine rise_ext (Gp_rise _) ((msort_rise hfj.1).filter _) fun x => ?_
          rw [Gp_mem, List.mem_filter, hp.mem_iff, decide_eq_true_iff]
          constructor
          · rintro ⟨r, a, b⟩
            exact ⟨(hfj.2.2 x).mpr a, ((hf x r.1 r.2).2.2 j).mpr b⟩
          · rintro ⟨a, b⟩
            have r := hfj.2.1 x a
            exact ⟨r, (hfj.2.2 x).mp a, ((hf x r.1 r.2).2.2 j).mp b⟩
        rw [this, ← gsel_eq]
        refine ev_lc (gsel _) ?_ ?_ ?_
        · have hs : ev C (.bi .sorted [(.idx (.var 1) (.var 3))]) (lσ (webP many ar) (.list (cV many f)) h.length (some (.p (.int j))) g) (h ++ [.lst ((grs many ar j).map gT)]) = some (.p (.list (nts ((f j).mergeSort fun a b => decide (a ≤ b)))), h ++ [.lst ((grs many ar j).map gT)]) := by
            refine ev_bi1 (hi rfl (ev_var rfl) (by omega) hj) ?_
            have h64 : (f j).length < 64 := by omega
            simp only [biD, sq, Option.bind_some, nts, intsP_map, h64, if_true]
          rw [evi, hs]; rfl
        · rw [List.length_map, hp.length_eq]; unfold lim; omega
        · intro t ht
          obtain ⟨x, hx, rfl⟩ := List.mem_map.mp ht
          have r := hfj.2.1 x (hp.mem_iff.mp hx)
          refine ⟨[some (.p (webP many ar)), some (.p (.list (cV many f))), some (.ref h.length), some (.p (.int j)), g, some (.p (.int x))], rfl, ?_⟩
          have hc : evc C (some (.cmp .isin (.var 3) (.idx (.var 1) (.var 5)))) [some (.p (webP many ar)), some (.p (.list (cV many f))), some (.ref h.length), some (.p (.int j)), g, some (.p (.int x))] (h ++ [.lst ((grs many ar j).map gT)]) = some (decide ((j : Int) ∈ f x), h ++ [.lst ((grs many ar j).map gT)]) :=
            evc_ok (ev_cmp (ev_var rfl) (hi rfl (ev_var rfl) r.1 r.2) (cmp_isin rfl))
          by_cases hh : (j : Int) ∈ f x
          · right
            refine ⟨?_, .int x, ev_var rfl, if_pos (by simp [hh])⟩
            rw [hc]; simp [hh]
          · left
            refine ⟨?_, if_neg (by simp [hh])⟩
            rw [hc]; simp [hh]
      have hq2 : sq2 (h ++ [.lst ((grs many ar j).map gT)]) (.ref h.length) = some ((grs many ar j).map gT) := by
        have hq : sq (h ++ [.lst ((grs many ar j).map gT)]) (.ref h.length) = some ((grs many ar j).map gT) := by simp only [sq, last_get]
        exact hq
      open Classical in
      have f2 : evB C (.cmp .notin (.var 4) (.var 2)) (lσ (webP many ar) (.list (cV many f)) h.length (some (.p (.int j))) (some (.p (gT (Gp many ar j))))) (h ++ [.lst ((grs many ar j).map gT)]) = some (decide (isHd many ar j), h ++ [.lst ((grs many ar j).map gT)]) := by
        refine evB_ok (ev_cmp (ev_var rfl) (ev_var rfl) ?_)
        rw [cmp_notinT hq2]
        have := grs_has (ar := ar) hj
        by_cases hh : isHd many ar j <;> simp [hh, this]
      refine ⟨_, _, ?_, some (.p (.int j)), some (.p (gT (Gp many ar j))), rfl, rfl⟩
      show (exs C fu lB (lσ (webP many ar) (.list (cV many f)) h.length (some (.p (.int j))) g) (h ++ [.lst ((grs many ar j).map gT)])) = _
      unfold lB
      rw [exs_nx f1]
      have hst := grs_step (ar := ar) hj
      by_cases hd : isHd many ar j
      · rw [if_pos hd] at hst
        rw [hst, List.map_append]
        rw [show decide (isHd many ar j) = true by simp [hd]] at f2
        have f3 := app_ok (fu := fu) (ev_var (C := C) (σ := lσ (webP many ar) (.list (cV many f)) h.length (some (.p (.int j))) (some (.p (gT (Gp many ar j))))) (i := 2) rfl) (last_get h (.lst ((grs many ar j).map gT))) (ev_var (i := 4) rfl) (by
          have := grs_len (many := many) (ar := ar) j
          simp only [List.length_map]; unfold lim; omega)
        rw [last_set] at f3
        exact exs_one ((ite_true f2).trans (exs_one f3))
      · rw [if_neg hd] at hst
        rw [hst]
        rw [show decide (isHd many ar j) = false by simp [hd]] at f2
        exact exs_one ((ite_false f2).trans exs_nil))
  have hlen : (rngL 0 many).length = many.toNat := by simp [rngL]
  rw [Nat.zero_add, hlen] at e2
  show (exs C fu b__law_groups [some (.p (webP many ar)), none, none, none, none, none] h).bind _ = _
  unfold b__law_groups
  have e' := (frr_ok (C := C) (fu := fu) (t := .one 3) (it := .rng (.idx (.var 0) (.int 0))) (b := lB) (σ := lσ (webP many ar) (.list (cV many f)) h.length none none) (h := h ++ [.lst []]) (xs := rngL 0 many) (h1 := h ++ [.lst []]) (by rw [evi, webP_0 (many := many) (ar := ar) rfl]; simp [iOf, hsm])).trans e
  subst e1 e2
  rw [exs_nx g1, exs_nx g2, exs_nx e', exs_rt (ret_ok (ev_var rfl)), Option.bind_some, fin_last]
end
end Lw

end
section
namespace Lw
open Ev
open PySem (PyData Str)
set_option autoImplicit false
theorem Gp_of {many : Int} {ar : List Ar} {p : Int} {l : List Int} (hr : l.Pairwise (· < ·)) (h : ∀ x, x ∈ l ↔ (0 ≤ x ∧ x < many) ∧ Rc ar p x ∧ Rc ar x p) : Gp many ar p = l :=
  rise_ext (Gp_rise p) hr fun x => Gp_mem.trans (h x).symm
theorem A1 : AOk 1 [] := ⟨by simp, by simp, by simp⟩
theorem A2 : AOk 2 [(0, 1, 5)] := ⟨by simp, by simp, by simp⟩
theorem ex1 : grs 1 [] 1 = [[0]] := by
  have hG : Gp 1 [] 0 = [0] := Gp_of (by simp) fun x => by
    rw [List.mem_singleton]
    constructor
    · rintro rfl; exact ⟨by omega, .refl _, .refl _⟩
    · rintro ⟨h, _⟩; omega
  have hd : isHd 1 [] ((0 : Nat) : Int) := by unfold isHd; rw [show ((0 : Nat) : Int) = 0 from rfl, hG]; rfl
  have := grs_step (many := 1) (ar := []) (i := 0) (by omega)
  rw [if_pos hd] at this
  rw [show (1 : Nat) = 0 + 1 from rfl, this, show ((0 : Nat) : Int) = 0 from rfl, hG]
  simp [grs]
theorem no10 {x z : Int} (h : Rc [(0, 1, 5)] x z) : x = 1 → z = 1 := by
  induction h with
  | refl x => exact id
  | head e _ ih =>
    intro h1
    simp at e
    omega
theorem ex2 : grs 2 [(0, 1, 5)] 2 = [[0], [1]] := by
  have hG : Gp 2 [(0, 1, 5)] 0 = [0] := Gp_of (by simp) fun x => by
    rw [List.mem_singleton]
    constructor
    · rintro rfl; exact ⟨by omega, .refl _, .refl _⟩
    · rintro ⟨h, _, r⟩
      by_cases e : x = 1
      · have := no10 r e; omega
      · omega
  have hG1 : Gp 2 [(0, 1, 5)] 1 = [1] := Gp_of (by simp) fun x => by
    rw [List.mem_singleton]
    constructor
    · rintro rfl; exact ⟨by omega, .refl _, .refl _⟩
    · rintro ⟨h, r, _⟩
      exact no10 r rfl
  have hd : isHd 2 [(0, 1, 5)] ((0 : Nat) : Int) := by unfold isHd; rw [show ((0 : Nat) : Int) = 0 from rfl, hG]; rfl
  have hd1 : isHd 2 [(0, 1, 5)] ((1 : Nat) : Int) := by unfold isHd; rw [show ((1 : Nat) : Int) = 1 from rfl, hG1]; rfl
  have s0 := grs_step (many := 2) (ar := [(0, 1, 5)]) (i := 0) (by omega)
  have s1 := grs_step (many := 2) (ar := [(0, 1, 5)]) (i := 1) (by omega)
  rw [if_pos hd, show ((0 : Nat) : Int) = 0 from rfl, hG] at s0
  rw [if_pos hd1, show ((1 : Nat) : Int) = 1 from rfl, hG1] at s1
  rw [show (2 : Nat) = 1 + 1 from rfl, s1, show (1 : Nat) = 0 + 1 from rfl, s0]
  simp [grs]
theorem cmp_ne_self {h : Hv} {a b : D} {L : List (List Int)} (ha : dat h a = some (.list (L.map gT))) (hb : dat h b = some (.list (L.map gT))) : cmpD .ne h a b = some false := by
  have := eqvAll_tups L
  have e : PyData.eqv (.list (L.map gT)) (.list (L.map gT)) = true := by rw [PyData.eqv]; exact this
  have s : PySem.SeqAt.shaped (.list (L.map gT)) = true := sh_tups L
  simp only [cmpD, ha, hb, Option.bind_some, s, Bool.and_self, if_true, e, Bool.not_true]
theorem isi_list {C : Ca} {σ : Sv} {h : Hv} {i n : Nat} {xs : List P} (e : σ[i]? = some (some (.ref n))) (hn : h[n]? = some (.lst xs)) : ev C (.isi "list" (.var i)) σ h = some (.p (.bool true), h) := by
  have ht : tyName h (.ref n) = "list" := by simp only [tyName, hn]
  simp only [ev, e, Option.bind_some, ht, isScr]
  rw [if_pos ⟨trivial, by decide⟩]
  rfl
theorem isi_tup {C : Ca} {σ : Sv} {h : Hv} {i : Nat} {xs : List P} (e : σ[i]? = some (some (.p (.tuple xs)))) : ev C (.isi "tuple" (.var i)) σ h = some (.p (.bool true), h) := by
  have ht : tyName h (.p (.tuple xs)) = "tuple" := rfl
  simp only [ev, e, Option.bind_some, ht, isScr]
  rw [if_pos ⟨trivial, by decide⟩]
  rfl
theorem all_true : ∀ L : List (List Int), bools ((L.map gT).filterMap fun _ => some (PyData.bool true)) = some (L.map fun _ => true)
  | [] => rfl
  | x :: L => by
    have := all_true L
    simp only [List.map_cons, List.filterMap_cons, bools, this, Option.map_some]
abbrev tB : List S := [.set 4 (.call 1 false [(.var 2)]), .ite (.or (.not (.isi "list" (.var 4))) (.cmp .ne (.var 4) (.call 8 true [(.var 2)]))) [.ret (.bl false)] [], .ite (.not (.bi .all [(.lc [5] (.isi "tuple" (.var 5)) (.one 5) (.seq (.var 4)) none)])) [.ret (.bl false)] [], .app (.var 4) (.tup [])]
abbrev aσ (ns : List Int) (c w t f : Option D) : Sv := [some (.scr ns), c, w, t, f, none]
section
variable {fu d : Nat} {many : Int} {ar : List Ar}
theorem turn_ok (A : AOk many ar) (hm : 1 ≤ many) (hm8 : many ≤ 8) (hfu : 66 ≤ fu) {ns : List Int} {c t f : Option D} {h : Hv} : ∃ f' h', exs (run fds fu (d + 2)) fu tB (aσ ns c (some (.p (webP many ar))) t f) h = some (.nx (aσ ns c (some (.p (webP many ar))) t f') h') := by
  have e1 := groups_ok (fu := fu) (d := d) (h := h) A hm hm8 (by omega)
  have e2 := lgroups_ok (fu := fu) (d := d) (h := h ++ [.lst ((grs many ar many.toNat).map gT)]) A hm hm8 hfu
  generalize hC : run fds fu (d + 2) = C
  rw [hC] at e1 e2
  generalize hL : grs many ar many.toNat = L at e1 e2
  have hLl : L.length ≤ 8 := by
    have := grs_len (many := many) (ar := ar) many.toNat
    rw [hL] at this; omega
  have k1 : ex C fu (.set 4 (.call 1 false [(.var 2)])) (aσ ns c (some (.p (webP many ar))) t f) h = some (.nx (aσ ns c (some (.p (webP many ar))) t (some (.ref h.length))) (h ++ [.lst (L.map gT)])) :=
    set_ok (ev_callF (evs_cons (ev_var rfl) evs_nil) e1)
  have hd : dat (h ++ [.lst (L.map gT)]) (.ref h.length) = some (.list (L.map gT)) := by simp only [dat, last_get]
  have k2 : evB C (.or (.not (.isi "list" (.var 4))) (.cmp .ne (.var 4) (.call 8 true [(.var 2)]))) (aσ ns c (some (.p (webP many ar))) t (some (.ref h.length))) (h ++ [.lst (L.map gT)]) = some (false || false, h ++ [.lst (L.map gT)]) := by
    refine evB_ok (ev_or (x := false) (y := false) (ev_not (x := true) (isi_list rfl (last_get _ _))) fun _ => ?_)
    exact ev_cmp (ev_var rfl) (ev_callT (evs_cons (ev_var rfl) evs_nil) e2) (cmp_ne_self hd rfl)
  have k3 : evB C (.not (.bi .all [(.lc [5] (.isi "tuple" (.var 5)) (.one 5) (.seq (.var 4)) none)])) (aσ ns c (some (.p (webP many ar))) t (some (.ref h.length))) (h ++ [.lst (L.map gT)]) = some (!true, h ++ [.lst (L.map gT)]) := by
    refine evB_ok (ev_not (ev_bi1 (d := .p (.list ((L.map gT).filterMap fun _ => some (PyData.bool true)))) ?_ ?_))
    · refine ev_lcR (n := h.length) rfl (fun _ => some (PyData.bool true)) ?_ (by simp only [List.length_map]; unfold lim; omega) ?_
      · have hq : sq (h ++ [.lst (L.map gT)]) (.ref h.length) = some (L.map gT) := by simp only [sq, last_get]
        rw [evi, ev_var (d := .ref h.length) rfl]
        simp only [Option.bind_some, hq, Option.map_some]
      · intro x hx
        obtain ⟨l, _, rfl⟩ := List.mem_map.mp hx
        refine ⟨[some (.scr ns), c, some (.p (webP many ar)), t, some (.ref h.length), some (.p (gT l))], rfl, .inr ⟨by simp only [evc], _, ?_, rfl⟩⟩
        exact isi_tup rfl
    · simp only [biD, sq, Option.bind_some, all_true, Option.map_some]
      simp
  have k4 := app_ok (fu := fu) (C := C) (σ := aσ ns c (some (.p (webP many ar))) t (some (.ref h.length))) (o := .var 4) (e := .tup []) (y := .tuple []) (ev_var rfl) (last_get h (.lst (L.map gT))) (by simp [ev, evs, mkT, lim]) (by simp only [List.length_map]; unfold lim; omega)
  exact ⟨_, _, (exs_nx k1).trans ((exs_nx ((ite_false k2).trans exs_nil)).trans ((exs_nx ((ite_false k3).trans exs_nil)).trans (exs_one k4)))⟩
abbrev cellB : List S := [.set 2 (.call 6 false [(.call 4 false [(.var 1)]), (.int 8)]), .frr (.one 3) (.rng (.int 2)) tB]
theorem cell_ok (hfu : 66 ≤ fu) {ns : List Int} {x : Int} {w t f : Option D} {h : Hv} : ∃ w' t' f' h', exs (run fds fu (d + 3)) fu cellB (aσ ns (some (.p (.int x))) w t f) h = some (.nx (aσ ns (some (.p (.int x))) w' t' f') h') := by
  obtain ⟨a, b, c, e1⟩ := pen_of_ok (fu := fu) (d := d + 2) x h
  obtain ⟨many, ar, a', c', hm, hm8, A, e2⟩ := web_by_ok (fu := fu) (d := d) (n := h.length) (h := h ++ [pen a b c]) (last_get _ _)
  have tk := fun {c t f h} => turn_ok (fu := fu) (d := d + 1) A hm hm8 hfu (ns := ns) (c := c) (t := t) (f := f) (h := h)
  generalize hC : run fds fu (d + 3) = C
  have hC2 : run fds fu (d + 2 + 1) = C := hC
  have hC3 : run fds fu (d + 1 + 2) = C := hC
  rw [hC] at e2
  rw [hC2] at e1
  rw [hC3] at tk
  have k1 : ex C fu (.set 2 (.call 6 false [(.call 4 false [(.var 1)]), (.int 8)])) (aσ ns (some (.p (.int x))) w t f) h = some (.nx (aσ ns (some (.p (.int x))) (some (.p (webP many ar))) t f) ((h ++ [pen a b c]).set h.length (pen a' b c'))) :=
    set_ok (ev_callF (evs_cons (ev_callF (evs_cons (ev_var rfl) evs_nil) e1) (evs_cons (by simp only [ev]) evs_nil)) e2)
  obtain ⟨σ', h', e, ⟨t', f', e3⟩⟩ := frGo_inv (F := fun x σ h => (tgD (.one 3) x σ).bind fun σ1 => exs C fu tB σ1 h)
    (fun i σ hh => ∃ t f, σ = aσ ns (some (.p (.int x))) (some (.p (webP many ar))) t f) (rngL 0 2) 0 (aσ ns (some (.p (.int x))) (some (.p (webP many ar))) t f) ((h ++ [pen a b c]).set h.length (pen a' b c')) ⟨t, f, rfl⟩ (by
      intro j y hy σ hh I
      obtain ⟨t, f, rfl⟩ := I
      obtain ⟨f', h', e⟩ := tk (c := some (.p (.int x))) (t := some (.p y)) (f := f) (h := hh)
      exact ⟨_, _, e, some (.p y), f', rfl⟩)
  subst e3
  refine ⟨some (.p (webP many ar)), t', f', h', ?_⟩
  unfold cellB
  rw [exs_nx k1]
  refine exs_one ((frr_ok ?_).trans e)
  simp [evi, ev, iOf, small]
theorem pure_law : ∀ ns : List Int, ns.length ≤ 63 → ∃ fu h', Ev.run Lw.fds fu 40 9 [.scr ns] [] = some (.p (.bool true), h') := by
  intro ns hns
  refine ⟨66, ?_⟩
  have hx := cell_at_ok (fu := 66) (d := 38) ns 0 []
  obtain ⟨x0, e0⟩ := hx
  have e1 := groups_ok (fu := 66) (d := 37) (h := []) A1 (by omega) (by omega) (by omega)
  have e2 := groups_ok (fu := 66) (d := 37) (h := []) A2 (by omega) (by omega) (by omega)
  rw [show (1 : Int).toNat = 1 from rfl, ex1] at e1
  rw [show (2 : Int).toNat = 2 from rfl, ex2] at e2
  have tk := fun {x w t f h} => cell_ok (fu := 66) (d := 36) (by omega) (ns := ns) (x := x) (w := w) (t := t) (f := f) (h := h)
  rw [run_at (d := 39) (fd := ⟨1, 6, b_law⟩) rfl rfl]
  generalize hC : run fds 66 39 = C
  have hC1 : run fds 66 (38 + 1) = C := hC
  have hC2 : run fds 66 (37 + 2) = C := hC
  have hC3 : run fds 66 (36 + 3) = C := hC
  rw [hC1] at e0
  rw [hC2] at e1 e2
  rw [hC3] at tk
  have w1 : ∀ σ : Sv, evs C [(.tup [(.int 1), (.tup [])])] σ [] = some ([.p (webP 1 [])], []) := fun σ => by
    simp [evs, ev, mkT, lim, wp, webP]
  have w2 : ∀ σ : Sv, evs C [(.tup [(.int 2), (.tup [(.tup [(.int 0), (.int 1), (.int 5)])])])] σ [] = some ([.p (webP 2 [(0, 1, 5)])], []) := fun σ => by
    simp [evs, ev, mkT, lim, wp, webP, tri]
  have k1 : evB C (.or (.cmp .ne (.call 1 true [(.tup [(.int 1), (.tup [])])]) (.lst [(.tup [(.int 0)])])) (.cmp .ne (.call 1 true [(.tup [(.int 2), (.tup [(.tup [(.int 0), (.int 1), (.int 5)])])])]) (.lst [(.tup [(.int 0)]), (.tup [(.int 1)])]))) (aσ ns none none none none) [] = some (false || false, []) := by
    refine evB_ok (ev_or (ev_cmp (ev_callT (w1 _) e1) (y := .p (.list ([[0]].map gT))) (by simp [evs, ev, mkT, mkL, lim, wp]) (cmp_ne_self rfl rfl)) fun _ => ?_)
    exact ev_cmp (ev_callT (w2 _) e2) (y := .p (.list ([[0], [1]].map gT))) (by simp [evs, ev, mkT, mkL, lim, wp]) (cmp_ne_self rfl rfl)
  have hcut : (cutP ns (some 1) (some 6)).length ≤ 63 := by
    unfold cutP
    simp; omega
  have k2 : evi C (.seq (.op .add (.lst [(.call 2 false [(.var 0), (.int 0)])]) (.slc (.var 0) (some (.int 1)) (some (.int 6))))) (aσ ns none none none none) [] = some (nts (x0 :: cutP ns (some 1) (some 6)), none, []) := by
    have a1 : ev C (.lst [(.call 2 false [(.var 0), (.int 0)])]) (aσ ns none none none none) [] = some (.p (.list (nts [x0])), []) :=
      ev_lst (evs_cons (ev_callF (evs_cons (ev_var rfl) (evs_cons (by simp only [ev]; rfl) evs_nil)) e0) evs_nil) (ps := nts [x0]) (by simp [wp]) (by simp [mkL, lim])
    have a2 : ev C (.slc (.var 0) (some (.int 1)) (some (.int 6))) (aσ ns none none none none) [] = some (.p (.list (nts (cutP ns (some 1) (some 6)))), []) := by
      simp [ev, evo, iOf, slcD]
    have a3 : opD .add [] (.p (.list (nts [x0]))) (.p (.list (nts (cutP ns (some 1) (some 6))))) = some (.p (.list (nts (x0 :: cutP ns (some 1) (some 6))))) := by
      have : (nts [x0] ++ nts (cutP ns (some 1) (some 6))).length ≤ lim := by simp only [List.length_append, List.length_map, List.length_cons, List.length_nil]; unfold lim; omega
      simp only [opD, sq, Option.bind_some, mkL, this, if_true]
      rfl
    rw [evi, ev_op a1 a2 a3]; rfl
  obtain ⟨σ', h', e, ⟨c, w, t, f, e3⟩⟩ := frGo_inv (F := fun x σ h => (tgD (.one 1) x σ).bind fun σ1 => exs C 66 cellB σ1 h)
    (fun i σ hh => ∃ c w t f, σ = aσ ns c w t f) (nts (x0 :: cutP ns (some 1) (some 6))) 0 (aσ ns none none none none) [] ⟨none, none, none, none, rfl⟩ (by
      intro j y hy σ hh I
      obtain ⟨c, w, t, f, rfl⟩ := I
      obtain ⟨x, _, rfl⟩ := List.mem_map.mp (List.mem_of_getElem? hy)
      obtain ⟨w', t', f', h', e⟩ := tk (x := x) (w := w) (t := t) (f := f) (h := hh)
      exact ⟨_, _, e, _, w', t', f', rfl⟩)
  subst e3
  refine ⟨h'.take 0, ?_⟩
  show (exs C 66 b_law (aσ ns none none none none) []).bind _ = _
  unfold b_law
  have k3 : ex C 66 (.frr (.one 1) (.seq (.op .add (.lst [(.call 2 false [(.var 0), (.int 0)])]) (.slc (.var 0) (some (.int 1)) (some (.int 6))))) cellB) (aσ ns none none none none) [] = some (.nx (aσ ns c w t f) h') := (frr_ok k2).trans e
  rw [exs_nx ((ite_false k1).trans exs_nil), exs_nx k3, exs_rt (ret_ok (v := .p (.bool true)) (h1 := h') (by simp only [ev])), Option.bind_some]
  rfl
end
end Lw

end
namespace Lw
open PySem L2 Ev
def top (i : Nat) : Stmt := PySem.Challenge.pw_meanrings_k04_groups.main.body.getD i (.Pass ⟨0, 0, 0, 0⟩)
abbrev s0 : Stmt := top 1
theorem sc0 : FnScope ["web", "place", "reached", "at", "here", "one", "other", "worth"] ["web", "place"] (defScope s0) := ⟨rfl, rfl, rfl, by decide +kernel, rfl, by decide +kernel, by decide +kernel⟩
theorem ck0 : chkSs tab ["web", "place", "reached", "at", "here", "one", "other", "worth"] (defScope s0) b_places_reached (defBody s0) = true := by decide +kernel
abbrev s1 : Stmt := top 2
theorem sc1 : FnScope ["web", "many", "reached", "groups", "place", "group", "other"] ["web"] (defScope s1) := ⟨rfl, rfl, rfl, by decide +kernel, rfl, by decide +kernel, by decide +kernel⟩
theorem ck1 : chkSs tab ["web", "many", "reached", "groups", "place", "group", "other"] (defScope s1) b_groups_of (defBody s1) = true := by decide +kernel
abbrev s2 : Stmt := top 4
theorem sc2 : FnScope ["_law_script", "_law_k"] ["_law_script", "_law_k"] (defScope s2) := ⟨rfl, rfl, rfl, by decide +kernel, rfl, by decide +kernel, by decide +kernel⟩
theorem ck2 : chkSs tab ["_law_script", "_law_k"] (defScope s2) b__law_cell_at (defBody s2) = true := by decide +kernel
abbrev s3 : Stmt := top 5
theorem sc3 : FnScope ["_law_seed"] ["_law_seed"] (defScope s3) := ⟨rfl, rfl, rfl, by decide +kernel, rfl, by decide +kernel, by decide +kernel⟩
theorem ck3 : chkSs tab ["_law_seed"] (defScope s3) b__law_next (defBody s3) = true := by decide +kernel
abbrev s4 : Stmt := top 6
theorem sc4 : FnScope ["_law_cell", "_law_left"] ["_law_cell"] (defScope s4) := ⟨rfl, rfl, rfl, by decide +kernel, rfl, by decide +kernel, by decide +kernel⟩
theorem ck4 : chkSs tab ["_law_cell", "_law_left"] (defScope s4) b__law_pen_of (defBody s4) = true := by decide +kernel
abbrev s5 : Stmt := top 7
theorem sc5 : FnScope ["_law_pen", "_law_many", "_law_found"] ["_law_pen", "_law_many"] (defScope s5) := ⟨rfl, rfl, rfl, by decide +kernel, rfl, by decide +kernel, by decide +kernel⟩
theorem ck5 : chkSs tab ["_law_pen", "_law_many", "_law_found"] (defScope s5) b__law_draw (defBody s5) = true := by decide +kernel
abbrev s6 : Stmt := top 8
theorem sc6 : FnScope ["_law_pen", "_law_most", "_law_many", "_law_way", "_law_size", "_law_found", "_law_turn", "_law_place", "_law_one", "_law_other"] ["_law_pen", "_law_most"] (defScope s6) := ⟨rfl, rfl, rfl, by decide +kernel, rfl, by decide +kernel, by decide +kernel⟩
theorem ck6 : chkSs tab ["_law_pen", "_law_most", "_law_many", "_law_way", "_law_size", "_law_found", "_law_turn", "_law_place", "_law_one", "_law_other"] (defScope s6) b__law_web_by (defBody s6) = true := by decide +kernel
abbrev s7 : Stmt := top 9
theorem sc7 : FnScope ["_law_web", "_law_found", "_law_more", "_law_place", "_law_a", "_law_b", "_law_worth", "_law_new"] ["_law_web"] (defScope s7) := ⟨rfl, rfl, rfl, by decide +kernel, rfl, by decide +kernel, by decide +kernel⟩
theorem ck7 : chkSs tab ["_law_web", "_law_found", "_law_more", "_law_place", "_law_a", "_law_b", "_law_worth", "_law_new"] (defScope s7) b__law_come (defBody s7) = true := by decide +kernel
abbrev s8 : Stmt := top 10
theorem sc8 : FnScope ["_law_web", "_law_come_here", "_law_found", "_law_place", "_law_group", "_law_other"] ["_law_web"] (defScope s8) := ⟨rfl, rfl, rfl, by decide +kernel, rfl, by decide +kernel, by decide +kernel⟩
theorem ck8 : chkSs tab ["_law_web", "_law_come_here", "_law_found", "_law_place", "_law_group", "_law_other"] (defScope s8) b__law_groups (defBody s8) = true := by decide +kernel
abbrev s9 : Stmt := top 11
theorem sc9 : FnScope ["_law_script", "_law_cell", "_law_web", "_law_turn", "_law_found", "_law_group"] ["_law_script"] (defScope s9) := ⟨rfl, rfl, rfl, by decide +kernel, rfl, by decide +kernel, by decide +kernel⟩
theorem ck9 : chkSs tab ["_law_script", "_law_cell", "_law_web", "_law_turn", "_law_found", "_law_group"] (defScope s9) b_law (defBody s9) = true := by decide +kernel
section
variable {P : Program} {w : World} {K : PySem.W.Frag} {mg : Str → Option Value} {base : Heap}
set_option maxHeartbeats 4000000 in
theorem facts {l : PySem.W.OpenLaw} {w : World} {K : PySem.W.Frag} {h : Heap} {mg : Str → Option Value} {fa f0 f1 f2 f3 f4 f5 f6 f7 f8 f9 : Addr} {od0 an0 od1 an1 od2 an2 od3 an3 od4 an4 od5 an5 od6 an6 od7 an7 od8 an8 od9 an9 : Option Addr} {sl0 sl1 sl2 sl3 sl4 sl5 sl6 sl7 sl8 sl9 : Array (Option Value)} {oc0 kV0 dc0 pm0 cd0 ct0 oc1 kV1 dc1 pm1 cd1 ct1 oc2 kV2 dc2 pm2 cd2 ct2 oc3 kV3 dc3 pm3 cd3 ct3 oc4 kV4 dc4 pm4 cd4 ct4 oc5 kV5 dc5 pm5 cd5 ct5 oc6 kV6 dc6 pm6 cd6 ct6 oc7 kV7 dc7 pm7 cd7 ct7 oc8 kV8 dc8 pm8 cd8 ct8 oc9 kV9 dc9 pm9 cd9 ct9 : Value} (X : K.In h) (G : h.Ns mainGlobals mg) (hfa : mg "law" = some (.ref fa))
    (a0 : PySem.W.nsIn K mainGlobals "places_reached" = some (some (.ref f0))) (l0 : K.lookup f0 = some ⟨oc0, od0, .func (PySem.W.fnOf "places_reached" "places_reached" (defArgs s0) (defBody s0) (defScope s0) .none kV0 dc0 pm0 an0 cd0 ct0), sl0⟩) (c0 : PySem.W.codeIn K cd0 "places_reached" = true) (k0 : PySem.W.keepIn K (.ref f0) = true)
    (a1 : PySem.W.nsIn K mainGlobals "groups_of" = some (some (.ref f1))) (l1 : K.lookup f1 = some ⟨oc1, od1, .func (PySem.W.fnOf "groups_of" "groups_of" (defArgs s1) (defBody s1) (defScope s1) .none kV1 dc1 pm1 an1 cd1 ct1), sl1⟩) (c1 : PySem.W.codeIn K cd1 "groups_of" = true) (k1 : PySem.W.keepIn K (.ref f1) = true)
    (a2 : PySem.W.nsIn K mainGlobals "_law_cell_at" = some (some (.ref f2))) (l2 : K.lookup f2 = some ⟨oc2, od2, .func (PySem.W.fnOf "_law_cell_at" "_law_cell_at" (defArgs s2) (defBody s2) (defScope s2) .none kV2 dc2 pm2 an2 cd2 ct2), sl2⟩) (c2 : PySem.W.codeIn K cd2 "_law_cell_at" = true) (k2 : PySem.W.keepIn K (.ref f2) = true)
    (a3 : PySem.W.nsIn K mainGlobals "_law_next" = some (some (.ref f3))) (l3 : K.lookup f3 = some ⟨oc3, od3, .func (PySem.W.fnOf "_law_next" "_law_next" (defArgs s3) (defBody s3) (defScope s3) .none kV3 dc3 pm3 an3 cd3 ct3), sl3⟩) (c3 : PySem.W.codeIn K cd3 "_law_next" = true) (k3 : PySem.W.keepIn K (.ref f3) = true)
    (a4 : PySem.W.nsIn K mainGlobals "_law_pen_of" = some (some (.ref f4))) (l4 : K.lookup f4 = some ⟨oc4, od4, .func (PySem.W.fnOf "_law_pen_of" "_law_pen_of" (defArgs s4) (defBody s4) (defScope s4) .none kV4 dc4 pm4 an4 cd4 ct4), sl4⟩) (c4 : PySem.W.codeIn K cd4 "_law_pen_of" = true) (k4 : PySem.W.keepIn K (.ref f4) = true)
    (a5 : PySem.W.nsIn K mainGlobals "_law_draw" = some (some (.ref f5))) (l5 : K.lookup f5 = some ⟨oc5, od5, .func (PySem.W.fnOf "_law_draw" "_law_draw" (defArgs s5) (defBody s5) (defScope s5) .none kV5 dc5 pm5 an5 cd5 ct5), sl5⟩) (c5 : PySem.W.codeIn K cd5 "_law_draw" = true) (k5 : PySem.W.keepIn K (.ref f5) = true)
    (a6 : PySem.W.nsIn K mainGlobals "_law_web_by" = some (some (.ref f6))) (l6 : K.lookup f6 = some ⟨oc6, od6, .func (PySem.W.fnOf "_law_web_by" "_law_web_by" (defArgs s6) (defBody s6) (defScope s6) .none kV6 dc6 pm6 an6 cd6 ct6), sl6⟩) (c6 : PySem.W.codeIn K cd6 "_law_web_by" = true) (k6 : PySem.W.keepIn K (.ref f6) = true)
    (a7 : PySem.W.nsIn K mainGlobals "_law_come" = some (some (.ref f7))) (l7 : K.lookup f7 = some ⟨oc7, od7, .func (PySem.W.fnOf "_law_come" "_law_come" (defArgs s7) (defBody s7) (defScope s7) .none kV7 dc7 pm7 an7 cd7 ct7), sl7⟩) (c7 : PySem.W.codeIn K cd7 "_law_come" = true) (k7 : PySem.W.keepIn K (.ref f7) = true)
    (a8 : PySem.W.nsIn K mainGlobals "_law_groups" = some (some (.ref f8))) (l8 : K.lookup f8 = some ⟨oc8, od8, .func (PySem.W.fnOf "_law_groups" "_law_groups" (defArgs s8) (defBody s8) (defScope s8) .none kV8 dc8 pm8 an8 cd8 ct8), sl8⟩) (c8 : PySem.W.codeIn K cd8 "_law_groups" = true) (k8 : PySem.W.keepIn K (.ref f8) = true)
    (a9 : PySem.W.nsIn K mainGlobals "law" = some (some (.ref f9))) (l9 : K.lookup f9 = some ⟨oc9, od9, .func (PySem.W.fnOf "law" "law" (defArgs s9) (defBody s9) (defScope s9) .none kV9 dc9 pm9 an9 cd9 ct9), sl9⟩) (c9 : PySem.W.codeIn K cd9 "law" = true) (k9 : PySem.W.keepIn K (.ref f9) = true)
    (z0 : PySem.W.nsIn K mainGlobals "len" = some none) (z1 : PySem.W.nsIn K mainGlobals "tuple" = some none) (z2 : PySem.W.nsIn K mainGlobals "list" = some none) (z3 : PySem.W.nsIn K mainGlobals "sorted" = some none) (z4 : PySem.W.nsIn K mainGlobals "sum" = some none) (z5 : PySem.W.nsIn K mainGlobals "max" = some none) (z6 : PySem.W.nsIn K mainGlobals "min" = some none) (z7 : PySem.W.nsIn K mainGlobals "all" = some none) (z8 : PySem.W.nsIn K mainGlobals "any" = some none) (z9 : PySem.W.nsIn K mainGlobals "int" = some none) (z10 : PySem.W.nsIn K mainGlobals "abs" = some none) (z11 : PySem.W.nsIn K mainGlobals "isinstance" = some none) (z12 : PySem.W.nsIn K mainGlobals "range" = some none) (z13 : PySem.W.nsIn K mainGlobals "zip" = some none) (z14 : PySem.W.nsIn K mainGlobals "bool" = some none) (z15 : PySem.W.nsIn K mainGlobals "dict" = some none) (z16 : PySem.W.nsIn K mainGlobals "str" = some none)
    (hl : ∀ ns : List Int, ns.length ≤ 63 → ∃ fu h', run fds fu 40 9 [.scr ns] [] = some (.p (.bool true), h')) :
    ∃ fd : FuncData, (∀ (s : Shared) (v : Value), BindsTo s fd ⟨[v], []⟩ [("_law_script", v)]) ∧ ∀ base : Heap, K.In base → base.Ns mainGlobals mg → FnOk l.prog w K mg base CX0 40 fa fd ["_law_script"] (spLaw K) := by
  have e := hfa.symm.trans (PySem.W.mg_of X G a9)
  obtain rfl : f9 = fa := by cases e; rfl
  have F0 := fun_mk (st := s0) l0 c0 k0
  have b0 := F0.binds (ps := ["web", "place"]) fun _ _ _ _ _ _ us hl => match us, hl with | [_, _], _ => rfl
  have x0 : Fx K mg tab ⟨2, 8, b_places_reached⟩ "places_reached" 2 := ⟨f0, _, s0, _, _, _, rfl, rfl, rfl, PySem.W.mg_of X G a0, k0, b0, F0, sc0, ck0⟩
  have F1 := fun_mk (st := s1) l1 c1 k1
  have b1 := F1.binds (ps := ["web"]) fun _ _ _ _ _ _ us hl => match us, hl with | [_], _ => rfl
  have x1 : Fx K mg tab ⟨1, 7, b_groups_of⟩ "groups_of" 1 := ⟨f1, _, s1, _, _, _, rfl, rfl, rfl, PySem.W.mg_of X G a1, k1, b1, F1, sc1, ck1⟩
  have F2 := fun_mk (st := s2) l2 c2 k2
  have b2 := F2.binds (ps := ["_law_script", "_law_k"]) fun _ _ _ _ _ _ us hl => match us, hl with | [_, _], _ => rfl
  have x2 : Fx K mg tab ⟨2, 2, b__law_cell_at⟩ "_law_cell_at" 2 := ⟨f2, _, s2, _, _, _, rfl, rfl, rfl, PySem.W.mg_of X G a2, k2, b2, F2, sc2, ck2⟩
  have F3 := fun_mk (st := s3) l3 c3 k3
  have b3 := F3.binds (ps := ["_law_seed"]) fun _ _ _ _ _ _ us hl => match us, hl with | [_], _ => rfl
  have x3 : Fx K mg tab ⟨1, 1, b__law_next⟩ "_law_next" 1 := ⟨f3, _, s3, _, _, _, rfl, rfl, rfl, PySem.W.mg_of X G a3, k3, b3, F3, sc3, ck3⟩
  have F4 := fun_mk (st := s4) l4 c4 k4
  have b4 := F4.binds (ps := ["_law_cell"]) fun _ _ _ _ _ _ us hl => match us, hl with | [_], _ => rfl
  have x4 : Fx K mg tab ⟨1, 2, b__law_pen_of⟩ "_law_pen_of" 1 := ⟨f4, _, s4, _, _, _, rfl, rfl, rfl, PySem.W.mg_of X G a4, k4, b4, F4, sc4, ck4⟩
  have F5 := fun_mk (st := s5) l5 c5 k5
  have b5 := F5.binds (ps := ["_law_pen", "_law_many"]) fun _ _ _ _ _ _ us hl => match us, hl with | [_, _], _ => rfl
  have x5 : Fx K mg tab ⟨2, 3, b__law_draw⟩ "_law_draw" 2 := ⟨f5, _, s5, _, _, _, rfl, rfl, rfl, PySem.W.mg_of X G a5, k5, b5, F5, sc5, ck5⟩
  have F6 := fun_mk (st := s6) l6 c6 k6
  have b6 := F6.binds (ps := ["_law_pen", "_law_most"]) fun _ _ _ _ _ _ us hl => match us, hl with | [_, _], _ => rfl
  have x6 : Fx K mg tab ⟨2, 10, b__law_web_by⟩ "_law_web_by" 2 := ⟨f6, _, s6, _, _, _, rfl, rfl, rfl, PySem.W.mg_of X G a6, k6, b6, F6, sc6, ck6⟩
  have F7 := fun_mk (st := s7) l7 c7 k7
  have b7 := F7.binds (ps := ["_law_web"]) fun _ _ _ _ _ _ us hl => match us, hl with | [_], _ => rfl
  have x7 : Fx K mg tab ⟨1, 8, b__law_come⟩ "_law_come" 1 := ⟨f7, _, s7, _, _, _, rfl, rfl, rfl, PySem.W.mg_of X G a7, k7, b7, F7, sc7, ck7⟩
  have F8 := fun_mk (st := s8) l8 c8 k8
  have b8 := F8.binds (ps := ["_law_web"]) fun _ _ _ _ _ _ us hl => match us, hl with | [_], _ => rfl
  have x8 : Fx K mg tab ⟨1, 6, b__law_groups⟩ "_law_groups" 1 := ⟨f8, _, s8, _, _, _, rfl, rfl, rfl, PySem.W.mg_of X G a8, k8, b8, F8, sc8, ck8⟩
  have F9 := fun_mk (st := s9) l9 c9 k9
  have b9 := F9.binds (ps := ["_law_script"]) fun _ _ _ _ _ _ us hl => match us, hl with | [_], _ => rfl
  have x9 : Fx K mg tab ⟨1, 6, b_law⟩ "law" 1 := ⟨f9, _, s9, _, _, _, rfl, rfl, rfl, PySem.W.mg_of X G a9, k9, b9, F9, sc9, ck9⟩
  have hF : ∀ (j : Nat) (x : Str) (n : Nat), tab.fs[j]? = some (x, n) → ∃ fd', fds[j]? = some fd' ∧ Fx K mg tab fd' x n := by
    intro j x n e
    match j, e with
    | 0, e => cases e; exact ⟨_, rfl, x0⟩
    | 1, e => cases e; exact ⟨_, rfl, x1⟩
    | 2, e => cases e; exact ⟨_, rfl, x2⟩
    | 3, e => cases e; exact ⟨_, rfl, x3⟩
    | 4, e => cases e; exact ⟨_, rfl, x4⟩
    | 5, e => cases e; exact ⟨_, rfl, x5⟩
    | 6, e => cases e; exact ⟨_, rfl, x6⟩
    | 7, e => cases e; exact ⟨_, rfl, x7⟩
    | 8, e => cases e; exact ⟨_, rfl, x8⟩
    | 9, e => cases e; exact ⟨_, rfl, x9⟩
    | j + 10, e => simp [tab] at e
  have hg : ∀ (x : Str) (i : Int), (x, i) ∈ tab.gs → ∃ t, mg x = some (.int i t) := by
    intro x i e
    simp only [tab, List.mem_cons, List.mem_nil_iff, or_false, Prod.mk.injEq] at e
    first | exact e.elim | skip
  have hb : ∀ x ∈ blts, mg x = none := by
    intro x e
    simp only [blts, List.mem_cons, List.mem_nil_iff, or_false] at e
    rcases e with rfl | rfl | rfl | rfl | rfl | rfl | rfl | rfl | rfl | rfl | rfl | rfl | rfl | rfl | rfl | rfl | rfl
    · exact PySem.W.mg_none_of X G z0
    · exact PySem.W.mg_none_of X G z1
    · exact PySem.W.mg_none_of X G z2
    · exact PySem.W.mg_none_of X G z3
    · exact PySem.W.mg_none_of X G z4
    · exact PySem.W.mg_none_of X G z5
    · exact PySem.W.mg_none_of X G z6
    · exact PySem.W.mg_none_of X G z7
    · exact PySem.W.mg_none_of X G z8
    · exact PySem.W.mg_none_of X G z9
    · exact PySem.W.mg_none_of X G z10
    · exact PySem.W.mg_none_of X G z11
    · exact PySem.W.mg_none_of X G z12
    · exact PySem.W.mg_none_of X G z13
    · exact PySem.W.mg_none_of X G z14
    · exact PySem.W.mg_none_of X G z15
    · exact PySem.W.mg_none_of X G z16
  refine ⟨PySem.W.fnOf "law" "law" (defArgs s9) (defBody s9) (defScope s9) .none kV9 dc9 pm9 an9 cd9 ct9, fun s v => .of_eq rfl, fun base kb nb => law_ok (F := fds) (j := 9) (T := tab) (fun fu => ?_) hl⟩
  exact law_fn (all_ok (P := l.prog) (w := w) (base := base) (fu := fu) hF hg hb 39) (by rfl) F9 rfl rfl rfl sc9 ck9
end
theorem walk {l : PySem.W.OpenLaw} {q : Program} {loose : List Str} {XP : (Str → Option Value) → Heap → Prop} {YP : World → Heap → Prop} {d : DefRec} {K : Params → PySem.W.Frag} (hn : l.most = some 63) (hdf : d.params.defaults = [])
    (hY : ∀ (w : World) (h : Heap), YP w h → (K w.params).In h)
    (F : ∀ (w : World) (mg : Str → Option Value) (fa : Addr) (h : Heap), (K w.params).In h → h.Ns mainGlobals mg → mg d.name = some (.ref fa) →
      ∃ fd : FuncData, (∀ (s : Shared) (u : Value), BindsTo s fd ⟨[u], []⟩ [("_law_script", u)]) ∧ ∀ base : Heap, (K w.params).In base → base.Ns mainGlobals mg → FnOk l.prog w (K w.params) mg base CX0 40 fa fd ["_law_script"] (spLaw (K w.params))) :
    PySem.W.WalkO q loose XP YP l.row.toRowW d [] (fun f vs => PySem.call f vs) :=
  L2.walk_of (n := 63) (k := 40) (x := "_law_script") (CX := fun _ => CX0) (sp := fun w => spLaw (K w.params)) hn (by decide) hdf ⟨rfl, by decide, by decide⟩ hY F (fun _ _ a ns hl ho hS => ⟨a, ns, rfl, scr_of ho hS, hl, fun _ => rfl⟩) fun _ _ _ _ _ z => z
end Lw

open PySem PySem.W PyProof.Rows
set_option maxRecDepth 100000 in
set_option maxHeartbeats 0 in
theorem PySem.Challenge.cw_meanrings_k04_groups_holds : PySem.Challenge.rw_meanrings_k04_groups.Holds := by
  w_on; o_law; k_head; (case hw => w_witness2)
  k_fill
  refine Lw.walk (l := PySem.Challenge.rw_meanrings_k04_groups) rfl rfl (fun w h Y => PySem.W.kIn_of Y) ?F
  case F =>
    intro w mg fa h KX G hmg
    refine' Lw.facts KX G hmg ?a0 ?l0 ?c0 ?k0 ?a1 ?l1 ?c1 ?k1 ?a2 ?l2 ?c2 ?k2 ?a3 ?l3 ?c3 ?k3 ?a4 ?l4 ?c4 ?k4 ?a5 ?l5 ?c5 ?k5 ?a6 ?l6 ?c6 ?k6 ?a7 ?l7 ?c7 ?k7 ?a8 ?l8 ?c8 ?k8 ?a9 ?l9 ?c9 ?k9 ?z0 ?z1 ?z2 ?z3 ?z4 ?z5 ?z6 ?z7 ?z8 ?z9 ?z10 ?z11 ?z12 ?z13 ?z14 ?z15 ?z16 Lw.pure_law
    (case a0 => k_is); (case l0 => k_is); (case c0 => k_is); (case k0 => k_is); (case a1 => k_is); (case l1 => k_is)
    (case c1 => k_is); (case k1 => k_is); (case a2 => k_is); (case l2 => k_is); (case c2 => k_is); (case k2 => k_is)
    (case a3 => k_is); (case l3 => k_is); (case c3 => k_is); (case k3 => k_is); (case a4 => k_is); (case l4 => k_is)
    (case c4 => k_is); (case k4 => k_is); (case a5 => k_is); (case l5 => k_is); (case c5 => k_is); (case k5 => k_is)
    (case a6 => k_is); (case l6 => k_is); (case c6 => k_is); (case k6 => k_is); (case a7 => k_is); (case l7 => k_is)
    (case c7 => k_is); (case k7 => k_is); (case a8 => k_is); (case l8 => k_is); (case c8 => k_is); (case k8 => k_is)
    (case a9 => k_is); (case l9 => k_is); (case c9 => k_is); (case k9 => k_is); (case z0 => k_is); (case z1 => k_is)
    (case z2 => k_is); (case z3 => k_is); (case z4 => k_is); (case z5 => k_is); (case z6 => k_is); (case z7 => k_is)
    (case z8 => k_is); (case z9 => k_is); (case z10 => k_is); (case z11 => k_is); (case z12 => k_is); (case z13 => k_is)
    (case z14 => k_is); (case z15 => k_is); (case z16 => k_is)
