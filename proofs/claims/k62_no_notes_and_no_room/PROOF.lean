import PyProof.Rows.All
import Wide.All
import OpenK.AllK
import Wide.FinOn
import Lean
import PyProof.EqAt
import PyProof.EqKinds
import PyProof.TupleCall
import PyProof.StationsW
import PyProof.ExcClass2
import PyProof.RulesAs
import PyProof.ExcBaseAll.ValueError
import OpenK.KDescr
import OpenK.KWalk
import PyProof.ExcAttrAll.ValueError
import PyProof.Comp
import PyProof.ListRange
import PyProof.DictItems
import KE.KPairComp
import KE.KDictOf
import PyProof.AttrMissHeap
import PyProof.Rows.Range3
import KE.KRevIter
import PyProof.ZipIter
import OpenK.KEqL
import PyProof.AutoListH
import PyProof.EnumMake
import PyProof.WalksEnum
import PyProof.NeKinds
import PySem.Challenge.RW_rimnotes_k62_no_notes_and_no_room
set_option Elab.async false
set_option linter.all false
set_option maxRecDepth 100000
set_option maxHeartbeats 4000000
set_option maxRecDepth 100000
/-! THE HAND LAYER, for ints, bools, texts, own classes, LISTS and tuples (index, slices, in, append, pop ..), calls, loops. Paste it whole ahead of your own text; what your proof does not reach may be deleted. -/
namespace L2
open PySem PySem.Spec PyProof.Rows
variable {q0 : Bool}

/-- a key: an int or a str -/
abbrev Key := Sum Int Str
def keyIs : Key → Value → Bool
  | .inl k, v => Value.isInt k v
  | .inr x, v => Value.isStrOf x v
def keyH (w : World) : Key → Int
  | .inl k => hashInt k
  | .inr x => hashStr w x
theorem keyIs_shape : ∀ {k : Key} {v : Value}, keyIs k v = true → (∃ i t, k = Sum.inl i ∧ v = Value.int i t) ∨ (∃ x t, k = Sum.inr x ∧ v = Value.str x t)
  | .inl i, v, h => by
    obtain ⟨t, e⟩ := Value.isInt_shape (k := i) (v := v) h
    exact .inl ⟨i, t, rfl, e⟩
  | .inr x, v, h => by
    obtain ⟨t, e⟩ := Value.isStrOf_shape (x := x) (v := v) h
    exact .inr ⟨x, t, rfl, e⟩
theorem keyIs_int (i : Int) (t : Tok) : keyIs (.inl i) (.int i t) = true := by simp [keyIs, Value.isInt]
theorem keyIs_str (x : Str) (t : Tok) : keyIs (.inr x) (.str x t) = true := by simp [keyIs, Value.isStrOf]
theorem key_ll (a b : Int) : decide ((Sum.inl a : Key) = Sum.inl b) = (a == b) := by
  by_cases e : a = b
  · subst e; simp
  · have h : ¬ (Sum.inl a : Key) = Sum.inl b := fun q => e (Sum.inl.inj q)
    rw [decide_eq_false h]
    exact (beq_eq_false_iff_ne.mpr e).symm
theorem key_rr (a b : Str) : decide ((Sum.inr a : Key) = Sum.inr b) = decide (a = b) := by
  by_cases e : a = b
  · subst e; simp
  · have h : ¬ (Sum.inr a : Key) = Sum.inr b := fun q => e (Sum.inr.inj q)
    rw [decide_eq_false h, decide_eq_false e]
theorem key_lr (a : Int) (b : Str) : decide ((Sum.inl a : Key) = Sum.inr b) = false := decide_eq_false (fun q => nomatch q)
theorem key_rl (a : Str) (b : Int) : decide ((Sum.inr a : Key) = Sum.inl b) = false := decide_eq_false (fun q => nomatch q)

def mixKind (prog : Program) (w : World) : PySem.KeyKind prog w Key where
  is := keyIs
  hash := keyH w
  inj := fun v a b ha hb => by
    rcases keyIs_shape ha with ⟨i, t, rfl, rfl⟩ | ⟨x, t, rfl, rfl⟩
    · rcases keyIs_shape hb with ⟨j, u, rfl, e⟩ | ⟨y, u, rfl, e⟩
      · injection e with e1 _; rw [e1]
      · exact nomatch e
    · rcases keyIs_shape hb with ⟨j, u, rfl, e⟩ | ⟨y, u, rfl, e⟩
      · exact nomatch e
      · injection e with e1 _; rw [e1]
  byValue := fun k v h => by
    rcases keyIs_shape h with ⟨i, t, rfl, rfl⟩ | ⟨x, t, rfl, rfl⟩ <;> rfl
  pyHash := fun hv h => by
    rcases keyIs_shape hv with ⟨i, t, rfl, rfl⟩ | ⟨x, t, rfl, rfl⟩
    · exact wpAny_pyHash_int h
    · exact wpAny_pyHash_str h
  eqBool := fun hu hv h => by
    rcases keyIs_shape hu with ⟨i, t, rfl, rfl⟩ | ⟨x, t, rfl, rfl⟩
    · rcases keyIs_shape hv with ⟨j, u, rfl, rfl⟩ | ⟨y, u, rfl, rfl⟩
      · rw [key_ll] at h; exact wpAny_eqBool_int h
      · rw [key_lr] at h; exact SeqAt.EqAt.int_str i t y u _ _ _ _ h
    · rcases keyIs_shape hv with ⟨j, u, rfl, rfl⟩ | ⟨y, u, rfl, rfl⟩
      · rw [key_rl] at h; exact SeqAt.EqAt.str_int x t j u _ _ _ _ h
      · rw [key_rr] at h; exact wpAny_eqBool_str h
  «strs» := fun k x t v h => by
    rcases keyIs_shape h with ⟨i, u, rfl, e⟩ | ⟨y, u, rfl, e⟩
    · exact nomatch e
    · injection e with e1 _
      subst e1
      cases v <;> rfl

theorem mixKind_int (prog : Program) (w : World) (i : Int) (t : Tok) : (mixKind prog w).is (.inl i) (.int i t) = true := keyIs_int i t
theorem mixKind_str (prog : Program) (w : World) (x : Str) (t : Tok) : (mixKind prog w).is (.inr x) (.str x t) = true := keyIs_str x t
end L2

namespace L2
open PySem PySem.Spec PyProof.Rows
variable {q0 : Bool}

/-- a value, without the heap -/
inductive V where
  | non | bl (b : Bool) | int (i : Int) | str (x : Str) | byt (b : Array UInt8) | flt (b : UInt64) | ref (a : Addr) | ty (n : String)
  deriving DecidableEq

def RelV : V → Value → Prop
  | .non, u => u = Value.none
  | .bl b, u => u = Value.bool b
  | .int i, u => ∃ t, u = Value.int i t
  | .str x, u => ∃ t, u = Value.str x t
  | .byt b, u => ∃ t, u = Value.bytes b t
  | .flt b, u => ∃ t, u = Value.float b t
  | .ref a, u => u = Value.ref a
  | .ty n, u => u = Value.type n

abbrev Vals : List V → List Value → Prop := Paired RelV
theorem Vals.length {xs : List V} {us : List Value} (r : Vals xs us) : xs.length = us.length := Paired.length r
theorem Vals.get : ∀ {xs : List V} {us : List Value} {i : Nat} {x : V}, Vals xs us → xs[i]? = some x → ∃ u, us[i]? = some u ∧ RelV x u
  | _, _, _, _, .nil, e => by simp at e
  | _, _, 0, _, .cons r _, e => by simp at e; subst e; exact ⟨_, rfl, r⟩
  | _, _, i + 1, x, .cons _ t, e => by
    obtain ⟨u, h1, h2⟩ := Vals.get (i := i) (x := x) t (by simpa using e)
    exact ⟨u, by simpa using h1, h2⟩
theorem Vals.set {x : V} {u : Value} (r : RelV x u) : ∀ {xs : List V} {us : List Value} (i : Nat), Vals xs us → Vals (xs.set i x) (us.set i u)
  | _, _, _, .nil => .nil
  | _, _, 0, .cons _ t => .cons r t
  | _, _, i + 1, .cons q t => .cons q (Vals.set r i t)
theorem Vals.append : ∀ {xs ys : List V} {us ws : List Value}, Vals xs us → Vals ys ws → Vals (xs ++ ys) (us ++ ws)
  | _, _, _, _, .nil, s => s
  | _, _, _, _, .cons r t, s => .cons r (Vals.append t s)
theorem Vals.take : ∀ {xs : List V} {us : List Value} (n : Nat), Vals xs us → Vals (xs.take n) (us.take n)
  | _, _, 0, _ => .nil
  | _, _, _ + 1, .nil => .nil
  | _, _, n + 1, .cons r t => .cons r (Vals.take n t)
theorem Vals.drop : ∀ {xs : List V} {us : List Value} (n : Nat), Vals xs us → Vals (xs.drop n) (us.drop n)
  | _, _, 0, r => r
  | _, _, _ + 1, .nil => .nil
  | _, _, n + 1, .cons _ t => Vals.drop n t
def RelO : Option V → Option Value → Prop
  | some v, some u => RelV v u
  | none, none => True
  | _, _ => False
def KV {κ : Type} : List (κ × V) → List (κ × Value) → Prop := Paired fun (p : κ × V) (q : κ × Value) => p.1 = q.1 ∧ RelV p.2 q.2

/-- a key of a dict (00_mix): an int or a text -/
def kV : Key → V
  | .inl i => .int i
  | .inr x => .str x

/-- what stands at a tracked address -/
inductive HO where
  /-- a list -/
  | lst (xs : List V)
  /-- a tuple (never changes) -/
  | tup (xs : List V)
  /-- a dict whose keys are ints and texts; one whose keys are tuples of ints and texts (the empty one is both) -/
  | dK (kvs : List (Key × V)) | dT (kvs : List (List Key × V))
  /-- a set of ints: its members, its size -/
  | set (S : Int → Bool) (n : Nat)
  /-- an instance of the class at C, its dict at dx, its attributes -/
  | ins (C dx : Addr) (fs : List (Str × V))
  /-- the dict of the instance at x -/
  | own (x : Addr)
  /-- the dict of an exception -/
  | xd (fs : List (Str × V))
  /-- a bound method, f of x -/
  | met (f x : Addr)
  /-- a range object lo, lo + 1, .. below hi -/
  | rng (lo hi : Int)
  /-- a thing that is known to the object (the script; a dict while a loop walks it): read, never written while it is so -/
  | frz (o : Obj) (u : HO)
  /-- a code object's table -/
  | tbl (ps : Array Value)
  /-- any other thing, by what is true of its one object (a def of one's own: SetO a S n := HO.ext fun h => ..) -/
  | ext (φ : Heap → Prop)

abbrev Hp := Addr → Option HO
def upd (H : Hp) (a : Addr) (o : HO) : Hp := fun b => if b = a then some o else H b
theorem upd_same {H : Hp} {a : Addr} {o : HO} : upd H a o a = some o := by unfold upd; rw [if_pos rfl]
theorem upd_ne {H : Hp} {a b : Addr} {o : HO} (h : b ≠ a) : upd H a o b = H b := by unfold upd; rw [if_neg h]
/-- two objects of different content stand apart -/
theorem ne_of {H : Hp} {a b : Addr} {o u : HO} (h : H a = some o) (h' : H b = some u) (d : o ≠ u) : a ≠ b := by
  intro e; subst e; rw [h] at h'; exact d (Option.some.inj h')
theorem ne_of_none {H : Hp} {a b : Addr} {o : HO} (h : H a = some o) (h' : H b = none) : a ≠ b := by
  intro e; subst e; rw [h] at h'; cases h'

section
variable (P : Program) (w : World)
def ObjOk (H : Hp) (h : Heap) (a : Addr) : HO → Prop
  | .lst xs => xs.length ≤ sizeLine ∧ ∃ (its : List Value) (n : Nat), Vals xs its ∧ h.get? a = some { cls := .type "list", data := .seq its.toArray n }
  | .tup xs => xs.length ≤ sizeLine ∧ ∃ its : List Value, Vals xs its ∧ IsTup h a its.toArray
  | .dK kvs => kvs.length ≤ sizeLine ∧ (a == sysModules) = false ∧ ∃ vs, KV kvs vs ∧ h.DictOf (mixKind P w) a vs
  | .dT kvs => kvs.length ≤ sizeLine ∧ (a == sysModules) = false ∧ ∃ xs : List (List Key × Addr × Value),
      Paired (fun (p : List Key × V) (q : List Key × Addr × Value) => p.1 = q.1 ∧ H q.2.1 = some (.tup (p.1.map kV)) ∧ RelV p.2 q.2.2) kvs xs ∧
      ∃ o es ep, h.get? a = some o ∧ o.ExactDict ∧ o.data = .dict es ep ∧ es.toList = xs.map (entryOfKey (tupleKind (mixKind P w))) ∧ (xs.map (·.1)).Nodup
  | .set S n => h.SetOf (intKind P w) a S n
  | .ins C dx fs => H dx = some (.own a) ∧ fs.length ≤ 1000 ∧ dx ≠ a ∧ h.get? a = some (PySem.W.instObj C dx) ∧
      ∃ mA, h.Ns1 dx mA ∧ (∀ f, RelO (fs.lookup f) (mA f)) ∧ PySem.Within mA (fs.map (·.1))
  | .own _ => ∃ o, h.get? a = some o
  | .xd fs => ∃ mA, h.Ns1 a mA ∧ ∀ f, RelO (fs.lookup f) (mA f)
  | .rng lo hi => ∃ t u v, h.get? a = some { cls := .type "range", data := .fields #[.int lo t, .int hi u, .int 1 v] }
  | .frz o u => h.get? a = some o ∧ ObjOk H h a u
  | .tbl ps => h.get? a = some { cls := .none, data := .fields ps }
  | .met f x => h.get? a = some (PySem.W.methodObj (.ref f) (.ref x))
  | .ext φ => φ h ∧ (∃ o, h.get? a = some o) ∧ ∀ h1 h2 : Heap, φ h1 → (∀ o, h1.get? a = some o → h2.get? a = some o) → φ h2
/-- the abstract heap is held -/
def HOk (H : Hp) (h : Heap) : Prop := ∀ a o, H a = some o → ObjOk P w H h a o
end

section
variable {P : Program} {w : World} {H H' : Hp} {h h' : Heap} {a : Addr} {o : HO}
theorem ObjOk.lt (x : ObjOk P w H h a o) : a < h.objs.size := by
  cases o with
  | lst xs => obtain ⟨_, _, _, _, e⟩ := x; exact Heap.lt_size e
  | tup xs => obtain ⟨_, _, _, p⟩ := x; exact p.lt
  | dK kvs => obtain ⟨_, _, _, _, o, _, _, e, _⟩ := x; exact Heap.lt_size e
  | dT kvs => obtain ⟨_, _, _, _, o, _, _, e, _⟩ := x; exact Heap.lt_size e
  | set S n => obtain ⟨o, _, _, _, e, _⟩ := x; exact Heap.lt_size e
  | ins C dx fs => obtain ⟨_, _, _, e, _⟩ := x; exact Heap.lt_size e
  | own y => obtain ⟨_, e⟩ := x; exact Heap.lt_size e
  | xd fs => obtain ⟨_, ⟨_, _, _, e, _⟩, _⟩ := x; exact Heap.lt_size e
  | rng lo hi => obtain ⟨_, _, _, e⟩ := x; exact Heap.lt_size e
  | frz ob u => obtain ⟨e, _⟩ := x; exact Heap.lt_size e
  | tbl ps => exact Heap.lt_size (show h.get? a = some _ from x)
  | met f y => exact Heap.lt_size (show h.get? a = some _ from x)
  | ext φ => obtain ⟨_, ⟨_, e⟩, _⟩ := x; exact Heap.lt_size e
theorem Paired.mapP {α β : Type} {F G : α → β → Prop} : ∀ {l₁ : List α} {l₂ : List β}, Paired F l₁ l₂ → (∀ a b, F a b → G a b) → Paired G l₁ l₂
  | _, _, .nil, _ => .nil
  | _, _, .cons r t, f => .cons (f _ _ r) (Paired.mapP t f)
/-- what an object's description leans on: its own object, its own dict, the tuples -/
theorem ObjOk.stay (x : ObjOk P w H h a o) (k : ∀ b u, (b = a ∨ H b = some (.own a)) → h.get? b = some u → h'.get? b = some u)
    (ho : ∀ b, H b = some (.own a) → H' b = some (.own a)) (ht : ∀ b xs, H b = some (.tup xs) → H' b = some (.tup xs)) : ObjOk P w H' h' a o := by
  induction o with
  | lst xs => obtain ⟨z, its, n, r, e⟩ := x; exact ⟨z, its, n, r, k _ _ (.inl rfl) e⟩
  | tup xs => obtain ⟨z, its, r, ob, e, c⟩ := x; exact ⟨z, its, r, ob, k _ _ (.inl rfl) e, c⟩
  | dK kvs => obtain ⟨z, y, vs, r, ob, es, ep, e, c⟩ := x; exact ⟨z, y, vs, r, ob, es, ep, k _ _ (.inl rfl) e, c⟩
  | dT kvs =>
    obtain ⟨z, y, xs, r, ob, es, ep, e, c⟩ := x
    exact ⟨z, y, xs, Paired.mapP r fun p q z => ⟨z.1, ht _ _ z.2.1, z.2.2⟩, ob, es, ep, k _ _ (.inl rfl) e, c⟩
  | set S n => obtain ⟨ob, es, ep, t, e, c⟩ := x; exact ⟨ob, es, ep, t, k _ _ (.inl rfl) e, c⟩
  | ins C dx fs =>
    obtain ⟨d, z, ne, e, mA, ⟨od, es, ep, e2, c⟩, r⟩ := x
    exact ⟨ho _ d, z, ne, k _ _ (.inl rfl) e, mA, ⟨od, es, ep, k _ _ (.inr d) e2, c⟩, r⟩
  | own y => obtain ⟨ob, e⟩ := x; exact ⟨ob, k _ _ (.inl rfl) e⟩
  | xd fs => obtain ⟨mA, ⟨od, es, ep, e, c⟩, r⟩ := x; exact ⟨mA, ⟨od, es, ep, k _ _ (.inl rfl) e, c⟩, r⟩
  | rng lo hi => obtain ⟨t, u, v, e⟩ := x; exact ⟨t, u, v, k _ _ (.inl rfl) e⟩
  | frz ob u ih => obtain ⟨e, q⟩ := x; exact ⟨k _ _ (.inl rfl) e, ih q⟩
  | tbl ps =>
    have e : h.get? a = some { cls := .none, data := .fields ps } := x
    show h'.get? a = some { cls := .none, data := .fields ps }
    exact k a _ (.inl rfl) e
  | met f y =>
    have e : h.get? a = some (PySem.W.methodObj (.ref f) (.ref y)) := x
    show h'.get? a = some (PySem.W.methodObj (.ref f) (.ref y))
    exact k a _ (.inl rfl) e
  | ext φ => obtain ⟨p, ⟨o, e⟩, st⟩ := x; exact ⟨st _ _ p fun o q => k _ _ (.inl rfl) q, ⟨o, k _ _ (.inl rfl) e⟩, st⟩
theorem HOk.lt (x : HOk P w H h) (e : H a = some o) : a < h.objs.size := (x a o e).lt
theorem HOk.fresh (x : HOk P w H h) (e : h.objs.size ≤ a) : H a = none := by
  cases q : H a with
  | none => rfl
  | some u => exact absurd (Nat.lt_of_lt_of_le (x.lt q) e) (Nat.lt_irrefl _)
/-- every object of the heap is kept -/
theorem HOk.kept (x : HOk P w H h) (k : ∀ b u, h.get? b = some u → h'.get? b = some u) : HOk P w H h' := fun a o e =>
  (x a o e).stay (fun b u _ q => k b u q) (fun _ q => q) fun _ _ q => q
/-- a new object is laid and tracked -/
theorem HOk.laid (x : HOk P w H h) (k : ∀ b u, h.get? b = some u → h'.get? b = some u) (hp : h.objs.size ≤ a) (new : ObjOk P w (upd H a o) h' a o) : HOk P w (upd H a o) h' := fun b u e => by
  have hn := x.fresh hp
  by_cases hb : b = a
  · subst hb; rw [upd_same] at e; cases e; exact new
  · rw [upd_ne hb] at e
    exact (x b u e).stay (fun c v _ q => k c v q) (fun c q => by rw [upd_ne (ne_of_none q hn)]; exact q) fun c xs q => by rw [upd_ne (ne_of_none q hn)]; exact q
end

/-- what may be read as u: it is u, or a known u -/
def Rd (H : Hp) (a : Addr) (u : HO) : Prop := H a = some u ∨ ∃ o, H a = some (.frz o u)
theorem Rd.of {H : Hp} {a : Addr} {u : HO} (h : H a = some u) : Rd H a u := .inl h
theorem Rd.ok {P : Program} {w : World} {H : Hp} {h : Heap} {a : Addr} {u : HO} (r : Rd H a u) (x : HOk P w H h) : ObjOk P w H h a u := by
  rcases r with r | ⟨o, r⟩
  · exact x a u r
  · obtain ⟨_, q⟩ := x a _ r
    exact q
/-- what may be written -/
def Mut : Option HO → Prop
  | some (.lst _) => True
  | some (.dK _) => True
  | some (.dT _) => True
  | some (.set _ _) => True
  | some (.ins _ _ _) => True
  | some (.ext _) => True
  | _ => False
section
variable {P : Program} {w : World} {H : Hp} {h h' : Heap} {x e : Addr} {o' : HO}
/-- the object at e is changed: x itself, or the dict of the instance x -/
theorem HOk.write (ok : HOk P w H h) (mu : Mut (H x)) (he : e = x ∨ H e = some (.own x)) (k : ∀ b u, b ≠ e → h.get? b = some u → h'.get? b = some u) (heo : ∃ u, h'.get? e = some u)
    (new : ObjOk P w (upd H x o') h' x o') : HOk P w (upd H x o') h' := fun b u q => by
  have nown : ∀ c y, H c = some (.own y) → c ≠ x := fun c y r z => by subst z; rw [r] at mu; exact mu
  have ntup : ∀ c xs, H c = some (.tup xs) → c ≠ x := fun c xs r z => by subst z; rw [r] at mu; exact mu
  by_cases hb : b = x
  · subst hb; rw [upd_same] at q; cases q; exact new
  · rw [upd_ne hb] at q
    by_cases hbe : b = e
    · have q' : H b = some (.own x) := by
        rcases he with z | z
        · exact absurd (hbe.trans z) hb
        · rw [hbe]; exact z
      rw [q] at q'; cases q'
      obtain ⟨v, hv⟩ := heo
      exact ⟨v, by rw [hbe]; exact hv⟩
    · refine (ok b u q).stay (fun c v hc r => k c v ?_ r) (fun c r => by rw [upd_ne (nown c b r)]; exact r) fun c xs r => by rw [upd_ne (ntup c xs r)]; exact r
      rcases hc with rfl | hc
      · exact hbe
      · rintro rfl
        rcases he with z | z
        · exact nown c b hc z
        · rw [hc] at z; cases z; exact hb rfl
end

/-! ### kept unless tracked; of the frames at fs (the callers') the slots may change (an exception that passes writes there); of the records at ex (iterators) nothing is said -/
structure Un (fs ex : List Addr) (H H' : Hp) (h h' : Heap) : Prop where
  keep : ∀ b o, h.get? b = some o → H b = none → b ∉ fs → b ∉ ex → h'.get? b = some o
  slot : ∀ b o, h.get? b = some o → H b = none → b ∈ fs → b ∉ ex → ∃ sl, h'.get? b = some { o with slots := sl }
  free : ∀ b o, h.get? b = some o → H b = none → b ∉ ex → H' b = none
  there : ∀ b o, h.get? b = some o → b ∉ ex → ∃ o', h'.get? b = some o'
  tups : ∀ b xs, H b = some (.tup xs) → H' b = some (.tup xs)
  frzs : ∀ b o u, H b = some (.frz o u) → H' b = some (.frz o u)
  tbls : ∀ b ps, H b = some (.tbl ps) → ∃ more, H' b = some (.tbl (ps ++ more))
section
variable {fs fs' ex ex' : List Addr} {H H1 H2 : Hp} {h h1 h2 h' : Heap} {a x e : Addr} {o : HO}
theorem Un.any (u : Un fs ex H H1 h h1) {b : Addr} {ob : Obj} (q : h.get? b = some ob) (n : H b = none) (hx : b ∉ ex) : ∃ sl, h1.get? b = some { ob with slots := sl } := by
  by_cases hb : b ∈ fs
  · exact u.slot b ob q n hb hx
  · exact ⟨ob.slots, u.keep b ob q n hb hx⟩
theorem Un.trans (a : Un fs ex H H1 h h1) (b : Un fs ex H1 H2 h1 h2) : Un fs ex H H2 h h2 where
  keep := fun c ob q n hc hx => b.keep c ob (a.keep c ob q n hc hx) (a.free c ob q n hx) hc hx
  slot := fun c ob q n hc hx => by
    obtain ⟨sl, e1⟩ := a.slot c ob q n hc hx
    obtain ⟨sl', e2⟩ := b.slot c _ e1 (a.free c ob q n hx) hc hx
    exact ⟨sl', e2⟩
  free := fun c ob q n hx => by
    obtain ⟨o', e1⟩ := a.there c ob q hx
    exact b.free c o' e1 (a.free c ob q n hx) hx
  there := fun c ob q hx => by
    obtain ⟨o', e1⟩ := a.there c ob q hx
    exact b.there c o' e1 hx
  tups := fun c xs q => b.tups c xs (a.tups c xs q)
  frzs := fun c ob xs q => b.frzs c ob xs (a.frzs c ob xs q)
  tbls := fun c ps q => by
    obtain ⟨m1, e1⟩ := a.tbls c ps q
    obtain ⟨m2, e2⟩ := b.tbls c _ e1
    exact ⟨m1 ++ m2, by rw [e2, Array.append_assoc]⟩
theorem Un.kept (k : ∀ b u, h.get? b = some u → h'.get? b = some u) : Un fs ex H H h h' :=
  ⟨fun b ob q _ _ _ => k b ob q, fun b ob q _ _ _ => ⟨ob.slots, k b ob q⟩, fun _ _ _ n _ => n, fun b ob q _ => ⟨ob, k b ob q⟩, fun _ _ q => q, fun _ _ _ q => q, fun _ ps q => ⟨#[], by rw [q]; simp⟩⟩
theorem Un.refl : Un fs ex H H h h := Un.kept fun _ _ q => q
theorem Un.laid (k : ∀ b u, h.get? b = some u → h'.get? b = some u) (hp : h.objs.size ≤ a) (hn : H a = none) : Un fs ex H (upd H a o) h h' where
  keep := fun b u q _ _ _ => k b u q
  slot := fun b u q _ _ _ => ⟨u.slots, k b u q⟩
  free := fun b u q n _ => by rw [upd_ne (Nat.ne_of_lt (Nat.lt_of_lt_of_le (Heap.lt_size q) hp))]; exact n
  there := fun b u q _ => ⟨u, k b u q⟩
  tups := fun b xs q => by rw [upd_ne (ne_of_none q hn)]; exact q
  frzs := fun b u xs q => by rw [upd_ne (ne_of_none q hn)]; exact q
  tbls := fun b ps q => ⟨#[], by rw [upd_ne (ne_of_none q hn), q]; simp⟩
theorem Un.write (mu : Mut (H x)) (he : e = x ∨ H e = some (.own x)) (k : ∀ b u, b ≠ e → h.get? b = some u → h'.get? b = some u) (heo : ∃ u, h'.get? e = some u) : Un fs ex H (upd H x o) h h' := by
  have hx : ∀ b, H b = none → b ≠ x := fun b n z => by subst z; rw [n] at mu; exact mu
  have hb : ∀ b, H b = none → b ≠ e := fun b n z => by
    subst z
    rcases he with r | r
    · exact hx b n r
    · rw [n] at r; cases r
  have hm : ∀ b u, H b = some u → ¬ Mut (some u) → b ≠ x := fun b u q nm z => by subst z; rw [q] at mu; exact nm mu
  refine ⟨fun b u q n _ _ => k b u (hb b n) q, fun b u q n _ _ => ⟨u.slots, k b u (hb b n) q⟩, fun b u q n _ => by rw [upd_ne (hx b n)]; exact n, fun b u q _ => ?_,
    fun b xs q => by rw [upd_ne (hm b _ q fun z => z)]; exact q, fun b u xs q => by rw [upd_ne (hm b _ q fun z => z)]; exact q, fun b ps q => ⟨#[], by rw [upd_ne (hm b _ q fun z => z), q]; simp⟩⟩
  by_cases hbe : b = e
  · subst hbe; exact heo
  · exact ⟨u, k b u hbe q⟩
theorem Un.mono (u : Un fs ex H H1 h h1) (hs : ∀ b ∈ fs, b ∈ fs') (hx : ∀ b ∈ ex, b ∈ ex') : Un fs' ex' H H1 h h1 :=
  ⟨fun b ob q n hb he => u.keep b ob q n (fun z => hb (hs b z)) fun z => he (hx b z), fun _ _ q n _ he => u.any q n fun z => he (hx _ z), fun b ob q n he => u.free b ob q n fun z => he (hx b z), fun b ob q he => u.there b ob q fun z => he (hx b z), u.tups, u.frzs, u.tbls⟩
end

/-! ### the heap without what is tracked -/
def trk (h : Heap) (H : Hp) : List Addr := (List.range h.objs.size).filter fun a => (H a).isSome
def hidT (h : Heap) (H : Hp) : Heap := PySem.W.hideAll h (trk h H)
theorem hidT_size (h : Heap) (H : Hp) : (hidT h H).objs.size = h.objs.size := PySem.W.hideAll_size _ _
theorem hidT_get {h : Heap} {H : Hp} {b : Addr} {o : Obj} (e : h.get? b = some o) (n : H b = none) : (hidT h H).get? b = some o :=
  PySem.W.hideAll_get _ e fun hm => by
    have q : (H b).isSome = true := (List.mem_filter.mp hm).2
    rw [n] at q; simp at q
theorem of_hidT {h : Heap} {H : Hp} {b : Addr} {o : Obj} (e : (hidT h H).get? b = some o) : h.get? b = some o ∧ H b = none := by
  have e' : h.get? b = some o := PySem.W.of_hideAll (trk h H) e
  refine ⟨e', ?_⟩
  cases q : H b with
  | none => rfl
  | some x =>
    have hm : b ∈ trk h H := List.mem_filter.mpr ⟨List.mem_range.mpr (Heap.lt_size e'), by simp [q]⟩
    have z : (hidT h H).get? b = none := PySem.W.hideAll_none (trk h H) hm
    rw [z] at e; cases e

/-! ### OpenK's ledger, filled with every new object but one -/
def allNews (g h : Heap) (L : Addr) : List (Addr × Obj) := (List.range h.objs.size).filterMap fun a => if a = L ∨ (g.get? a).isSome = true then none else (h.get? a).map fun o => (a, o)
def rest (g h : Heap) (L d : Addr) : List (Addr × Obj) := (allNews g h L).filter fun p => decide (p.1 ≠ d)
end L2

namespace L2
open PySem PySem.Spec PyProof.Rows
variable {q0 : Bool}

/-- the module's facts, over the base: the heap at the law's entry without what is tracked there -/
structure Mod (K : PySem.W.Frag) (mg : Str → Option Value) (base : Heap) : Prop where
  kin : K.In base
  glob : base.Ns mainGlobals mg
  blt : ∃ mb, base.Ns builtinsNs mb ∧ ∀ x : Str, x ≠ "__name__" → mb x = bootBuiltins x
  nolimit : base.NoLimit

/-- the context: a def's body (or a comprehension's block) running. base: fixed through the whole law; s₀, H₀: the entry; outer: the frames whose slots others may change (a def's callers); stack: all frames that run;
   ex: iterators that were made ahead of the entry and are walked here (a comprehension's); fn: the names whose cells were made at the entry (a def: all; a comprehension's block: its own); calm: not within an except suite; pn: pins that every state bears; xe: what is wanted of an exception that leaves the code -/
structure Cx where
  prog : Program
  w : World
  K : PySem.W.Frag
  mg : Str → Option Value
  base : Heap
  A : Around
  N : List Str
  s₀ : Shared
  H₀ : Hp
  env : Env
  outer : List Env
  stack : List Env
  ex : List Addr
  fn : Str → Bool
  calm : Bool
  pn : List (Addr × Obj)
  xe : Value → Shared → Prop
/-- the callers' frames -/
def frs (l : List Env) : List Addr := l.filterMap (·.frame)
abbrev Cx.fs (X : Cx) : List Addr := frs X.outer

def Vis (sc : Scope) (x : Str) : Prop := sc.names.lookup x = some .local ∨ sc.names.lookup x = some .cell ∨ sc.names.lookup x = some .free
def Loc (sc : Scope) (x : Str) : Prop := sc.names.lookup x = some .local ∨ sc.names.lookup x = some .cell
def Look (env : Env) (h : Heap) (m : Str → Option Value) (x : Str) (u : Value) : Prop :=
  (env.kindOf x = some .local ∧ m x = some u) ∨ ((env.kindOf x = some .cell ∨ env.kindOf x = some .free) ∧ ∃ c, env.cells.lookup x = some c ∧ h.IsCell c (some u))

structure Cx.Ok (X : Cx) : Prop where
  mod : Mod X.K X.mg X.base
  kind : X.env.scope.kind = .function
  glob : X.env.globals = mainGlobals
  blt : X.env.builtins = builtinsNs
  above : X.s₀.heap.objs.size ≤ X.env.locals
  inj : ∀ x y c, X.env.cells.lookup x = some c → X.env.cells.lookup y = some c → x = y
  has : ∀ x, (X.env.kindOf x = some .cell ∨ X.env.kindOf x = some .free) → ∃ c, X.env.cells.lookup x = some c
  cab : ∀ x c, X.fn x = true → X.env.cells.lookup x = some c → X.s₀.heap.objs.size ≤ c
  hd : X.calm = true → X.A.handled = none
  frames : X.A.frames = some X.stack
  stk : X.stack = X.outer ∨ (X.stack = X.env :: X.outer ∧ X.env.frame = some X.env.locals)
  exf : ∀ b ∈ X.ex, b ≠ X.env.locals ∧ ∀ x c, X.env.cells.lookup x = some c → c ≠ b
  bs : ∀ b o, X.base.get? b = some o → X.s₀.heap.get? b = some o ∧ X.H₀ b = none
  bsz : X.base.objs.size ≤ X.s₀.heap.objs.size
  noex : ∀ b o, X.base.get? b = some o → b ∉ X.ex
  exfs : ∀ b ∈ X.ex, b ∉ X.fs
  funs : X.s₀.heap.FunFrames X.base X.outer
  frf : ∀ b ∈ X.fs, X.H₀ b = none

structure Inv (X : Cx) (pins : List (Addr × Obj)) (σ : List (Option V)) (H : Hp) (s : Shared) : Prop where
  ok : X.Ok
  os : s.os = X.s₀.os
  bare : AllBare s.gens
  base : Un X.fs X.ex X.H₀ H X.s₀.heap s.heap
  loc : ∃ m, s.heap.Ns X.env.locals m ∧ ∀ (i : Nat) (x : Str) (v : V), X.N[i]? = some x → σ[i]? = some (some v) → Vis X.env.scope x → ∃ u, RelV v u ∧ Look X.env s.heap m x u
  cell : ∀ x c, X.env.cells.lookup x = some c → ∃ v, s.heap.IsCell c v
  free : H X.env.locals = none
  freeC : ∀ x c, X.env.cells.lookup x = some c → H c = none
  pin : ∀ p ∈ X.pn ++ pins, s.heap.get? p.1 = some p.2 ∧ H p.1 = none ∧ p.1 ≠ X.env.locals ∧ p.1 ∉ X.fs ∧ ∀ v, p.2.data ≠ .cell v
  hok : HOk X.prog X.w H s.heap
  len : σ.length = X.N.length

section
variable {X : Cx} {pins : List (Addr × Obj)} {σ : List (Option V)} {H H' : Hp} {s : Shared} {h' : Heap}

theorem Cx.Ok.nofr (ok : X.Ok) {b : Addr} {o : Obj} (e : X.base.get? b = some o) : b ∉ X.fs := fun hb => by
  have := (ok.funs.mem hb).1
  rw [e] at this; cases this
theorem Inv.bs (I : Inv X pins σ H s) : ∀ b o, X.base.get? b = some o → s.heap.get? b = some o ∧ H b = none := fun b o e =>
  ⟨I.base.keep b o (I.ok.bs b o e).1 (I.ok.bs b o e).2 (I.ok.nofr e) (I.ok.noex b o e), I.base.free b o (I.ok.bs b o e).1 (I.ok.bs b o e).2 (I.ok.noex b o e)⟩
theorem Inv.bk (I : Inv X pins σ H s) : ∀ b o, X.base.get? b = some o → s.heap.get? b = some o := fun b o e => (I.bs b o e).1
theorem Inv.mod (I : Inv X pins σ H s) : Mod X.K X.mg X.base := I.ok.mod
theorem Inv.kIn (I : Inv X pins σ H s) : X.K.In s.heap := I.ok.mod.kin.keeps I.bk
theorem Inv.nolimit (I : Inv X pins σ H s) : s.heap.NoLimit := I.ok.mod.nolimit.keeps I.bk
/-- the frame over the base: for OpenK's rules (K.In X.base is I.mod.kin) -/
theorem Inv.fr (I : Inv X pins σ H s) : ∃ m, Fr X.base X.env.locals s.heap m :=
  let ⟨m, hn, _⟩ := I.loc
  ⟨m, hn, I.bk, Nat.le_trans I.ok.bsz I.ok.above⟩
theorem Inv.lt (I : Inv X pins σ H s) : X.env.locals < s.heap.objs.size := let ⟨_, hn, _⟩ := I.loc; hn.lt
theorem Inv.sz (I : Inv X pins σ H s) : X.s₀.heap.objs.size ≤ s.heap.objs.size := Nat.le_trans I.ok.above (Nat.le_of_lt I.lt)
theorem Inv.nofs (I : Inv X pins σ H s) {a : Addr} (h : s.heap.objs.size ≤ a) : a ∉ X.fs := fun hb => by
  obtain ⟨_, o, ho, _⟩ := I.ok.funs.mem hb
  exact absurd (Nat.lt_of_lt_of_le (Heap.lt_size ho) (Nat.le_trans I.sz h)) (Nat.lt_irrefl _)
theorem Inv.cne (I : Inv X pins σ H s) : ∀ x c, X.env.cells.lookup x = some c → c ≠ X.env.locals := fun x c e z => by
  obtain ⟨v, o, ho, hd⟩ := I.cell x c e
  obtain ⟨m, ⟨o', es, ep, ho', hd', _⟩, _⟩ := I.loc
  rw [z, ho'] at ho; cases ho; rw [hd'] at hd; cases hd
theorem Inv.funs (I : Inv X pins σ H s) : s.heap.FunFrames X.base X.outer := by
  have all : ∀ (l : List Env), (∀ b ∈ frs l, b ∈ X.fs) → X.s₀.heap.FunFrames X.base l → s.heap.FunFrames X.base l := by
    intro l
    induction l with
    | nil => intro _ _; trivial
    | cons env r ih =>
      intro hs hl
      obtain ⟨hk, ⟨L, o, hf, hn, ho, hd⟩, hr⟩ := hl
      have hL : L ∈ X.fs := hs L (by unfold frs; rw [List.filterMap_cons, hf]; exact List.mem_cons_self)
      obtain ⟨sl, e⟩ := I.base.slot L o ho (I.ok.frf L hL) hL fun z => I.ok.exfs L z hL
      exact ⟨hk, ⟨L, _, hf, hn, e, hd⟩, ih (fun b hb => hs b (by unfold frs; rw [List.filterMap_cons, hf]; exact List.mem_cons_of_mem _ hb)) hr⟩
  exact all X.outer (fun _ hb => hb) I.ok.funs

/-- the frames that run, for a call -/
theorem Inv.stack (I : Inv X pins σ H s) : s.heap.FunFrames X.base X.stack := by
  rcases I.ok.stk with e | ⟨e, hf⟩
  · rw [e]; exact I.funs
  · rw [e]
    obtain ⟨m, hn, _⟩ := I.loc
    refine .cons (by rw [I.ok.kind]; decide) hf hn ?_ I.funs
    exact Heap.get?_none_of_le (Nat.le_trans I.ok.bsz I.ok.above)
theorem Inv.stkSub (I : Inv X pins σ H s) : ∀ b ∈ frs X.stack, b ∈ X.env.locals :: X.fs := fun b hb => by
  rcases I.ok.stk with e | ⟨e, hf⟩
  · rw [e] at hb; exact List.mem_cons_of_mem _ hb
  · rw [e] at hb
    unfold frs at hb
    rw [List.filterMap_cons, hf] at hb
    exact hb
theorem Inv.stkFree (I : Inv X pins σ H s) : ∀ b ∈ frs X.stack, H b = none := fun b hb => by
  rcases List.mem_cons.mp (I.stkSub b hb) with e | hb
  · rw [e]; exact I.free
  · obtain ⟨_, o, ho, _⟩ := I.ok.funs.mem hb
    exact I.base.free b o ho (I.ok.frf b hb) fun z => I.ok.exfs b z hb

/-- THE STEP: the untracked objects but the frame and the records at ch are kept (the callers' frames up to slots), the frame's map is kept, the new abstract heap is held -/
theorem Inv.step {g' : Array GenState} {t' : Nat} {d' : Drawn} {ch : List Addr} (I : Inv X pins σ H s)
    (hch : ∀ b ∈ ch, (b ∈ X.ex ∨ X.s₀.heap.objs.size ≤ b) ∧ b ≠ X.env.locals ∧ (∀ x c, X.env.cells.lookup x = some c → c ≠ b) ∧ ∀ p ∈ X.pn ++ pins, p.1 ≠ b)
    (keep : ∀ b o, b ≠ X.env.locals → b ∉ X.fs → b ∉ ch → s.heap.get? b = some o → H b = none → h'.get? b = some o)
    (slot : ∀ b o, b ≠ X.env.locals → b ∈ X.fs → b ∉ ch → s.heap.get? b = some o → H b = none → ∃ sl, h'.get? b = some { o with slots := sl }) (free : ∀ b o, b ∉ ch → s.heap.get? b = some o → H b = none → H' b = none)
    (there : ∀ b o, b ∉ ch → s.heap.get? b = some o → ∃ o', h'.get? b = some o')
    (tups : ∀ b xs, H b = some (.tup xs) → H' b = some (.tup xs)) (frzs : ∀ b o u, H b = some (.frz o u) → H' b = some (.frz o u)) (tbls : ∀ b ps, H b = some (.tbl ps) → ∃ more, H' b = some (.tbl (ps ++ more)))
    (ns : ∀ m, s.heap.Ns X.env.locals m → h'.Ns X.env.locals m) (hok : HOk X.prog X.w H' h') (hg : AllBare g') :
    Inv X pins σ H' { s with heap := h', gens := g', drawn := d', toks := t' } := by
  have neL : ∀ b o, X.s₀.heap.get? b = some o → b ≠ X.env.locals := fun b o e => Nat.ne_of_lt (Nat.lt_of_lt_of_le (Heap.lt_size e) I.ok.above)
  have neC : ∀ b o, X.s₀.heap.get? b = some o → b ∉ X.ex → b ∉ ch := fun b o e hx hb => by
    rcases (hch b hb).1 with z | z
    · exact hx z
    · exact absurd (Nat.lt_of_lt_of_le (Heap.lt_size e) z) (Nat.lt_irrefl _)
  have cellK : ∀ x c, X.env.cells.lookup x = some c → ∀ v, s.heap.IsCell c v → h'.IsCell c v := fun x c e v ⟨o, ho, hd⟩ => by
    have nch : c ∉ ch := fun z => (hch c z).2.2.1 x c e rfl
    by_cases hc : c ∈ X.fs
    · obtain ⟨sl, q⟩ := slot c o (I.cne x c e) hc nch ho (I.freeC x c e)
      exact ⟨_, q, hd⟩
    · exact ⟨o, keep c o (I.cne x c e) hc nch ho (I.freeC x c e), hd⟩
  refine ⟨I.ok, I.os, hg, ⟨fun b o e n hb hx => ?_, fun b o e n hb hx => ?_, fun b o e n hx => ?_, fun b o e hx => ?_, fun b xs e => tups b xs (I.base.tups b xs e), fun b o xs e => frzs b o xs (I.base.frzs b o xs e), fun b ps e => ?_⟩, ?_, fun x c e => ?_, ?_, fun x c e => ?_, fun p hp => ?_, hok, I.len⟩
  · exact keep b o (neL b o e) hb (neC b o e hx) (I.base.keep b o e n hb hx) (I.base.free b o e n hx)
  · obtain ⟨sl, e1⟩ := I.base.slot b o e n hb hx
    obtain ⟨sl', e2⟩ := slot b _ (neL b o e) hb (neC b o e hx) e1 (I.base.free b o e n hx)
    exact ⟨sl', e2⟩
  · obtain ⟨o', e1⟩ := I.base.there b o e hx
    exact free b o' (neC b o e hx) e1 (I.base.free b o e n hx)
  · obtain ⟨o', e1⟩ := I.base.there b o e hx
    exact there b o' (neC b o e hx) e1
  · obtain ⟨m1, e1⟩ := I.base.tbls b ps e
    obtain ⟨m2, e2⟩ := tbls b _ e1
    exact ⟨m1 ++ m2, by rw [e2, Array.append_assoc]⟩
  · obtain ⟨m, hn, hl⟩ := I.loc
    refine ⟨m, ns m hn, fun i x v e1 e2 e3 => ?_⟩
    obtain ⟨u, r, l⟩ := hl i x v e1 e2 e3
    refine ⟨u, r, ?_⟩
    rcases l with l | ⟨k, c, e, z⟩
    · exact .inl l
    · exact .inr ⟨k, c, e, cellK x c e _ z⟩
  · obtain ⟨v, z⟩ := I.cell x c e
    exact ⟨v, cellK x c e v z⟩
  · obtain ⟨m, ⟨o, _, _, ho, _⟩, _⟩ := I.loc
    exact free _ o (fun z => (hch _ z).2.1 rfl) ho I.free
  · obtain ⟨v, o, ho, hd⟩ := I.cell x c e
    exact free c o (fun z => (hch c z).2.2.1 x c e rfl) ho (I.freeC x c e)
  · obtain ⟨e, n, ne, nf, d⟩ := I.pin p hp
    have nch : p.1 ∉ ch := fun z => (hch p.1 z).2.2.2 p hp rfl
    exact ⟨keep p.1 p.2 ne nf nch e n, free p.1 p.2 nch e n, ne, nf, d⟩
/-- .. where the frame's own object is kept too -/
theorem Inv.un {t' : Nat} (I : Inv X pins σ H s) (u : Un X.fs [] H H' s.heap h') (hok : HOk X.prog X.w H' h') : Inv X pins σ H' { s with heap := h', toks := t' } := by
  obtain ⟨m, ⟨o, es, ep, ho, r⟩, _⟩ := id I.loc
  obtain ⟨sl, hL⟩ := u.any ho I.free (by simp)
  exact I.step (g' := s.gens) (d' := s.drawn) (ch := []) (fun _ z => nomatch z) (fun b o _ hb _ e n => u.keep b o e n hb (by simp)) (fun b o _ hb _ e n => u.slot b o e n hb (by simp)) (fun b o _ e n => u.free b o e n (by simp)) (fun b o _ e => u.there b o e (by simp)) u.tups u.frzs u.tbls (fun m' hm => by
    obtain ⟨o', es', ep', ho', r'⟩ := hm
    rw [ho] at ho'; cases ho'
    exact ⟨_, es', ep', hL, r'⟩) hok I.bare
/-- behind a call (or a comprehension's block): the slots of this frame may have changed too, the records at ch may have turned -/
theorem Inv.call {g' : Array GenState} {t' : Nat} {d' : Drawn} {ch : List Addr} (I : Inv X pins σ H s) (u : Un (frs X.stack) ch H H' s.heap h') (hok : HOk X.prog X.w H' h') (hg : AllBare g')
    (hch : ∀ b ∈ ch, (b ∈ X.ex ∨ X.s₀.heap.objs.size ≤ b) ∧ b ≠ X.env.locals ∧ (∀ x c, X.env.cells.lookup x = some c → c ≠ b) ∧ ∀ p ∈ X.pn ++ pins, p.1 ≠ b) :
    Inv X pins σ H' { s with heap := h', gens := g', drawn := d', toks := t' } := by
  obtain ⟨m, ⟨o, es, ep, ho, r⟩, _⟩ := id I.loc
  obtain ⟨sl, hL⟩ := u.any ho I.free fun z => (hch _ z).2.1 rfl
  exact I.step (ch := ch) hch (fun b o hL hb hc e n => u.keep b o e n (fun z => (List.mem_cons.mp (I.stkSub b z)).elim hL hb) hc) (fun b o _ _ hc e n => u.any e n hc) (fun b o hc e n => u.free b o e n hc) (fun b o hc e => u.there b o e hc) u.tups u.frzs u.tbls (fun m' hm => by
    obtain ⟨o', es', ep', ho', r'⟩ := hm
    rw [ho] at ho'; cases ho'
    exact ⟨_, es', ep', hL, r'⟩) hok hg
/-- an untracked record of ours (an iterator) has turned -/
theorem Inv.turned {t' : Nat} {it : Addr} (I : Inv X pins σ H s) (k : ∀ b o, b ≠ it → s.heap.get? b = some o → h'.get? b = some o) (hn : H it = none) (hL : it ≠ X.env.locals)
    (h1 : it ∈ X.ex ∨ X.s₀.heap.objs.size ≤ it) (h2 : ∀ x c, X.env.cells.lookup x = some c → c ≠ it) (h3 : ∀ p ∈ X.pn ++ pins, p.1 ≠ it) : Inv X pins σ H { s with heap := h', toks := t' } := by
  have nit : ∀ b u, H b = some u → b ≠ it := fun b u e z => by rw [z, hn] at e; cases e
  refine I.step (g' := s.gens) (d' := s.drawn) (ch := [it]) (fun b hb => ?_) (fun b o _ _ hc e _ => k b o (fun z => hc (by simp [z])) e) (fun b o _ _ hc e _ => ⟨o.slots, k b o (fun z => hc (by simp [z])) e⟩) (fun _ _ _ _ n => n)
    (fun b o hc e => ⟨o, k b o (fun z => hc (by simp [z])) e⟩) (fun _ _ e => e) (fun _ _ _ e => e) (fun b ps e => ⟨#[], by rw [e]; simp⟩) (fun m hm => ?_) (fun b u e => ?_) I.bare
  · have e : b = it := by simpa using hb
    subst e
    exact ⟨h1, hL, h2, h3⟩
  · obtain ⟨o, es, ep, ho, r⟩ := hm
    exact ⟨o, es, ep, k _ o (Ne.symm hL) ho, r⟩
  · refine (I.hok b u e).stay (fun c v hc q => k c v ?_ q) (fun _ q => q) fun _ _ q => q
    rcases hc with z | z
    · rw [z]; exact nit b u e
    · exact nit c _ z
theorem Inv.tok (I : Inv X pins σ H s) (t : Nat) : Inv X pins σ H { s with toks := t } := I.un (h' := s.heap) (t' := t) Un.refl I.hok
/-- all objects kept -/
theorem Inv.kept {t' : Nat} (I : Inv X pins σ H s) (k : ∀ b u, s.heap.get? b = some u → h'.get? b = some u) : Inv X pins σ H { s with heap := h', toks := t' } := I.un (Un.kept k) (I.hok.kept k)
/-- a new object laid and tracked -/
theorem Inv.laid {a : Addr} {o : HO} {t' : Nat} (I : Inv X pins σ H s) (k : ∀ b u, s.heap.get? b = some u → h'.get? b = some u) (hp : s.heap.objs.size ≤ a) (new : ObjOk X.prog X.w (upd H a o) h' a o) :
    Inv X pins σ (upd H a o) { s with heap := h', toks := t' } := I.un (Un.laid k hp (I.hok.fresh hp)) (I.hok.laid k hp new)
/-- an object written -/
theorem Inv.write {x e : Addr} {o : HO} {t' : Nat} (I : Inv X pins σ H s) (mu : Mut (H x)) (he : e = x ∨ H e = some (.own x)) (k : ∀ b u, b ≠ e → s.heap.get? b = some u → h'.get? b = some u) (heo : ∃ u, h'.get? e = some u)
    (new : ObjOk X.prog X.w (upd H x o) h' x o) : Inv X pins σ (upd H x o) { s with heap := h', toks := t' } := I.un (Un.write mu he k heo) (I.hok.write mu he k heo new)
/-- forgetting slots, pins -/
theorem Inv.weak {σ' : List (Option V)} (I : Inv X pins σ H s) (hl : σ'.length = σ.length) (w : ∀ (i : Nat) v, σ'[i]? = some (some v) → σ[i]? = some (some v)) : Inv X pins σ' H s :=
  ⟨I.ok, I.os, I.bare, I.base, let ⟨m, hn, hl'⟩ := I.loc; ⟨m, hn, fun i x v e1 e2 e3 => hl' i x v e1 (w i v e2) e3⟩, I.cell, I.free, I.freeC, I.pin, I.hok, hl.trans I.len⟩
theorem Inv.pins_of {pins' : List (Addr × Obj)} (I : Inv X pins σ H s) (h : ∀ p ∈ pins', s.heap.get? p.1 = some p.2 ∧ H p.1 = none ∧ p.1 ≠ X.env.locals ∧ p.1 ∉ X.fs ∧ ∀ v, p.2.data ≠ .cell v) : Inv X pins' σ H s :=
  ⟨I.ok, I.os, I.bare, I.base, I.loc, I.cell, I.free, I.freeC, fun p hp => (List.mem_append.mp hp).elim (fun z => I.pin p (List.mem_append_left _ z)) (h p), I.hok, I.len⟩

theorem nodup_ix {N : List Str} (hN : N.Nodup) {i j : Nat} {x : Str} (a : N[i]? = some x) (b : N[j]? = some x) : i = j := by
  obtain ⟨h1, e1⟩ := List.getElem?_eq_some_iff.mp a
  obtain ⟨h2, e2⟩ := List.getElem?_eq_some_iff.mp b
  exact (List.getElem_inj hN).mp (e1.trans e2.symm)

/-- a name is stored; what changed -/
theorem store_ok2 {M : Model} {A : Around} {E : Value → Shared → Prop} {i : Nat} {x : Str} {v : V} {u : Value} {Q : Unit → Shared → Prop} (I : Inv X pins σ H s) (hN : X.N.Nodup) (hi : X.N[i]? = some x) (hx : Loc X.env.scope x) (r : RelV v u)
    (h : ∀ s', Inv X pins (σ.set i (some v)) H s' → (∃ a, Heap.SameBut a s.heap s'.heap ∧ (a = X.env.locals ∨ X.env.cells.lookup x = some a)) → Q () s') (hf : X.fn x = true ∨ X.env.scope.names.lookup x = some .local := by first | exact .inl rfl | exact .inr rfl | assumption) : wpAny M A (storeName X.env x u) Q E s := by
  obtain ⟨m, hn, hl⟩ := id I.loc
  have hcls : (X.env.scope.kind == .class || (X.env.scope.kind == .module && X.env.locals != X.env.globals)) = false := by rw [I.ok.kind]; rfl
  have hiσ : i < σ.length := by rw [I.len]; exact (List.getElem?_eq_some_iff.mp hi).1
  have cne := I.cne
  have tracked : ∀ {a : Addr} {h' : Heap}, (∃ o, s.heap.get? a = some o ∧ H a = none) → Heap.SameBut a s.heap h' → HOk X.prog X.w H h' := fun {a h'} ha hs b ob e => by
    obtain ⟨_, _, hfree⟩ := ha
    refine (I.hok b ob e).stay (fun c w' hc q => (hs.2 c ?_).trans q) (fun _ q => q) fun _ _ q => q
    rintro rfl
    rcases hc with rfl | hc
    · rw [hfree] at e; cases e
    · rw [hfree] at hc; cases hc
  rcases hx with hk | hk
  · refine wpAny_storeName_local hk hn (fun h' hn' hs => ?_) hcls
    obtain ⟨oL, _, _, hoL, _⟩ := id hn
    refine h _ ⟨I.ok, I.os, I.bare, ⟨fun b o e n hb hx => ?_, fun b o e n hb hx => ?_, I.base.free, fun b o e hx => ?_, I.base.tups, I.base.frzs, I.base.tbls⟩, ⟨_, hn', fun j y v' e1 e2 e3 => ?_⟩, fun y c e => ?_, I.free, I.freeC, fun p hp => ?_, tracked ⟨oL, hoL, I.free⟩ hs, by simpa using I.len⟩ ⟨_, hs, .inl rfl⟩
    · exact (hs.2 b (Nat.ne_of_lt (Nat.lt_of_lt_of_le (Heap.lt_size e) I.ok.above))).trans (I.base.keep b o e n hb hx)
    · obtain ⟨sl, e1⟩ := I.base.slot b o e n hb hx
      exact ⟨sl, (hs.2 b (Nat.ne_of_lt (Nat.lt_of_lt_of_le (Heap.lt_size e) I.ok.above))).trans e1⟩
    · obtain ⟨o', e1⟩ := I.base.there b o e hx
      exact ⟨o', (hs.2 b (Nat.ne_of_lt (Nat.lt_of_lt_of_le (Heap.lt_size e) I.ok.above))).trans e1⟩
    · by_cases hj : j = i
      · subst hj
        rw [hi] at e1; cases e1
        rw [List.getElem?_set_self hiσ] at e2
        cases e2
        exact ⟨u, r, .inl ⟨hk, by simp⟩⟩
      · rw [List.getElem?_set_ne (Ne.symm hj)] at e2
        obtain ⟨u', r', q⟩ := hl j y v' e1 e2 e3
        refine ⟨u', r', ?_⟩
        rcases q with ⟨k, e⟩ | ⟨k, c, e, z⟩
        · refine .inl ⟨k, ?_⟩
          have : y ≠ x := fun e => hj (nodup_ix hN e1 (e ▸ hi))
          simp [this, e]
        · exact .inr ⟨k, c, e, z.sameBut hs (cne y c e)⟩
    · obtain ⟨w', z⟩ := I.cell y c e
      exact ⟨w', z.sameBut hs (cne y c e)⟩
    · obtain ⟨e, n, ne, nf, d⟩ := I.pin p hp
      exact ⟨(hs.2 p.1 ne).trans e, n, ne, nf, d⟩
  · have hfn : X.fn x = true := by
      rcases hf with z | z
      · exact z
      · rw [z] at hk; cases hk
    obtain ⟨c, hc⟩ := I.ok.has x (.inl hk)
    obtain ⟨w', z⟩ := I.cell x c hc
    refine wpAny_storeName_cell I.ok.kind hk hc z (fun h' hc' hs => ?_)
    obtain ⟨oc, hoc, hocd⟩ := id z
    refine h { s with heap := h' } ⟨I.ok, I.os, I.bare, ⟨fun b o e n hb hx => ?_, fun b o e n hb hx => ?_, I.base.free, fun b o e hx => ?_, I.base.tups, I.base.frzs, I.base.tbls⟩, ⟨m, hn.sameBut hs (Ne.symm (cne x c hc)), fun j y v' e1 e2 e3 => ?_⟩, fun y c' e => ?_, I.free, I.freeC, fun p hp => ?_, tracked ⟨oc, hoc, I.freeC x c hc⟩ hs, by simpa using I.len⟩ ⟨c, hs, .inr hc⟩
    · exact (hs.2 b (Nat.ne_of_lt (Nat.lt_of_lt_of_le (Heap.lt_size e) (I.ok.cab x c hfn hc)))).trans (I.base.keep b o e n hb hx)
    · obtain ⟨sl, e1⟩ := I.base.slot b o e n hb hx
      exact ⟨sl, (hs.2 b (Nat.ne_of_lt (Nat.lt_of_lt_of_le (Heap.lt_size e) (I.ok.cab x c hfn hc)))).trans e1⟩
    · obtain ⟨o', e1⟩ := I.base.there b o e hx
      exact ⟨o', (hs.2 b (Nat.ne_of_lt (Nat.lt_of_lt_of_le (Heap.lt_size e) (I.ok.cab x c hfn hc)))).trans e1⟩
    · by_cases hj : j = i
      · subst hj
        rw [hi] at e1; cases e1
        rw [List.getElem?_set_self hiσ] at e2
        cases e2
        exact ⟨u, r, .inr ⟨.inl hk, c, hc, hc'⟩⟩
      · rw [List.getElem?_set_ne (Ne.symm hj)] at e2
        obtain ⟨u', r', q⟩ := hl j y v' e1 e2 e3
        refine ⟨u', r', ?_⟩
        rcases q with q | ⟨k, c', e, z'⟩
        · exact .inl q
        · refine .inr ⟨k, c', e, z'.sameBut hs ?_⟩
          rintro rfl
          exact hj (nodup_ix hN e1 (I.ok.inj _ _ _ e hc ▸ hi))
    · by_cases hcc : c' = c
      · subst hcc; exact ⟨_, hc'⟩
      · obtain ⟨w2, z2⟩ := I.cell y c' e
        exact ⟨w2, z2.sameBut hs hcc⟩
    · obtain ⟨e, n, ne, nf, d⟩ := I.pin p hp
      refine ⟨(hs.2 p.1 ?_).trans e, n, ne, nf, d⟩
      intro q
      rw [q, hoc] at e
      have q' : oc = p.2 := Option.some.inj e
      exact d w' (by rw [← q']; exact hocd)
theorem store_ok {M : Model} {A : Around} {E : Value → Shared → Prop} {i : Nat} {x : Str} {v : V} {u : Value} {Q : Unit → Shared → Prop} (I : Inv X pins σ H s) (hN : X.N.Nodup) (hi : X.N[i]? = some x) (hx : Loc X.env.scope x) (r : RelV v u)
    (h : ∀ s', Inv X pins (σ.set i (some v)) H s' → Q () s') (hf : X.fn x = true ∨ X.env.scope.names.lookup x = some .local := by first | exact .inl rfl | exact .inr rfl | assumption) : wpAny M A (storeName X.env x u) Q E s :=
  store_ok2 I hN hi hx r (fun s' I' _ => h s' I') hf
/-- behind a call or a block, the state as it is -/
theorem Inv.call' {s' : Shared} {ch : List Addr} (I : Inv X pins σ H s) (ho : s'.os = s.os) (u : Un (frs X.stack) ch H H' s.heap s'.heap) (hok : HOk X.prog X.w H' s'.heap) (hg : AllBare s'.gens)
    (hch : ∀ b ∈ ch, (b ∈ X.ex ∨ X.s₀.heap.objs.size ≤ b) ∧ b ≠ X.env.locals ∧ (∀ x c, X.env.cells.lookup x = some c → c ≠ b) ∧ ∀ p ∈ X.pn ++ pins, p.1 ≠ b) : Inv X pins σ H' s' := by
  obtain ⟨h', g', d', t', o'⟩ := s'
  have e : o' = s.os := ho
  subst e
  exact I.call (g' := g') (t' := t') (d' := d') u hok hg hch
end

/-! ### the judgements -/
/-- an exception: its class, its own dict's address (where it has one), the abstract heap behind it -/
abbrev XK := Addr → Addr → Hp → Prop
abbrev St := List (Option V)
abbrev VK := V → Hp → Prop
/-- an expression's reading; a test's; an argument list's -/
abbrev TE := St → Hp → VK → Prop
abbrev TT := St → Hp → (Bool → Hp → Prop) → Prop
abbrev TA := St → Hp → (List V → Hp → Prop) → Prop
/-- what is wanted behind a statement -/
structure Ends where
  nx : St → Hp → Prop
  rt : VK
  bk : St → Hp → Prop := fun _ _ => False
  ct : St → Hp → Prop := fun _ _ => False
abbrev TS := Ends → St → Hp → Prop

def EP (X : Cx) (pins : List (Addr × Obj)) (σ : St) (Q : VK) (u : Value) (s' : Shared) : Prop := ∃ v H', Inv X pins σ H' s' ∧ RelV v u ∧ Q v H'
def TP (X : Cx) (pins : List (Addr × Obj)) (σ : St) (Q : Bool → Hp → Prop) (b : Bool) (s' : Shared) : Prop := ∃ H', Inv X pins σ H' s' ∧ Q b H'
def AP (X : Cx) (pins : List (Addr × Obj)) (σ : St) (Q : List V → Hp → Prop) (us : List Value) (s' : Shared) : Prop := ∃ vs H', Inv X pins σ H' s' ∧ Vals vs us ∧ Q vs H'
def SP (X : Cx) (pins : List (Addr × Obj)) (D : Ends) (f : Flow) (s' : Shared) : Prop :=
  match f with
  | .next => ∃ σ' H', Inv X pins σ' H' s' ∧ D.nx σ' H'
  | .brk => ∃ σ' H', Inv X pins σ' H' s' ∧ D.bk σ' H'
  | .cont => ∃ σ' H', Inv X pins σ' H' s' ∧ D.ct σ' H'
  | .ret u => ∃ v σ' H', Inv X pins σ' H' s' ∧ RelV v u ∧ D.rt v H'

def PE (X : Cx) (e : Expr) (t : TE) : Prop :=
  ∀ (pins : List (Addr × Obj)) (s : Shared) (σ : St) (H : Hp) (Q : VK), Inv X pins σ H s → t σ H Q → wpAny (model X.prog X.w) X.A (eval e X.env) (EP X pins σ Q) X.xe s
def PT (X : Cx) (e : Expr) (t : TT) : Prop :=
  ∀ (pins : List (Addr × Obj)) (s : Shared) (σ : St) (H : Hp) (Q : Bool → Hp → Prop), Inv X pins σ H s → t σ H Q → wpAny (model X.prog X.w) X.A (isTrue e X.env (eval e X.env)) (TP X pins σ Q) X.xe s
/-- a test whatever its 'whole' is (and, or) -/
def PW (X : Cx) (e : Expr) (t : TT) : Prop :=
  ∀ (whole : Sem Value) (pins : List (Addr × Obj)) (s : Shared) (σ : St) (H : Hp) (Q : Bool → Hp → Prop), Inv X pins σ H s → t σ H Q → wpAny (model X.prog X.w) X.A (isTrue e X.env whole) (TP X pins σ Q) X.xe s
theorem PW.pt {X : Cx} {e : Expr} {t : TT} (h : PW X e t) : PT X e t := h _
/-- an argument list (no star), from the left -/
def PA (X : Cx) (es : List Expr) (t : TA) : Prop :=
  ∀ (pos : Pos) (pins : List (Addr × Obj)) (s : Shared) (σ : St) (H : Hp) (Q : List V → Hp → Prop), Inv X pins σ H s → t σ H Q → wpAny (model X.prog X.w) X.A (spliced (backTo pos (starEach es X.env))) (AP X pins σ Q) X.xe s
def PS (X : Cx) (st : Stmt) (t : TS) : Prop :=
  ∀ (pins : List (Addr × Obj)) (s : Shared) (σ : St) (H : Hp) (D : Ends), Inv X pins σ H s → t D σ H → wpAny (model X.prog X.w) X.A (exec st X.env) (SP X pins D) X.xe s
def PSs (X : Cx) (st : List Stmt) (t : TS) : Prop :=
  ∀ (pins : List (Addr × Obj)) (s : Shared) (σ : St) (H : Hp) (D : Ends), Inv X pins σ H s → t D σ H → wpAny (model X.prog X.w) X.A (execs st X.env) (SP X pins D) X.xe s
/-- weaken the end -/
theorem thn {α : Type} {t : Sem α} {Q Q' : α → Shared → Prop} {M : Model} {A : Around} {E : Value → Shared → Prop} {s : Shared} (h : wpAny M A t Q E s) (hQ : ∀ a s, Q a s → Q' a s) : wpAny M A t Q' E s := wpAny_mono h hQ fun _ _ x => x
end L2

namespace L2
open PySem PySem.Spec PyProof.Rows
variable {q0 : Bool}
section
variable {X : Cx}

/-! ### names and constants -/
def tVar (i : Nat) : TE := fun σ H Q => ∃ v, σ[i]? = some (some v) ∧ Q v H
def tC (v : V) : TE := fun _ H Q => Q v H
theorem pe_var {i : Nat} {x : Str} {pos : Pos} (hN : X.N[i]? = some x) (hv : Vis X.env.scope x) (hd : (x == ("__debug__" : Str)) = false := by decide) (hcd : (x == ("__classdict__" : Str)) = false := by decide) : PE X (.Name x pos) (tVar i) := by
  intro pins s σ H Q I h
  obtain ⟨v, e, h⟩ := h
  obtain ⟨m, hn, hl⟩ := I.loc
  obtain ⟨u, r, l⟩ := hl i x v hN e hv
  have fin : EP X pins σ Q u s := ⟨v, H, I, r, h⟩
  rcases l with ⟨hk, hm⟩ | ⟨hk, c, hc, hcell⟩
  · exact wpAny_Name (wpAny_loadName_local I.ok.kind hk hn hm fin) hd
  · rcases hk with hk | hk
    · exact wpAny_Name (wpAny_loadName_cell I.ok.kind hk hc hcell fin) hd
    · exact wpAny_Name (wpAny_loadName_free I.ok.kind hk hc hcell fin hcd) hd
theorem pe_int {i j pos} : PE X (.Constant (.int i) j pos) (tC (.int i)) := fun _ _ _ H _ I h => wpAny_Constant_int ⟨.int i, H, I.tok _, ⟨_, rfl⟩, h⟩
theorem pe_bl {b j pos} : PE X (.Constant (.bool b) j pos) (tC (.bl b)) := fun _ _ _ H _ I h => Constant_bool ⟨.bl b, H, I, rfl, h⟩
theorem pe_non {j pos} : PE X (.Constant .none j pos) (tC .non) := fun _ _ _ H _ I h => Constant_none ⟨.non, H, I, rfl, h⟩
theorem pe_str {x j pos} : PE X (.Constant (.str x) j pos) (tC (.str x)) := fun _ _ _ H _ I h => Calls.Constant_str ⟨.str x, H, I.tok _, ⟨_, rfl⟩, h⟩

/-- a global name of the def -/
def Gl (X : Cx) (x : Str) : Prop := X.env.kindOf x = some .globalImplicit
theorem ld_glob {E : Value → Shared → Prop} {pins : List (Addr × Obj)} {s : Shared} {σ : St} {H : Hp} {x : Str} {u : Value} {pos : Pos} {Q : Value → Shared → Prop} (I : Inv X pins σ H s) (hg : Gl X x) (hm : X.mg x = some u) (h : Q u s)
    (hd : (x == ("__debug__" : Str)) = false := by decide) : wpAny (model X.prog X.w) X.A (eval (.Name x pos) X.env) Q E s :=
  Calls.Name_function_global I.ok.kind hg (Calls.loadGlobal_global (by rw [I.ok.glob]; exact I.mod.glob.keeps I.bk) hm h) hd
theorem ld_blt {E : Value → Shared → Prop} {pins : List (Addr × Obj)} {s : Shared} {σ : St} {H : Hp} {x : Str} {u : Value} {pos : Pos} {Q : Value → Shared → Prop} (I : Inv X pins σ H s) (hg : Gl X x) (hm : X.mg x = none) (hv : bootBuiltins x = some u) (h : Q u s)
    (hn : x ≠ "__name__" := by decide) (hd : (x == ("__debug__" : Str)) = false := by decide) : wpAny (model X.prog X.w) X.A (eval (.Name x pos) X.env) Q E s := by
  obtain ⟨mb, h1, h2⟩ := I.mod.blt
  exact Calls.Name_function_global I.ok.kind hg (Calls.loadGlobal_builtin (by rw [I.ok.glob]; exact I.mod.glob.keeps I.bk) hm (by rw [I.ok.blt]; exact h1.keeps I.bk) ((h2 x hn).trans hv) h) hd
/-- a module's constant, a class, a function, as a value -/
theorem pe_glob {x : Str} {v : V} {u : Value} {pos : Pos} (hg : Gl X x) (hm : X.mg x = some u) (r : RelV v u) (hd : (x == ("__debug__" : Str)) = false := by decide) : PE X (.Name x pos) (tC v) :=
  fun _ _ _ H _ I h => ld_glob I hg hm ⟨v, H, I, r, h⟩ hd
theorem pe_bltn {x : Str} {v : V} {u : Value} {pos : Pos} (hg : Gl X x) (hm : X.mg x = none) (hv : bootBuiltins x = some u) (r : RelV v u) (hn : x ≠ "__name__" := by decide) (hd : (x == ("__debug__" : Str)) = false := by decide) : PE X (.Name x pos) (tC v) :=
  fun _ _ _ H _ I h => ld_blt I hg hm hv ⟨v, H, I, r, h⟩ hn hd

variable {a b : Expr} {ta tb : TE} {pos : Pos}
/-- a comparison as a value, as a test -/
def tB (t : TE) : TT := fun σ H Q => t σ H fun x H1 => ∃ c, x = .bl c ∧ Q c H1
/-- an expression whose value is a bool, as a test -/
theorem pt_val {e : Expr} {t : TE} (h : PE X e t) (he : ∀ whole, isTrue e X.env whole = (do let v ← whole; standAt e.pos; holding [v] (truthy v)) := by intro _; rfl) : PT X e (tB t) := by
  intro pins s σ H Q I hw
  refine isTrue_plain (thn (h pins s σ H _ I hw) fun v s1 ⟨x, H1, I1, r1, q1⟩ => ?_) (he _)
  obtain ⟨d, rfl, q⟩ := q1
  cases r1
  exact wpAny_truthy_bool ⟨H1, I1, q⟩

/-! ### and, or, not -/
variable {tA tB' : TT} {rest : List Expr}
def tAnd (t u : TT) : TT := fun σ H Q => t σ H fun c H1 => if c = true then u σ H1 Q else Q false H1
def tOr (t u : TT) : TT := fun σ H Q => t σ H fun c H1 => if c = true then Q true H1 else u σ H1 Q
def tNot (t : TT) : TT := fun σ H Q => t σ H fun c H1 => Q (!c) H1
theorem pw_and1 (ha : PT X a tA) : PW X (.BoolOp .And [a] pos) tA := by
  intro wh pins s σ H Q I h
  refine isTrue_and (thn (ha pins s σ H Q I h) fun c s1 e => ?_)
  cases c with
  | true => exact isTrue_and_nil e
  | false => exact e
theorem pw_or1 (ha : PT X a tA) : PW X (.BoolOp .Or [a] pos) tA := by
  intro wh pins s σ H Q I h
  refine isTrue_or (thn (ha pins s σ H Q I h) fun c s1 e => ?_)
  cases c with
  | false => exact isTrue_or_nil e
  | true => exact e
theorem pw_and (ha : PT X a tA) (hb : PW X (.BoolOp .And (b :: rest) pos) tB') : PW X (.BoolOp .And (a :: b :: rest) pos) (tAnd tA tB') := by
  intro wh pins s σ H Q I h
  refine isTrue_and (thn (ha pins s σ H _ I h) fun c s1 ⟨H1, I1, q1⟩ => ?_)
  cases c with
  | true => exact hb wh pins s1 σ H1 Q I1 q1
  | false => exact ⟨H1, I1, q1⟩
theorem pw_or (ha : PT X a tA) (hb : PW X (.BoolOp .Or (b :: rest) pos) tB') : PW X (.BoolOp .Or (a :: b :: rest) pos) (tOr tA tB') := by
  intro wh pins s σ H Q I h
  refine isTrue_or (thn (ha pins s σ H _ I h) fun c s1 ⟨H1, I1, q1⟩ => ?_)
  cases c with
  | true => exact ⟨H1, I1, q1⟩
  | false => exact hb wh pins s1 σ H1 Q I1 q1
theorem pt_not (ha : PT X a tA) : PT X (.UnaryOp .Not a pos) (tNot tA) := by
  intro pins s σ H Q I h
  exact isTrue_not (ha pins s σ H (fun c H1 => Q (!c) H1) I h)
/-- .. as values (bools) -/
def tAndV (ta tb : TE) : TE := fun σ H Q => ta σ H fun x H1 => ∃ c, x = .bl c ∧ if c = true then tb σ H1 Q else Q (.bl false) H1
def tNotV (ta : TE) : TE := fun σ H Q => ta σ H fun x H1 => ∃ c, x = .bl c ∧ Q (.bl (!c)) H1
theorem pe_one {op} {t : TE} (h : PE X a t) : PE X (.BoolOp op [a] pos) t := fun pins s σ H Q I hw => BoolOp_one (h pins s σ H Q I hw)
theorem pe_and (ha : PE X a ta) (hb : PE X (.BoolOp .And (b :: rest) pos) tb) : PE X (.BoolOp .And (a :: b :: rest) pos) (tAndV ta tb) := by
  intro pins s σ H Q I h
  refine BoolOp_and (thn (ha pins s σ H _ I h) fun v s1 ⟨x, H1, I1, r1, q1⟩ => ?_)
  obtain ⟨c, rfl, q1⟩ := q1
  cases r1
  refine wpAny_truthy_bool ?_
  cases c with
  | true => exact hb pins s1 σ H1 Q I1 q1
  | false => exact ⟨.bl false, H1, I1, rfl, q1⟩
theorem pe_not (ha : PE X a ta) : PE X (.UnaryOp .Not a pos) (tNotV ta) := by
  intro pins s σ H Q I h
  refine UnaryOp_ (thn (ha pins s σ H _ I h) fun v s1 ⟨x, H1, I1, r1, q1⟩ => ?_)
  obtain ⟨c, rfl, q1⟩ := q1
  cases r1
  exact not_of (wpAny_truthy_bool ⟨.bl (!c), H1, I1, rfl, q1⟩)
/-- a if t else b -/
def tIf (t : TT) (ta tb : TE) : TE := fun σ H Q => t σ H fun c H1 => if c = true then ta σ H1 Q else tb σ H1 Q
theorem pe_ifExp {c : Expr} (hc : PT X c tA) (ha : PE X a ta) (hb : PE X b tb) : PE X (.IfExp c a b pos) (tIf tA ta tb) := by
  intro pins s σ H Q I h
  refine wpAny_IfExp (thn (hc pins s σ H _ I h) fun d s1 ⟨H1, I1, q1⟩ => ?_)
  cases d with
  | true => exact ha pins s1 σ H1 Q I1 q1
  | false => exact hb pins s1 σ H1 Q I1 q1
end
end L2

namespace L2
open PySem PySem.Spec PyProof.Rows
variable {q0 : Bool}

/-! ### a list, a tuple that is read: tracked, frozen, or an object of the module -/
def SqL (K : PySem.W.Frag) (H : Hp) (a : Addr) (xs : List V) : Prop :=
  Rd H a (.lst xs) ∨
    ∃ (o : Obj) (its : Array Value) (n : Nat), K.lookup a = some o ∧ o.cls = .type "list" ∧ o.dict = none ∧ o.data = .seq its n ∧ its.size ≤ sizeLine ∧ Vals xs its.toList
def SqT (K : PySem.W.Frag) (H : Hp) (a : Addr) (xs : List V) : Prop :=
  Rd H a (.tup xs) ∨
    ∃ (o : Obj) (its : Array Value) (n : Nat), K.lookup a = some o ∧ o.cls = .type "tuple" ∧ o.data = .seq its n ∧ its.size ≤ sizeLine ∧ Vals xs its.toList
def absV : Value → Option V
  | .none => some .non
  | .bool b => some (.bl b)
  | .int i _ => some (.int i)
  | .str x _ => some (.str x)
  | .bytes b _ => some (.byt b)
  | .float b _ => some (.flt b)
  | .ref a => some (.ref a)
  | .type n => some (.ty n)
  | _ => none
theorem RelV.abs {x : V} {u : Value} (r : RelV x u) : absV u = some x := by
  cases x with
  | non => cases r; rfl
  | bl _ => cases r; rfl
  | int _ => obtain ⟨t, rfl⟩ := r; rfl
  | str _ => obtain ⟨t, rfl⟩ := r; rfl
  | byt _ => obtain ⟨t, rfl⟩ := r; rfl
  | flt _ => obtain ⟨t, rfl⟩ := r; rfl
  | ref _ => cases r; rfl
  | ty _ => cases r; rfl
theorem RelV.inj {x y : V} {u : Value} (r : RelV x u) (q : RelV y u) : x = y := Option.some.inj (r.abs.symm.trans q.abs)
theorem Vals.inj : ∀ {xs ys : List V} {us : List Value}, Vals xs us → Vals ys us → xs = ys
  | _, _, _, .nil, .nil => rfl
  | _, _, _, .cons r t, .cons r' t' => by rw [r.inj r', Vals.inj t t']
section
variable {X : Cx} {pins : List (Addr × Obj)} {σ : St} {H : Hp} {s : Shared} {a : Addr} {xs ys : List V}
theorem SqL.of {K : PySem.W.Frag} (h : H a = some (.lst xs)) : SqL K H a xs := .inl (.inl h)
theorem SqT.of {K : PySem.W.Frag} (h : H a = some (.tup xs)) : SqT K H a xs := .inl (.inl h)
theorem Inv.list (I : Inv X pins σ H s) (h : SqL X.K H a xs) : ∃ its : List Value, Vals xs its ∧ PlainL s.heap a its.toArray ∧ xs.length ≤ sizeLine := by
  rcases h with h | ⟨o, its, n, hk, hc, hd, hs, hz, r⟩
  · obtain ⟨z, its, n, r, e⟩ := h.ok I.hok
    exact ⟨its, r, ⟨_, n, e, rfl, rfl, rfl⟩, z⟩
  · refine ⟨its.toList, r, ⟨o, n, I.kIn a o hk, hc, hd, by simpa using hs⟩, ?_⟩
    have e := r.length
    simp only [Array.length_toList] at e
    omega
theorem Inv.tuple (I : Inv X pins σ H s) (h : SqT X.K H a xs) : ∃ its : List Value, Vals xs its ∧ IsTup s.heap a its.toArray ∧ xs.length ≤ sizeLine := by
  rcases h with h | ⟨o, its, n, hk, hc, hs, hz, r⟩
  · obtain ⟨z, its, r, p⟩ := h.ok I.hok
    exact ⟨its, r, p, z⟩
  · refine ⟨its.toList, r, ⟨o, I.kIn a o hk, hc, n, by simpa using hs⟩, ?_⟩
    have e := r.length
    simp only [Array.length_toList] at e
    omega
theorem Inv.list_inj (I : Inv X pins σ H s) (h : SqL X.K H a xs) (h' : SqL X.K H a ys) : xs = ys := by
  obtain ⟨its, r, ⟨o, n, e, _, _, d⟩, _⟩ := I.list h
  obtain ⟨its', r', ⟨o', n', e', _, _, d'⟩, _⟩ := I.list h'
  rw [e] at e'; cases e'
  rw [d] at d'
  injection d' with d1 _
  have : its = its' := by simpa using congrArg Array.toList d1
  subst this
  exact r.inj r'
theorem Inv.tuple_inj (I : Inv X pins σ H s) (h : SqT X.K H a xs) (h' : SqT X.K H a ys) : xs = ys := by
  obtain ⟨its, r, ⟨o, e, _, n, d⟩, _⟩ := I.tuple h
  obtain ⟨its', r', ⟨o', e', _, n', d'⟩, _⟩ := I.tuple h'
  rw [e] at e'; cases e'
  rw [d] at d'
  injection d' with d1 _
  have : its = its' := by simpa using congrArg Array.toList d1
  subst this
  exact r.inj r'
end

/-! ### another wish about exceptions -/
abbrev Cx.wish (X : Cx) (E : Value → Shared → Prop) : Cx := { X with xe := E }
/-- no exception leaves -/
abbrev Cx.nox (X : Cx) : Cx := X.wish fun _ _ => False
theorem Cx.Ok.wish {X : Cx} (ok : X.Ok) (E : Value → Shared → Prop) : (X.wish E).Ok :=
  ⟨ok.mod, ok.kind, ok.glob, ok.blt, ok.above, ok.inj, ok.has, ok.cab, ok.hd, ok.frames, ok.stk, ok.exf, ok.bs, ok.bsz, ok.noex, ok.exfs, ok.funs, ok.frf⟩
theorem Cx.Ok.unwish {X : Cx} {E : Value → Shared → Prop} (ok : (X.wish E).Ok) : X.Ok :=
  ⟨ok.mod, ok.kind, ok.glob, ok.blt, ok.above, ok.inj, ok.has, ok.cab, ok.hd, ok.frames, ok.stk, ok.exf, ok.bs, ok.bsz, ok.noex, ok.exfs, ok.funs, ok.frf⟩
section
variable {X : Cx} {pins : List (Addr × Obj)} {σ : St} {H : Hp} {s : Shared} {E : Value → Shared → Prop}
theorem Inv.wish (I : Inv X pins σ H s) (E : Value → Shared → Prop) : Inv (X.wish E) pins σ H s := ⟨I.ok.wish E, I.os, I.bare, I.base, I.loc, I.cell, I.free, I.freeC, I.pin, I.hok, I.len⟩
theorem Inv.unwish (I : Inv (X.wish E) pins σ H s) : Inv X pins σ H s := ⟨I.ok.unwish, I.os, I.bare, I.base, I.loc, I.cell, I.free, I.freeC, I.pin, I.hok, I.len⟩
theorem SP.unwish {D : Ends} {f : Flow} {s' : Shared} (h : SP (X.wish E) pins D f s') : SP X pins D f s' := by
  cases f with
  | next => obtain ⟨σ', H', I, q⟩ := h; exact ⟨σ', H', I.unwish, q⟩
  | brk => obtain ⟨σ', H', I, q⟩ := h; exact ⟨σ', H', I.unwish, q⟩
  | cont => obtain ⟨σ', H', I, q⟩ := h; exact ⟨σ', H', I.unwish, q⟩
  | ret u => obtain ⟨v, σ', H', I, r, q⟩ := h; exact ⟨v, σ', H', I.unwish, r, q⟩
theorem PE.nox {e : Expr} {t : TE} (h : PE X.nox e t) : PE X e t := fun pins s σ H Q I hw =>
  wpAny_mono (h pins s σ H Q (I.wish _) hw) (fun _ _ ⟨v, H', I', r, q⟩ => ⟨v, H', I'.unwish, r, q⟩) fun _ _ z => False.elim z
theorem PT.nox {e : Expr} {t : TT} (h : PT X.nox e t) : PT X e t := fun pins s σ H Q I hw =>
  wpAny_mono (h pins s σ H Q (I.wish _) hw) (fun _ _ ⟨H', I', q⟩ => ⟨H', I'.unwish, q⟩) fun _ _ z => False.elim z
theorem PSs.nox {st : List Stmt} {t : TS} (h : PSs X.nox st t) : PSs X st t := fun pins s σ H D I hw =>
  wpAny_mono (h pins s σ H D (I.wish _) hw) (fun _ _ q => q.unwish) fun _ _ z => False.elim z
end

/-! ### blocks and small statements -/
section
variable {X : Cx} {st : Stmt} {rest : List Stmt} {t u : TS} {e : Expr} {te : TE} {pos : Pos}
def tNext : TS := fun D σ H => D.nx σ H
def tSeq (t u : TS) : TS := fun D σ H => t { D with nx := u D } σ H
theorem pss_nil : PSs X [] tNext := fun _ _ σ H _ I h => wpAny_execs_nil ⟨σ, H, I, h⟩
theorem pss_cons (h1 : PS X st t) (h2 : PSs X rest u) : PSs X (st :: rest) (tSeq t u) := by
  intro pins s σ H D I h
  refine wpAny_execs_cons (thn (h1 pins s σ H { D with nx := u D } I h) fun f s1 q => ?_)
  cases f with
  | next =>
    obtain ⟨σ', H', I', q⟩ := q
    exact h2 pins s1 σ' H' D I' q
  | ret v => exact q
  | brk => exact q
  | cont => exact q
theorem pss_one (h1 : PS X st t) : PSs X [st] t := by
  intro pins s σ H D I h
  refine wpAny_execs_cons (thn (h1 pins s σ H D I h) fun f s1 q => ?_)
  cases f with
  | next => exact wpAny_execs_nil q
  | ret v => exact q
  | brk => exact q
  | cont => exact q
/-- in a def's body nothing is shown -/
theorem Inv.quiet {pins : List (Addr × Obj)} {σ : St} {H : Hp} {s : Shared} (I : Inv X pins σ H s) : interactive X.env = false := by simp [interactive, I.ok.kind]
/-- an expression whose value is dropped -/
def tDrop (te : TE) : TS := fun D σ H => te σ H fun _ H1 => D.nx σ H1
theorem ps_expr (he : PE X e te) (hs : swapsWith e none pos.line X.env = pure false := by rfl) : PS X (.Expr e pos) (tDrop te) := by
  intro pins s σ H D I h
  exact wpAny_Expr_any (thn (he pins s σ H _ I h) fun v s1 ⟨x, H1, I1, r1, q1⟩ => ⟨σ, H1, I1, q1⟩) I.quiet hs
def tRet (te : TE) : TS := fun D σ H => te σ H D.rt
theorem ps_ret (he : PE X e te) : PS X (.Return (some e) pos) (tRet te) := by
  intro pins s σ H D I h
  exact wpAny_Return_some (thn (he pins s σ H _ I h) fun v s1 ⟨x, H1, I1, r1, q1⟩ => ⟨x, σ, H1, I1, r1, q1⟩)
def tIfS (c : TT) (t u : TS) : TS := fun D σ H => c σ H fun b H1 => if b = true then t D σ H1 else u D σ H1
theorem ps_if {c : Expr} {a b : List Stmt} {tc : TT} (hc : PT X c tc) (ha : PSs X a t) (hb : PSs X b u) : PS X (.If c a b pos) (tIfS tc t u) := by
  intro pins s σ H D I h
  refine wpAny_If (thn (hc pins s σ H _ I h) fun d s1 ⟨H1, I1, q1⟩ => ?_)
  cases d with
  | true => exact ha pins s1 σ H1 D I1 q1
  | false => exact hb pins s1 σ H1 D I1 q1
end

/-! ### targets -/
abbrev TG := V → St → Hp → (St → Hp → Prop) → Prop
abbrev TGs := List V → St → Hp → (St → Hp → Prop) → Prop
def PG (X : Cx) (target : Expr) (t : TG) : Prop :=
  ∀ (pins : List (Addr × Obj)) (s : Shared) (σ : St) (H : Hp) (v : V) (u : Value) (Q : St → Hp → Prop), Inv X pins σ H s → RelV v u → t v σ H Q →
    wpAny (model X.prog X.w) X.A (assign target X.env u) (fun _ s' => ∃ σ' H', Inv X pins σ' H' s' ∧ Q σ' H') X.xe s
/-- several targets, one after another -/
def PGs (X : Cx) (ts : List Expr) (t : TGs) : Prop :=
  ∀ (pins : List (Addr × Obj)) (s : Shared) (σ : St) (H : Hp) (vs : List V) (us : List Value) (Q : St → Hp → Prop), Inv X pins σ H s → Vals vs us → t vs σ H Q →
    wpAny (model X.prog X.w) X.A (assignInOrder ((assignEach ts X.env).map (·.2)) us) (fun _ s' => ∃ σ' H', Inv X pins σ' H' s' ∧ Q σ' H') X.xe s
/-- o[i] = v, by values -/
abbrev TSet := V → V → V → Hp → (Hp → Prop) → Prop
def PSet (X : Cx) (t : TSet) : Prop :=
  ∀ (pins : List (Addr × Obj)) (s : Shared) (σ : St) (H : Hp) (o i v : V) (ov iv u : Value) (Q : Hp → Prop), Inv X pins σ H s → RelV o ov → RelV i iv → RelV v u → t o i v H Q →
    wpAny (model X.prog X.w) X.A (setItem ov iv u) (fun _ s' => ∃ H', Inv X pins σ H' s' ∧ Q H') X.xe s
/-- a op= b, by values -/
abbrev TIp := V → V → Hp → VK → Prop
def PIp (X : Cx) (op : Operator) (t : TIp) : Prop :=
  ∀ (pins : List (Addr × Obj)) (s : Shared) (σ : St) (H : Hp) (x y : V) (v u : Value) (Q : VK), Inv X pins σ H s → RelV x v → RelV y u → t x y H Q →
    wpAny (model X.prog X.w) X.A (inplaceOp op v u) (EP X pins σ Q) X.xe s
section
variable {X : Cx} {pos : Pos}
def gName (i : Nat) : TG := fun v σ H Q => Q (σ.set i (some v)) H
theorem pg_name {i : Nat} {x : Str} (hN : X.N.Nodup) (hi : X.N[i]? = some x) (hx : Loc X.env.scope x) (hf : X.fn x = true ∨ X.env.scope.names.lookup x = some .local := by first | exact .inl rfl | exact .inr rfl | assumption) : PG X (.Name x pos) (gName i) := by
  intro pins s σ H v u Q I r h
  exact wpAny_assign_Name (store_ok I hN hi hx r (fun s' I' => ⟨_, H, I', h⟩) hf)
def gNil : TGs := fun vs σ H Q => vs = [] ∧ Q σ H
def gCons (t : TG) (u : TGs) : TGs := fun vs σ H Q => ∃ v r, vs = v :: r ∧ t v σ H fun σ' H' => u r σ' H' Q
theorem pgs_nil : PGs X [] gNil := by
  intro pins s σ H vs us Q I r h
  obtain ⟨e, h⟩ := h
  subst e
  cases r
  exact assignInOrder_nil ⟨σ, H, I, h⟩
theorem pgs_cons {e : Expr} {es : List Expr} {t : TG} {u : TGs} (h1 : PG X e t) (h2 : PGs X es u)
    (hs : (assignEach (e :: es) X.env).map (·.2) = assign e X.env :: (assignEach es X.env).map (·.2) := by rfl) : PGs X (e :: es) (gCons t u) := by
  intro pins s σ H vs us Q I r h
  obtain ⟨v, vr, e1, h⟩ := h
  subst e1
  cases r with
  | cons r rr =>
    rw [hs]
    refine assignInOrder_cons (thn (h1 pins s σ H _ _ _ I r h) fun _ s1 ⟨σ1, H1, I1, q1⟩ => ?_)
    exact h2 pins s1 σ1 H1 _ _ Q I1 rr q1
/-- (a, b, ..) = a tuple of that length -/
def gTup (K : PySem.W.Frag) (n : Nat) (t : TGs) : TG := fun v σ H Q => ∃ a xs, v = .ref a ∧ SqT K H a xs ∧ xs.length = n ∧ t xs σ H Q
theorem pg_tup {es : List Expr} {k : Nat} {t : TGs} {n : Nat} (hc : X.calm = true) (h : PGs X es t)
    (hn : (assignEach es X.env).length = n := by rfl) (hst : (assignEach es X.env).findIdx? (·.1) = none := by rfl) : PG X (.Tuple es k pos) (gTup X.K n t) := by
  intro pins s σ H v u Q I r hw
  obtain ⟨a, xs, e1, hq, hl, hw⟩ := hw
  subst e1
  cases r
  obtain ⟨its, rv, ht, hz⟩ := I.tuple hq
  refine assign_Tuple_tuple (I.ok.hd hc) ht (by simp [hn, ← hl, rv.length]) hst fun h' hx => ?_
  have I1 : Inv X pins σ H { s with heap := h' } := I.kept (t' := s.toks) fun b o e => hx b o (Nat.ne_of_lt (Heap.lt_size e)) e
  exact h pins _ σ H xs _ Q I1 (by simpa using rv) hw
/-- o[i] = .. -/
def gSub (to ti : TE) (t : TSet) : TG := fun v σ H Q => to σ H fun o H1 => ti σ H1 fun i H2 => t o i v H2 fun H3 => Q σ H3
theorem pg_sub {o i : Expr} {to ti : TE} {t : TSet} (ho : PE X o to) (hi : PE X i ti) (hs : PSet X t)
    (ha : ∀ v, assign (.Subscript o i pos) X.env v = (do
      let ov ← holding [v] (eval o X.env)
      let iv ← holding [v, ov] (eval i X.env)
      standAt pos
      holding [v, ov, iv] (setItem ov iv v)
      release [v, ov, iv] []) := by intro _; rfl) : PG X (.Subscript o i pos) (gSub to ti t) := by
  intro pins s σ H v u Q I r h
  rw [ha]
  refine wpAny_bind (wpAny_holding (thn (ho pins s σ H _ I h) fun ov s1 ⟨x, H1, I1, r1, q1⟩ => ?_))
  refine wpAny_bind (wpAny_holding (thn (hi pins s1 σ H1 _ I1 q1) fun iv s2 ⟨y, H2, I2, r2, q2⟩ => ?_))
  refine wpAny_bind (wpAny_standAt (wpAny_bind (wpAny_holding (thn (hs pins s2 σ H2 x y v ov iv u _ I2 r1 r2 r q2) fun _ s3 ⟨H3, I3, q3⟩ => ?_))))
  exact wpAny_release ⟨σ, H3, I3, q3⟩
/-- target = value -/
def tAsg (te : TE) (g : TG) : TS := fun D σ H => te σ H fun x H1 => g x σ H1 D.nx
theorem ps_asg {tg e : Expr} {te : TE} {g : TG} (he : PE X e te) (hg : PG X tg g) (hs : swapsWithSole [tg] e pos.line X.env = pure false := by rfl) (hw : swappedStores [tg] e X.env = pure none := by rfl)
    (h1 : (assignEach [tg] X.env).map (·.2) = [assign tg X.env] := by rfl) : PS X (.Assign [tg] e pos) (tAsg te g) := by
  intro pins s σ H D I h
  refine wpAny_Assign_stores (thn (he pins s σ H _ I h) fun v s1 ⟨x, H1, I1, r1, q1⟩ => ?_) hs hw
  rw [h1]
  exact thn (hg pins s1 σ H1 x v _ I1 r1 q1) fun _ s2 q => q
/-- name = value -/
theorem ps_set {i : Nat} {x : Str} {e : Expr} {te : TE} {pos' : Pos} (hN : X.N.Nodup) (hi : X.N[i]? = some x) (hx : Loc X.env.scope x) (he : PE X e te) (hs : swapsWith e (some (.Name x pos')) pos.line X.env = pure false := by rfl) (hf : X.fn x = true ∨ X.env.scope.names.lookup x = some .local := by first | exact .inl rfl | exact .inr rfl | assumption) :
    PS X (.Assign [.Name x pos'] e pos) (tAsg te (gName i)) := by
  intro pins s σ H D I h
  refine wpAny_Assign_Name (thn (he pins s σ H _ I h) fun v s1 ⟨y, H1, I1, r1, q1⟩ => ?_) hs
  exact store_ok I1 hN hi hx r1 (fun s2 I2 => ⟨_, H1, I2, q1⟩) hf
/-- name op= e -/
def tAug (i : Nat) (te : TE) (ti : TIp) : TS := fun D σ H => ∃ x, σ[i]? = some (some x) ∧ te σ H fun y H1 => ti x y H1 fun z H2 => D.nx (σ.set i (some z)) H2
theorem ps_aug {i : Nat} {x : Str} {e : Expr} {te : TE} {op : Operator} {ti : TIp} {pos' : Pos} (hN : X.N.Nodup) (hi : X.N[i]? = some x) (hx : Loc X.env.scope x) (he : PE X e te) (ho : PIp X op ti) (hf : X.fn x = true ∨ X.env.scope.names.lookup x = some .local := by first | exact .inl rfl | exact .inr rfl | assumption) :
    PS X (.AugAssign (.Name x pos') op e pos) (tAug i te ti) := by
  intro pins s σ H D I h
  obtain ⟨v, e1, h⟩ := h
  obtain ⟨m, hn, hl⟩ := I.loc
  have vis : Vis X.env.scope x := by rcases hx with k | k; exact .inl k; exact .inr (.inl k)
  obtain ⟨u, r, l⟩ := hl i x v hi e1 vis
  refine wpAny_AugAssign_Name ?_
  have go : wpAny (model X.prog X.w) X.A (eval e X.env) (fun w s₂ => wpAny (model X.prog X.w) X.A (inplaceOp op u w) (fun r s₃ => wpAny (model X.prog X.w) X.A (storeName X.env x r) (fun _ => SP X pins D .next) X.xe s₃) X.xe s₂) X.xe s := by
    refine thn (he pins s σ H _ I h) fun w s1 ⟨y, H1, I1, r1, q1⟩ => ?_
    refine thn (ho pins s1 σ H1 v y u w _ I1 r r1 q1) fun z s2 ⟨zv, H2, I2, r2, q2⟩ => ?_
    exact store_ok I2 hN hi hx r2 (fun s3 I3 => ⟨_, H2, I3, q2⟩) hf
  rcases l with ⟨hk, hm⟩ | ⟨hk, c, hc, hcell⟩
  · exact wpAny_loadName_local I.ok.kind hk hn hm go
  · rcases hk with hk | hk
    · exact wpAny_loadName_cell I.ok.kind hk hc hcell go
    · rcases hx with k | k
      · have : X.env.scope.names.lookup x = some .free := hk
        rw [k] at this; cases this
      · have : X.env.scope.names.lookup x = some .free := hk
        rw [k] at this; cases this
end

/-! ### while -/
section
variable {X : Cx} {pos : Pos}
end

/-! ### what a loop or a comprehension walks -/
/-- at turn i: it yields x (the heap may grow), or it stops -/
structure It where
  go : Nat → Hp → Prop
  yld : Nat → Hp → V → Hp → Prop
  stop : Nat → Hp → Prop
/-- the iterator's own objects may turn: they are not the frame's, not pinned, younger than the entry (or a comprehension's own) -/
def FpOk (X : Cx) (pins : List (Addr × Obj)) (H : Hp) (b : Addr) : Prop :=
  H b = none ∧ b ≠ X.env.locals ∧ b ∉ X.fs ∧ (b ∈ X.ex ∨ X.s₀.heap.objs.size ≤ b) ∧ (∀ x c, X.env.cells.lookup x = some c → c ≠ b) ∧ ∀ p ∈ X.pn ++ pins, p.1 ≠ b
theorem Inv.fpOk {X : Cx} {pins : List (Addr × Obj)} {σ : St} {H H' : Hp} {s : Shared} {b : Addr} (I : Inv X pins σ H s) (hb : s.heap.objs.size ≤ b) (hn : H' b = none) : FpOk X pins H' b := by
  refine ⟨hn, Nat.ne_of_gt (Nat.lt_of_lt_of_le I.lt hb), I.nofs hb, .inr (Nat.le_trans I.sz hb), fun x c e z => ?_, fun p hp z => ?_⟩
  · obtain ⟨v, q⟩ := I.cell x c e
    exact absurd (Nat.lt_of_lt_of_le q.lt (by rw [z]; exact hb)) (Nat.lt_irrefl _)
  · exact absurd (Nat.lt_of_lt_of_le (Heap.lt_size (I.pin p hp).1) (by rw [z]; exact hb)) (Nat.lt_irrefl _)
structure Turn (P : Program) (w : World) (K : PySem.W.Frag) (tg : Expr) (J : It) (fp : List Addr) (it : Addr) (tn : Nat → Heap → Prop) : Prop where
  mem : it ∈ fp
  obj : ∀ i h, tn i h → ∀ b ∈ fp, ∃ o, h.get? b = some o ∧ ∀ v, o.data ≠ .cell v
  keep : ∀ i h h', tn i h → (∀ b ∈ fp, ∀ o, h.get? b = some o → h'.get? b = some o) → tn i h'
  item : ∀ (X : Cx), X.prog = P → X.w = w → X.K = K → X.calm = true → ∀ (i : Nat) (pins : List (Addr × Obj)) (s : Shared) (σ : St) (H : Hp) (E : Value → Shared → Prop), Inv X pins σ H s → (∀ b ∈ fp, FpOk X pins H b) → tn i s.heap → J.go i H →
    wpAny (model P w) X.A (pyNext (.ref it)) (fun r s1 => ∃ u, r = some u ∧
      wpAny (model P w) X.A (letOwnedTupleGo tg (.ref it) u) (fun _ s2 => ∃ x H', Inv X pins σ H' s2 ∧ RelV x u ∧ J.yld i H x H' ∧ tn (i + 1) s2.heap ∧ ∀ b ∈ fp, H' b = none) E s1) E s
  done : ∀ (X : Cx), X.prog = P → X.w = w → X.K = K → X.calm = true → ∀ (i : Nat) (pins : List (Addr × Obj)) (s : Shared) (σ : St) (H : Hp) (E : Value → Shared → Prop), Inv X pins σ H s → (∀ b ∈ fp, FpOk X pins H b) → tn i s.heap → J.stop i H →
    wpAny (model P w) X.A (pyNext (.ref it)) (fun r s1 => r = none ∧ Inv X pins σ H s1) E s
  self : ∀ (A : Around) (i : Nat) (s : Shared) (Q : Value → Shared → Prop) (E : Value → Shared → Prop), tn i s.heap → Q (.ref it) s → wpAny (model P w) A (pyIter (.ref it)) Q E s
abbrev TI := St → Hp → (It → Hp → Prop) → Prop
/-- an iterator has come -/
def PIE (X : Cx) (pins : List (Addr × Obj)) (σ : St) (tg : Expr) (R : It → Hp → Prop) (itv : Value) (s2 : Shared) : Prop :=
  ∃ (it : Addr) (fp : List Addr) (tn : Nat → Heap → Prop) (J : It) (H' : Hp), itv = .ref it ∧ Inv X pins σ H' s2 ∧ Turn X.prog X.w X.K tg J fp it tn ∧ tn 0 s2.heap ∧ (∀ b ∈ fp, FpOk X pins H' b) ∧ R J H'
def PI (X : Cx) (tg iter : Expr) (wi : TI) : Prop :=
  ∀ (pins : List (Addr × Obj)) (s : Shared) (σ : St) (H : Hp) (R : It → Hp → Prop), Inv X pins σ H s → wi σ H R →
    wpAny (model X.prog X.w) X.A (eval iter X.env) (fun v s1 => wpAny (model X.prog X.w) X.A (pyIter v) (PIE X pins σ tg R) X.xe s1) X.xe s

/-- the step ahead of the store is nothing for an iterator that keeps no tuple -/
theorem go_of {M : Model} {A : Around} {E : Value → Shared → Prop} {s : Shared} {tg : Expr} {it : Addr} {u : Value} {o : Obj} {n : String} {vs : Array Value} {Q : Unit → Shared → Prop} (ho : s.heap.get? it = some o) (hc : o.cls = .type n) (hd : o.data = .fields vs)
    (hn : ["enumerate", "zip", "dict_itemiterator", "dict_reverseitemiterator", "odict_iterator", "itertools.zip_longest", "itertools.pairwise"].contains n = false) (hQ : Q () s) : wpAny M A (letOwnedTupleGo tg (.ref it) u) Q E s := by
  unfold letOwnedTupleGo
  cases tg <;> first
    | exact wpAny_pure hQ
    | (cases u <;> first
        | exact wpAny_pure hQ
        | (refine wpAny_bind (wpAny_load ho ?_)
           rw [hc, hd]
           show wpAny M A (if (["enumerate", "zip", "dict_itemiterator", "dict_reverseitemiterator", "odict_iterator", "itertools.zip_longest", "itertools.pairwise"].contains n && vs[0]? == some (rawInt _)) = true then _ else _) Q E s
           rw [if_neg (by intro h; rw [hn, Bool.false_and] at h; cases h)]
           exact wpAny_pure hQ))

/-- the list at a, as it stands at each turn (a loop may append to it) -/
def Itl (K : PySem.W.Frag) (a : Addr) : It :=
  ⟨fun i H => ∃ xs x, SqL K H a xs ∧ xs[i]? = some x, fun i H x H' => H' = H ∧ ∀ xs, SqL K H a xs → xs[i]? = some x, fun i H => ∃ xs, SqL K H a xs ∧ xs.length ≤ i⟩
def Itt (K : PySem.W.Frag) (a : Addr) : It :=
  ⟨fun i H => ∃ xs x, SqT K H a xs ∧ xs[i]? = some x, fun i H x H' => H' = H ∧ ∀ xs, SqT K H a xs → xs[i]? = some x, fun i H => ∃ xs, SqT K H a xs ∧ xs.length ≤ i⟩
/-- lo, lo + 1, .. (n of them) -/
def Itr (lo : Int) (n : Nat) : It := ⟨fun i _ => i < n, fun i H x H' => H' = H ∧ x = .int (lo + i), fun i _ => n ≤ i⟩
theorem turn_list {P : Program} {w : World} {K : PySem.W.Frag} {tg : Expr} (a it : Addr) : Turn P w K tg (Itl K a) [it] it (fun i h => h.IsListIter it a i) where
  mem := by simp
  obj := fun i h st b hb => by
    have e : b = it := by simpa using hb
    subst e
    obtain ⟨o, e, c, d⟩ := st
    exact ⟨o, e, fun v z => by rw [d] at z; cases z⟩
  keep := fun i h h' st k => st.at fun o e => k it (by simp) o e
  item := by
    intro X hP hw hK hc i pins s σ H E I hf st hg
    subst hP hw hK
    obtain ⟨xs, x, hq, hx⟩ := hg
    obtain ⟨its, rv, p, hz⟩ := I.list hq
    obtain ⟨u, hu, ru⟩ := rv.get hx
    obtain ⟨f0, f1, f2, f3, f4, f5⟩ := hf it (by simp)
    refine wpAny_pyNext_list_item st p.isList (x := u) (by simpa using hu) fun h' st' sb => ?_
    have I1 : Inv X pins σ H { s with heap := h' } := I.turned (t' := s.toks) (fun b o hb e => (sb.2 b hb).trans e) f0 f1 f3 f4 f5
    obtain ⟨o, e, c, d⟩ := id st'
    exact ⟨u, rfl, go_of (s := { s with heap := h' }) e c d (by decide) ⟨x, H, I1, ru, ⟨rfl, fun ys hy => by rw [I.list_inj hy hq]; exact hx⟩, st', fun b hb => (hf b hb).1⟩⟩
  done := by
    intro X hP hw hK hc i pins s σ H E I hf st hg
    subst hP hw hK
    obtain ⟨xs, hq, hx⟩ := hg
    obtain ⟨its, rv, p, hz⟩ := I.list hq
    obtain ⟨f0, f1, f2, f3, f4, f5⟩ := hf it (by simp)
    have hl := rv.length
    exact wpAny_pyNext_list_end (I.ok.hd hc) st p.isList (by simp; omega) fun h' eb => ⟨rfl, I.turned (t' := s.toks) (fun b o hb e => eb b o hb e) f0 f1 f3 f4 f5⟩
  self := fun _ _ _ _ _ st h => wpAny_pyIter_listiter st h
theorem turn_tuple {P : Program} {w : World} {K : PySem.W.Frag} {tg : Expr} (a it : Addr) : Turn P w K tg (Itt K a) [it] it (fun i h => h.IsTupleIter it a i) where
  mem := by simp
  obj := fun i h st b hb => by
    have e : b = it := by simpa using hb
    subst e
    obtain ⟨o, e, c, d⟩ := st
    exact ⟨o, e, fun v z => by rw [d] at z; cases z⟩
  keep := fun i h h' st k => st.at fun o e => k it (by simp) o e
  item := by
    intro X hP hw hK hc i pins s σ H E I hf st hg
    subst hP hw hK
    obtain ⟨xs, x, hq, hx⟩ := hg
    obtain ⟨its, rv, p, hz⟩ := I.tuple hq
    obtain ⟨u, hu, ru⟩ := rv.get hx
    obtain ⟨f0, f1, f2, f3, f4, f5⟩ := hf it (by simp)
    refine wpAny_pyNext_tuple_item st (show s.heap.IsTuple a its.toArray from p) (x := u) (by simpa using hu) fun h' st' sb => ?_
    have I1 : Inv X pins σ H { s with heap := h' } := I.turned (t' := s.toks) (fun b o hb e => (sb.2 b hb).trans e) f0 f1 f3 f4 f5
    obtain ⟨o, e, c, d⟩ := id st'
    exact ⟨u, rfl, go_of (s := { s with heap := h' }) e c d (by decide) ⟨x, H, I1, ru, ⟨rfl, fun ys hy => by rw [I.tuple_inj hy hq]; exact hx⟩, st', fun b hb => (hf b hb).1⟩⟩
  done := by
    intro X hP hw hK hc i pins s σ H E I hf st hg
    subst hP hw hK
    obtain ⟨xs, hq, hx⟩ := hg
    obtain ⟨its, rv, p, hz⟩ := I.tuple hq
    obtain ⟨f0, f1, f2, f3, f4, f5⟩ := hf it (by simp)
    have hl := rv.length
    exact wpAny_pyNext_tuple_end (I.ok.hd hc) st (show s.heap.IsTuple a its.toArray from p) (by simp; omega) fun h' eb => ⟨rfl, I.turned (t' := s.toks) (fun b o hb e => eb b o hb e) f0 f1 f3 f4 f5⟩
  self := fun _ _ _ _ _ st h => wpAny_pyIter_tupleiter st h
theorem turn_range {P : Program} {w : World} {K : PySem.W.Frag} {tg : Expr} (it : Addr) (lo : Int) (n : Nat) : Turn P w K tg (Itr lo n) [it] it (fun i h => IsRangeIter h it (lo + (i : Nat) * 1) ((n : Int) - (i : Nat)) 1) where
  mem := by simp
  obj := fun i h st b hb => by
    have e : b = it := by simpa using hb
    subst e
    exact ⟨_, st, fun v z => by
      have z' : Data.fields _ = Data.cell v := z
      cases z'⟩
  keep := fun i h h' st k => k it (by simp) _ st
  item := by
    intro X hP hw hK hc i pins s σ H E I hf st hg
    subst hP hw hK
    obtain ⟨f0, f1, f2, f3, f4, f5⟩ := hf it (by simp)
    have W := Walks.range (prog := X.prog) (w := X.w) (I.ok.hd hc) it lo 1 n
    refine W.item i s _ _ hg st fun v h' tk hv st' kk => ?_
    obtain ⟨t, rfl⟩ := hv
    have I1 : Inv X pins σ H { s with heap := h', toks := tk } := I.turned (fun b o hb e => kk b o (by simpa using hb) e) f0 f1 f3 f4 f5
    refine ⟨_, rfl, go_of (s := { s with heap := h', toks := tk }) (n := "range_iterator") st' rfl rfl (by decide) ⟨.int (lo + i), H, I1, ⟨t, ?_⟩, ⟨rfl, rfl⟩, st', fun b hb => (hf b hb).1⟩⟩
    rw [Int.mul_one]
  done := by
    intro X hP hw hK hc i pins s σ H E I hf st hg
    subst hP hw hK
    obtain ⟨f0, f1, f2, f3, f4, f5⟩ := hf it (by simp)
    exact wpAny_pyNext_range_end (I.ok.hd hc) st (by have : n ≤ i := hg; omega) fun h' eb => ⟨rfl, I.turned (t' := s.toks) (fun b o hb e => eb b o hb e) f0 f1 f3 f4 f5⟩
  self := fun _ _ _ _ _ st h => wpAny_pyIter_rangeiter st h
end L2

namespace L2
open PySem PySem.Spec PyProof.Rows
variable {q0 : Bool}
section
variable {X : Cx} {tg : Expr}
def iList (K : PySem.W.Frag) (tl : TE) : TI := fun σ H R => tl σ H fun x H1 => ∃ a, x = .ref a ∧ (∃ xs, SqL K H1 a xs) ∧ R (Itl K a) H1
def iTup (K : PySem.W.Frag) (tl : TE) : TI := fun σ H R => tl σ H fun x H1 => ∃ a, x = .ref a ∧ (∃ xs, SqT K H1 a xs) ∧ R (Itt K a) H1
theorem pi_list {l : Expr} {tl : TE} (hl : PE X l tl) : PI X tg l (iList X.K tl) := by
  intro pins s σ H R I h
  refine thn (hl pins s σ H _ I h) fun v s1 ⟨x, H1, I1, r1, q1⟩ => ?_
  obtain ⟨a, e, ⟨xs, hq⟩, q⟩ := q1
  subst e
  cases r1
  obtain ⟨its, rv, p, hz⟩ := I1.list hq
  refine wpAny_pyIter_list p.isList ?_
  refine ⟨s1.heap.objs.size, [s1.heap.objs.size], _, _, H1, rfl, I1.kept (t' := s1.toks) fun b o e => Heap.get?_push_of_some _ e, turn_list a _, ⟨_, Heap.get?_push_size _ rfl, rfl, rfl⟩, fun b hb => ?_, q⟩
  have e : b = s1.heap.objs.size := by simpa using hb
  subst e
  exact I1.fpOk (Nat.le_refl _) (I1.hok.fresh (Nat.le_refl _))
theorem pi_tup {l : Expr} {tl : TE} (hl : PE X l tl) : PI X tg l (iTup X.K tl) := by
  intro pins s σ H R I h
  refine thn (hl pins s σ H _ I h) fun v s1 ⟨x, H1, I1, r1, q1⟩ => ?_
  obtain ⟨a, e, ⟨xs, hq⟩, q⟩ := q1
  subst e
  cases r1
  obtain ⟨its, rv, p, hz⟩ := I1.tuple hq
  refine wpAny_pyIter_tuple (show s1.heap.IsTuple a its.toArray from p) ?_
  refine ⟨s1.heap.objs.size, [s1.heap.objs.size], _, _, H1, rfl, I1.kept (t' := s1.toks) fun b o e => Heap.get?_push_of_some _ e, turn_tuple a _, ⟨_, Heap.get?_push_size _ rfl, rfl, rfl⟩, fun b hb => ?_, q⟩
  have e : b = s1.heap.objs.size := by simpa using hb
  subst e
  exact I1.fpOk (Nat.le_refl _) (I1.hok.fresh (Nat.le_refl _))
/-- a range object just made, walked -/
theorem range_it {pins : List (Addr × Obj)} {σ : St} {H : Hp} {s : Shared} {R : It → Hp → Prop} {E : Value → Shared → Prop} {lo hi : Int} {t u v : Tok} {tk : Nat} (I : Inv X pins σ H s) (h1 : -(2 ^ 62) ≤ lo) (h2 : lo < 2 ^ 62) (h3 : -(2 ^ 62) ≤ hi) (h4 : hi < 2 ^ 62)
    (q : R (Itr lo (hi - lo).toNat) H) : wpAny (model X.prog X.w) X.A (pyIter (.ref s.heap.objs.size)) (PIE X pins σ tg R) E { s with heap := s.heap.push { cls := .type "range", data := .fields #[.int lo t, .int hi u, .int 1 v] }, toks := tk } := by
  refine wpAny_pyIter_range (IsRange.new ..) (small_one h1 h2 h3 h4) ?_
  have I1 : Inv X pins σ H { s with heap := s.heap.push { cls := .type "range", data := .fields #[.int lo t, .int hi u, .int 1 v] }, toks := tk } := I.kept fun b o e => Heap.get?_push_of_some _ e
  refine ⟨(s.heap.push { cls := .type "range", data := .fields #[.int lo t, .int hi u, .int 1 v] }).objs.size, [(s.heap.push { cls := .type "range", data := .fields #[.int lo t, .int hi u, .int 1 v] }).objs.size], _, _, H, rfl,
    I1.kept (t' := tk) fun b o e => Heap.get?_push_of_some _ e, turn_range _ lo (hi - lo).toNat, ?_, fun b hb => ?_, q⟩
  · have e1 : lo + ((0 : Nat) : Int) * 1 = lo := by simp
    have e2 : (((hi - lo).toNat : Nat) : Int) - ((0 : Nat) : Int) = Builtin.Range.rangeSize lo hi 1 := by rw [rangeSize_one]; split <;> omega
    show IsRangeIter _ _ (lo + ((0 : Nat) : Int) * 1) ((((hi - lo).toNat : Nat) : Int) - ((0 : Nat) : Int)) 1
    rw [e1, e2]
    exact Heap.get?_push_size _ rfl
  · have e : b = (s.heap.push { cls := .type "range", data := .fields #[.int lo t, .int hi u, .int 1 v] }).objs.size := by simpa using hb
    subst e
    exact I1.fpOk (Nat.le_refl _) (I1.hok.fresh (Nat.le_refl _))
def iRng1 (ta : TA) : TI := fun σ H R => ta σ H fun vs H1 => ∃ j : Int, vs = [.int j] ∧ -(2 ^ 62) ≤ j ∧ j < 2 ^ 62 ∧ R (Itr 0 j.toNat) H1
def iRng2 (ta : TA) : TI := fun σ H R => ta σ H fun vs H1 => ∃ i j : Int, vs = [.int i, .int j] ∧ (-(2 ^ 62) ≤ i ∧ i < 2 ^ 62 ∧ -(2 ^ 62) ≤ j ∧ j < 2 ^ 62) ∧ R (Itr i (j - i).toNat) H1
theorem pi_range1 {a : Expr} {ta : TA} {p pos : Pos} (hg : Gl X "range") (hm : X.mg "range" = none) (ha : PA X [a] ta) (hs : starEach [a] X.env = [(false, eval a X.env)] := by rfl) : PI X tg (.Call (.Name "range" p) [a] [] pos) (iRng1 ta) := by
  intro pins s σ H R I h
  refine Call_ (ld_blt I hg hm boot_range (PyProof.Rows.callWith_type1 (thn (ha pos pins s σ H _ I h) fun us s1 ⟨vs, H1, I1, r1, q1⟩ => ?_) hs rfl))
  obtain ⟨j, e, q1, q2, q⟩ := q1
  subst e
  cases r1 with
  | cons r rr =>
    cases rr
    obtain ⟨t, rfl⟩ := r
    exact call_range_1 (range_it I1 (by omega) (by omega) q1 q2 (by simpa using q))
theorem pi_range2 {a b : Expr} {ta : TA} {p pos : Pos} (hg : Gl X "range") (hm : X.mg "range" = none) (ha : PA X [a, b] ta) (hs : starEach [a, b] X.env = [(false, eval a X.env), (false, eval b X.env)] := by rfl) (hs2 : starEach [b] X.env = [(false, eval b X.env)] := by rfl) :
    PI X tg (.Call (.Name "range" p) [a, b] [] pos) (iRng2 ta) := by
  intro pins s σ H R I h
  refine Call_ (ld_blt I hg hm boot_range (PyProof.Rows.callWith_type1 (thn (ha pos pins s σ H _ I h) fun us s1 ⟨vs, H1, I1, r1, q1⟩ => ?_) (by rw [hs, hs2]) (by rw [hs2]; rfl)))
  obtain ⟨i, j, e, ⟨q1, q2, q3, q4⟩, q⟩ := q1
  subst e
  cases r1 with
  | cons r rr =>
    cases rr with
    | cons r' rr =>
      cases rr
      obtain ⟨t, rfl⟩ := r
      obtain ⟨t', rfl⟩ := r'
      exact call_range_2 (range_it I1 q1 q2 q3 q4 q)

/-! ### for -/
/-- W: the invariant by the turn and a measure; N: what the body is to reach -/
def tFor (wi : TI) (g : TG) (tb : TS) : TS := fun D σ H => wi σ H fun J H1 => ∃ W : Nat → Nat → St → Hp → Prop, (∃ m, W 0 m σ H1) ∧ ∀ i m σ H, W i m σ H →
  (J.stop i H ∧ D.nx σ H) ∨ (J.go i H ∧ ∃ N : St → Hp → Prop, (∀ σ' H', N σ' H' → ∃ m', m' < m ∧ W (i + 1) m' σ' H') ∧ ∀ x H', J.yld i H x H' → g x σ H' fun σ2 H2 => tb { D with nx := N, ct := N, bk := D.nx } σ2 H2)
/-- the records at fp as they stand -/
def pinsAt (fp : List Addr) (h : Heap) : List (Addr × Obj) := fp.filterMap fun b => (h.get? b).map fun o => (b, o)
theorem mem_pinsAt {fp : List Addr} {h : Heap} {b : Addr} {o : Obj} (hb : b ∈ fp) (e : h.get? b = some o) : (b, o) ∈ pinsAt fp h := List.mem_filterMap.mpr ⟨b, hb, by rw [e]; rfl⟩
theorem of_pinsAt {fp : List Addr} {h : Heap} {p : Addr × Obj} (hp : p ∈ pinsAt fp h) : p.1 ∈ fp ∧ h.get? p.1 = some p.2 := by
  obtain ⟨b, hb, e⟩ := List.mem_filterMap.mp hp
  cases q : h.get? b with
  | none => rw [q] at e; cases e
  | some o =>
    rw [q] at e
    have e' : (b, o) = p := Option.some.inj e
    subst e'
    exact ⟨hb, q⟩
theorem Inv.pinned {pins : List (Addr × Obj)} {σ : St} {H : Hp} {s : Shared} {fp : List Addr} (I : Inv X pins σ H s) (hf : ∀ b ∈ fp, FpOk X pins H b) (ho : ∀ b ∈ fp, ∃ o, s.heap.get? b = some o ∧ ∀ v, o.data ≠ .cell v) : Inv X (pins ++ pinsAt fp s.heap) σ H s :=
  I.pins_of fun p hp => (List.mem_append.mp hp).elim (fun z => I.pin p (List.mem_append_right _ z)) fun z => by
    obtain ⟨hb, e⟩ := of_pinsAt z
    obtain ⟨f0, f1, f2, _⟩ := hf p.1 hb
    obtain ⟨o, e', d⟩ := ho p.1 hb
    rw [e] at e'; cases e'
    exact ⟨e, f0, f1, f2, d⟩
theorem Inv.unpinned {pins pl : List (Addr × Obj)} {σ : St} {H : Hp} {s : Shared} (I : Inv X (pins ++ pl) σ H s) : Inv X pins σ H s := I.pins_of fun p hp => I.pin p (List.mem_append_right _ (List.mem_append_left _ hp))
theorem ps_for {iter : Expr} {body : List Stmt} {wi : TI} {g : TG} {tb : TS} {pos : Pos} (hp : PassesOwn (model X.prog X.w) X.A X.env X.xe) (hc : X.calm = true) (hi : PI X tg iter wi) (hg : PG X tg g) (hb : PSs X body tb)
    (hs : ∀ x, foldedSetIterable iter X.env x = pure x := by intro _; rfl) : PS X (.For tg iter body [] pos) (tFor wi g tb) := by
  intro pins s σ H D I h
  refine wpAny_For (thn (hi pins s σ H _ I h) fun v s1 h1 => thn h1 fun itv s2 h2 => ?_) hs
  obtain ⟨it, fp, tn, J, H2, e, I2, T, st2, f2, W, ⟨m0, w0⟩, turn⟩ := h2
  subst e
  -- what stays true of the iterator's objects through the loop
  have stat : ∀ {H' : Hp}, (∀ b ∈ fp, H' b = none) → ∀ b ∈ fp, FpOk X pins H' b := fun hn b hb => ⟨hn b hb, (f2 b hb).2⟩
  refine codeAny_forLoop_any (fun n s' => ∃ i σ' H', Inv X pins σ' H' s' ∧ tn i s'.heap ∧ (∀ b ∈ fp, H' b = none) ∧ W i n σ' H') ?_ m0 ⟨0, σ, H2, I2, st2, fun b hb => (f2 b hb).1, w0⟩
  rintro n s3 ⟨i, σ3, H3, I3, st3, fr3, w3⟩
  rcases turn i n σ3 H3 w3 with ⟨stop, qn⟩ | ⟨go, N, hN, step⟩
  · refine wpAny_passesOwn hp (thn (T.done X rfl rfl rfl hc i pins s3 σ3 H3 X.xe I3 (stat fr3) st3 stop) fun r s4 ⟨hr, I4⟩ => ?_)
    subst hr
    exact wpAny_execs_nil ⟨σ3, H3, I4, qn⟩
  · refine wpAny_passesOwn hp (thn (T.item X rfl rfl rfl hc i pins s3 σ3 H3 X.xe I3 (stat fr3) st3 go) fun r s4 ⟨u, hr, h4⟩ => ?_)
    subst hr
    refine wpAny_passesOwn hp (thn h4 fun _ s5 ⟨x, H5, I5, r5, y5, st5, fr5⟩ => ?_)
    have I5' := I5.pinned (stat fr5) (T.obj _ _ st5)
    refine wpAny_passesOwn hp (thn (hg _ s5 σ3 H5 x u _ I5' r5 (step x H5 y5)) fun _ s6 ⟨σ6, H6, I6, q6⟩ => ?_)
    refine wpAny_passesOwn hp (thn (hb _ s6 σ6 H6 _ I6 q6) fun f s7 q7 => ?_)
    have again : ∀ {σ7 : St} {H7 : Hp}, Inv X (pins ++ pinsAt fp s5.heap) σ7 H7 s7 → N σ7 H7 → ∃ m, m < n ∧ ∃ i σ' H', Inv X pins σ' H' s7 ∧ tn i s7.heap ∧ (∀ b ∈ fp, H' b = none) ∧ W i m σ' H' := fun {σ7 H7} I7 n7 => by
      obtain ⟨m', hm, w7⟩ := hN σ7 H7 n7
      refine ⟨m', hm, i + 1, σ7, H7, I7.unpinned, T.keep _ _ _ st5 fun b hb o e => (I7.pin (b, o) (List.mem_append_right _ (List.mem_append_right _ (mem_pinsAt hb e)))).1, fun b hb => ?_, w7⟩
      obtain ⟨o, e, d⟩ := T.obj _ _ st5 b hb
      exact (I7.pin (b, o) (List.mem_append_right _ (List.mem_append_right _ (mem_pinsAt hb e)))).2.1
    cases f with
    | next => obtain ⟨σ7, H7, I7, n7⟩ := q7; exact again I7 n7
    | cont => obtain ⟨σ7, H7, I7, n7⟩ := q7; exact again I7 n7
    | brk => obtain ⟨σ7, H7, I7, q7⟩ := q7; exact ⟨σ7, H7, I7.unpinned, q7⟩
    | ret v => obtain ⟨x7, σ7, H7, I7, r7, q7⟩ := q7; exact ⟨x7, σ7, H7, I7.unpinned, r7, q7⟩
end

/-! ### the forms one uses -/
/-- over a list that the body leaves as it is -/
theorem for_list {K : PySem.W.Frag} {a : Addr} {xs : List V} {g : TG} {tb : TS} {D : Ends} {σ : St} {H : Hp} (Pv : Nat → St → Hp → Prop) (h0 : Pv 0 σ H) (hl : ∀ i σ H, i ≤ xs.length → Pv i σ H → SqL K H a xs)
    (hs : ∀ i x σ H, xs[i]? = some x → Pv i σ H → g x σ H fun σ2 H2 => tb { D with nx := Pv (i + 1), ct := Pv (i + 1), bk := D.nx } σ2 H2) (hd : ∀ σ H, Pv xs.length σ H → D.nx σ H) :
    ∃ W : Nat → Nat → St → Hp → Prop, (∃ m, W 0 m σ H) ∧ ∀ i m σ H, W i m σ H →
      ((Itl K a).stop i H ∧ D.nx σ H) ∨ ((Itl K a).go i H ∧ ∃ N : St → Hp → Prop, (∀ σ' H', N σ' H' → ∃ m', m' < m ∧ W (i + 1) m' σ' H') ∧ ∀ x H', (Itl K a).yld i H x H' → g x σ H' fun σ2 H2 => tb { D with nx := N, ct := N, bk := D.nx } σ2 H2) := by
  refine ⟨fun i m σ H => m = xs.length - i ∧ i ≤ xs.length ∧ Pv i σ H, ⟨xs.length, by simp, Nat.zero_le _, h0⟩, ?_⟩
  rintro i m σ H ⟨rfl, hi, p⟩
  have q := hl i σ H hi p
  by_cases hlt : i < xs.length
  · refine .inr ⟨⟨xs, xs[i], q, by simp [hlt]⟩, Pv (i + 1), fun σ' H' p' => ⟨xs.length - (i + 1), by omega, rfl, hlt, p'⟩, fun x H' y => ?_⟩
    obtain ⟨e, y⟩ := y
    subst e
    exact hs i x σ _ (y xs q) p
  · have e : i = xs.length := by omega
    subst e
    exact .inl ⟨⟨xs, q, Nat.le_refl _⟩, hd σ H p⟩
theorem for_range {lo : Int} {n : Nat} {g : TG} {tb : TS} {D : Ends} {σ : St} {H : Hp} (Pv : Nat → St → Hp → Prop) (h0 : Pv 0 σ H)
    (hs : ∀ i σ H, i < n → Pv i σ H → g (.int (lo + i)) σ H fun σ2 H2 => tb { D with nx := Pv (i + 1), ct := Pv (i + 1), bk := D.nx } σ2 H2) (hd : ∀ σ H, Pv n σ H → D.nx σ H) :
    ∃ W : Nat → Nat → St → Hp → Prop, (∃ m, W 0 m σ H) ∧ ∀ i m σ H, W i m σ H →
      ((Itr lo n).stop i H ∧ D.nx σ H) ∨ ((Itr lo n).go i H ∧ ∃ N : St → Hp → Prop, (∀ σ' H', N σ' H' → ∃ m', m' < m ∧ W (i + 1) m' σ' H') ∧ ∀ x H', (Itr lo n).yld i H x H' → g x σ H' fun σ2 H2 => tb { D with nx := N, ct := N, bk := D.nx } σ2 H2) := by
  refine ⟨fun i m σ H => m = n - i ∧ i ≤ n ∧ Pv i σ H, ⟨n, by simp, Nat.zero_le _, h0⟩, ?_⟩
  rintro i m σ H ⟨rfl, hi, p⟩
  by_cases hlt : i < n
  · refine .inr ⟨hlt, Pv (i + 1), fun σ' H' p' => ⟨n - (i + 1), by omega, rfl, hlt, p'⟩, fun x H' y => ?_⟩
    obtain ⟨e, y⟩ := y
    subst e y
    exact hs i σ _ hlt p
  · have e : i = n := by omega
    subst e
    exact .inl ⟨Nat.le_refl _, hd σ H p⟩
end L2

namespace L2
open PySem PySem.Spec PyProof.Rows
variable {q0 : Bool}

abbrev R2 := V → V → Hp → VK → Prop
/-- a two-place operation on values: f is binaryOp op, inplaceOp op or compareOp op -/
def OpR (X : Cx) (f : Value → Value → Sem Value) (r : R2) : Prop :=
  ∀ (pins : List (Addr × Obj)) (s : Shared) (σ : St) (H : Hp) (x y : V) (v u : Value) (Q : VK), Inv X pins σ H s → RelV x v → RelV y u → r x y H Q →
    wpAny (model X.prog X.w) X.A (f v u) (EP X pins σ Q) X.xe s
/-- a one-place operation -/
def UnR (X : Cx) (f : Value → Sem Value) (r : V → Hp → VK → Prop) : Prop :=
  ∀ (pins : List (Addr × Obj)) (s : Shared) (σ : St) (H : Hp) (x : V) (v : Value) (Q : VK), Inv X pins σ H s → RelV x v → r x H Q →
    wpAny (model X.prog X.w) X.A (f v) (EP X pins σ Q) X.xe s
/-- a call of a value that is known (a builtin, a type) with values -/
def CallR (X : Cx) (f : Value) (r : List V → Hp → VK → Prop) : Prop :=
  ∀ (pins : List (Addr × Obj)) (s : Shared) (σ : St) (H : Hp) (xs : List V) (us : List Value) (Q : VK), Inv X pins σ H s → Vals xs us → r xs H Q →
    wpAny (model X.prog X.w) X.A (call f us) (EP X pins σ Q) X.xe s
/-- a value's truth -/
def TruR (X : Cx) (r : V → Hp → (Bool → Hp → Prop) → Prop) : Prop :=
  ∀ (pins : List (Addr × Obj)) (s : Shared) (σ : St) (H : Hp) (x : V) (v : Value) (Q : Bool → Hp → Prop), Inv X pins σ H s → RelV x v → r x H Q →
    wpAny (model X.prog X.w) X.A (truthy v) (TP X pins σ Q) X.xe s

def tOp (r : R2) (ta tb : TE) : TE := fun σ H Q => ta σ H fun x H1 => tb σ H1 fun y H2 => r x y H2 Q
def tUn (r : V → Hp → VK → Prop) (ta : TE) : TE := fun σ H Q => ta σ H fun x H1 => r x H1 Q
/-- ints in, under C, and a value out -/
def rI (C : Int → Int → Prop) (g : Int → Int → V) : R2 := fun x y H Q => ∃ i j, x = .int i ∧ y = .int j ∧ C i j ∧ Q (g i j) H
def rI0 (g : Int → Int → V) : R2 := fun x y H Q => ∃ i j, x = .int i ∧ y = .int j ∧ Q (g i j) H
def rU (g : Int → V) : V → Hp → VK → Prop := fun x H Q => ∃ i, x = .int i ∧ Q (g i) H

section
variable {X : Cx} {a b c : Expr} {ta tb tc : TE} {pos : Pos}

theorem binT (ha : PE X a ta) (hb : PE X b tb) {pins : List (Addr × Obj)} {s : Shared} {σ : St} {H : Hp} {R : V → V → Hp → Prop} (I : Inv X pins σ H s)
    (h : ta σ H fun x H1 => tb σ H1 fun y H2 => R x y H2) {Q : Value → Shared → Prop} {f : Value → Value → Sem Value}
    (hf : ∀ v u s2 x y H2, Inv X pins σ H2 s2 → RelV x v → RelV y u → R x y H2 → wpAny (model X.prog X.w) X.A (f v u) Q X.xe s2) :
    wpAny (model X.prog X.w) X.A (eval a X.env) (fun v s₁ => wpAny (model X.prog X.w) X.A (eval b X.env) (fun u s₂ => wpAny (model X.prog X.w) X.A (f v u) Q X.xe s₂) X.xe s₁) X.xe s := by
  refine thn (ha pins s σ H _ I h) fun v s1 ⟨x, H1, I1, r1, q1⟩ => ?_
  refine thn (hb pins s1 σ H1 _ I1 q1) fun u s2 ⟨y, H2, I2, r2, q2⟩ => ?_
  exact hf v u s2 x y H2 I2 r1 r2 q2

theorem pe_op {op : Operator} {r : R2} (ho : OpR X (binaryOp op) r) (ha : PE X a ta) (hb : PE X b tb) : PE X (.BinOp a op b pos) (tOp r ta tb) := by
  intro pins s σ H Q I h
  exact wpAny_BinOp (binT ha hb I h fun v u s2 x y H2 I2 rx ry q => ho pins s2 σ H2 x y v u Q I2 rx ry q)
theorem pe_un {op : UnaryOp} {r : V → Hp → VK → Prop} (ho : UnR X (unaryOp op) r) (ha : PE X a ta) : PE X (.UnaryOp op a pos) (tUn r ta) := by
  intro pins s σ H Q I h
  exact UnaryOp_ (thn (ha pins s σ H _ I h) fun v s1 ⟨x, H1, I1, r1, q1⟩ => ho pins s1 σ H1 x v Q I1 r1 q1)
/-! ### ints -/
theorem opI {f : Value → Value → Sem Value} {C : Int → Int → Prop} {g : Int → Int → Int}
    (rule : ∀ (i j : Int) (t u : Tok) (s : Shared) (Q : Value → Shared → Prop) (E : Value → Shared → Prop), C i j → Q (.int (g i j) s.toks) { s with toks := s.toks + 1 } → wpAny (model X.prog X.w) X.A (f (.int i t) (.int j u)) Q E s) :
    OpR X f (rI C fun i j => .int (g i j)) := by
  intro pins s σ H x y v u Q I rx ry h
  obtain ⟨i, j, rfl, rfl, hc, q⟩ := h
  obtain ⟨t, rfl⟩ := rx
  obtain ⟨t', rfl⟩ := ry
  exact rule i j t t' s _ _ hc ⟨.int (g i j), H, I.tok _, ⟨_, rfl⟩, q⟩
theorem opI0 {f : Value → Value → Sem Value} {g : Int → Int → Int}
    (rule : ∀ (i j : Int) (t u : Tok) (s : Shared) (Q : Value → Shared → Prop) (E : Value → Shared → Prop), Q (.int (g i j) s.toks) { s with toks := s.toks + 1 } → wpAny (model X.prog X.w) X.A (f (.int i t) (.int j u)) Q E s) :
    OpR X f (rI0 fun i j => .int (g i j)) := by
  intro pins s σ H x y v u Q I rx ry h
  obtain ⟨i, j, rfl, rfl, q⟩ := h
  obtain ⟨t, rfl⟩ := rx
  obtain ⟨t', rfl⟩ := ry
  exact rule i j t t' s _ _ ⟨.int (g i j), H, I.tok _, ⟨_, rfl⟩, q⟩
theorem opB0 {f : Value → Value → Sem Value} {g : Int → Int → Bool}
    (rule : ∀ (i j : Int) (t u : Tok) (s : Shared) (Q : Value → Shared → Prop) (E : Value → Shared → Prop), Q (.bool (g i j)) s → wpAny (model X.prog X.w) X.A (f (.int i t) (.int j u)) Q E s) :
    OpR X f (rI0 fun i j => .bl (g i j)) := by
  intro pins s σ H x y v u Q I rx ry h
  obtain ⟨i, j, rfl, rfl, q⟩ := h
  obtain ⟨t, rfl⟩ := rx
  obtain ⟨t', rfl⟩ := ry
  exact rule i j t t' s _ _ ⟨.bl (g i j), H, I, rfl, q⟩

def CDiv (i j : Int) : Prop := 0 < j ∧ j < 1073741824
def CPow (i j : Int) : Prop := 0 ≤ j ∧ j ≤ 1000000 ∧ i.natAbs < 2 ^ 64
def CMul (i j : Int) : Prop := (-(2 ^ 64) < i ∧ i < 2 ^ 64) ∨ (-(2 ^ 64) < j ∧ j < 2 ^ 64)
theorem CMul.ok {i j : Int} (h : CMul i j) : IntMulOk i j := by
  rcases h with ⟨h1, h2⟩ | ⟨h1, h2⟩
  · exact .of_left (intBits_le_64 h1 h2)
  · exact .of_right (intBits_le_64 h1 h2)
theorem two_pow_nn (k : Nat) : (0 : Int) ≤ 2 ^ k := by
  rw [two_pow_cast]
  exact Int.natCast_nonneg _

theorem op_add : OpR X (binaryOp .Add) (rI0 fun i j => .int (i + j)) := opI0 fun _ _ _ _ _ _ _ q => add_int q
theorem op_sub : OpR X (binaryOp .Sub) (rI0 fun i j => .int (i - j)) := opI0 fun _ _ _ _ _ _ _ q => sub_int q
theorem op_mul : OpR X (binaryOp .Mult) (rI CMul fun i j => .int (i * j)) := opI fun _ _ _ _ _ _ _ hc q => mul_int q hc.ok
/-- // by a positive divisor -/
theorem op_fdiv : OpR X (binaryOp .FloorDiv) (rI CDiv fun i j => .int (i / j)) := opI fun i j _ _ _ _ _ hc q => by
  have h1 : (0 : Int) < j := hc.1
  have h2 : j < 1073741824 := hc.2
  exact floordiv_int (by omega) (by rw [Int.fdiv_eq_ediv_of_nonneg i (by omega)]; exact q) (.inl (PyProof.noPylong_small (by omega)))
/-- % by a positive divisor of any size -/
theorem op_mod : OpR X (binaryOp .Mod) (rI (fun _ j => 0 < j) fun i j => .int (i % j)) := opI fun i j _ _ _ _ _ hc q => by
  have h1 : (0 : Int) < j := hc
  exact mod_int' (by omega) (by rw [Int.fmod_eq_emod_of_nonneg i (by omega)]; exact q)
theorem op_pow : OpR X (binaryOp .Pow) (rI CPow fun i j => .int (i ^ j.toNat)) := opI fun _ _ _ _ _ _ _ hc q => pow_int_small hc.1 hc.2.1 hc.2.2 q
theorem op_shr : OpR X (binaryOp .RShift) (rI (fun _ j => 0 ≤ j) fun i j => .int (i / 2 ^ j.toNat)) := opI fun i j _ _ _ _ _ hc q =>
  rshift_int hc (by rw [Int.fdiv_eq_ediv_of_nonneg i (two_pow_nn _)]; exact q)
theorem iop_add : OpR X (inplaceOp .Add) (rI0 fun i j => .int (i + j)) := opI0 fun _ _ _ _ _ _ _ q => iadd_int q
theorem unI {f : Value → Sem Value} {g : Int → Int}
    (rule : ∀ (i : Int) (t : Tok) (s : Shared) (Q : Value → Shared → Prop) (E : Value → Shared → Prop), Q (.int (g i) s.toks) { s with toks := s.toks + 1 } → wpAny (model X.prog X.w) X.A (f (.int i t)) Q E s) :
    UnR X f (rU fun i => .int (g i)) := by
  intro pins s σ H x v Q I rx h
  obtain ⟨i, rfl, q⟩ := h
  obtain ⟨t, rfl⟩ := rx
  exact rule i t s _ _ ⟨.int (g i), H, I.tok _, ⟨_, rfl⟩, q⟩
theorem un_neg : UnR X (unaryOp .USub) (rU fun i => .int (-i)) := unI fun _ _ _ _ _ q => neg_int q
end

/-! ### comparisons -/
/-- the scalars that == tells apart as data does -/
def scal : V → V → Bool
  | .non, .non => true | .non, .int _ => true | .int _, .non => true | .non, .bl _ => true | .bl _, .non => true | .non, .str _ => true | .str _, .non => true
  | .int _, .int _ => true | .bl _, .bl _ => true | .str _, .str _ => true | .byt _, .byt _ => true
  | .int _, .str _ => true | .str _, .int _ => true | .bl _, .str _ => true | .str _, .bl _ => true
  | _, _ => false
def rEq : R2 := fun x y H Q => scal x y = true ∧ Q (.bl (decide (x = y))) H
def rNe : R2 := fun x y H Q => scal x y = true ∧ Q (.bl (!decide (x = y))) H

theorem dec_int {i j : Int} : decide (V.int i = V.int j) = (i == j) := by
  rw [Bool.eq_iff_iff]
  simp
theorem dec_bl {i j : Bool} : decide (V.bl i = V.bl j) = (i == j) := by
  rw [Bool.eq_iff_iff]
  simp
theorem dec_str {i j : Str} : decide (V.str i = V.str j) = (i == j) := by
  rw [Bool.eq_iff_iff]
  simp
theorem dec_byt {i j : Array UInt8} : decide (V.byt i = V.byt j) = (i.toList == j.toList) := by
  rw [Bool.eq_iff_iff]
  cases i
  cases j
  simp

section
variable {X : Cx} {a b c : Expr} {ta tb tc : TE} {pos : Pos}
theorem fin_bl {pins : List (Addr × Obj)} {σ : St} {H : Hp} {s : Shared} {Q : VK} {k k' : Bool} (I : Inv X pins σ H s) (q : Q (.bl k) H) (e : k = k') : EP X pins σ Q (.bool k') s := by
  subst e
  exact ⟨.bl k, H, I, rfl, q⟩
theorem op_eq : OpR X (compareOp .Eq) rEq := by
  intro pins s σ H x y v u Q I rx ry h
  obtain ⟨hs, q⟩ := h
  cases x with
  | non =>
    cases rx
    cases y with
    | non => cases ry; exact PySem.EqNone.eq_none_none (fin_bl I q (by simp))
    | bl j => cases ry; exact PySem.EqNone.eq_none_bool (fin_bl I q (by simp))
    | int j => obtain ⟨t', rfl⟩ := ry; exact PySem.EqNone.eq_none_int (fin_bl I q (by simp))
    | str j => obtain ⟨t', rfl⟩ := ry; exact PySem.EqNone.eq_none_str (fin_bl I q (by simp))
    | _ => exact absurd (show false = true from hs) Bool.false_ne_true
  | bl i =>
    cases rx
    cases y with
    | non => cases ry; exact PySem.EqNone.eq_bool_none (fin_bl I q (by simp))
    | bl j => cases ry; exact eq_bool (fin_bl I q dec_bl)
    | str j => obtain ⟨t', rfl⟩ := ry; exact PySem.EqMixed.eq_bool_str (fin_bl I q (by simp))
    | _ => exact absurd (show false = true from hs) Bool.false_ne_true
  | int i =>
    obtain ⟨t, rfl⟩ := rx
    cases y with
    | non => cases ry; exact PySem.EqNone.eq_int_none (fin_bl I q (by simp))
    | int j => obtain ⟨t', rfl⟩ := ry; exact eq_int (fin_bl I q dec_int)
    | str j => obtain ⟨t', rfl⟩ := ry; exact PySem.EqMixed.eq_int_str (fin_bl I q (by simp))
    | _ => exact absurd (show false = true from hs) Bool.false_ne_true
  | str i =>
    obtain ⟨t, rfl⟩ := rx
    cases y with
    | non => cases ry; exact PySem.EqNone.eq_str_none (fin_bl I q (by simp))
    | bl j => cases ry; exact PySem.EqMixed.eq_str_bool (fin_bl I q (by simp))
    | int j => obtain ⟨t', rfl⟩ := ry; exact PySem.EqMixed.eq_str_int (fin_bl I q (by simp))
    | str j => obtain ⟨t', rfl⟩ := ry; exact eq_str (fin_bl I q dec_str)
    | _ => exact absurd (show false = true from hs) Bool.false_ne_true
  | byt i =>
    obtain ⟨t, rfl⟩ := rx
    cases y with
    | byt j => obtain ⟨t', rfl⟩ := ry; exact PySem.W.eq_bytes (fin_bl I q dec_byt)
    | _ => exact absurd (show false = true from hs) Bool.false_ne_true
  | _ => cases y <;> exact absurd (show false = true from hs) Bool.false_ne_true
theorem op_ne : OpR X (compareOp .NotEq) rNe := by
  intro pins s σ H x y v u Q I rx ry h
  obtain ⟨hs, q⟩ := h
  cases x with
  | non =>
    cases rx
    cases y with
    | non => cases ry; exact PySem.EqNone.ne_none_none (fin_bl I q (by simp))
    | bl j => cases ry; exact PySem.EqNone.ne_none_bool (fin_bl I q (by simp))
    | int j => obtain ⟨t', rfl⟩ := ry; exact PySem.EqNone.ne_none_int (fin_bl I q (by simp))
    | str j => obtain ⟨t', rfl⟩ := ry; exact PySem.EqNone.ne_none_str (fin_bl I q (by simp))
    | _ => exact absurd (show false = true from hs) Bool.false_ne_true
  | bl i =>
    cases rx
    cases y with
    | non => cases ry; exact PySem.EqNone.ne_bool_none (fin_bl I q (by simp))
    | bl j => cases ry; exact ne_bool (fin_bl I q (congrArg not dec_bl))
    | str j => obtain ⟨t', rfl⟩ := ry; exact PySem.EqMixed.ne_bool_str (fin_bl I q (by simp))
    | _ => exact absurd (show false = true from hs) Bool.false_ne_true
  | int i =>
    obtain ⟨t, rfl⟩ := rx
    cases y with
    | non => cases ry; exact PySem.EqNone.ne_int_none (fin_bl I q (by simp))
    | int j => obtain ⟨t', rfl⟩ := ry; exact ne_int (fin_bl I q (congrArg not dec_int))
    | str j => obtain ⟨t', rfl⟩ := ry; exact PySem.EqMixed.ne_int_str (fin_bl I q (by simp))
    | _ => exact absurd (show false = true from hs) Bool.false_ne_true
  | str i =>
    obtain ⟨t, rfl⟩ := rx
    cases y with
    | non => cases ry; exact PySem.EqNone.ne_str_none (fin_bl I q (by simp))
    | bl j => cases ry; exact PySem.EqMixed.ne_str_bool (fin_bl I q (by simp))
    | int j => obtain ⟨t', rfl⟩ := ry; exact PySem.EqMixed.ne_str_int (fin_bl I q (by simp))
    | str j => obtain ⟨t', rfl⟩ := ry; exact ne_str (fin_bl I q (congrArg not dec_str))
    | _ => exact absurd (show false = true from hs) Bool.false_ne_true
  | byt i =>
    obtain ⟨t, rfl⟩ := rx
    cases y with
    | byt j => obtain ⟨t', rfl⟩ := ry; exact PySem.W.ne_bytes (fin_bl I q (congrArg not dec_byt))
    | _ => exact absurd (show false = true from hs) Bool.false_ne_true
  | _ => cases y <;> exact absurd (show false = true from hs) Bool.false_ne_true

theorem op_lt : OpR X (compareOp .Lt) (rI0 fun i j => .bl (decide (i < j))) := opB0 fun _ _ _ _ _ _ _ q => lt_int q
theorem op_le : OpR X (compareOp .LtE) (rI0 fun i j => .bl (decide (i ≤ j))) := opB0 fun _ _ _ _ _ _ _ q => le_int q
theorem op_gt : OpR X (compareOp .Gt) (rI0 fun i j => .bl (decide (j < i))) := opB0 fun _ _ _ _ _ _ _ q => gt_int q
theorem op_notN : OpR X (compareOp .IsNot) (fun x y H Q => y = .non ∧ Q (.bl (!decide (x = .non))) H) := by
  intro pins s σ H x y v u Q I rx ry h
  obtain ⟨rfl, q⟩ := h
  cases ry
  refine isnot_none_gen (fin_bl I q ?_)
  cases x <;> first
    | (cases rx; rfl)
    | (obtain ⟨t, rfl⟩ := rx; rfl)

/-- is, is not of two objects that are tracked lists or instances -/
def isObj : HO → Bool
  | .lst _ => true
  | .ins _ _ _ => true
  | _ => false
/-- two rules for one operation: by cases -/
theorem OpR.or {f : Value → Value → Sem Value} {r r' : R2} (h : OpR X f r) (h' : OpR X f r') : OpR X f (fun x y H Q => r x y H Q ∨ r' x y H Q) := by
  intro pins s σ H x y v u Q I rx ry q
  rcases q with q | q
  · exact h pins s σ H x y v u Q I rx ry q
  · exact h' pins s σ H x y v u Q I rx ry q

theorem nomark (b : Expr) {op : CmpOp} (h : op ≠ .In := by decide) (h2 : op ≠ .NotIn := by decide) : behindInMarks op b = false := by
  have e1 : (op == CmpOp.In) = false := by cases op <;> first | rfl | exact absurd rfl h
  have e2 : (op == CmpOp.NotIn) = false := by cases op <;> first | rfl | exact absurd rfl h2
  cases b <;> simp [behindInMarks, e1, e2]
/-- a comparison as a value; hm: nomark b, or (for in, not in) by with_unfolding_all rfl -/
theorem pe_cmpR {op : CmpOp} {r : R2} (ho : OpR X (compareOp op) r) (ha : PE X a ta) (hb : PE X b tb) (hm : behindInMarks op b = false) : PE X (.Compare a [op] [b] pos) (tOp r ta tb) := by
  intro pins s σ H Q I h
  exact wpAny_Compare1 (binT ha hb I h fun v u s2 x y H2 I2 rx ry q => ho pins s2 σ H2 x y v u Q I2 rx ry q) hm
/-- a reading of a value as a test -/
def tTest (t : TE) : TT := fun σ H Q => t σ H fun x H' => ∃ k, x = .bl k ∧ Q k H'
theorem pt_cmpR {op : CmpOp} {r : R2} (ho : OpR X (compareOp op) r) (ha : PE X a ta) (hb : PE X b tb) (hm : behindInMarks op b = false) : PT X (.Compare a [op] [b] pos) (tTest (tOp r ta tb)) := by
  intro pins s σ H Q I h
  refine wpAny_isTrue_Compare1 (thn (ha pins s σ H _ I h) fun v s1 ⟨x, H1, I1, r1, q1⟩ => thn (hb pins s1 σ H1 _ I1 q1) fun u s2 ⟨y, H2, I2, r2, q2⟩ =>
    thn (ho pins s2 σ H2 x y v u _ I2 r1 r2 q2) fun c s3 ⟨z, H3, I3, r3, k, e, q3⟩ => ?_) hm
  subst e
  cases r3
  exact wpAny_truthy_bool ⟨H3, I3, q3⟩
/-- a op1 b op2 c -/
def tChain (r r' : R2) (ta tb tc : TE) : TE := fun σ H Q => ta σ H fun x H1 => tb σ H1 fun y H2 => r x y H2 fun z H3 => ∃ k, z = .bl k ∧
  (if k = true then tc σ H3 fun w' H4 => r' y w' H4 Q else Q (.bl false) H3)
theorem pe_chain {op op' : CmpOp} {r r' : R2} (ho : OpR X (compareOp op) r) (ho' : OpR X (compareOp op') r') (ha : PE X a ta) (hb : PE X b tb) (hc : PE X c tc)
    (hm : lastMarks [op, op'] [b, c] = false := by with_unfolding_all rfl) : PE X (.Compare a [op, op'] [b, c] pos) (tChain r r' ta tb tc) := by
  intro pins s σ H Q I h
  refine Compare_chain (thn (ha pins s σ H _ I h) fun v s1 ⟨x, H1, I1, r1, q1⟩ => chain_link (thn (hb pins s1 σ H1 _ I1 q1) fun u s2 ⟨y, H2, I2, r2, q2⟩ =>
    thn (ho pins s2 σ H2 x y v u _ I2 r1 r2 q2) fun d s3 ⟨z, H3, I3, r3, k, e, q3⟩ => ?_)) hm
  subst e
  cases r3
  refine wpAny_truthy_bool ?_
  cases k with
  | false => exact ite_ff ⟨.bl false, H3, I3, rfl, q3⟩
  | true => exact ite_tt (chain_last (thn (hc pins s3 σ H3 _ I3 q3) fun w' s4 ⟨z', H4, I4, r4, q4⟩ => ho' pins s4 σ H4 y z' u w' Q I4 r2 r4 q4))
/-! ### truth -/
/-- a value's truth by the abstract heap -/
def TruV (K : PySem.W.Frag) (x : V) (H : Hp) (k : Bool) : Prop :=
  match x with
  | .non => k = false
  | .bl b => k = b
  | .int i => k = (i != 0)
  | .str y => y.length ≤ sizeLine ∧ k = ((y.length : Int) != 0)
  | .byt y => y.size ≤ sizeLine ∧ k = ((y.size : Int) != 0)
  | .ref p => (∃ xs, SqL K H p xs ∧ k = !xs.isEmpty) ∨ (∃ xs, SqT K H p xs ∧ k = !xs.isEmpty) ∨ ∃ kvs, H p = some (.dK kvs) ∧ k = !kvs.isEmpty
  | _ => False
theorem isEmpty_kv {κ : Type} {kvs : List (κ × V)} {vs : List (κ × Value)} (r : KV kvs vs) : (!vs.isEmpty) = !kvs.isEmpty := by
  cases r <;> rfl
theorem isEmpty_of {xs : List V} {its : List Value} (r : Vals xs its) : (!its.toArray.isEmpty) = !xs.isEmpty := by
  cases r <;> simp
theorem line63 : (sizeLine : Nat) < 2 ^ 63 := by rw [sizeLine_eq]; decide
theorem tru_ok : TruR X (fun x H Q => ∃ k, TruV X.K x H k ∧ Q k H) := by
  intro pins s σ H x v Q I rx h
  obtain ⟨k, e, q⟩ := h
  have hl := line63
  have hs : sizeLine = 16777216 := sizeLine_eq
  cases x with
  | non =>
    cases rx
    have e' : k = false := e
    subst e'
    exact truthy_none ⟨H, I, q⟩
  | bl b =>
    cases rx
    have e' : k = b := e
    subst e'
    exact wpAny_truthy_bool ⟨H, I, q⟩
  | int i =>
    obtain ⟨t, rfl⟩ := rx
    have e' : k = (i != 0) := e
    subst e'
    exact PySem.P.truthy_int ⟨H, I, q⟩
  | str y =>
    obtain ⟨t, rfl⟩ := rx
    obtain ⟨hy, e'⟩ : y.length ≤ sizeLine ∧ k = ((y.length : Int) != 0) := e
    subst e'
    exact PySem.P.truthy_str (by omega) ⟨H, I.tok _, q⟩
  | byt y =>
    obtain ⟨t, rfl⟩ := rx
    obtain ⟨hy, e'⟩ : y.size ≤ sizeLine ∧ k = ((y.size : Int) != 0) := e
    subst e'
    exact PySem.W.truthy_bytes (by omega) ⟨H, I.tok _, q⟩
  | ref p =>
    cases rx
    have e' : (∃ xs, SqL X.K H p xs ∧ k = !xs.isEmpty) ∨ (∃ xs, SqT X.K H p xs ∧ k = !xs.isEmpty) ∨ ∃ kvs, H p = some (.dK kvs) ∧ k = !kvs.isEmpty := e
    rcases e' with ⟨xs, hx, e'⟩ | ⟨xs, hx, e'⟩ | ⟨kvs, hx, e'⟩
    · subst e'
      obtain ⟨its, r, pl, hz⟩ := I.list hx
      have hlen := r.length
      exact wpAny_truthy_list pl.isList (by simp only [List.size_toArray]; omega) ⟨H, I.tok _, by rw [isEmpty_of r]; exact q⟩
    · subst e'
      obtain ⟨its, r, pl, hz⟩ := I.tuple hx
      have hlen := r.length
      exact truthy_tuple pl (by simp only [List.size_toArray]; omega) ⟨H, I.tok _, by rw [isEmpty_of r]; exact q⟩
    · subst e'
      obtain ⟨hz, hS, vs, r, m⟩ : kvs.length ≤ sizeLine ∧ (p == sysModules) = false ∧ ∃ vs, KV kvs vs ∧ s.heap.DictOf (mixKind X.prog X.w) p vs := I.hok p _ hx
      have hlen : kvs.length = vs.length := Paired.length r
      exact wpAny_truthy_dict hS m (by omega) ⟨H, I.tok _, by rw [isEmpty_kv r]; exact q⟩
  | _ => exact (show False from e).elim
/-- any expression whose test is its value's truth (a name, a call, a subscript, a field ..: he by fun _ => rfl) -/
theorem pt_truth (ha : PE X a ta) (he : ∀ whole, isTrue a X.env whole = (do let v ← whole; standAt a.pos; holding [v] (truthy v))) :
    PT X a (fun σ H Q => ta σ H fun x H' => ∃ k, TruV X.K x H' k ∧ Q k H') := by
  intro pins s σ H Q I h
  exact isTrue_plain (thn (ha pins s σ H _ I h) fun v s1 ⟨x, H1, I1, r1, q1⟩ => tru_ok pins s1 σ H1 x v Q I1 r1 q1) (he _)

/-! ### scalar builtins, by CallR -/
theorem vals1 {x : V} {us : List Value} (r : Vals [x] us) : ∃ u, us = [u] ∧ RelV x u := by
  cases r with
  | cons r1 r2 => cases r2; exact ⟨_, rfl, r1⟩
theorem vals2 {x y : V} {us : List Value} (r : Vals [x, y] us) : ∃ u w', us = [u, w'] ∧ RelV x u ∧ RelV y w' := by
  cases r with
  | cons r1 r2 =>
    cases r2 with
    | cons r3 r4 => cases r4; exact ⟨_, _, rfl, r1, r3⟩
theorem call_abs : CallR X (.builtin "abs") (fun xs H Q => ∃ i, xs = [.int i] ∧ Q (.int (if i < 0 then -i else i)) H) := by
  intro pins s σ H xs us Q I r h
  obtain ⟨i, rfl, q⟩ := h
  obtain ⟨u, rfl, t, rfl⟩ := vals1 r
  exact call_abs_int fun u tk => ⟨.int (if i < 0 then -i else i), H, I.tok _, ⟨_, rfl⟩, q⟩
theorem call_max2 (hc : X.calm = true) : CallR X (.builtin "max") (fun xs H Q => ∃ i j, xs = [.int i, .int j] ∧ Q (.int (if j > i then j else i)) H) := by
  intro pins s σ H xs us Q I r h
  obtain ⟨i, j, rfl, q⟩ := h
  obtain ⟨u, w', rfl, ⟨t, rfl⟩, ⟨t', rfl⟩⟩ := vals2 r
  refine max_two_ints (I.ok.hd hc) fun h' tk k => ⟨_, H, I.kept k, ?_, q⟩
  by_cases hj : j > i
  · rw [if_pos hj, if_pos hj]; exact ⟨_, rfl⟩
  · rw [if_neg hj, if_neg hj]; exact ⟨_, rfl⟩
theorem call_int1 : CallR X (.type "int") (fun xs H Q => (∃ i, xs = [.int i] ∧ Q (.int i) H) ∨ ∃ k, xs = [.bl k] ∧ Q (.int (if k then 1 else 0)) H) := by
  intro pins s σ H xs us Q I r h
  rcases h with ⟨i, rfl, q⟩ | ⟨k, rfl, q⟩
  · obtain ⟨u, rfl, t, rfl⟩ := vals1 r
    exact call_int_int ⟨.int i, H, I, ⟨_, rfl⟩, q⟩
  · obtain ⟨u, rfl, r1⟩ := vals1 r
    cases r1
    exact call_int_bool ⟨.int (if k then 1 else 0), H, I.tok _, ⟨_, rfl⟩, q⟩
end
end L2

namespace L2
open PySem PySem.Spec PyProof.Rows
variable {q0 : Bool}

/-! ### an instance, its attributes a map -/
structure ObjM (h : Heap) (x dx C : Addr) (mA : Str → Option Value) : Prop where
  obj : h.get? x = some (PySem.W.instObj C dx)
  ns : h.Ns1 dx mA
  ne : dx ≠ x

theorem lookIn_ns {h : Heap} {dx : Addr} {mA : Str → Option Value} (n : h.Ns1 dx mA) : ∃ od, h.get? dx = some od ∧ ∀ name, PySem.W.lookIn name od = some (mA name) := by
  obtain ⟨o, es, ep, ho, hd, hk, _, hm⟩ := n
  refine ⟨o, ho, fun name => ?_⟩
  have e := hm name
  unfold nsFind findBy at e
  rw [← Array.find?_toList] at e
  unfold PySem.W.lookIn
  rw [hd]
  dsimp only
  split
  · rename_i y q
    rw [q] at e
    exact congrArg some e
  · rename_i q
    rw [q] at e
    have a : es.toList.any (·.refKey) = false := by
      rw [List.any_eq_false]
      intro y hy
      obtain ⟨z, t, hkey⟩ := hk y (Array.mem_toList_iff.mp hy)
      simp [DictEntry.refKey, hkey]
    have a' : ¬ es.toList.any (·.refKey) = true := by rw [a]; exact Bool.false_ne_true
    rw [if_neg a']
    exact congrArg some e

theorem ObjM.look {h : Heap} {x dx C : Addr} {mA : Str → Option Value} (I : ObjM h x dx C mA) : ∃ od, PySem.W.InstAt h x (PySem.W.instObj C dx) C (some od) ∧ ∀ name, PySem.W.lookIn name od = some (mA name) :=
  let ⟨od, ho, hl⟩ := lookIn_ns I.ns
  ⟨od, ⟨I.obj, rfl, rfl, ho⟩, hl⟩

section
variable {prog : Program} {w : World} {A : Around} {E : Value → Shared → Prop} {s : Shared} {K : PySem.W.Frag} {x dx C f : Addr} {mA : Str → Option Value} {name : Str} {v : Value}

end

/-! ### the attributes as a list of pairs -/
def putF (f : Str) (v : V) : List (Str × V) → List (Str × V)
  | [] => [(f, v)]
  | (g, x) :: r => if g = f then (g, v) :: r else (g, x) :: putF f v r
theorem lookup_putF (f g : Str) (v : V) : ∀ fs : List (Str × V), (putF f v fs).lookup g = if g = f then some v else fs.lookup g
  | [] => by
    show List.lookup g [(f, v)] = _
    by_cases h : g = f
    · have hb : (g == f) = true := beq_iff_eq.mpr h
      simp only [List.lookup, hb, if_pos h]
    · have hb : (g == f) = false := beq_eq_false_iff_ne.mpr h
      simp only [List.lookup, hb, if_neg h]
  | (k, x) :: r => by
    have ih := lookup_putF f g v r
    rw [show putF f v ((k, x) :: r) = (if k = f then (k, v) :: r else (k, x) :: putF f v r) from rfl]
    by_cases hk : k = f
    · rw [if_pos hk]
      by_cases h : g = k
      · have hb : (g == k) = true := beq_iff_eq.mpr h
        simp only [List.lookup, hb, if_pos (h.trans hk)]
      · have hb : (g == k) = false := beq_eq_false_iff_ne.mpr h
        simp only [List.lookup, hb, if_neg (fun e : g = f => h (e.trans hk.symm))]
    · rw [if_neg hk]
      by_cases h : g = k
      · have hb : (g == k) = true := beq_iff_eq.mpr h
        simp only [List.lookup, hb, if_neg (fun e : g = f => hk (h.symm.trans e))]
      · have hb : (g == k) = false := beq_eq_false_iff_ne.mpr h
        simp only [List.lookup, hb]
        exact ih
theorem keys_putF (f : Str) (v : V) : ∀ fs : List (Str × V), f ∈ (putF f v fs).map (·.1) ∧ ∀ g, g ∈ fs.map (·.1) → g ∈ (putF f v fs).map (·.1)
  | [] => ⟨by simp [putF], fun g h => by simp at h⟩
  | (k, x) :: r => by
    obtain ⟨i1, i2⟩ := keys_putF f v r
    rw [show putF f v ((k, x) :: r) = (if k = f then (k, v) :: r else (k, x) :: putF f v r) from rfl]
    by_cases hk : k = f
    · rw [if_pos hk]
      subst hk
      exact ⟨by simp, fun g h => by simpa using h⟩
    · rw [if_neg hk]
      refine ⟨?_, fun g h => ?_⟩
      · rw [List.map_cons]
        exact List.mem_cons_of_mem _ i1
      · rw [List.map_cons] at h ⊢
        rcases List.mem_cons.mp h with e | e
        · exact List.mem_cons.mpr (.inl e)
        · exact List.mem_cons_of_mem _ (i2 g e)
theorem length_putF (f : Str) (v : V) : ∀ fs : List (Str × V), (putF f v fs).length ≤ fs.length + 1
  | [] => by simp [putF]
  | (k, x) :: r => by
    have ih := length_putF f v r
    rw [show putF f v ((k, x) :: r) = (if k = f then (k, v) :: r else (k, x) :: putF f v r) from rfl]
    by_cases hk : k = f
    · rw [if_pos hk, List.length_cons, List.length_cons]; omega
    · rw [if_neg hk, List.length_cons, List.length_cons]; omega

theorem RelO.some_of {v : V} {o : Option Value} (r : RelO (some v) o) : ∃ u, o = some u ∧ RelV v u := by
  cases o with
  | none => exact (show False from r).elim
  | some u => exact ⟨u, rfl, r⟩
theorem handed_of {v : V} {u : Value} (r : RelV v u) : PySem.W.handedIn u = true := by
  cases v with
  | non => cases (show u = Value.none from r); rfl
  | bl b => cases (show u = Value.bool b from r); rfl
  | int i => obtain ⟨t, e⟩ := (show ∃ t, u = Value.int i t from r); cases e; rfl
  | str x => obtain ⟨t, e⟩ := (show ∃ t, u = Value.str x t from r); cases e; rfl
  | byt b => obtain ⟨t, e⟩ := (show ∃ t, u = Value.bytes b t from r); cases e; rfl
  | flt b => obtain ⟨t, e⟩ := (show ∃ t, u = Value.float b t from r); cases e; rfl
  | ref a => cases (show u = Value.ref a from r); rfl
  | ty n => cases (show u = Value.type n from r); rfl

section
variable {P : Program} {w : World} {H H' : Hp} {h h' : Heap} {a C dx : Addr} {fs fs' : List (Str × V)}
theorem ins_get (hok : HOk P w H h) (e : H a = some (.ins C dx fs)) : ∃ mA, ObjM h a dx C mA ∧ (∀ f, RelO (fs.lookup f) (mA f)) ∧ PySem.Within mA (fs.map (·.1)) ∧ fs.length ≤ 1000 ∧ H dx = some (.own a) := by
  obtain ⟨d, z, ne, ob, mA, n, r, q⟩ := (show ObjOk P w H h a (.ins C dx fs) from hok a _ e)
  exact ⟨mA, ⟨ob, n, ne⟩, r, q, z, d⟩
end

/-! ### what of the text a class must have -/
structure Cls (K : PySem.W.Frag) (C : Addr) : Prop where
  pg : PySem.W.plainGet K C Str.empty = true
  hd : PySem.W.hasDictIn K C = true
  po : PySem.W.plainOver K C = true
  sa : PySem.W.findIn K (.ref C) "__setattr__" = some (some (.builtin "object.__setattr__"))
theorem Cls.get {K : PySem.W.Frag} {C : Addr} (c : Cls K C) (f : Str) : PySem.W.plainGet K C f = true := c.pg
section
variable {X : Cx} {pins : List (Addr × Obj)} {σ : St} {H : Hp} {s : Shared} {a C dx : Addr} {fs : List (Str × V)} {f : Str} {v : V} {A : Around} {E : Value → Shared → Prop}

/-- a new instance, tracked, without attributes -/
theorem Inv.made (I : Inv X pins σ H s) : Inv X pins σ (upd (upd H s.heap.objs.size (.own (s.heap.objs.size + 1))) (s.heap.objs.size + 1) (.ins C s.heap.objs.size []))
    { s with heap := (s.heap.push PySem.W.emptyDict).push (PySem.W.instObj C s.heap.objs.size) } := by
  have e1 : (s.heap.push PySem.W.emptyDict).get? s.heap.objs.size = some PySem.W.emptyDict := Heap.get?_push_size s.heap rfl
  have e2 : ((s.heap.push PySem.W.emptyDict).push (PySem.W.instObj C s.heap.objs.size)).get? (s.heap.objs.size + 1) = some (PySem.W.instObj C s.heap.objs.size) := by
    have := Heap.get?_push_size (s.heap.push PySem.W.emptyDict) (o := PySem.W.instObj C s.heap.objs.size) rfl
    rwa [Heap.size_push] at this
  have e3 : (s.heap.push PySem.W.emptyDict).Ns s.heap.objs.size (fun _ => none) := ⟨PySem.W.emptyDict, #[], _, e1, rfl, (fun e he => absurd he (by simp)), fun _ => rfl⟩
  have I1 := I.laid (a := s.heap.objs.size) (o := .own (s.heap.objs.size + 1)) (h' := s.heap.push PySem.W.emptyDict) (t' := s.toks) (fun b u q => Heap.get?_push_of_some _ q) (Nat.le_refl _) ⟨_, e1⟩
  refine I1.laid (a := s.heap.objs.size + 1) (o := .ins C s.heap.objs.size []) (t' := s.toks) (fun b u q => Heap.get?_push_of_some _ q) (Nat.le_of_eq (Heap.size_push _ _)) ?_
  have ne : s.heap.objs.size ≠ s.heap.objs.size + 1 := Nat.ne_of_lt (Nat.lt_succ_self _)
  refine ⟨by rw [upd_ne ne, upd_same], Nat.zero_le _, ne, e2, fun _ => none, (Heap.Ns1.of_empty e3).at fun o q => Heap.get?_push_of_some _ q, fun _ => True.intro, fun y hy => absurd rfl hy⟩

/-- e.f where nothing but the object is asked: through attributeBase (super) and the last hold -/
theorem attr_of {prog : Program} {w : World} {env : Env} {e : Expr} {f : Str} {pos : Pos} {s : Shared} {Q : Value → Shared → Prop} (hb : attributeBase e f env (eval e env) = eval e env)
    (h : wpAny (model prog w) A (eval e env) (fun o s₁ => wpAny (model prog w) A (getAttr o f true) Q E s₁) E s) : wpAny (model prog w) A (eval (.Attribute e f pos) env) Q E s :=
  Attribute_any_ h (by rw [arm_eval_Attribute, hb])
end

section
variable {X : Cx} {o e value : Expr} {f : Str} {pos pos' tpos : Pos} {ta tv : TE}
end

/-! ### isinstance -/
section
variable {X : Cx} {pins : List (Addr × Obj)} {σ : St} {H : Hp} {s : Shared} {A : Around} {E : Value → Shared → Prop} {Q : Value → Shared → Prop} {c : Value} {b : Bool}
/-- the type of a value, as the fragment's deciders take it; for an instance its class -/
inductive TyOf (K : PySem.W.Frag) (H : Hp) : V → Value → Prop where
  | non : TyOf K H .non (.type "NoneType")
  | bl (x : Bool) : TyOf K H (.bl x) (.type "bool")
  | int (i : Int) : TyOf K H (.int i) (.type "int")
  | str (x : Str) : TyOf K H (.str x) (.type "str")
  | flt (x : UInt64) : TyOf K H (.flt x) (.type "float")
  | lst {a : Addr} {xs : List V} (e : H a = some (.lst xs)) : TyOf K H (.ref a) (.type "list")
  | frz {a : Addr} {o : Obj} {xs : List V} (e : H a = some (.frz o (.lst xs))) : TyOf K H (.ref a) (.type "list")
  | tup {a : Addr} {xs : List V} (e : H a = some (.tup xs)) : TyOf K H (.ref a) (.type "tuple")
  | dK {a : Addr} {kvs : List (Key × V)} (e : H a = some (.dK kvs)) : TyOf K H (.ref a) (.type "dict")
  | dT {a : Addr} {kvs : List (List Key × V)} (e : H a = some (.dT kvs)) : TyOf K H (.ref a) (.type "dict")
  | ins {a C dx : Addr} {fs : List (Str × V)} (e : H a = some (.ins C dx fs)) (cl : Cls K C) (ha : PySem.W.findIn K (.ref C) "__class__" = some (some (.builtin "object.__class__")))
      (hn : PySem.W.specialIn K (.builtin "object.__class__") "__get__" = some (some (.builtin "getset_descriptor.__get__"))) (htk : PySem.W.takesIn K (.builtin "object.__class__") = some true)
      (hm : PySem.W.mroIn K C (.type "object") = some true) : TyOf K H (.ref a) (.ref C)
/-- isinstance(x, c) for one class c, a built-in or an own one: kitOne's answer -/
theorem isinst_ok {x : V} {u t : Value} (I : Inv X pins σ H s) (rx : RelV x u) (ty : TyOf X.K H x t) (e : PySem.W.kitOne X.K t c = some b) (h : ∀ tk, Q (.bool b) { s with toks := tk }) :
    wpAny (model X.prog X.w) A (call (.builtin "isinstance") [u, c]) Q E s := by
  cases ty with
  | non => cases (show u = Value.none from rx); exact PySem.W.kia_one PySem.W.kitx_none I.kIn True.intro e (fun z => nomatch z) h
  | bl y => cases (show u = Value.bool y from rx); exact PySem.W.kia_one PySem.W.kitx_bool I.kIn True.intro e (fun z => nomatch z) h
  | int i => obtain ⟨t, q⟩ := (show ∃ t, u = Value.int i t from rx); cases q; exact PySem.W.kia_one PySem.W.kitx_int I.kIn True.intro e (fun z => nomatch z) h
  | str y => obtain ⟨t, q⟩ := (show ∃ t, u = Value.str y t from rx); cases q; exact PySem.W.kia_one PySem.W.kitx_str I.kIn True.intro e (fun z => nomatch z) h
  | flt y => obtain ⟨t, q⟩ := (show ∃ t, u = Value.float y t from rx); cases q; exact PySem.W.kia_one PySem.W.kitx_float I.kIn True.intro e (fun z => nomatch z) h
  | @lst a xs ea =>
    cases (show u = Value.ref a from rx)
    obtain ⟨_, _, n, _, h1⟩ := (show ObjOk X.prog X.w H s.heap a (.lst xs) from I.hok a _ ea)
    exact PySem.W.kia_one PySem.W.kitx_list I.kIn ⟨_, h1, rfl⟩ e (fun z => nomatch z) h
  | @frz a ob xs ea =>
    cases (show u = Value.ref a from rx)
    obtain ⟨_, _, _, n, _, h1⟩ := (show ObjOk X.prog X.w H s.heap a (.frz ob (.lst xs)) from I.hok a _ ea)
    exact PySem.W.kia_one PySem.W.kitx_list I.kIn ⟨_, h1, rfl⟩ e (fun z => nomatch z) h
  | @tup a xs ea =>
    cases (show u = Value.ref a from rx)
    obtain ⟨_, _, _, p⟩ := (show ObjOk X.prog X.w H s.heap a (.tup xs) from I.hok a _ ea)
    obtain ⟨o, h1, h2, _⟩ := p
    exact PySem.W.kia_one PySem.W.kitx_tuple I.kIn ⟨o, h1, h2⟩ e (fun z => nomatch z) h
  | @dK a kvs ea =>
    cases (show u = Value.ref a from rx)
    obtain ⟨_, _, vs, _, p⟩ := (show ObjOk X.prog X.w H s.heap a (.dK kvs) from I.hok a _ ea)
    obtain ⟨o, es, ep, h1, h2, _⟩ := p
    exact PySem.W.kia_one PySem.W.kitx_dict I.kIn ⟨o, h1, h2.1⟩ e (fun z => nomatch z) h
  | @dT a kvs ea =>
    cases (show u = Value.ref a from rx)
    obtain ⟨_, _, xs, _, o, es, ep, h1, h2, _⟩ := (show ObjOk X.prog X.w H s.heap a (.dT kvs) from I.hok a _ ea)
    exact PySem.W.kia_one PySem.W.kitx_dict I.kIn ⟨o, h1, h2.1⟩ e (fun z => nomatch z) h
  | @ins a C dx fs ea cl ha hn htk hm =>
    cases (show u = Value.ref a from rx)
    obtain ⟨mA, O, _⟩ := ins_get I.hok ea
    obtain ⟨od, J, _⟩ := O.look
    exact PySem.W.kia_one (PySem.W.kitx_own (cl.get _) cl.hd ha hn htk hm) I.kIn J e (fun z => nomatch z) h
end
end L2

namespace L2
open PySem PySem.Spec PyProof.Rows
variable {q0 : Bool}

/-! ### room -/
structure Room (q0 : Bool) (k : Nat) (A : Around) : Prop where
  hd : q0 = true → A.handled = none
  dp : A.depth + 3 * k + 5 < recursionLimit
  un : A.units + 16 * k + 200 < cLine
theorem Room.mono {j k : Nat} {A : Around} (r : Room q0 k A) (h : j ≤ k) : Room q0 j A := ⟨r.hd, by have := r.dp; omega, by have := r.un; omega⟩
theorem Room.deeper {k : Nat} {A : Around} (r : Room q0 (k + 1) A) (env : Env) : Room q0 k (A.deeper env) :=
  ⟨r.hd, by have := r.dp; show A.depth + 1 + 3 * k + 5 < _; omega, by have := r.un; show A.units + 3 + 16 * k + 200 < _; omega⟩
theorem Room.in1 {k : Nat} {A : Around} (r : Room q0 (k + 1) A) : Room q0 k A.in1 :=
  ⟨r.hd, by have := r.dp; show A.depth + 3 * k + 5 < _; omega, by have := r.un; show A.units + 1 + 16 * k + 200 < _; omega⟩
theorem make_depth {A : Around} {C : Addr} {us : List Value} {kw : List (Str × Value)} : (A.under (.builtin "type.__call__" ⟨.ref C :: us, kw⟩)).depth = A.depth + 1 := by
  first | rfl | simp [Around.under, Code.weight, Code.isCreation, Code.isGuard, Code.isCaller, Code.frames, Code.isFrame, guardIds]
theorem make_units {A : Around} {C : Addr} {us : List Value} {kw : List (Str × Value)} : (A.under (.builtin "type.__call__" ⟨.ref C :: us, kw⟩)).units = A.units + 1 := by
  first | rfl | simp [Around.under, Code.cUnits, Code.frames, Code.isFrame]
theorem Room.make {k : Nat} {A : Around} (r : Room q0 (k + 1) A) (C : Addr) (us : List Value) (kw : List (Str × Value)) : Room q0 k (A.under (.builtin "type.__call__" ⟨.ref C :: us, kw⟩)) :=
  ⟨r.hd, by have := r.dp; rw [make_depth]; omega, by have := r.un; rw [make_units]; omega⟩
theorem Room.depth {k : Nat} {A : Around} (r : Room q0 k A) : A.depth < recursionLimit := by have := r.dp; omega
theorem Room.units {k : Nat} {A : Around} (r : Room q0 k A) : A.units + 64 < cLine := by have := r.un; omega
/-! ### argument lists and displays -/
def tNil : TA := fun _ H Q => Q [] H
def tCons (ta : TE) (tr : TA) : TA := fun σ H Q => ta σ H fun x H1 => tr σ H1 fun xs H2 => Q (x :: xs) H2
section
variable {X : Cx} {e : Expr} {es : List Expr} {te : TE} {t : TA} {pos : Pos}
theorem pa_nil : PA X [] tNil := fun _ _ _ _ H Q I h => Calls.spliced_nil ⟨[], H, I, .nil, h⟩
theorem pa_cons (ha : PE X e te) (hr : PA X es t) (hs : starEach (e :: es) X.env = (false, eval e X.env) :: starEach es X.env := by rfl) : PA X (e :: es) (tCons te t) := by
  intro pos pins s σ H Q I h
  rw [hs]
  show wpAny _ _ (spliced ((false, eval e X.env) :: backTo pos (starEach es X.env))) _ _ s
  refine Calls.spliced_cons (thn (ha pins s σ H _ I h) fun u s1 ⟨x, H1, I1, r1, q1⟩ => ?_)
  exact thn (hr pos pins s1 σ H1 _ I1 q1) fun us s2 ⟨xs, H2, I2, r2, q2⟩ => ⟨x :: xs, H2, I2, .cons r1 r2, q2⟩

/-- a tuple, a list of written items -/
def tTup (t : TA) : TE := fun σ H Q => t σ H fun xs H1 => xs.length ≤ sizeLine ∧ ∀ p, H1 p = none → Q (.ref p) (upd H1 p (.tup xs))
def tLst (t : TA) : TE := fun σ H Q => t σ H fun xs H1 => xs.length ≤ sizeLine ∧ ∀ p, H1 p = none → Q (.ref p) (upd H1 p (.lst xs))
theorem pe_tup {x1} (h : PA X es t) : PE X (.Tuple es x1 pos) (tTup t) := by
  intro pins s σ H Q I hq
  refine wpAny_Tuple_spliced (thn (h pos pins s σ H _ I hq) fun us s1 ⟨xs, H1, I1, r, z, q⟩ => ⟨by rw [← r.length]; exact z, ?_⟩)
  have hf : H1 s1.heap.objs.size = none := I1.hok.fresh (Nat.le_refl _)
  refine ⟨.ref s1.heap.objs.size, upd H1 s1.heap.objs.size (.tup xs), I1.laid (t' := s1.toks) (fun b u e => Heap.get?_push_of_some _ e) (Nat.le_refl _) ?_, rfl, q _ hf⟩
  exact ⟨z, us, r, ⟨_, Heap.get?_push_size _ rfl, rfl, _, rfl⟩⟩
theorem pe_lst (h : PA X es t) : PE X (.List es pos) (tLst t) := by
  intro pins s σ H Q I hq
  refine wpAny_List_spliced (thn (h pos pins s σ H _ I hq) fun us s1 ⟨xs, H1, I1, r, z, q⟩ => ⟨by rw [← r.length]; exact z, ?_⟩)
  have hf : H1 s1.heap.objs.size = none := I1.hok.fresh (Nat.le_refl _)
  refine ⟨.ref s1.heap.objs.size, upd H1 s1.heap.objs.size (.lst xs), I1.laid (t' := s1.toks) (fun b u e => Heap.get?_push_of_some _ e) (Nat.le_refl _) ?_, rfl, q _ hf⟩
  exact ⟨z, us, 0, r, Heap.get?_push_size _ rfl⟩
end

/-! ### what a def promises -/
/-- a def's promise: the bound arguments in the parameters' order, the heap, the wanted end, the wanted exception -/
abbrev Sp := List V → Hp → VK → XK → Prop
/-- how an exception lies behind a call (file 08 gives it): the callers' frames, abstract heap and state ahead of the call, the wish, the exception, the state -/
abbrev CXT := List Env → Hp → Shared → XK → Value → Shared → Prop

/-- the state at a call -/
structure Env0 (P : Program) (w : World) (K : PySem.W.Frag) (mg : Str → Option Value) (base : Heap) (A : Around) (outer : List Env) (s : Shared) (H : Hp) : Prop where
  frames : A.frames = some outer
  mod : Mod K mg base
  bs : ∀ b o, base.get? b = some o → s.heap.get? b = some o ∧ H b = none
  bsz : base.objs.size ≤ s.heap.objs.size
  funs : s.heap.FunFrames base outer
  frf : ∀ b ∈ frs outer, H b = none
  hok : HOk P w H s.heap
  bare : AllBare s.gens
/-- a call's end -/
def CE (outer : List Env) (P : Program) (w : World) (H : Hp) (s : Shared) (Q : VK) (u : Value) (s' : Shared) : Prop :=
  ∃ v H', s'.os = s.os ∧ AllBare s'.gens ∧ Un (frs outer) [] H H' s.heap s'.heap ∧ HOk P w H' s'.heap ∧ RelV v u ∧ Q v H'
def CR (CX : CXT) (outer : List Env) (P : Program) (w : World) (H : Hp) (s : Shared) (Q : VK) (E : XK) (r : Result) (s' : Shared) : Prop :=
  match r with
  | .ok (.ret u) => CE outer P w H s Q u s'
  | .ok _ => False
  | .error e => CX outer H s E e s'
structure FnOk (q0 : Bool) (P : Program) (w : World) (K : PySem.W.Frag) (mg : Str → Option Value) (base : Heap) (CX : CXT) (k : Nat) (f : Addr) (fd : FuncData) (ps : List Str) (sp : Sp) : Prop where
  len : ∀ vs H Q E, sp vs H Q E → vs.length = ps.length
  run : ∀ (A : Around) (outer : List Env) (s : Shared) (H : Hp) (args : Args) (us : List Value) (vs : List V) (Q : VK) (E : XK), Room q0 k A → Env0 P w K mg base A outer s H → BindsTo s fd args (ps.zip us) → Vals vs us → sp vs H Q E →
    codeAny (model P w) A (.call (.ref f) args) (CR CX outer P w H s Q E) s
theorem FnOk.mono {P : Program} {w : World} {K : PySem.W.Frag} {mg : Str → Option Value} {base : Heap} {CX : CXT} {j k : Nat} {f : Addr} {fd : FuncData} {ps : List Str} {sp : Sp} (F : FnOk q0 P w K mg base CX j f fd ps sp) (h : j ≤ k) :
    FnOk q0 P w K mg base CX k f fd ps sp := ⟨F.len, fun A outer s H args us vs Q E hr => F.run A outer s H args us vs Q E (hr.mono h)⟩
theorem FnOk.any {P : Program} {w : World} {K : PySem.W.Frag} {mg : Str → Option Value} {base : Heap} {CX : CXT} {k : Nat} {f : Addr} {fd : FuncData} {ps : List Str} {sp : Sp} (F : FnOk false P w K mg base CX k f fd ps sp) :
    FnOk q0 P w K mg base CX k f fd ps sp := ⟨F.len, fun A outer s H args us vs Q E hr => F.run A outer s H args us vs Q E ⟨fun z => (nomatch z), hr.dp, hr.un⟩⟩
theorem Env0.make {P : Program} {w : World} {K : PySem.W.Frag} {mg : Str → Option Value} {base : Heap} {A : Around} {outer : List Env} {s : Shared} {H : Hp} (e : Env0 P w K mg base A outer s H) (C : Addr) (us : List Value) (kw : List (Str × Value)) :
    Env0 P w K mg base (A.under (.builtin "type.__call__" ⟨.ref C :: us, kw⟩)) outer s H := ⟨by first | exact e.frames | (simpa [Around.under, Code.envs, Code.isFrame, pushEnvs] using e.frames), e.mod, e.bs, e.bsz, e.funs, e.frf, e.hok, e.bare⟩
theorem Env0.in1 {P : Program} {w : World} {K : PySem.W.Frag} {mg : Str → Option Value} {base : Heap} {A : Around} {outer : List Env} {s : Shared} {H : Hp} (e : Env0 P w K mg base A outer s H) :
    Env0 P w K mg base A.in1 outer s H := ⟨e.frames, e.mod, e.bs, e.bsz, e.funs, e.frf, e.hok, e.bare⟩

section
variable {X : Cx} {pins : List (Addr × Obj)} {σ : St} {H : Hp} {s s' : Shared}
/-- from a body: what a callee wants -/
theorem Inv.env0 (I : Inv X pins σ H s) : Env0 X.prog X.w X.K X.mg X.base X.A X.stack s H :=
  ⟨I.ok.frames, I.ok.mod, I.bs, Nat.le_trans I.ok.bsz I.sz, I.stack, I.stkFree, I.hok, I.bare⟩
/-- behind a call -/
theorem Inv.after {Q : VK} {u : Value} (I : Inv X pins σ H s) (h : CE X.stack X.prog X.w H s Q u s') : EP X pins σ Q u s' := by
  obtain ⟨v, H', os, bare, un, hok, r, q⟩ := h
  obtain ⟨hh, g, d, t, os'⟩ := s'
  obtain rfl : os' = s.os := os
  exact ⟨v, H', I.call (h' := hh) (g' := g) (d' := d) (t' := t) (ch := []) un hok bare (fun b z => absurd z (by simp)), r, q⟩
end

/-! ### calls -/
/-- f(..): the written arguments, then the defaults dvs; E: what is wanted of an exception -/
def tCall (sp : Sp) (dvs : List V) (E : St → XK) (t : TA) : TE := fun σ H Q => t σ H fun vs H1 => sp (vs ++ dvs) H1 Q (E σ)
/-- how the parameters are bound: us the positional arguments, kw the keywords' values by name, ds the defaults that fill up -/
def Binds (K : PySem.W.Frag) (fd : FuncData) (ps : List Str) (ds : List Value) : Prop :=
  ∀ (s : Shared) (us : List Value), K.In s.heap → (us ++ ds).length = ps.length → BindsTo s fd ⟨us, []⟩ (ps.zip (us ++ ds))
/-- every parameter is given -/
theorem Binds.all {K : PySem.W.Frag} {fd : FuncData} {ps : List Str} (h : ∀ us : List Value, us.length = ps.length → bindArgs fd ⟨us, []⟩ = pure (ps.zip us)) : Binds K fd ps [] := fun s us _ hl => by
  rw [List.append_nil] at hl ⊢
  exact .of_eq (h us hl)

/-- an exception of a callee reaches what this body wants of exceptions -/
def Passes (CX : CXT) (X : Cx) (E : St → XK) : Prop := ∀ (pins : List (Addr × Obj)) (σ : St) (H : Hp) (s : Shared) (e : Value) (s' : Shared), Inv X pins σ H s → CX X.stack H s (E σ) e s' → X.xe e s'

section
variable {X : Cx} {CX : CXT} {k : Nat} {f C : Addr} {fd : FuncData} {ps : List Str} {sp : Sp} {dvs : List V} {ds : List Value} {E : St → XK} {x m : Str} {p pos apos : Pos} {e o : Expr} {es : List Expr} {ta : TE} {t : TA}

/-- the callee runs -/
theorem run_fn {pins : List (Addr × Obj)} {σ : St} {H : Hp} {s : Shared} {Q : VK} {us : List Value} {vs : List V} (F : FnOk q0 X.prog X.w X.K X.mg X.base CX k f fd ps sp) (hr : Room q0 k X.A) (hb : Binds X.K fd ps ds) (hd : Vals dvs ds) (hx : Passes CX X E)
    (I : Inv X pins σ H s) (r : Vals vs us) (h : sp (vs ++ dvs) H Q (E σ)) : wpAny (model X.prog X.w) X.A (call (.ref f) us) (EP X pins σ Q) X.xe s := by
  have r2 : Vals (vs ++ dvs) (us ++ ds) := r.append hd
  have hl : (us ++ ds).length = ps.length := by rw [← r2.length]; exact F.len _ _ _ _ h
  refine wpAny_call (codeAny_mono (F.run X.A X.stack s H ⟨us, []⟩ (us ++ ds) (vs ++ dvs) Q (E σ) hr I.env0 (hb s us I.kIn hl) r2 h) fun r s' hq => ?_)
  cases r with
  | error e => exact hx pins σ H s e s' I hq
  | ok fl =>
    cases fl with
    | ret u => exact I.after hq
    | next => exact False.elim hq
    | brk => exact False.elim hq
    | cont => exact False.elim hq

theorem pe_call (F : FnOk q0 X.prog X.w X.K X.mg X.base CX k f fd ps sp) (hr : Room q0 k X.A) (hg : Gl X x) (hm : X.mg x = some (.ref f)) (hk : PySem.W.keepIn X.K (.ref f) = true) (hb : Binds X.K fd ps ds) (hd : Vals dvs ds) (hx : Passes CX X E)
    (ha : PA X (e :: es) t) (hdb : (x == ("__debug__" : Str)) = false := by decide) (he : starEach (e :: es) X.env = (false, eval e X.env) :: starEach es X.env := by rfl) (hpl : (backTo pos (starEach es X.env)).any (·.1) = false := by rfl) :
    PE X (.Call (.Name x p) (e :: es) [] pos) (tCall sp dvs E t) := by
  intro pins s σ H Q I h
  refine wpAny_Call_Name_kw (ld_glob I hg hm ?_ hdb)
  refine PySem.W.callWith_K (h₀ := X.base) I.ok.mod.kin hk (thn (ha pos pins s σ H _ I h) fun us s1 ⟨vs, H1, I1, r, q⟩ => ⟨I1.kIn, ?_⟩) he hpl
  exact run_fn F hr hb hd hx I1 r q
end

section
variable {X : Cx} {CX : CXT} {k : Nat} {f C : Addr} {fd : FuncData} {ps ks : List Str} {sp : Sp} {E : St → XK} {x m : Str} {p pos apos kpos : Pos} {e o : Expr} {es : List Expr} {kws : List Keyword} {te ta : TE} {t tk : TA} {nm : Option Str}
variable {g : List Value → List Value → List Value} {gV : List V → List V → List V}
end

/-! ### a def's body keeps its promise -/
/-- names: the parameters first -/
structure FnScope (N P : List Str) (sc : Scope) : Prop where
  kind : sc.kind = .function
  co : sc.isCoroutine = false
  gen : sc.isGenerator = false
  nd : N.Nodup
  pre : N.take P.length = P
  par : ∀ x ∈ P, sc.names.lookup x = some .local ∨ sc.names.lookup x = some .cell
  nofree : ∀ y ∈ sc.names, y.2 ≠ .free

theorem bindL_out {kindOf : Str → Option NameKind} {x : Str} : ∀ {binds : List (Str × Value)} {m : Str → Option Value}, (∀ v, (x, v) ∉ binds) → bindL kindOf binds m x = m x
  | [], _, _ => rfl
  | (n, v) :: r, m, h => by
    unfold bindL
    rw [bindL_out fun w hw => h w (List.mem_cons_of_mem _ hw)]
    split
    · have : x ≠ n := by rintro rfl; exact h v List.mem_cons_self
      simp [this]
    · rfl
theorem bindC_out {kindOf : Str → Option NameKind} {x : Str} : ∀ {binds : List (Str × Value)} {m : Str → Option Value}, (∀ v, (x, v) ∉ binds) → bindC kindOf binds m x = m x
  | [], _, _ => rfl
  | (n, v) :: r, m, h => by
    unfold bindC
    rw [bindC_out fun w hw => h w (List.mem_cons_of_mem _ hw)]
    split
    · rfl
    · have : x ≠ n := by rintro rfl; exact h v List.mem_cons_self
      simp [this]
theorem bindL_get {kindOf : Str → Option NameKind} {x : Str} {v : Value} : ∀ {P : List Str} {vs : List Value} {i : Nat} {m : Str → Option Value}, P.Nodup → P[i]? = some x → vs[i]? = some v → kindOf x = some .local →
    bindL kindOf (P.zip vs) m x = some v
  | [], _, _, _, _, h, _, _ => by simp at h
  | _ :: _, [], _, _, _, _, h, _ => by simp at h
  | p :: P, w :: vs, 0, m, nd, h1, h2, hk => by
    simp at h1 h2; subst h1; subst h2
    show bindL kindOf ((p, w) :: P.zip vs) m p = _
    unfold bindL
    rw [bindL_out fun v hv => (List.nodup_cons.mp nd).1 (List.of_mem_zip hv).1, if_pos hk]
    simp
  | p :: P, w :: vs, i + 1, m, nd, h1, h2, hk => by
    show bindL kindOf ((p, w) :: P.zip vs) m x = _
    unfold bindL
    exact bindL_get (i := i) (List.nodup_cons.mp nd).2 (by simpa using h1) (by simpa using h2) hk
theorem bindC_get {kindOf : Str → Option NameKind} {x : Str} {v : Value} : ∀ {P : List Str} {vs : List Value} {i : Nat} {m : Str → Option Value}, P.Nodup → P[i]? = some x → vs[i]? = some v → kindOf x ≠ some .local →
    bindC kindOf (P.zip vs) m x = some v
  | [], _, _, _, _, h, _, _ => by simp at h
  | _ :: _, [], _, _, _, _, h, _ => by simp at h
  | p :: P, w :: vs, 0, m, nd, h1, h2, hk => by
    simp at h1 h2; subst h1; subst h2
    show bindC kindOf ((p, w) :: P.zip vs) m p = _
    unfold bindC
    rw [bindC_out fun v hv => (List.nodup_cons.mp nd).1 (List.of_mem_zip hv).1, if_neg hk]
    simp
  | p :: P, w :: vs, i + 1, m, nd, h1, h2, hk => by
    show bindC kindOf ((p, w) :: P.zip vs) m x = _
    unfold bindC
    exact bindC_get (i := i) (List.nodup_cons.mp nd).2 (by simpa using h1) (by simpa using h2) hk

/-- the names' values at the entry -/
def start (N : List Str) (vs : List V) : St := vs.map some ++ List.replicate (N.length - vs.length) none

/-- the context of a def's body, at its entry; an exception leaves the frame, then lies as CX says -/
def cxOf (q0 : Bool) (CX : CXT) (P : Program) (w : World) (K : PySem.W.Frag) (mg : Str → Option Value) (base : Heap) (N : List Str) (qual : Str) (scope : Scope) (f : Addr) (cd : Value) (A : Around) (outer : List Env) (s : Shared) (H : Hp) (E : XK) : Cx where
  prog := P
  w := w
  K := K
  mg := mg
  base := base
  A := A.deeper (envOfC qual scope s.heap.objs.size f cd)
  N := N
  s₀ := s
  H₀ := H
  env := envOfC qual scope s.heap.objs.size f cd
  outer := outer
  stack := envOfC qual scope s.heap.objs.size f cd :: outer
  ex := []
  calm := q0
  fn := fun _ => true
  pn := []
  xe := fun e s' => wpAny (model P w) (A.deeper (envOfC qual scope s.heap.objs.size f cd)) (leaving (envOfC qual scope s.heap.objs.size f cd) e) (fun _ s'' => CX outer H s E e s'') (fun e' s'' => CX outer H s E e' s'') s'

theorem cell_has {sc : Scope} {n : Nat} {x : Str} (h : sc.names.lookup x = some .cell) : ∃ c, (cellsFrom n sc.names []).lookup x = some c := by
  have q := PySem.W.cellsFrom_some sc.names n [] (.inl h)
  exact Option.isSome_iff_exists.mp q

theorem inv_start {CX : CXT} {P : Program} {w : World} {K : PySem.W.Frag} {mg : Str → Option Value} {base : Heap} {N ps : List Str} {qual : Str} {scope : Scope} {f : Addr} {cd : Value} {A : Around} {outer : List Env} {s s1 : Shared} {H : Hp} {E : XK} {us : List Value} {vs : List V}
    (S : FnScope N ps scope) (hd : q0 = true → A.handled = none) (e0 : Env0 P w K mg base A outer s H) (hl : vs.length = ps.length) (r : Vals vs us)
    (x : InCallC s s.heap.objs.size (bindL (envOfC qual scope s.heap.objs.size f cd).kindOf (ps.zip us) fun _ => none) (cellsFrom (s.heap.objs.size + 1) scope.names []) (bindC (envOfC qual scope s.heap.objs.size f cd).kindOf (ps.zip us) fun _ => none) s1) :
    Inv (cxOf q0 CX P w K mg base N qual scope f cd A outer s H E) [] (start N vs) H s1 := by
  have hpl : ps.length ≤ N.length := by have := congrArg List.length S.pre; rw [List.length_take] at this; omega
  obtain ⟨h1, tk, rfl, hk⟩ := x.done
  have noA : ∀ b : Addr, b ∉ (cxOf q0 CX P w K mg base N qual scope f cd A outer s H E).ex := fun b z => absurd (show b ∈ ([] : List Addr) from z) (by simp)
  refine ⟨⟨e0.mod, S.kind, rfl, rfl, Nat.le_refl _, fun y z c h1 h2 => ?_, fun y hy => ?_, fun y c _ h => ?_, hd, Around.frames_deeper e0.frames, .inr ⟨rfl, rfl⟩, fun b z => absurd z (noA b), e0.bs, e0.bsz, fun b _ _ => noA b, fun b z => absurd z (noA b), e0.funs, e0.frf⟩,
    rfl, e0.bare, Un.kept hk, ⟨_, x.toInCall.ns, fun i y v h1 h2 h3 => ?_⟩, fun y c h => ⟨_, x.cell y c h⟩, e0.hok.fresh (Nat.le_refl _), fun y c h => ?_, fun p hp => absurd (show p ∈ ([] : List (Addr × Obj)) from hp) (by simp), e0.hok.kept hk, ?_⟩
  · exact name_of_addr x.apart (PySem.mem_of_lookup h1) (PySem.mem_of_lookup h2)
  · have hy : scope.names.lookup y = some .cell ∨ scope.names.lookup y = some .free := hy
    rcases hy with hy | hy
    · exact cell_has hy
    · exact absurd rfl (S.nofree _ (PySem.mem_of_lookup hy))
  · exact Nat.le_of_lt (x.above y c (PySem.mem_of_lookup h))
  · have hi : i < vs.length := by
      unfold start at h2
      by_cases hi : i < vs.length
      · exact hi
      · rw [List.getElem?_append_right (by simpa using hi)] at h2
        rw [List.getElem?_replicate] at h2
        split at h2 <;> cases h2
    have ha : vs[i]? = some v := by
      unfold start at h2
      rw [List.getElem?_append_left (by simpa using hi), List.getElem?_map] at h2
      cases e : vs[i]? with
      | none => rw [e] at h2; cases h2
      | some a => rw [e] at h2; cases h2; rfl
    obtain ⟨u, hu, rv⟩ := r.get ha
    have hp : ps[i]? = some y := by
      rw [← S.pre, List.getElem?_take_of_lt (by omega)]; exact h1
    have ndP : ps.Nodup := by rw [← S.pre]; exact S.nd.sublist (List.take_sublist _ _)
    refine ⟨u, rv, ?_⟩
    rcases S.par y (List.mem_of_getElem? hp) with k | k
    · exact .inl ⟨k, bindL_get ndP hp hu k⟩
    · obtain ⟨c, e⟩ := cell_has (n := s.heap.objs.size + 1) k
      refine .inr ⟨.inl k, c, e, ?_⟩
      have q := x.cell y c e
      rw [bindC_get ndP hp hu (by show scope.names.lookup y ≠ _; rw [k]; decide)] at q
      exact q
  · exact e0.hok.fresh (Nat.le_of_lt (x.above y c (PySem.mem_of_lookup h)))
  · unfold start
    show _ = N.length
    rw [List.length_append, List.length_map, List.length_replicate]
    omega

/-- THE RULE: a def (or a method) of the text, by its body. The body's reading t is chosen for each entry; it is run at the parameters' values -/
theorem fn_of {CX : CXT} {P : Program} {w : World} {K : PySem.W.Frag} {mg : Str → Option Value} {base : Heap} {k : Nat} {f : Addr} {name qual : Str} {params : Arguments} {body : List Stmt} {scope : Scope} {dV kV doc pm cdv ct oc : Value} {an od : Option Addr}
    {osl : Array (Option Value)} {N ps : List Str} {sp : Sp} (lk : K.lookup f = some ⟨oc, od, .func (PySem.W.fnOf name qual params body scope dV kV doc pm an cdv ct), osl⟩) (hcd : PySem.W.codeIn K cdv qual = true) (S : FnScope N ps scope)
    (len : ∀ vs H Q E, sp vs H Q E → vs.length = ps.length)
    (hbody : ∀ (A : Around) (outer : List Env) (s : Shared) (H : Hp) (vs : List V) (Q : VK) (E : XK), Room q0 k (A.deeper (envOfC qual scope s.heap.objs.size f cdv)) → sp vs H Q E →
      ∃ t, PSs (cxOf q0 CX P w K mg base N qual scope f cdv A outer s H E) body t ∧ t { nx := fun _ H' => Q .non H', rt := Q } (start N vs) H) :
    FnOk q0 P w K mg base CX (k + 1) f (PySem.W.fnOf name qual params body scope dV kV doc pm an cdv ct) ps sp := by
  refine ⟨len, fun A outer s H args us vs Q E hr e0 hb r hsp => ?_⟩
  have hl := len _ _ _ _ hsp
  have KX : K.In s.heap := e0.mod.kin.keeps fun b o e => (e0.bs b o e).1
  have lim : s.heap.NoLimit := e0.mod.nolimit.keeps fun b o e => (e0.bs b o e).1
  have hkind : ∀ y ∈ ps.zip us, scope.names.lookup y.1 = some .local ∨ (scope.names.lookup y.1 = some .cell ∧ ((cellsFrom (s.heap.objs.size + 1) scope.names []).lookup y.1).isSome = true) := fun ⟨n, v⟩ hy => by
    rcases S.par n (List.of_mem_zip hy).1 with q | q
    · exact .inl q
    · exact .inr ⟨q, PySem.W.cellsFrom_some _ _ _ (.inl q)⟩
  refine codeAny_call_function hr.depth (KX _ _ lk) rfl S.co S.gen rfl (PySem.W.codeRec_of KX hcd) (hb _ _ _ _ ?_)
  refine wpAny_newFunctionEnv_cells S.kind hkind fun env he s1 x => ?_
  subst he
  refine ⟨lim.keeps x.toInCall.keep, codeAny_func ?_⟩
  obtain ⟨t, ht, hq⟩ := hbody A outer s H vs Q E (hr.deeper _) hsp
  have I : Inv (cxOf q0 CX P w K mg base N qual scope f cdv A outer s H E) [] (start N vs) H s1 := inv_start S hr.hd e0 hl r x
  refine wpAny_mono (ht [] s1 (start N vs) H _ I hq) (fun fl s' hs => ?_) fun e s' hs => hs
  have fin : ∀ {σ' : St} {H' : Hp} {v : V} {u : Value}, Inv (cxOf q0 CX P w K mg base N qual scope f cdv A outer s H E) [] σ' H' s' → RelV v u → Q v H' → CE outer P w H s Q u s' :=
    fun {σ' H' v u} J rv q => ⟨v, H', J.os, J.bare, J.base, J.hok, rv, q⟩
  cases fl with
  | ret u =>
    obtain ⟨v, σ', H', J, rv, q⟩ := hs
    exact fin J rv q
  | next =>
    obtain ⟨σ', H', J, q⟩ := hs
    exact fin (v := V.non) (u := Value.none) J rfl q
  | brk =>
    obtain ⟨_, _, _, q⟩ := hs
    exact False.elim q
  | cont =>
    obtain ⟨_, _, _, q⟩ := hs
    exact False.elim q
end L2

namespace L2
open PySem PySem.Spec PyProof.Rows
variable {q0 : Bool}
section
variable {X : Cx} {x : Str} {p pos : Pos} {e : Expr} {es : List Expr} {t : TA} {id T : String} {r : List V → Hp → VK → Prop}

def tCB (r : List V → Hp → VK → Prop) (t : TA) : TE := fun σ H Q => t σ H fun vs H1 => r vs H1 Q
/-- f(e, ..), f a built-in function -/
theorem pe_callB (hc : CallR X (.builtin id) r) (hg : Gl X x) (hm : X.mg x = none) (hv : bootBuiltins x = some (.builtin id)) (ha : PA X (e :: es) t) (hn : x ≠ "__name__" := by decide) (hdb : (x == ("__debug__" : Str)) = false := by decide)
    (he : starEach (e :: es) X.env = (false, eval e X.env) :: starEach es X.env := by rfl) (hpl : (backTo pos (starEach es X.env)).any (·.1) = false := by rfl) : PE X (.Call (.Name x p) (e :: es) [] pos) (tCB r t) := by
  intro pins s σ H Q I h
  refine wpAny_Call_Name_kw (ld_blt I hg hm hv ?_ hn hdb)
  exact PyProof.Rows.callWith_builtin1 (thn (ha pos pins s σ H _ I h) fun us s1 ⟨vs, H1, I1, r1, q1⟩ => hc pins s1 σ H1 vs us Q I1 r1 q1) he hpl
/-- T(e, ..), T a built-in type -/
theorem pe_callTy (hc : CallR X (.type T) r) (hg : Gl X x) (hm : X.mg x = none) (hv : bootBuiltins x = some (.type T)) (ha : PA X (e :: es) t) (hn : x ≠ "__name__" := by decide) (hdb : (x == ("__debug__" : Str)) = false := by decide)
    (he : starEach (e :: es) X.env = (false, eval e X.env) :: starEach es X.env := by rfl) (hpl : (backTo pos (starEach es X.env)).any (·.1) = false := by rfl) : PE X (.Call (.Name x p) (e :: es) [] pos) (tCB r t) := by
  intro pins s σ H Q I h
  refine wpAny_Call_Name_kw (ld_blt I hg hm hv ?_ hn hdb)
  exact PyProof.Rows.callWith_type1 (thn (ha pos pins s σ H _ I h) fun us s1 ⟨vs, H1, I1, r1, q1⟩ => hc pins s1 σ H1 vs us Q I1 r1 q1) he hpl
end
end L2

namespace HT
open PySem PyProof.Rows

section
open PySem.SeqAt
open PySem.AutoSeq1 (wpAny_loadPart')
open PySem.MeetsSeq PySem.MeetsSeq2 PySem.MeetsSeq3

end

section
variable {prog : Program} {w : World} {A : Around} {E : Value → Shared → Prop} {s : Shared}

/-! ### t[a:b], not the whole -/
/-- a slice's bound as a place among n (d where it is left out) -/
def sIx (n d : Nat) : Option Int → Nat
  | none => d
  | some v => if v < 0 then (v + (n : Int)).toNat else min v.toNat n
theorem sIx_none (n d : Nat) : sIx n d none = d := rfl
theorem sIx_nat (n d k : Nat) : sIx n d (some (k : Int)) = min k n := by
  show (if (k : Int) < 0 then ((k : Int) + (n : Int)).toNat else min (k : Int).toNat n) = min k n
  rw [if_neg (by omega), Int.toNat_natCast]
theorem sIx_le (n d : Nat) (hd : d ≤ n) (o : Option Int) : sIx n d o ≤ n := by
  cases o with
  | none => exact hd
  | some v =>
    show (if v < 0 then (v + (n : Int)).toNat else min v.toNat n) ≤ n
    by_cases hv : v < 0
    · rw [if_pos hv]; omega
    · rw [if_neg hv]; exact Nat.min_le_right _ _
theorem clip_eq (v : Int) (n d : Nat) : (if v < 0 then max (v + (n : Int)) 0 else min v (n : Int)) = ((sIx n d (some v) : Nat) : Int) := by
  show (if v < 0 then max (v + (n : Int)) 0 else min v (n : Int)) = (((if v < 0 then (v + (n : Int)).toNat else min v.toNat n) : Nat) : Int)
  by_cases hv : v < 0
  · simp only [if_pos hv]; omega
  · simp only [if_neg hv]; omega
theorem adjust_gen (lo hi : Option Int) (n : Nat) : Builtin.Slice.sliceAdjust lo hi 1 (n : Int) = (((sIx n 0 lo : Nat) : Int), ((sIx n n hi : Nat) : Int)) := by
  have h1 : ¬ ((1 : Int) < 0) := by omega
  unfold Builtin.Slice.sliceAdjust
  simp only [h1, if_false]
  refine Prod.ext ?_ ?_
  · cases lo with
    | none => rfl
    | some v => exact clip_eq v n 0
  · cases hi with
    | none => rfl
    | some v => exact clip_eq v n n
theorem places_gen (i j : Nat) : Builtin.Slice.slicePlaces (i : Int) (j : Int) 1 = j - i := by
  unfold Builtin.Slice.slicePlaces
  have h1 : (1 : Int) > 0 := by omega
  simp only [h1, if_true, Int.ediv_one]
  split <;> omega
theorem slicePart_ {v : Value} {o : Option Int} {Q : Option Int → Shared → Prop} (p : IsPart v o) (h : Q o s) : wpAny (model prog w) A (Builtin.Slice.slicePartIndex v) Q E s := by
  cases p with
  | none => exact slicePart_none h
  | int i t => exact slicePart_int h
theorem sliceApplied_gen {sl : Addr} {vl vu : Value} {lo hi : Option Int} {n : Nat} {Q : Int × Int × Nat → Shared → Prop} (hs : s.heap.IsSliceOf sl vl vu .none) (pl : IsPart vl lo) (pu : IsPart vu hi)
    (h : Q (((sIx n 0 lo : Nat) : Int), 1, sIx n n hi - sIx n 0 lo) s) : wpAny (model prog w) A (Builtin.Slice.sliceApplied (.ref sl) (pure (n : Int))) Q E s := by
  obtain ⟨os, hos, hcs, hds⟩ := id hs
  unfold Builtin.Slice.sliceApplied Builtin.Slice.sliceFields
  refine wpAny_bind (wpAny_bind (wpAny_field hos hds (x := vl) rfl (wpAny_bind (wpAny_field hos hds (x := vu) rfl (wpAny_bind (wpAny_field hos hds (x := .none) rfl (wpAny_pure ?_)))))))
  refine wpAny_bind (slicePart_none ?_)
  show wpAny _ _ (if ((1 : Int) == 0) = true then _ else _) _ _ s
  rw [if_neg (by decide)]
  refine wpAny_bind (slicePart_ pl (wpAny_bind (slicePart_ pu (wpAny_bind (wpAny_pure ?_)))))
  show wpAny _ _ (match Builtin.Slice.sliceAdjust lo hi 1 (n : Int) with | (lo, hi) => pure (lo, (1 : Int), Builtin.Slice.slicePlaces lo hi 1)) _ _ s
  rw [adjust_gen lo hi n]
  show wpAny _ _ (pure (((sIx n 0 lo : Nat) : Int), (1 : Int), Builtin.Slice.slicePlaces ((sIx n 0 lo : Nat) : Int) ((sIx n n hi : Nat) : Int) 1)) _ _ s
  rw [places_gen]
  exact wpAny_pure h
theorem pick_gen (xs : Array Value) (i k : Nat) : ((List.range k).filterMap fun (m : Nat) => xs[((i : Int) + (m : Int) * 1).toNat]?).toArray = ((xs.toList.drop i).take k).toArray := by
  have e : (fun (m : Nat) => xs[((i : Int) + (m : Int) * 1).toNat]?) = fun m => xs[i + m]? := by
    funext m
    have : ((i : Int) + (m : Int) * 1).toNat = i + m := by omega
    rw [this]
  rw [e]
  have := pick_run xs i k
  rw [List.filterMap_map] at this
  have e2 : ((fun x => xs[x]?) ∘ fun x => i + x) = fun m => xs[i + m]? := rfl
  rw [e2] at this
  rw [this]

theorem getItem_tuple_cut {t sl : Addr} {items : Array Value} {vl vu : Value} {lo hi : Option Int} {Q : Value → Shared → Prop} (ht : IsTup s.heap t items) (hs : s.heap.IsSliceOf sl vl vu .none) (pl : IsPart vl lo) (pu : IsPart vu hi)
    (hw : ¬ (sIx items.size 0 lo = 0 ∧ sIx items.size items.size hi = items.size))
    (h : Q (.ref s.heap.objs.size) { s with heap := s.heap.push { cls := .type "tuple", data := .seq ((items.toList.drop (sIx items.size 0 lo)).take (sIx items.size items.size hi - sIx items.size 0 lo)).toArray } })
    (hsz : items.size ≤ sizeLine) : wpAny (model prog w) A (getItem (.ref t) (.ref sl)) Q E s := by
  have htake : sizeOk (.seq ((items.toList.drop (sIx items.size 0 lo)).take (sIx items.size items.size hi - sIx items.size 0 lo)).toArray) := by
    show ((items.toList.drop (sIx items.size 0 lo)).take (sIx items.size items.size hi - sIx items.size 0 lo)).toArray.size ≤ sizeLine
    rw [List.size_toArray, List.length_take, List.length_drop, Array.length_toList]
    omega
  have hj : sIx items.size items.size hi ≤ items.size := sIx_le _ _ (Nat.le_refl _) hi
  obtain ⟨os, hos, hcs, hds⟩ := id hs
  have hTs : s.TypeIs (.ref sl) "slice" := ⟨os, hos, hcs⟩
  unfold getItem
  try with_reducible refine wpAny_holding ?_
  first | refine wpAny_bind (wpAny_pure ?_) | skip
  refine wpAny_bind (wpAny_sequenceKey ht.typeIs (by decide) ?_)
  refine wpAny_bind (wpAny_callSpecial?_slot (name := Str.ofString "__getitem__") ht.typeIs PyProof.Rows.slot_tuple_getitem
    (wpAny_call_entry PyProof.Rows.slot_tuple_getitem ht.typeIs entry_tuple_getitem ?_ (args_tuple_getitem _ _)))
  show wpAny _ _ (Builtin.Tuple.tupleItemsOf (.ref t) >>= _) _ _ s
  refine wpAny_bind (tupleItemsOf_ ht ?_)
  refine wpAny_bind (wpAny_typeOf hTs ?_)
  rw [if_pos (by decide)]
  refine wpAny_bind (sliceApplied_gen hs pl pu ?_)
  have hno : ¬ ((((sIx items.size 0 lo : Nat) : Int) == 0 && (1 : Int) == 1 && (sIx items.size items.size hi - sIx items.size 0 lo) == items.size) = true) := by
    intro q
    rw [Bool.and_eq_true, Bool.and_eq_true] at q
    have q1 : ((sIx items.size 0 lo : Nat) : Int) = 0 := eq_of_beq q.1.1
    have q2 : sIx items.size items.size hi - sIx items.size 0 lo = items.size := eq_of_beq q.2
    exact hw ⟨by omega, by omega⟩
  show wpAny _ _ (if (((sIx items.size 0 lo : Nat) : Int) == 0 && (1 : Int) == 1 && (sIx items.size items.size hi - sIx items.size 0 lo) == items.size) = true then _ else _) _ _ s
  rw [if_neg hno, pick_gen]
  first
    | exact wpAny_bind (m := Builtin.Tuple.tupleExact _) (wpAny_newObj_type (wpAny_pure ⟨_, rfl, wpAny_pure h⟩) htake)
    | exact wpAny_bind (m := Builtin.Tuple.tupleExact _) (wpAny_newObj_type (wpAny_bind (wpAny_pure (wpAny_pure ⟨_, rfl, wpAny_pure h⟩))) htake)
    | exact wpAny_bind (wpAny_bind (m := Builtin.Tuple.tupleExact _) (wpAny_newObj_type (wpAny_pure (wpAny_pure ⟨_, rfl, wpAny_pure h⟩)) htake))
    | exact wpAny_bind (wpAny_bind (m := Builtin.Tuple.tupleExact _) (wpAny_newObj_type (wpAny_pure ⟨_, rfl, wpAny_pure h⟩) htake))
end
end HT

namespace L2
open PySem PySem.Spec PyProof.Rows
variable {q0 : Bool}

/-! ### the parts of a slice -/
abbrev TO := St → Hp → (Option Int → Hp → Prop) → Prop
/-- a slice's part (left out, or an int) -/
def PO (X : Cx) (e : Option Expr) (t : TO) : Prop :=
  ∀ (pins : List (Addr × Obj)) (s : Shared) (σ : St) (H : Hp) (Q : Option Int → Hp → Prop), Inv X pins σ H s → t σ H Q →
    wpAny (model X.prog X.w) X.A (evalPart e X.env) (fun u s' => ∃ o H', Inv X pins σ H' s' ∧ IsPart u o ∧ Q o H') X.xe s
def tNoPart : TO := fun _ H Q => Q none H
def tPart (t : TE) : TO := fun σ H Q => t σ H fun x H1 => ∃ i, x = .int i ∧ Q (some i) H1

theorem intsAre_of {ns : List Int} : ∀ {us : List Value}, Vals (ns.map V.int) us → IntsAre us ns := by
  induction ns with
  | nil => intro us r; rw [List.map_nil] at r; cases r; exact .nil
  | cons n ns ih =>
    intro us r
    rw [List.map_cons] at r
    cases r with
    | cons r1 r2 =>
      obtain ⟨t, e⟩ := r1
      subst e
      exact .cons n t (ih r2)

section
variable {X : Cx} {e : Expr} {te : TE} {lo hi : Option Expr} {tl th : TO} {pos p2 : Pos}

theorem po_none : PO X none tNoPart := by
  intro pins s σ H Q I h
  rw [evalPart_none]
  exact wpAny_pure ⟨none, H, I, .none, h⟩
theorem po_some (h : PE X e te) : PO X (some e) (tPart te) := by
  intro pins s σ H Q I hw
  rw [evalPart_some]
  refine thn (h pins s σ H _ I hw) fun u s1 ⟨x, H1, I1, r1, q1⟩ => ?_
  obtain ⟨i, rfl, q⟩ := q1
  obtain ⟨t, rfl⟩ := r1
  exact ⟨some i, H1, I1, .int i t, q⟩

/-- what a slice of a value is, by values: the slice object stands at sl -/
def SlR (X : Cx) (r : V → Option Int → Option Int → Hp → VK → Prop) : Prop :=
  ∀ (pins : List (Addr × Obj)) (s : Shared) (σ : St) (H : Hp) (x : V) (v vl vu : Value) (lo hi : Option Int) (sl : Addr) (Q : VK), Inv X pins σ H s → RelV x v → s.heap.IsSliceOf sl vl vu .none → IsPart vl lo → IsPart vu hi → r x lo hi H Q →
    ∃ T id, typeLookup (.type T) "__getitem__" = pure (some (.builtin id)) ∧ s.TypeIs v T ∧ wpAny (model X.prog X.w) X.A (getItem v (.ref sl)) (EP X pins σ Q) X.xe s
theorem SlR.or {r r' : V → Option Int → Option Int → Hp → VK → Prop} (h : SlR X r) (h' : SlR X r') : SlR X (fun x lo hi H Q => r x lo hi H Q ∨ r' x lo hi H Q) := by
  intro pins s σ H x v vl vu lo hi sl Q I rx hs pl pu q
  rcases q with q | q
  · exact h pins s σ H x v vl vu lo hi sl Q I rx hs pl pu q
  · exact h' pins s σ H x v vl vu lo hi sl Q I rx hs pl pu q
def tSl (r : V → Option Int → Option Int → Hp → VK → Prop) (te : TE) (tl th : TO) : TE := fun σ H Q => te σ H fun x H1 => tl σ H1 fun l H2 => th σ H2 fun u H3 => r x l u H3 Q
/-- a[lo:hi], any a -/
theorem pe_slice {r : V → Option Int → Option Int → Hp → VK → Prop} (hr : SlR X r) (he : PE X e te) (hl : PO X lo tl) (hu : PO X hi th) : PE X (.Subscript e (.Slice lo hi none p2) pos) (tSl r te tl th) := by
  intro pins s σ H Q I h
  refine Subscript_ (thn (he pins s σ H _ I h) fun v s1 ⟨x, H1, I1, r1, q1⟩ => ?_)
  refine wpAny_Slice (thn (hl pins s1 σ H1 _ I1 q1) fun vl s2 ⟨l, H2, I2, pl, q2⟩ => thn (hu pins s2 σ H2 _ I2 q2) fun vu s3 ⟨u, H3, I3, pu, q3⟩ => ?_)
  rw [evalPart_none]
  refine wpAny_pure ?_
  have I4 : Inv X pins σ H3 { s3 with heap := s3.heap.push { cls := .type "slice", data := .fields #[vl, vu, .none] } } := I3.kept (t' := s3.toks) fun b ob q => Heap.get?_push_of_some _ q
  obtain ⟨T, id, hT, ht, hg⟩ := hr pins { s3 with heap := s3.heap.push { cls := .type "slice", data := .fields #[vl, vu, .none] } } σ H3 x v vl vu l u s3.heap.objs.size Q I4 r1 (Heap.IsSliceOf.new ..) pl pu q3
  show wpAny (model X.prog X.w) X.A (subscriptTail e (.Slice lo hi none p2) v (.ref s3.heap.objs.size)) (EP X pins σ Q) X.xe { s3 with heap := s3.heap.push { cls := .type "slice", data := .fields #[vl, vu, .none] } }
  exact tail_any (ops := [.ref s3.heap.objs.size, v]) ht hT hg (by with_unfolding_all rfl)

/-- the items of xs[lo:hi] -/
def cutV (xs : List V) (lo hi : Option Int) : List V := (xs.drop (HT.sIx xs.length 0 lo)).take (HT.sIx xs.length xs.length hi - HT.sIx xs.length 0 lo)
theorem cutV_length (xs : List V) (lo hi : Option Int) : (cutV xs lo hi).length ≤ xs.length := by
  unfold cutV
  rw [List.length_take, List.length_drop]
  omega
/-- t[lo:hi], not the whole of it (the whole would be t itself) -/
def rSlT (K : PySem.W.Frag) : V → Option Int → Option Int → Hp → VK → Prop := fun x lo hi H Q => ∃ a xs, x = .ref a ∧ SqT K H a xs ∧
  ¬ (HT.sIx xs.length 0 lo = 0 ∧ HT.sIx xs.length xs.length hi = xs.length) ∧ ∀ p, H p = none → Q (.ref p) (upd H p (.tup (cutV xs lo hi)))
theorem sl_tup : SlR X (rSlT X.K) := by
  intro pins s σ H x v vl vu lo hi sl Q I rx hs pl pu h
  obtain ⟨a, xs, rfl, hx, hw, q⟩ := h
  cases rx
  obtain ⟨its, r, ht, hz⟩ := I.tuple hx
  have hlen : its.toArray.size = xs.length := by rw [List.size_toArray]; exact r.length.symm
  refine ⟨"tuple", _, PyProof.Rows.slot_tuple_getitem.lookup, ht.typeIs, ?_⟩
  refine HT.getItem_tuple_cut ht hs pl pu (by rw [hlen]; exact hw) ?_ (by rw [hlen]; exact hz)
  rw [hlen]
  refine ⟨.ref s.heap.objs.size, _, I.laid (t' := s.toks) (o := .tup (cutV xs lo hi)) (fun b ob q => Heap.get?_push_of_some _ q) (Nat.le_refl _) ?_, rfl, q _ (I.hok.fresh (Nat.le_refl _))⟩
  exact ⟨Nat.le_trans (cutV_length xs lo hi) hz, _, (r.drop (HT.sIx xs.length 0 lo)).take (HT.sIx xs.length xs.length hi - HT.sIx xs.length 0 lo), IsTup.new _ _⟩

end
end L2

namespace L2
open PySem PySem.Spec PyProof.Rows
variable {q0 : Bool}

/-! ### places -/
/-- the place that an index of any sign means -/
def ixN (n : Nat) (i : Int) : Option Nat := if 0 ≤ i then (if i < n then some i.toNat else none) else if -(n : Int) ≤ i then some (i + n).toNat else none
def atI {α : Type} (xs : List α) (i : Int) : Option α := (ixN xs.length i).bind fun j => xs[j]?
theorem ixN_seq {n : Nat} {i : Int} {j : Nat} (h : ixN n i = some j) : seqIndex? i n = some j ∧ j < n ∧ -(n : Int) ≤ i ∧ i < n := by
  unfold ixN at h
  by_cases h0 : 0 ≤ i
  · rw [if_pos h0] at h
    by_cases h1 : i < n
    · rw [if_pos h1] at h
      have e : i.toNat = j := Option.some.inj h
      exact ⟨by rw [seqIndex_of h0 h1, e], by omega, by omega, h1⟩
    · rw [if_neg h1] at h; cases h
  · rw [if_neg h0] at h
    by_cases h1 : -(n : Int) ≤ i
    · rw [if_pos h1] at h
      have e : (i + n).toNat = j := Option.some.inj h
      exact ⟨by rw [seqIndex_neg (by omega) h1, e], by omega, h1, by omega⟩
    · rw [if_neg h1] at h; cases h
theorem atI_get {α : Type} {xs : List α} {i : Int} {v : α} (h : atI xs i = some v) : ∃ j, seqIndex? i xs.length = some j ∧ xs[j]? = some v ∧ j < xs.length ∧ -(xs.length : Int) ≤ i ∧ i < xs.length := by
  unfold atI at h
  cases e : ixN xs.length i with
  | none => rw [e] at h; cases h
  | some j =>
    rw [e] at h
    obtain ⟨h1, h2, h3, h4⟩ := ixN_seq e
    exact ⟨j, h1, h, h2, h3, h4⟩
theorem atI_nat {α : Type} {xs : List α} {j : Nat} {v : α} (h : xs[j]? = some v) : atI xs (j : Int) = some v := by
  have hj : j < xs.length := (List.getElem?_eq_some_iff.mp h).1
  have e : ixN xs.length (j : Int) = some j := by
    unfold ixN
    rw [if_pos (by omega), if_pos (by omega)]; simp
  unfold atI; rw [e]; exact h
theorem atI_last {α : Type} (xs : List α) (v : α) : atI (xs ++ [v]) (-1) = some v := by
  have hl : (xs ++ [v]).length = xs.length + 1 := by simp
  have e : ixN (xs ++ [v]).length (-1) = some xs.length := by
    unfold ixN
    rw [hl, if_neg (by decide), if_pos (by omega)]
    congr 1
    omega
  unfold atI
  rw [e]
  show (xs ++ [v])[xs.length]? = some v
  simp

/-! ### what may be subscripted -/
/-- what stands as an index of a plain subscript -/
def PlainIx (b : Expr) : Prop := ∀ o i, subscripted b false o i = operate [o, i] (getItem o i)
/-- a subscript by values -/
def IxR (X : Cx) (r : R2) : Prop :=
  ∀ (value slice : Expr) (pins : List (Addr × Obj)) (s : Shared) (σ : St) (H : Hp) (x y : V) (v u : Value) (Q : VK), Inv X pins σ H s → RelV x v → RelV y u → r x y H Q →
    subscripted slice false v u = operate [v, u] (getItem v u) → wpAny (model X.prog X.w) X.A (subscriptTail value slice v u) (EP X pins σ Q) X.xe s
/-- a call of a builtin's method by values: the receiver, the arguments -/
def MtR (X : Cx) (id : String) (r : V → List V → Hp → VK → Prop) : Prop :=
  ∀ (pins : List (Addr × Obj)) (s : Shared) (σ : St) (H : Hp) (x : V) (xs : List V) (v : Value) (us : List Value) (Q : VK), Inv X pins σ H s → RelV x v → Vals xs us → r x xs H Q →
    wpAny (model X.prog X.w) X.A (call (.builtin id) (v :: us)) (EP X pins σ Q) X.xe s
section
variable {X : Cx} {a b : Expr} {ta tb : TE} {pos : Pos}
theorem IxR.or {r r' : R2} (h : IxR X r) (h' : IxR X r') : IxR X (fun x y H Q => r x y H Q ∨ r' x y H Q) := by
  intro value slice pins s σ H x y v u Q I rx ry q hs
  rcases q with q | q
  · exact h value slice pins s σ H x y v u Q I rx ry q hs
  · exact h' value slice pins s σ H x y v u Q I rx ry q hs
theorem MtR.or {id : String} {r r' : V → List V → Hp → VK → Prop} (h : MtR X id r) (h' : MtR X id r') : MtR X id (fun x xs H Q => r x xs H Q ∨ r' x xs H Q) := by
  intro pins s σ H x xs v us Q I rx rs q
  rcases q with q | q
  · exact h pins s σ H x xs v us Q I rx rs q
  · exact h' pins s σ H x xs v us Q I rx rs q
/-- a[b] -/
theorem pe_ix {r : R2} (hr : IxR X r) (ha : PE X a ta) (hb : PE X b tb) (hs : PlainIx b) : PE X (.Subscript a b pos) (tOp r ta tb) := by
  intro pins s σ H Q I h
  exact Subscript_ (binT ha hb I h fun v u s2 x y H2 I2 rx ry q => hr a b pins s2 σ H2 x y v u Q I2 rx ry q (hs _ _))

def rIxL (K : PySem.W.Frag) : R2 := fun x y H Q => ∃ p xs i v, x = .ref p ∧ y = .int i ∧ SqL K H p xs ∧ atI xs i = some v ∧ Q v H
def rIxT (K : PySem.W.Frag) : R2 := fun x y H Q => ∃ p xs i v, x = .ref p ∧ y = .int i ∧ SqT K H p xs ∧ atI xs i = some v ∧ Q v H
theorem ix_list : IxR X (rIxL X.K) := by
  intro value slice pins s σ H x y v u Q I rx ry h hs
  obtain ⟨p, xs, i, z, rfl, rfl, hq, he, q⟩ := h
  cases rx
  obtain ⟨t, rfl⟩ := ry
  obtain ⟨its, r, pl, hz⟩ := I.list hq
  obtain ⟨j, h1, h2, h3, h4, h5⟩ := atI_get he
  obtain ⟨w, ew, rw'⟩ := r.get h2
  have hl := r.length
  have hn := line63
  have fin : EP X pins σ Q w s := ⟨z, H, I, rw', q⟩
  by_cases h0 : 0 ≤ i
  · have hj : i.toNat = j := by
      rw [seqIndex_of h0 h5] at h1
      exact Option.some.inj h1
    exact item_listR pl.isList h0 (by omega) (by rw [hj]; simpa using ew) fin hs
  · have hj : (i + (its.toArray.size : Int)).toNat = j := by
      rw [seqIndex_neg (by omega) h4] at h1
      rw [List.size_toArray, ← hl]
      exact Option.some.inj h1
    exact subscriptTail_builtinR (x := w) pl.isList.typeIs slot_list_getitem.lookup
      (wpAny_getItem_list_neg (Q := fun r s' => r = w ∧ EP X pins σ Q r s') pl.isList (by omega) (by rw [List.size_toArray] <;> omega) (by omega) (by rw [hj]; simpa using ew) ⟨rfl, fin⟩) hs
theorem ix_tup : IxR X (rIxT X.K) := by
  intro value slice pins s σ H x y v u Q I rx ry h hs
  obtain ⟨p, xs, i, z, rfl, rfl, hq, he, q⟩ := h
  cases rx
  obtain ⟨t, rfl⟩ := ry
  obtain ⟨its, r, pl, hz⟩ := I.tuple hq
  obtain ⟨j, h1, h2, h3, h4, h5⟩ := atI_get he
  obtain ⟨w, ew, rw'⟩ := r.get h2
  have hl := r.length
  have hn := line63
  have fin : EP X pins σ Q w s := ⟨z, H, I, rw', q⟩
  exact subscriptTail_builtinR (x := w) pl.typeIs slot_tuple_getitem.lookup
    (getItem_tuple (j := j) (Q := fun r s' => r = w ∧ EP X pins σ Q r s') pl (by omega) (by omega) (by rw [List.size_toArray, ← hl]; exact h1) (by simpa using ew) ⟨rfl, fin⟩) hs
/-! ### xs[i] = v, any sign -/
/-- the list's object behind a store -/
theorem mapSeq_set (its : List Value) (n j : Nat) (u : Value) : Obj.mapSeq (·.setIfInBounds j u) { cls := .type "list", data := .seq its.toArray n } = { cls := .type "list", data := .seq (its.set j u).toArray n } := by
  simp [Obj.mapSeq]
theorem Inv.lst {pins : List (Addr × Obj)} {σ : St} {H : Hp} {s : Shared} {p : Addr} {xs : List V} (I : Inv X pins σ H s) (h : H p = some (.lst xs)) :
    ∃ (its : List Value) (n : Nat), Vals xs its ∧ s.heap.get? p = some { cls := .type "list", data := .seq its.toArray n } ∧ xs.length ≤ sizeLine := by
  obtain ⟨z, its, n, r, e⟩ := I.hok p _ h
  exact ⟨its, n, r, e, z⟩
/-- the list at p is written by an update of its object -/
theorem Inv.lstUpd {pins : List (Addr × Obj)} {σ : St} {H : Hp} {s : Shared} {p : Addr} {xs ys : List V} {its its' : List Value} {n n' : Nat} {f : Obj → Obj} (I : Inv X pins σ H s) (h : H p = some (.lst xs))
    (ho : s.heap.get? p = some { cls := .type "list", data := .seq its.toArray n }) (hf : f { cls := .type "list", data := .seq its.toArray n } = { cls := .type "list", data := .seq its'.toArray n' }) (r : Vals ys its') (hz : ys.length ≤ sizeLine) (t : Nat) :
    Inv X pins σ (upd H p (.lst ys)) { s with heap := s.heap.update p f, toks := t } := by
  have e : (s.heap.update p f).get? p = some { cls := .type "list", data := .seq its'.toArray n' } := by
    rw [Heap.get?_update_self f ho (by rw [hf] <;> rfl), hf]
  refine I.write (x := p) (e := p) (by rw [h]; trivial) (.inl rfl) (fun b u hb q => (Heap.get?_update_other _ _ (Ne.symm hb)).trans q) ⟨_, e⟩ ?_
  exact ⟨hz, its', n', r, e⟩
def rSetL : V → V → V → Hp → (Hp → Prop) → Prop := fun o i v H Q => ∃ p xs k j, o = .ref p ∧ i = .int k ∧ H p = some (.lst xs) ∧ ixN xs.length k = some j ∧ Q (upd H p (.lst (xs.set j v)))
theorem set_list : PSet X rSetL := by
  intro pins s σ H o i v ov iv u Q I ro ri rv h
  obtain ⟨p, xs, k, j, rfl, rfl, hp, hj, q⟩ := h
  cases ro
  obtain ⟨t, rfl⟩ := ri
  obtain ⟨its, n, r, ho, hz⟩ := I.lst hp
  obtain ⟨h1, h2, h3, h4⟩ := ixN_seq hj
  have hl := r.length
  have hn := line63
  have I' : Inv X pins σ (upd H p (.lst (xs.set j v))) { s with heap := s.heap.update p (Obj.mapSeq (·.setIfInBounds j u)) } :=
    I.lstUpd hp ho (mapSeq_set its n j u) (r.set rv j) (by rw [List.length_set]; exact hz) s.toks
  by_cases h0 : 0 ≤ k
  · have hk : k.toNat = j := by
      rw [seqIndex_of h0 h4] at h1
      exact Option.some.inj h1
    exact PySem.W.ki_setAt ho h0 (by omega) (by rw [List.size_toArray, ← hl]; exact h4) (by rw [hk]; exact ⟨_, I', q⟩)
  · have hk : (k + (its.toArray.size : Int)).toNat = j := by
      rw [seqIndex_neg (by omega) h3] at h1
      rw [List.size_toArray, ← hl]
      exact Option.some.inj h1
    exact PySem.W.ki_setBack ho (by omega) (by rw [List.size_toArray, ← hl]; exact h3) (by omega) (by rw [hk]; exact ⟨_, I', q⟩)

/-! ### slices -/
theorem slice_bounds (lo hi : Option Int) (n : Nat) : (sliceBounds lo hi none n).1 = ((HT.sIx n 0 lo : Nat) : Int) ∧ (sliceBounds lo hi none n).2.1 = ((HT.sIx n n hi : Nat) : Int) ∧ (sliceBounds lo hi none n).2.2 = 1 := by
  refine ⟨?_, ?_, rfl⟩
  · cases lo with
    | none => simp [sliceBounds, HT.sIx]
    | some i =>
      simp only [sliceBounds, HT.sIx, Option.getD_none, show (1 : Int) > 0 by decide, if_true]
      by_cases h : i < 0
      · simp only [h, if_true] <;> omega
      · simp only [h, if_false] <;> omega
  · cases hi with
    | none => simp [sliceBounds, HT.sIx]
    | some i =>
      simp only [sliceBounds, HT.sIx, Option.getD_none, show (1 : Int) > 0 by decide, if_true]
      by_cases h : i < 0
      · simp only [h, if_true] <;> omega
      · simp only [h, if_false] <;> omega
theorem slicePick_cut (its : List Value) (lo hi : Option Int) : slicePick its.toArray lo hi none = ((its.drop (HT.sIx its.length 0 lo)).take (HT.sIx its.length its.length hi - HT.sIx its.length 0 lo)).toArray := by
  obtain ⟨h1, h2, h3⟩ := slice_bounds lo hi its.toArray.size
  unfold slicePick
  rw [h1, h2, h3]
  simp only [sliceRange_one, pick_run, List.size_toArray] <;> rfl
/-- xs[lo:hi] of a list: a new list -/
def rSlL (K : PySem.W.Frag) : V → Option Int → Option Int → Hp → VK → Prop := fun x lo hi H Q => ∃ a xs, x = .ref a ∧ SqL K H a xs ∧ ∀ p, H p = none → Q (.ref p) (upd H p (.lst (cutV xs lo hi)))
theorem sl_list : SlR X (rSlL X.K) := by
  intro pins s σ H x v vl vu lo hi sl Q I rx hs pl pu h
  obtain ⟨a, xs, rfl, hx, q⟩ := h
  cases rx
  obtain ⟨its, r, ht, hz⟩ := I.list hx
  have hlen := r.length
  refine ⟨"list", _, slot_list_getitem.lookup, ht.isList.typeIs, ?_⟩
  refine wpAny_getItem_list_slice ht.isList hs pl pu .none (by simp) ?_ (by rw [List.size_toArray] <;> omega)
  rw [slicePick_cut, ← hlen]
  refine ⟨.ref s.heap.objs.size, _, I.laid (t' := s.toks) (o := .lst (cutV xs lo hi)) (fun b ob q => Heap.get?_push_of_some _ q) (Nat.le_refl _) ?_, rfl, q _ (I.hok.fresh (Nat.le_refl _))⟩
  exact ⟨Nat.le_trans (cutV_length xs lo hi) hz, _, 0, (r.drop (HT.sIx xs.length 0 lo)).take (HT.sIx xs.length xs.length hi - HT.sIx xs.length 0 lo), Heap.get?_push_size _ rfl⟩

/-! ### len, list(x), tuple(x) of any list or tuple that is read -/
theorem call_len_seq : CallR X (.builtin "len") (fun xs H Q => ∃ p ys, xs = [.ref p] ∧ (SqL X.K H p ys ∨ SqT X.K H p ys) ∧ Q (.int ys.length) H) := by
  intro pins s σ H xs us Q I r h
  obtain ⟨p, ys, rfl, hq, q⟩ := h
  obtain ⟨u, rfl, rx⟩ := vals1 r
  cases rx
  have hn := line63
  rcases hq with hq | hq
  · obtain ⟨its, r', pl, hz⟩ := I.list hq
    have hlen := r'.length
    exact Calls.call_len_list pl.isList (by simp only [List.size_toArray] <;> omega) ⟨.int ys.length, H, I.tok _, ⟨s.toks + 1, by rw [List.size_toArray, hlen]⟩, q⟩
  · obtain ⟨its, r', pl, hz⟩ := I.tuple hq
    have hlen := r'.length
    exact len_tuple pl (by simp only [List.size_toArray] <;> omega) ⟨.int ys.length, H, I.tok _, ⟨s.toks + 1, by rw [List.size_toArray, hlen]⟩, q⟩
theorem CallR.or {f : Value} {r r' : List V → Hp → VK → Prop} (h : CallR X f r) (h' : CallR X f r') : CallR X f (fun xs H Q => r xs H Q ∨ r' xs H Q) := by
  intro pins s σ H xs us Q I rs q
  rcases q with q | q
  · exact h pins s σ H xs us Q I rs q
  · exact h' pins s σ H xs us Q I rs q
theorem call_list_of : CallR X (.type "list") (fun xs H Q => ∃ p ys, xs = [.ref p] ∧ (SqL X.K H p ys ∨ SqT X.K H p ys) ∧ ∀ l, H l = none → Q (.ref l) (upd H l (.lst ys))) := by
  intro pins s σ H xs us Q I r h
  obtain ⟨p, ys, rfl, hq, q⟩ := h
  obtain ⟨u, rfl, rx⟩ := vals1 r
  cases rx
  have fin : ∀ (its : List Value), Vals ys its → ys.length ≤ sizeLine → ∀ (h' : Heap) (c' : Nat), (∀ b o', s.heap.get? b = some o' → h'.get? b = some o') →
      h'.get? s.heap.objs.size = some { cls := .type "list", dict := none, data := .seq its.toArray c', slots := #[] } → EP X pins σ Q (.ref s.heap.objs.size) { s with heap := h' } := fun its r' hz h' c' kp e =>
    ⟨.ref s.heap.objs.size, _, I.laid (t' := s.toks) kp (Nat.le_refl _) (show ObjOk X.prog X.w _ h' _ (.lst ys) from ⟨hz, its, c', r', e⟩), rfl, q _ (I.hok.fresh (Nat.le_refl _))⟩
  rcases hq with hq | hq
  · obtain ⟨its, r', pl, hz⟩ := I.list hq
    have hlen := r'.length
    obtain ⟨o, ho, hc, n, hd⟩ := pl.isList
    exact call_list_seq p (.inl rfl) ho hc hd (fun h' c' kp e => fin its r' hz h' c' kp e) (by simp only [List.size_toArray] <;> omega)
  · obtain ⟨its, r', pl, hz⟩ := I.tuple hq
    have hlen := r'.length
    obtain ⟨o, ho, hc, n, hd⟩ := pl
    exact call_list_seq p (.inr rfl) ho hc hd (fun h' c' kp e => fin its r' hz h' c' kp e) (by simp only [List.size_toArray] <;> omega)
theorem call_tuple_of : CallR X (.type "tuple") (fun xs H Q => ∃ p ys, xs = [.ref p] ∧ ((SqL X.K H p ys ∧ ∀ l, H l = none → Q (.ref l) (upd H l (.tup ys))) ∨ (SqT X.K H p ys ∧ Q (.ref p) H))) := by
  intro pins s σ H xs us Q I r h
  obtain ⟨p, ys, rfl, h⟩ := h
  obtain ⟨u, rfl, rx⟩ := vals1 r
  cases rx
  rcases h with ⟨hq, q⟩ | ⟨hq, q⟩
  · obtain ⟨its, r', pl, hz⟩ := I.list hq
    have hlen := r'.length
    refine call_tuple_list pl.isList (fun h' kp => ?_) (by simp only [List.size_toArray] <;> omega)
    have I1 : Inv X pins σ H { s with heap := h' } := I.kept (t' := s.toks) kp
    have I2 : Inv X pins σ (upd H h'.objs.size (.tup ys)) { s with heap := h'.push { cls := .type "tuple", data := .seq its.toArray } } :=
      I1.laid (t' := s.toks) (fun b o e => Heap.get?_push_of_some _ e) (Nat.le_refl _) (show ObjOk X.prog X.w _ _ _ (.tup ys) from ⟨hz, its, r', IsTup.new _ _⟩)
    exact ⟨.ref h'.objs.size, _, I2, rfl, q _ (I1.hok.fresh (Nat.le_refl _))⟩
  · obtain ⟨its, r', pl, hz⟩ := I.tuple hq
    exact call_tuple_same pl ⟨.ref p, H, I, rfl, q⟩

/-! ### the call of a builtin's method: o.m(..) -/
/-- the value is of that builtin type -/
def tyV (K : PySem.W.Frag) (T : String) (x : V) (H : Hp) : Prop := match x with
  | .str _ => T = "str"
  | .int _ => T = "int"
  | .ref p => (T = "list" ∧ ∃ xs, SqL K H p xs) ∨ (T = "tuple" ∧ ∃ o, K.lookup p = some o ∧ o.cls = .type "tuple" ∧ o.dict = none) ∨
      (T = "dict" ∧ ((∃ kvs, H p = some (.dK kvs)) ∨ ∃ kvs, H p = some (.dT kvs))) ∨ (T = "set" ∧ ∃ S n, H p = some (.set S n))
  | _ => False
theorem tyV_is {pins : List (Addr × Obj)} {σ : St} {H : Hp} {s : Shared} {T : String} {x : V} {v : Value} (I : Inv X pins σ H s) (r : RelV x v) (ty : tyV X.K T x H) :
    s.TypeIs v T ∧ ∀ a, v = .ref a → ∃ ob, s.heap.get? a = some ob ∧ ob.dict = none := by
  cases x with
  | str z =>
    obtain ⟨t, rfl⟩ := r
    cases (show T = "str" from ty)
    exact ⟨typeIs_str s z t, fun _ e => nomatch e⟩
  | int i =>
    obtain ⟨t, rfl⟩ := r
    cases (show T = "int" from ty)
    exact ⟨typeIs_int s i t, fun _ e => nomatch e⟩
  | ref p =>
    cases r
    rcases ty with ⟨rfl, xs, hq⟩ | ⟨rfl, o, hk, hc, hd⟩ | ⟨rfl, hk⟩ | ⟨rfl, S, n, hk⟩
    · obtain ⟨its, _, pl, _⟩ := I.list hq
      refine ⟨pl.isList.typeIs, fun a e => ?_⟩
      cases e
      obtain ⟨o, n, e, c, hd, _⟩ := pl
      exact ⟨o, e, hd⟩
    · refine ⟨⟨o, I.kIn p o hk, hc⟩, fun a e => ?_⟩
      cases e
      exact ⟨o, I.kIn _ o hk, hd⟩
    · have z : ∃ o, s.heap.get? p = some o ∧ o.ExactDict := by
        rcases hk with ⟨kvs, hk⟩ | ⟨kvs, hk⟩
        · obtain ⟨_, _, _, _, o, _, _, e, ex, _⟩ := I.hok p _ hk
          exact ⟨o, e, ex⟩
        · obtain ⟨_, _, _, _, o, _, _, e, ex, _⟩ := I.hok p _ hk
          exact ⟨o, e, ex⟩
      obtain ⟨o, e, ex⟩ := z
      refine ⟨⟨o, e, ex.1⟩, fun a e2 => ?_⟩
      cases e2
      exact ⟨o, e, ex.2.1⟩
    · obtain ⟨o, _, _, _, e, ex, _⟩ := I.hok p _ hk
      refine ⟨⟨o, e, ex.1⟩, fun a e2 => ?_⟩
      cases e2
      exact ⟨o, e, ex.2.1⟩
  | _ => exact False.elim ty
def tBM (K : PySem.W.Frag) (T : String) (r : V → List V → Hp → VK → Prop) (to : TE) (t : TA) : TE := fun σ H Q => to σ H fun x H1 => tyV K T x H1 ∧ t σ H1 fun xs H2 => r x xs H2 Q
variable {o e : Expr} {es : List Expr} {to : TE} {t : TA} {name : Str} {apos cpos : Pos} {T id : String} {r : V → List V → Hp → VK → Prop}
theorem pe_bm (pa : PlainAttrs T) (slot : Slot T name id) (hty : typeOf (.builtin id) = pure (.type "method_descriptor")) (hm : MtR X id r) (ho : PE X o to) (ha : PA X (e :: es) t)
    (hbase : attributeBase o name X.env (eval o X.env) = eval o X.env := by rfl)
    (hfew : ((backTo cpos (starEach (e :: es) X.env)).all (fun x => !x.1) && (backToKw cpos (keywordEach [] X.env)).all (fun x => x.1.isSome)
      && decide ((e :: es).length + ([] : List Keyword).length + (if ([] : List Keyword).isEmpty then 0 else 1) < 30)) = true := by rfl)
    (hline : (apos.endLine == cpos.line) = true := by rfl) (hs : starEach (e :: es) X.env = (false, eval e X.env) :: starEach es X.env := by rfl) (hplain : (backTo cpos (starEach es X.env)).any (·.1) = false := by rfl) :
    PE X (.Call (.Attribute o name apos) (e :: es) [] cpos) (tBM X.K T r to t) := by
  intro pins s σ H Q I h
  refine wpAny_Call_method_late hbase hfew hline rfl (thn (ho pins s σ H _ I h) fun v s1 ⟨x, H1, I1, r1, ty, q1⟩ => ?_)
  obtain ⟨h1, h2⟩ := tyV_is I1 r1 ty
  refine ⟨T, id, pa, slot, hty, h1, h2, ?_⟩
  have hA := ha cpos pins s1 σ H1 _ I1 q1
  rw [hs] at hA ⊢
  refine Calls.callWith_builtin (by show (false || (backTo cpos (starEach es X.env)).any (·.1)) = false; rw [hplain] <;> rfl) (Calls.evalArgs_plain ?_)
  exact thn hA fun us s2 ⟨vs, H2, I2, r2, q2⟩ => hm pins s2 σ H2 x vs v us Q I2 r1 r2 q2
/- xs.append(e), list.index on a module's tuple .. are MtR facts of 06m -/
end
end L2

namespace L2
open PySem PySem.Spec PyProof.Rows
variable {q0 : Bool}

def MtM (X : Cx) (id : String) (r : V → List V → Hp → VK → Prop) : Prop :=
  ∀ (pins : List (Addr × Obj)) (s : Shared) (σ : St) (H : Hp) (x : V) (xs : List V) (v : Value) (us : List Value) (Q : VK), Inv X pins σ H s → RelV x v → Vals xs us → r x xs H Q →
    wpAny (model X.prog X.w) X.A (call (.builtin id) (v :: us)) (EP X pins σ Q) X.xe s

/-! ### lists of values -/
theorem Vals.one : ∀ {x : V} {us : List Value}, Vals [x] us → ∃ u, us = [u] ∧ RelV x u
  | _, _, .cons r .nil => ⟨_, rfl, r⟩
theorem Vals.two : ∀ {x y : V} {us : List Value}, Vals [x, y] us → ∃ u v, us = [u, v] ∧ RelV x u ∧ RelV y v
  | _, _, _, .cons r (.cons q .nil) => ⟨_, _, rfl, r, q⟩
theorem Vals.zero : ∀ {us : List Value}, Vals [] us → us = []
  | _, .nil => rfl
theorem Vals.eraseIdx : ∀ {xs : List V} {us : List Value} (i : Nat), Vals xs us → Vals (xs.eraseIdx i) (us.eraseIdx i)
  | _, _, _, .nil => .nil
  | _, _, 0, .cons _ t => t
  | _, _, i + 1, .cons r t => .cons r (Vals.eraseIdx i t)
theorem Vals.reverse {xs : List V} {us : List Value} (h : Vals xs us) : Vals xs.reverse us.reverse := by
  induction h with
  | nil => exact .nil
  | cons r t ih => rw [List.reverse_cons, List.reverse_cons]; exact Vals.append ih (.cons r .nil)
theorem Vals.rep {xs : List V} {us : List Value} (h : Vals xs us) : ∀ k : Nat, Vals (List.replicate k xs).flatten (List.replicate k us).flatten
  | 0 => .nil
  | k + 1 => by
    rw [List.replicate_succ, List.replicate_succ, List.flatten_cons, List.flatten_cons]
    exact Vals.append h (Vals.rep h k)
theorem foldl_rep (its : List Value) : ∀ (k : Nat) (acc : List Value),
    List.foldl (fun x1 x2 => x1 ++ x2) acc.toArray (List.replicate k its.toArray) = (acc ++ (List.replicate k its).flatten).toArray
  | 0, acc => by simp
  | k + 1, acc => by
    have e : acc.toArray ++ its.toArray = (acc ++ its).toArray := by simp
    have e2 : (acc ++ its) ++ (List.replicate k its).flatten = acc ++ (List.replicate (k + 1) its).flatten := by
      rw [List.replicate_succ, List.flatten_cons, List.append_assoc]
    rw [← e2, ← foldl_rep its k (acc ++ its), ← e, List.replicate_succ, List.foldl_cons]

section
variable {X : Cx} {pins : List (Addr × Obj)} {σ : St} {H : Hp} {s : Shared} {l b : Addr} {xs ys zs : List V}

/-! ### the two steps: a tracked list is rewritten, a new list is laid -/
theorem Inv.lset {its its' : List Value} {n : Nat} {f : Array Value → Array Value} {t' : Nat} (I : Inv X pins σ H s) (hH : H l = some (.lst xs))
    (e : s.heap.get? l = some { cls := .type "list", data := .seq its.toArray n }) (hf : f its.toArray = its'.toArray) (hv : Vals ys its') (hz : ys.length ≤ sizeLine) :
    Inv X pins σ (upd H l (.lst ys)) { s with heap := s.heap.update l (Obj.mapSeq f), toks := t' } := by
  have q := PySem.IsL.update e f
  rw [hf] at q
  refine I.write (x := l) (e := l) (by rw [hH]; exact trivial) (.inl rfl) (fun b' u hb hu => (Heap.get?_update_other s.heap (Obj.mapSeq f) (Ne.symm hb)).trans hu) ⟨_, q⟩ ?_
  exact ⟨hz, its', _, hv, q⟩
theorem Inv.lnew {its : List Value} {t' : Nat} (I : Inv X pins σ H s) (hv : Vals ys its) (hz : ys.length ≤ sizeLine) :
    Inv X pins σ (upd H s.heap.objs.size (.lst ys)) { s with heap := s.heap.push { cls := .type "list", data := .seq its.toArray }, toks := t' } :=
  I.laid (fun _ _ q => Heap.get?_push_of_some _ q) (Nat.le_refl _) ⟨hz, its, 0, hv, Heap.get?_push_size _ rfl⟩
theorem Inv.fresh (I : Inv X pins σ H s) : H s.heap.objs.size = none := I.hok.fresh (Nat.le_refl _)
theorem Inv.lstM (I : Inv X pins σ H s) (hH : H l = some (.lst xs)) : xs.length ≤ sizeLine ∧ ∃ (its : List Value) (n : Nat), Vals xs its ∧ xs.length = its.length ∧ s.heap.get? l = some { cls := .type "list", data := .seq its.toArray n } := by
  obtain ⟨z, its, n, r, e⟩ := I.hok l _ hH
  exact ⟨z, its, n, r, r.length, e⟩

theorem notLongL {n : Nat} (h : n ≤ sizeLine) : Builtin.List.listTooLong n = false := by
  unfold Builtin.List.listTooLong
  exact decide_eq_false (by omega)
end

section
variable {X : Cx}

/-! ### methods -/
def rAppend : V → List V → Hp → VK → Prop := fun x vs H Q => ∃ l xs y, x = .ref l ∧ vs = [y] ∧ H l = some (.lst xs) ∧ xs.length < sizeLine ∧ Q .non (upd H l (.lst (xs ++ [y])))
theorem mt_append : MtM X "list.append" rAppend := by
  intro pins s σ H x vs v us Q I rx rv h
  obtain ⟨l, xs, y, rfl, rfl, hH, hz, q⟩ := h
  cases rx
  obtain ⟨u, rfl, ru⟩ := rv.one
  obtain ⟨z, its, n, r, hl, e⟩ := I.lstM hH
  refine call_meets F.slot_list_append ⟨_, e, rfl⟩ F.entry_list_append (F.args_list_append_2 _ _) (PySem.list_append l its.toArray n u (by rw [List.size_toArray]; omega)) ⟨e, ?_⟩
  refine ⟨.non, _, I.lset (its' := its ++ [u]) hH e (by simp) (r.append (.cons ru .nil)) ?_, rfl, q⟩
  rw [List.length_append, List.length_singleton]
  omega

/-! ### list + list, list += list, list * int -/
def rCat : R2 := fun x y H Q => ∃ l b xs zs, x = .ref l ∧ y = .ref b ∧ H l = some (.lst xs) ∧ H b = some (.lst zs) ∧ xs.length + zs.length ≤ sizeLine ∧ ∀ p, H p = none → Q (.ref p) (upd H p (.lst (xs ++ zs)))
theorem op_cat : OpR X (binaryOp .Add) rCat := by
  intro pins s σ H x y v u Q I rx ry h
  obtain ⟨l, b, xs, zs, rfl, rfl, hH, hB, hz, q⟩ := h
  cases rx
  cases ry
  obtain ⟨z, its, n, r, hl, e⟩ := I.lstM hH
  obtain ⟨z2, its2, n2, r2, hl2, e2⟩ := I.lstM hB
  refine PySem.P.add_list e e2 ?_ (by rw [List.size_toArray, List.size_toArray]; omega)
  have ea : its.toArray ++ its2.toArray = (its ++ its2).toArray := by simp
  rw [ea]
  exact ⟨.ref _, _, I.lnew (t' := s.toks) (r.append r2) (by rw [List.length_append]; omega), rfl, q _ I.fresh⟩
/-- a list times an int (a negative one is nothing) -/
def rRep : R2 := fun x y H Q => ∃ l k xs, x = .ref l ∧ y = .int k ∧ H l = some (.lst xs) ∧ -(2 ^ 63) ≤ k ∧ k < 2 ^ 63 ∧ xs.length * k.toNat ≤ sizeLine ∧
  ∀ p, H p = none → Q (.ref p) (upd H p (.lst (List.replicate k.toNat xs).flatten))
theorem len_rep {α : Type} (xs : List α) (k : Nat) : (List.replicate k xs).flatten.length = k * xs.length := by
  induction k with
  | zero => simp
  | succ k ih => rw [List.replicate_succ, List.flatten_cons, List.length_append, ih, Nat.succ_mul, Nat.add_comm]
theorem op_rep : OpR X (binaryOp .Mult) rRep := by
  intro pins s σ H x y v u Q I rx ry h
  obtain ⟨l, k, xs, rfl, rfl, hH, h1, h2, hz, q⟩ := h
  cases rx
  obtain ⟨t, rfl⟩ := ry
  obtain ⟨z, its, n, r, hl, e⟩ := I.lstM hH
  have hlen : its.toArray.size * k.toNat ≤ sizeLine := by rw [List.size_toArray, ← hl]; exact hz
  have hcap : ¬ its.toArray.size * k.toNat > (2 ^ 63 - 1) / 8 := by
    have : (sizeLine : Nat) ≤ (2 ^ 63 - 1) / 8 := by decide
    omega
  have hfit : ¬ (!Builtin.List.listFitsIndex k) = true := by
    rw [fitsIndex_both h1 h2]
    exact Bool.false_ne_true
  have hlong : ¬ Builtin.List.listTooLong (its.toArray.size * k.toNat) = true := by
    rw [notLongL hlen]
    exact Bool.false_ne_true
  have hnew : List.foldl (fun x1 x2 => x1 ++ x2) #[] (List.replicate (if its.toArray.isEmpty = true then 0 else k.toNat) its.toArray) = (List.replicate k.toNat its).flatten.toArray := by
    have f0 : ∀ m : Nat, List.foldl (fun x1 x2 => x1 ++ x2) #[] (List.replicate m its.toArray) = (List.replicate m its).flatten.toArray := fun m => by
      have := foldl_rep its m []
      rw [List.nil_append] at this
      exact this
    rw [f0]
    cases its with
    | nil => simp
    | cons a r' => rw [if_neg (by simp)]
  refine wpAny_binaryOp_repeat_ref (T := "list") (U := "int") (by decide) ⟨_, e, rfl⟩ (fun s' => typeIs_int s' k t) noFill_list_mul F.fills_int_mul F.slot_int_rmul repeat_list F.slot_int_index.lookup
    (call_meets F.slot_int_rmul (typeIs_int s k t) F.entry_int_rmul (F.args_int_rmul_2 _ _) (int___rmul___int_list k t l its.toArray n)
      ⟨e, rfl, ⟨_, e, rfl⟩, call_meets F.slot_list_mul ⟨_, e, rfl⟩ F.entry_list_mul (F.args_list_mul_2 _ _) (AutoListH.list___mul___list_int_3 l its.toArray n k t hfit hcap hlong) ⟨e, ?_⟩⟩)
  rw [hnew]
  exact ⟨.ref _, _, I.lnew (t' := s.toks) (r.rep k.toNat) (by rw [len_rep, Nat.mul_comm]; exact hz), rfl, q _ I.fresh⟩

end

/-! ### xs[a:b] = ys -/
section
variable {prog : Program} {w : World} {A : Around} {E : Value → Shared → Prop} {s : Shared}
end

section
variable {X : Cx}
end
end L2

namespace L2
open PySem PySem.Spec PyProof.Rows
variable {q0 : Bool}

/-! ### lists of pairs as tables -/
section
variable {κ : Type} [DecidableEq κ]
def valV (kvs : List (κ × V)) (k : κ) : Option V := (kvs.find? fun kv => decide (kv.1 = k)).map (·.2)
/-- in its place, or at the end -/
def putK (kvs : List (κ × V)) (k : κ) (v : V) : List (κ × V) :=
  if (kvs.any fun kv => decide (kv.1 = k)) = true then kvs.map (fun kv => if kv.1 = k then (kv.1, v) else kv) else kvs ++ [(k, v)]
def dropK (kvs : List (κ × V)) (k : κ) : List (κ × V) := kvs.filter fun kv => decide (kv.1 ≠ k)

theorem valV_pos {p : κ × V} {r : List (κ × V)} {k : κ} (e : p.1 = k) : valV (p :: r) k = some p.2 := by simp [valV, List.find?_cons, e]
theorem valV_neg {p : κ × V} {r : List (κ × V)} {k : κ} (e : ¬ p.1 = k) : valV (p :: r) k = valV r k := by simp [valV, List.find?_cons, e]
theorem valV_any (k : κ) : ∀ kvs : List (κ × V), (kvs.any fun kv => decide (kv.1 = k)) = (valV kvs k).isSome
  | [] => rfl
  | p :: r => by
    rw [List.any_cons]
    by_cases e : p.1 = k
    · simp only [valV_pos e, decide_eq_true e, Bool.true_or, Option.isSome_some]
    · rw [valV_neg e, decide_eq_false e, Bool.false_or]; exact valV_any k r
theorem RelO.isSome_eq {o : Option V} {u : Option Value} (r : RelO o u) : o.isSome = u.isSome := by
  cases o with
  | none => cases u with
    | none => rfl
    | some _ => exact (show False from r).elim
  | some _ => cases u with
    | none => exact (show False from r).elim
    | some _ => rfl
theorem RelO.getD {o : Option V} {u : Option Value} {d : V} {d' : Value} (r : RelO o u) (rd : RelV d d') : RelV (o.getD d) (u.getD d') := by
  cases o with
  | none => cases u with
    | none => exact rd
    | some _ => exact (show False from r).elim
  | some _ => cases u with
    | none => exact (show False from r).elim
    | some _ => exact r

/-- raw tables of the same keys -/
theorem KV.val {kvs : List (κ × V)} {vs : List (κ × Value)} (r : KV kvs vs) (k : κ) : RelO (valV kvs k) (valueAt vs k) := by
  unfold KV at r
  induction r with
  | nil => exact True.intro
  | @cons p q ps qs h t ih =>
    obtain ⟨h1, h2⟩ := h
    by_cases e : p.1 = k
    · have e' : q.1 = k := h1.symm.trans e
      have b : valueAt (q :: qs) k = some q.2 := by simp [valueAt, List.find?_cons, e']
      rw [valV_pos e, b]; exact h2
    · have e' : ¬ q.1 = k := fun z => e (h1.trans z)
      have b : valueAt (q :: qs) k = valueAt qs k := by simp [valueAt, List.find?_cons, e']
      rw [valV_neg e, b]; exact ih
theorem KV.any {kvs : List (κ × V)} {vs : List (κ × Value)} (r : KV kvs vs) (k : κ) : (kvs.any fun kv => decide (kv.1 = k)) = vs.any fun kv => decide (kv.1 = k) := by
  unfold KV at r
  induction r with
  | nil => rfl
  | cons h t ih => rw [List.any_cons, List.any_cons, ih, h.1]
theorem KV.repl {kvs : List (κ × V)} {vs : List (κ × Value)} (r : KV kvs vs) (k : κ) {y : V} {u : Value} (ry : RelV y u) :
    KV (kvs.map fun kv => if kv.1 = k then (kv.1, y) else kv) (vs.map fun kv => if kv.1 = k then (kv.1, u) else kv) := by
  unfold KV at r ⊢
  induction r with
  | nil => exact .nil
  | @cons p q ps qs h t ih =>
    rw [List.map_cons, List.map_cons]
    refine .cons ?_ ih
    obtain ⟨h1, h2⟩ := h
    by_cases e : p.1 = k
    · rw [if_pos e, if_pos (h1.symm.trans e)]; exact ⟨h1, ry⟩
    · rw [if_neg e, if_neg (fun z => e (h1.trans z))]; exact ⟨h1, h2⟩
theorem KV.put {kvs : List (κ × V)} {vs : List (κ × Value)} (r : KV kvs vs) (k : κ) {y : V} {u : Value} (ry : RelV y u) : KV (putK kvs k y) (stored vs k u) := by
  unfold putK stored
  rw [r.any k]
  by_cases e : (vs.any fun kv => decide (kv.1 = k)) = true
  · rw [if_pos e, if_pos e]; exact r.repl k ry
  · rw [if_neg e, if_neg e]; exact Paired.snoc r ⟨rfl, ry⟩
theorem KV.drop {kvs : List (κ × V)} {vs : List (κ × Value)} (r : KV kvs vs) (k : κ) : KV (dropK kvs k) (without vs k) := by
  unfold KV at r ⊢
  unfold dropK without
  induction r with
  | nil => exact .nil
  | @cons p q ps qs h t ih =>
    obtain ⟨h1, h2⟩ := h
    rw [List.filter_cons, List.filter_cons]
    by_cases e : p.1 = k
    · have a : ¬ decide (p.1 ≠ k) = true := by simp [e]
      have b : ¬ decide (q.1 ≠ k) = true := by simp [h1.symm.trans e]
      rw [if_neg a, if_neg b]; exact ih
    · have e' : ¬ q.1 = k := fun z => e (h1.trans z)
      have a : decide (p.1 ≠ k) = true := by simp [e]
      have b : decide (q.1 ≠ k) = true := by simp [e']
      rw [if_pos a, if_pos b]; exact .cons ⟨h1, h2⟩ ih
theorem KV.keys {kvs : List (κ × V)} {vs : List (κ × Value)} (r : KV kvs vs) : kvs.map (·.1) = vs.map (·.1) := by
  unfold KV at r
  induction r with
  | nil => rfl
  | cons h t ih => rw [List.map_cons, List.map_cons, ih, h.1]
theorem KV.length {kvs : List (κ × V)} {vs : List (κ × Value)} (r : KV kvs vs) : kvs.length = vs.length := Paired.length r
end


/-! ### a tracked dict, its keys ints and texts or tuples of these -/
theorem kV_is {P : Program} {w : World} {k : Key} {u : Value} (r : RelV (kV k) u) : (mixKind P w).is k u = true := by
  cases k with
  | inl i => obtain ⟨t, e⟩ := (show ∃ t, u = Value.int i t from r); subst e; exact mixKind_int P w i t
  | inr x => obtain ⟨t, e⟩ := (show ∃ t, u = Value.str x t from r); subst e; exact mixKind_str P w x t
/-- raw entries of a dict with tuple keys -/
abbrev KT (H : Hp) : List (List Key × V) → List (List Key × Addr × Value) → Prop := Paired fun p q => p.1 = q.1 ∧ H q.2.1 = some (.tup (p.1.map kV)) ∧ RelV p.2 q.2.2
theorem KT.val {H : Hp} {kvs : List (List Key × V)} {xs : List (List Key × Addr × Value)} (r : KT H kvs xs) (k : List Key) : RelO (valV kvs k) ((atKey xs k).map (·.2)) := by
  induction r with
  | nil => exact True.intro
  | @cons p q ps qs h t ih =>
    obtain ⟨h1, _, h2⟩ := h
    by_cases e : p.1 = k
    · have e' : q.1 = k := h1.symm.trans e
      have b : atKey (q :: qs) k = some q.2 := by simp [atKey, List.find?_cons, e']
      rw [valV_pos e, b]; exact h2
    · have e' : ¬ q.1 = k := fun z => e (h1.trans z)
      have b : atKey (q :: qs) k = atKey qs k := by simp [atKey, List.find?_cons, e']
      rw [valV_neg e, b]; exact ih
theorem KT.repl {H : Hp} {kvs : List (List Key × V)} {xs : List (List Key × Addr × Value)} (r : KT H kvs xs) (k : List Key) {y : V} {u : Value} (ry : RelV y u) :
    KT H (kvs.map fun kv => if kv.1 = k then (kv.1, y) else kv) (xs.map (putAt k u)) := by
  induction r with
  | nil => exact .nil
  | @cons p q ps qs h t ih =>
    rw [List.map_cons, List.map_cons]
    refine .cons ?_ ih
    obtain ⟨h1, h2, h3⟩ := h
    unfold putAt
    by_cases e : p.1 = k
    · rw [if_pos e, if_pos (h1.symm.trans e)]; exact ⟨h1, h2, ry⟩
    · rw [if_neg e, if_neg (fun z => e (h1.trans z))]; exact ⟨h1, h2, h3⟩
theorem KT.put {H : Hp} {kvs : List (List Key × V)} {xs : List (List Key × Addr × Value)} (r : KT H kvs xs) (k : List Key) {b : Addr} {y : V} {u : Value} (hb : H b = some (.tup (k.map kV))) (ry : RelV y u) :
    KT H (putK kvs k y) (storedH xs k b u) := by
  have e : (kvs.any fun kv => decide (kv.1 = k)) = (atKey xs k).isSome := by
    rw [valV_any, (r.val k).isSome_eq, Option.isSome_map]
  unfold putK storedH
  rw [e]
  by_cases q : (atKey xs k).isSome = true
  · rw [if_pos q, if_pos q]; exact r.repl k ry
  · rw [if_neg q, if_neg q]; exact Paired.snoc r ⟨rfl, hb, ry⟩
theorem KT.keeps {H H' : Hp} {kvs : List (List Key × V)} {xs : List (List Key × Addr × Value)} (r : KT H kvs xs) (ht : ∀ b ys, H b = some (.tup ys) → H' b = some (.tup ys)) : KT H' kvs xs :=
  Paired.mapP r fun _ _ z => ⟨z.1, ht _ _ z.2.1, z.2.2⟩

section
variable {P : Program} {w : World} {H : Hp} {h : Heap} {a : Addr}
end

/-- what the dict at a holds at the key y -/
def DGet (H : Hp) (a : Addr) (y : V) (r : Option V) : Prop :=
  (∃ kvs k, Rd H a (.dK kvs) ∧ y = kV k ∧ r = valV kvs k) ∨ ∃ kvs k b, Rd H a (.dT kvs) ∧ y = .ref b ∧ H b = some (.tup (k.map kV)) ∧ r = valV kvs k
/-- the heap behind a[y] = v -/
def DPut (H : Hp) (a : Addr) (y v : V) (H' : Hp) : Prop :=
  (∃ kvs k, H a = some (.dK kvs) ∧ y = kV k ∧ kvs.length < sizeLine ∧ H' = upd H a (.dK (putK kvs k v))) ∨
  ∃ kvs k b, H a = some (.dT kvs) ∧ y = .ref b ∧ H b = some (.tup (k.map kV)) ∧ kvs.length < sizeLine ∧ H' = upd H a (.dT (putK kvs k v))
theorem DGet.k {H : Hp} {a : Addr} {kvs : List (Key × V)} {k : Key} (e : H a = some (.dK kvs)) : DGet H a (kV k) (valV kvs k) := .inl ⟨kvs, k, .inl e, rfl, rfl⟩
theorem DGet.t {H : Hp} {a b : Addr} {kvs : List (List Key × V)} {k : List Key} (e : H a = some (.dT kvs)) (eb : H b = some (.tup (k.map kV))) : DGet H a (.ref b) (valV kvs k) := .inr ⟨kvs, k, b, .inl e, rfl, eb, rfl⟩
theorem DPut.k {H : Hp} {a : Addr} {kvs : List (Key × V)} {k : Key} {v : V} (e : H a = some (.dK kvs)) (hl : kvs.length < sizeLine) : DPut H a (kV k) v (upd H a (.dK (putK kvs k v))) := .inl ⟨kvs, k, e, rfl, hl, rfl⟩
theorem DPut.t {H : Hp} {a b : Addr} {kvs : List (List Key × V)} {k : List Key} {v : V} (e : H a = some (.dT kvs)) (eb : H b = some (.tup (k.map kV))) (hl : kvs.length < sizeLine) :
    DPut H a (.ref b) v (upd H a (.dT (putK kvs k v))) := .inr ⟨kvs, k, b, e, rfl, eb, hl, rfl⟩


section
variable {X : Cx} {pins : List (Addr × Obj)} {σ : St} {H : Hp} {s : Shared} {a : Addr} {y v : V} {u r : Value} {o : Option V} {A : Around} {E : Value → Shared → Prop}

theorem Inv.big (I : Inv X pins σ H s) : sysModules < s.heap.objs.size := by
  have h : mainGlobals < s.heap.objs.size := (I.mod.glob.keeps I.bk).lt
  exact Nat.lt_trans (by decide) h

end

section
variable {X : Cx} {pins : List (Addr × Obj)} {σ : St} {H : Hp} {s : Shared} {a : Addr} {kvs : List (Key × V)} {k : Key} {u : Value} {A : Around} {E : Value → Shared → Prop}
end


section
variable {X : Cx} {o i e value : Expr} {pos pos' tpos : Pos} {td ty tv : TE}
end


/-! ### displays -/
theorem dk_empty {P : Program} {w : World} {H : Hp} (h : Heap) (hb : sysModules < h.objs.size) : ObjOk P w H (h.push { cls := .type "dict", data := .dict #[] }) h.objs.size (.dK []) :=
  ⟨Nat.zero_le _, beq_eq_false_iff_ne.mpr (Ne.symm (Nat.ne_of_lt hb)), [], .nil, Heap.DictOf.new h⟩
/-- {}, to be a dict of the kind that is wanted -/
def tDNewK : TE := fun _ H Q => ∀ p, H p = none → Q (.ref p) (upd H p (.dK []))
section
variable {X : Cx} {pos : Pos}
theorem pe_dnewK : PE X (.Dict [] [] pos) tDNewK := fun pins s σ H Q I h =>
  wpAny_Dict_empty ⟨.ref s.heap.objs.size, _, I.laid (a := s.heap.objs.size) (o := .dK []) (t' := s.toks) (fun _ _ q => Heap.get?_push_of_some _ q) (Nat.le_refl _) (dk_empty s.heap I.big), rfl, h _ (I.hok.fresh (Nat.le_refl _))⟩
end

section
variable {X : Cx} {pins : List (Addr × Obj)} {σ : St} {H : Hp} {s : Shared} {a : Addr} {y d : V} {u r : Value} {o : Option V} {A : Around} {E : Value → Shared → Prop}
end

section
variable {X : Cx} {o e f : Expr} {apos cpos : Pos} {td ty tx : TE}
end

/-! ### dict(d): a copy -/
section
variable {X : Cx} {pins : List (Addr × Obj)} {σ : St} {H : Hp} {s : Shared} {a : Addr} {kvs : List (Key × V)} {A : Around} {E : Value → Shared → Prop}
end


section
variable {X : Cx} {pins : List (Addr × Obj)} {σ : St} {H : Hp} {s : Shared} {a : Addr} {y : V} {u : Value} {A : Around} {E : Value → Shared → Prop}
end
end L2

namespace Att
open PySem PySem.W PySem.Calls PyProof.Rows

/-! ### the script -/
theorem ints_of_wellAll {P : Params} {h : Heap} : ∀ (ns : List Int) (vs : List Value), WellAll P h vs (ns.map WData.int) → IntsAre vs ns := by
  intro ns
  induction ns with
  | nil =>
    intro vs w
    rw [List.map_nil] at w
    cases w
    exact .nil
  | cons n ns ih =>
    intro vs w
    rw [List.map_cons] at w
    cases w with
    | cons a b =>
      cases a
      exact .cons _ _ (ih _ b)

theorem script_of {l : OpenLaw} {n : Nat} (hn : l.most = some n) {P : Params} {h : Heap} {args : List WData} {vals : List Value}
    (hpre : l.row.toRowW.claim.pre args = true) (hwl : WellAll P h vals args) :
    ∃ a vs ns, vals = [Value.ref a] ∧ args = [WData.list (ns.map WData.int)] ∧ h.get? a = some { cls := .type "list", data := .seq vs.toArray } ∧ IntsAre vs ns ∧ ns.length ≤ n := by
  have hsh : WShape.hasAll [] args [.list .int] = true := (pre_splitW hpre).1
  have hc : l.pre.holds [] { args := args } = true := (pre_splitW hpre).2
  obtain ⟨d, r, rfl, h1, h2⟩ := hasAllW_cons hsh
  obtain rfl := hasAllW_nil h2
  obtain ⟨xs, rfl, h3⟩ := hasW_list h1
  obtain ⟨ns, rfl⟩ := items_int h3
  have hlen : ns.length ≤ n := by
    unfold OpenLaw.pre at hc
    have h4 : (WTm.not (.lt (.lit (.int (n : Int))) (.len (.arg 0)))).holds [] { args := [.list (ns.map .int)] } = true := by
      have h4 := (holds_andW hc).1
      rw [hn] at h4
      exact h4
    have h5 := condW_of h4 (w_not (w_lt w_lit (w_len_list (w_arg rfl))))
    rw [List.length_map] at h5
    refine Nat.le_of_not_lt fun q => ?_
    have q' : (n : Int) < ((ns.length : Nat) : Int) := by omega
    first
      | (rw [decide_eq_true q'] at h5; exact absurd h5 (by decide))
      | (simp at h5; omega)
  cases hwl with
  | cons w1 w2 =>
    cases w2
    cases w1 with
    | list ho hall => exact ⟨_, _, ns, rfl, rfl, ho, ints_of_wellAll ns _ hall, hlen⟩

theorem post_true (l : OpenLaw) (args : List WData) : l.row.toRowW.claim.post args (.bool true) args = true :=
  postW_of (r := l.row.toRowW) (X := (true == true))
    (show WShape.has [] (.bool true) .bool = true by first | rfl | decide | simp [WShape.has, WShape.arms, WShape.armsAll])
    (show (WTm.eq .res (.lit (.bool true))).value [] { args := args, res := some (.bool true), after := args } = some (.bool (true == true)) from w_eq_bool (w_res rfl) w_lit) rfl

/-- the same from a codeAny of the CALL (for a layer whose function contracts speak of calls) -/
theorem attach_call {l : OpenLaw} {n : Nat} {q : Program} {loose : List Str} {XP : (Str → Option Value) → Heap → Prop} {YP : World → Heap → Prop} {d : DefRec}
    (hn : l.most = some n) (hdf : d.params.defaults = [])
    (call : ∀ (w : World) (s₀ s₁ : Shared) (mg mb : Str → Option Value) (fa : Addr) (o : Obj) (pm cd doc : Value) (a : Addr) (vs : List Value) (ns : List Int),
      Ground q loose [] XP w s₀ mg mb s₁.heap → YP w s₁.heap →
      s₁.heap.get? fa = some o → o.data = .func (docDef d.name d.params d.body d.scope pm cd doc) → s₁.heap.CodeRec cd d.name → mg d.name = some (.ref fa) →
      s₁.heap.get? a = some { cls := .type "list", data := .seq vs.toArray } → IntsAre vs ns → ns.length ≤ n → s₁.gens = #[] →
      codeAny (model l.prog w) callerA (.call (.ref fa) ⟨[.ref a], []⟩) (fun r s' => r = .ok (.ret (.bool true)) ∧ OldK s₁.heap s'.heap ∧ s'.os = s₁.os ∧ AllBare s'.gens) s₁) :
    WalkO q loose XP YP l.row.toRowW d [] (fun f vs => PySem.call f vs) := by
  intro w s₀ s₁ mg mb G Y fa o pm cd doc dV kV ho hd hcd hD hmg hg args vals as hpre hlay hrd hwl hlo
  obtain rfl : dV = .none := Dflts.none hD hdf
  obtain rfl : kV = .none := Dflts.noKw hD
  obtain ⟨a, vs, ns, rfl, rfl, hobj, hints, hlen⟩ := script_of hn hpre hwl
  refine enter_call (codeAny_mono (call w s₀ s₁ mg mb fa o pm cd doc a vs ns G Y ho (fd_plain hd) hcd hmg hobj hints hlen hg) fun r s' hq => ?_)
  obtain ⟨rfl, h2, h3, h4⟩ := hq
  exact ⟨.inl ⟨.bool true, .bool true, [], rfl, fun _ => rfl, .bool true, post_true l _, fun _ => ⟨List.Pairwise.nil, fun _ hm => (nomatch hm)⟩⟩, h2, h3, h4⟩

/-! ### rules over ANY heap (no ledger) from facts about the written part K: the library's own take a ledger (News) for what they write -/
section
variable {prog : Program} {w : World} {A : Around} {E : Value → Shared → Prop} {s : Shared} {K : Frag}

def ledger (h : Heap) (L d : Addr) : List (Addr × Obj) := (List.range h.objs.size).filterMap fun a => if a = L ∨ a = d then none else (h.get? a).map fun o => (a, o)
end
end Att

namespace L2
open PySem PySem.Spec PyProof.Rows
variable {q0 : Bool}

theorem vals_ints : ∀ {vs : List Value} {ns : List Int}, IntsAre vs ns → Vals (ns.map V.int) vs
  | _, _, .nil => .nil
  | _, _, .cons n t h => .cons ⟨t, rfl⟩ (vals_ints h)

/-- nothing is tracked but the script, known to the object (or it is an object of the module) -/
def Only (H : Hp) : Prop := ∀ b, H b = none ∨ ∃ o xs, H b = some (.frz o (.lst xs))

/-- THE HEAD: the law's promise, at the heap behind the top. F, the promise of the law's def, may use that base is part of the heap (so K.In base, base.Ns mainGlobals mg stand in Mod) -/
theorem law_call {P : Program} {w : World} {K : PySem.W.Frag} {mg mb : Str → Option Value} {CX : CXT} {k : Nat} {fa a : Addr} {fd : FuncData} {x : Str} {sp : Sp} {s₁ : Shared} {vs : List Value} {ns : List Int}
    (KX : K.In s₁.heap) (hns : s₁.heap.Ns mainGlobals mg) (hb : s₁.heap.Ns builtinsNs mb) (hbb : ∀ x : Str, x ≠ "__name__" → mb x = bootBuiltins x) (hlim : s₁.heap.NoLimit) (hg : s₁.gens = #[])
    (ha : s₁.heap.get? a = some { cls := .type "list", data := .seq vs.toArray }) (hi : IntsAre vs ns) (hl : ns.length ≤ sizeLine) (hr : Room q0 k callerA)
    (F : ∀ base : Heap, K.In base → base.Ns mainGlobals mg → FnOk q0 P w K mg base CX k fa fd [x] sp) (hbind : ∀ (s : Shared) (u : Value), BindsTo s fd ⟨[u], []⟩ [(x, u)])
    (hsp : ∀ H : Hp, Only H → SqL K H a (ns.map V.int) → sp [.ref a] H (fun v _ => v = .bl true) fun _ _ _ => False)
    (hCX : ∀ H e s', CX [] H s₁ (fun _ _ _ => False) e s' → False) :
    codeAny (model P w) callerA (.call (.ref fa) ⟨[.ref a], []⟩) (fun r s' => r = .ok (.ret (.bool true)) ∧ OldK s₁.heap s'.heap ∧ s'.os = s₁.os ∧ AllBare s'.gens) s₁ := by
  have rv := vals_ints hi
  have lenV := hi.length
  -- from an abstract heap in which nothing but the script may be tracked
  have core : ∀ H : Hp, Only H → SqL K H a (ns.map V.int) → HOk P w H s₁.heap → (∀ b, H b ≠ none → b = a) → (H a ≠ none → K.lookup a = none) →
      codeAny (model P w) callerA (.call (.ref fa) ⟨[.ref a], []⟩) (fun r s' => r = .ok (.ret (.bool true)) ∧ OldK s₁.heap s'.heap ∧ s'.os = s₁.os ∧ AllBare s'.gens) s₁ := by
    intro H hO hS hok hA hK
    have base_of : ∀ {b : Addr} {o : Obj}, s₁.heap.get? b = some o → H b = none → (hidT s₁.heap H).get? b = some o := fun e n => hidT_get e n
    have noA : ∀ {b : Addr} {o : Obj} {es : Array DictEntry} {ep : Nat}, s₁.heap.get? b = some o → o.data = .dict es ep → H b = none := fun {b o es ep} e d => by
      cases q : H b with
      | none => rfl
      | some u =>
        have e' : b = a := hA b (by rw [q]; simp)
        subst e'
        rw [ha] at e; cases e
        have d' : Data.seq vs.toArray _ = Data.dict es ep := d
        cases d'
    have nsK : ∀ {b : Addr} {m : Str → Option Value}, s₁.heap.Ns b m → (hidT s₁.heap H).Ns b m := fun {b m} ⟨o, es, ep, e, d, r⟩ => ⟨o, es, ep, base_of e (noA e d), d, r⟩
    have hKb : K.In (hidT s₁.heap H) := fun b o e => base_of (KX b o e) (by
      cases q : H b with
      | none => rfl
      | some u =>
        have e' : b = a := hA b (by rw [q]; simp)
        subst e'
        rw [hK (by rw [q]; simp)] at e; cases e)
    have hM : Mod K mg (hidT s₁.heap H) := ⟨hKb, nsK hns, ⟨mb, nsK hb, hbb⟩, let ⟨mc, h1, h2⟩ := hlim; ⟨mc, nsK h1, h2⟩⟩
    have e0 : Env0 P w K mg (hidT s₁.heap H) callerA [] s₁ H := ⟨rfl, hM, fun b o e => of_hidT e, Nat.le_of_eq (hidT_size _ _), trivial, fun b hb => absurd (show b ∈ ([] : List Addr) from hb) (by simp), hok, .of_eq hg⟩
    refine codeAny_mono ((F _ hKb (nsK hns)).run callerA [] s₁ H ⟨[.ref a], []⟩ [.ref a] [.ref a] _ _ hr e0 (hbind s₁ (.ref a)) (.cons rfl .nil) (hsp H hO hS)) fun r s' h => ?_
    cases r with
    | error e => exact (hCX H e s' h).elim
    | ok fl =>
      cases fl with
      | next => exact False.elim h
      | brk => exact False.elim h
      | cont => exact False.elim h
      | ret u =>
        obtain ⟨v, H', os, bare, un, hok', r', q⟩ := h
        have q' : v = .bl true := q
        subst q'
        obtain rfl : u = Value.bool true := r'
        refine ⟨rfl, OldK.of_keep fun b o e => ?_, os, bare⟩
        cases q : H b with
        | none => exact un.keep b o e q (by intro z; exact absurd (show b ∈ ([] : List Addr) from z) (by simp)) (by simp)
        | some u =>
          rcases hO b with z | ⟨ob, xs, z⟩
          · rw [q] at z; cases z
          · have z2 := un.frzs b ob _ z
            obtain ⟨e1, _⟩ := hok b _ z
            obtain ⟨e2, _⟩ := hok' b _ z2
            rw [e] at e1; cases e1
            exact e2
  cases hk : K.lookup a with
  | some o =>
    -- the script is one of the module's own objects
    have e := KX a o hk
    rw [ha] at e
    cases e
    refine core (fun _ => none) (fun _ => .inl rfl) (.inr ⟨_, vs.toArray, _, hk, rfl, rfl, rfl, by rw [List.size_toArray, lenV]; exact hl, by simpa using rv⟩) (fun b u z => by have z' : (none : Option HO) = some u := z; cases z') (fun b z => absurd rfl z) fun z => absurd rfl z
  | none =>
    refine core (fun b => if b = a then some (.frz { cls := .type "list", data := .seq vs.toArray } (.lst (ns.map V.int))) else none) (fun b => ?_) (.inl (.inr ⟨{ cls := .type "list", data := .seq vs.toArray }, if_pos rfl⟩)) (fun b u z => ?_) (fun b z => ?_) fun _ => hk
    · by_cases hb : b = a
      · exact .inr ⟨_, _, if_pos hb⟩
      · exact .inl (if_neg hb)
    · by_cases hb : b = a
      · have z' := (if_pos hb).symm.trans z
        cases z'
        subst hb
        exact ⟨ha, by rw [List.length_map]; exact hl, vs, _, rv, ha⟩
      · have z' := (if_neg hb).symm.trans z
        cases z'
    · by_cases hb : b = a
      · exact hb
      · exact absurd (if_neg hb) z
end L2

namespace L2
open PySem PySem.Spec PyProof.Rows
variable {q0 : Bool}

abbrev KOf {K : PySem.W.Frag} {h : Heap} (_ : K.In h) : PySem.W.Frag := K

/-- the goal that k_head leaves (case hc), from the law's promise. F gives the function object fd (K's own) once, then the promise over every base -/
theorem walk_of {l : PySem.W.OpenLaw} {n k : Nat} {q : Program} {loose : List Str} {XP : (Str → Option Value) → Heap → Prop} {YP : World → Heap → Prop} {d : DefRec} {K : Params → PySem.W.Frag} {CX : World → CXT} {sp : World → Sp} {x : Str}
    (hn : l.most = some n) (hn2 : n ≤ sizeLine) (hdf : d.params.defaults = []) (hr : Room q0 k callerA)
    (hY : ∀ (w : World) (h : Heap), YP w h → (K w.params).In h)
    (F : ∀ (w : World) (mg : Str → Option Value) (fa : Addr) (h : Heap), (K w.params).In h → h.Ns mainGlobals mg → mg d.name = some (.ref fa) →
      ∃ fd : FuncData, (∀ (s : Shared) (u : Value), BindsTo s fd ⟨[u], []⟩ [(x, u)]) ∧
        ∀ base : Heap, (K w.params).In base → base.Ns mainGlobals mg → FnOk q0 l.prog w (K w.params) mg base (CX w) k fa fd [x] (sp w))
    (hsp : ∀ (w : World) (H : Hp) (a : Addr) (ns : List Int), ns.length ≤ n → Only H → SqL (K w.params) H a (ns.map V.int) → sp w [.ref a] H (fun v _ => v = .bl true) fun _ _ _ => False)
    (hCX : ∀ (w : World) (H : Hp) (s : Shared) (e : Value) (s' : Shared), CX w [] H s (fun _ _ _ => False) e s' → False) :
    PySem.W.WalkO q loose XP YP l.row.toRowW d [] (fun f vs => PySem.call f vs) := by
  refine Att.attach_call hn hdf fun w s₀ s₁ mg mb fa o pm cd doc a vs ns G Y ho hd hcd hmg hobj hints hlen hg => ?_
  have KX := hY w _ Y
  obtain ⟨fd, hb, hF⟩ := F w mg fa _ KX G.T.g hmg
  exact law_call KX G.T.g G.T.b G.T.builtins G.T.nolimit hg hobj hints (Nat.le_trans hlen hn2) hr hF hb (fun H hO hS => hsp w H a ns hlen hO hS) fun H e s' => hCX w H s₁ e s'
end L2

/- THE LAST THEOREM (shape; LID, My.* are yours):
   My.Adr: a structure of the addresses that your layer names (classes, functions); My.Txt K t: a structure (Prop) of the equations over K;
   My.txt_mk : {K} {implicit addresses ..} (e1 : nsIn K mainGlobals "law" = some (some (.ref f))) (e2 : K.lookup f = some ⟨oc, od, .func (fnOf "law" "law" params body scope dV kV doc pm an cdv ct), sl⟩) (e3 : codeIn K cdv "law" = true) .. : ∃ t, My.Txt K t

set_option maxRecDepth 100000 in
set_option maxHeartbeats 0 in
theorem PySem.Challenge.cw_LID_holds : PySem.Challenge.rw_LID.Holds := by
  w_on; o_law; k_head; (case hw => w_witness2)
  k_fill
  refine L2.walk_of (l := PySem.Challenge.rw_LID) (n := 63) (k := 40) (x := "script") (CX := fun w => ..) (sp := fun _ => My.sp_law) rfl (by decide) rfl ⟨rfl, by decide, by decide⟩ (fun w h Y => PySem.W.kIn_of Y) ?F ?S ?C
  case F =>
    intro w mg fa h KX G hmg
    have T : ∃ t, My.Txt (L2.KOf KX) t := by
      dsimp only [L2.KOf]                          -- K must stand as «<heap const> w.params» for k_is
      refine' My.txt_mk ?e1 ?e2 ?e3 ..
      (case e1 => PySem.W.k_is)                    -- in the order: a name -> its address -> its object -> its parts
      (case e2 => PySem.W.k_is)
      ..
    obtain ⟨t, T⟩ := T
    have e0 := hmg.symm.trans (PySem.W.mg_of KX G T.law)
    cases e0                                       -- fa is the law's own address
    exact ⟨_, fun s u => .of_eq rfl, fun base kb nb => My.law_fn T kb nb⟩     -- if «.of_eq rfl» comes too early: refine' ⟨_, ?b, fun base kb nb => My.law_fn T kb nb⟩; exact fun s u => .of_eq rfl
  case S => exact fun w H a ns hl hO hS => ..
  case C => exact ..
(the tactic k_is has no namespace: write k_is) -/

/-! SHORT WORDS over the layer: a def of the text, its body, what a loop and a test want. -/
namespace L2
open PySem PySem.Spec PyProof.Rows
variable {q0 : Bool}

/-! ### the text by places -/
/-- the j-th statement of a class's body -/
def inClass (s : Stmt) (j : Nat) : Stmt := match s with
  | .ClassDef _ _ _ body _ _ _ _ _ _ _ => body.getD j (.Pass ⟨0, 0, 0, 0⟩)
  | _ => .Pass ⟨0, 0, 0, 0⟩
def defArgs (s : Stmt) : Arguments := match s with
  | .FunctionDef _ a _ _ _ _ _ _ _ _ => a
  | _ => { posonlyargs := [], args := [], vararg := none, kwonlyargs := [], kw_defaults := [], kwarg := none, defaults := [] }
def defBody (s : Stmt) : List Stmt := match s with
  | .FunctionDef _ _ b _ _ _ _ _ _ _ => b
  | _ => []
def defScope (s : Stmt) : Scope := match s with
  | .FunctionDef _ _ _ _ _ _ sc _ _ _ => sc
  | _ => { kind := .function, names := [], isGenerator := false, isCoroutine := false }

/-! ### no exception leaves a def -/
abbrev CX0 : CXT := fun _ _ _ _ _ _ => False
/-! ### a def (or method) of the text as it stands behind the top -/
structure Fun (K : PySem.W.Frag) (x qual : Str) (st : Stmt) (f : Addr) (fd : FuncData) : Prop where
  ex : ∃ (oc : Value) (od : Option Addr) (kV doc pm : Value) (an : Option Addr) (cdv ct : Value) (osl : Array (Option Value)),
    fd = PySem.W.fnOf x qual (defArgs st) (defBody st) (defScope st) .none kV doc pm an cdv ct ∧ K.lookup f = some ⟨oc, od, .func fd, osl⟩ ∧ PySem.W.codeIn K cdv qual = true
  kp : PySem.W.keepIn K (.ref f) = true
section
variable {P : Program} {w : World} {K : PySem.W.Frag} {mg : Str → Option Value} {base : Heap}
/-- THE RULE for a def: its body as a term of rules, and the reading of that term -/
theorem Fun.ok {x qual : Str} {st : Stmt} {f : Addr} {fd : FuncData} {N ps : List Str} {k : Nat} {sp : Sp} (F : Fun K x qual st f fd) (S : FnScope N ps (defScope st)) (len : ∀ vs H Q E, sp vs H Q E → vs.length = ps.length)
    (hbody : ∀ (cdv : Value) (A : Around) (outer : List Env) (s : Shared) (H : Hp) (vs : List V) (Q : VK) (E : XK), Room q0 k (A.deeper (envOfC qual (defScope st) s.heap.objs.size f cdv)) → sp vs H Q E →
      ∃ t, PSs (cxOf q0 CX0 P w K mg base N qual (defScope st) f cdv A outer s H E).nox (defBody st) t ∧ t { nx := fun _ H' => Q .non H', rt := Q } (start N vs) H) : FnOk q0 P w K mg base CX0 (k + 1) f fd ps sp := by
  obtain ⟨oc, od, kV, doc, pm, an, cdv, ct, osl, rfl, lk, hcd⟩ := F.ex
  refine fn_of lk hcd S len fun A outer s H vs Q E hr hsp => ?_
  obtain ⟨t, h, q⟩ := hbody cdv A outer s H vs Q E hr hsp
  exact ⟨t, h.nox, q⟩
/-- how its arguments bind (no defaults): h is «fun _ _ _ _ _ _ us hl => match us, hl with | [_, _], _ => rfl», one _ a parameter -/
theorem Fun.binds {x qual : Str} {st : Stmt} {f : Addr} {fd : FuncData} {ps : List Str} (F : Fun K x qual st f fd)
    (h : ∀ (kV doc pm : Value) (an : Option Addr) (cdv ct : Value) (us : List Value), us.length = ps.length → bindArgs (PySem.W.fnOf x qual (defArgs st) (defBody st) (defScope st) .none kV doc pm an cdv ct) ⟨us, []⟩ = pure (ps.zip us)) : Binds K fd ps [] := by
  obtain ⟨oc, od, kV, doc, pm, an, cdv, ct, osl, rfl, lk, hcd⟩ := F.ex
  exact .all (h kV doc pm an cdv ct)
theorem fun_mk {x qual : Str} {st : Stmt} {f : Addr} {oc : Value} {od an : Option Addr} {osl : Array (Option Value)} {kV doc pm cdv ct : Value} (l : K.lookup f = some ⟨oc, od, .func (PySem.W.fnOf x qual (defArgs st) (defBody st) (defScope st) .none kV doc pm an cdv ct), osl⟩)
    (c : PySem.W.codeIn K cdv qual = true) (k : PySem.W.keepIn K (.ref f) = true) : Fun K x qual st f (PySem.W.fnOf x qual (defArgs st) (defBody st) (defScope st) .none kV doc pm an cdv ct) := ⟨⟨oc, od, kV, doc, pm, an, cdv, ct, osl, rfl, l, c⟩, k⟩
end
/-! ### expressions in short: the name that stands in the i-th slot -/
section
variable {X : Cx}
theorem pv (i : Nat) {x : Str} {pos : Pos} (hN : X.N[i]? = some x := by rfl) (hv : Vis X.env.scope x := by first | exact Or.inl rfl | exact Or.inr (Or.inl rfl) | exact Or.inr (Or.inr rfl)) (hd : (x == ("__debug__" : Str)) = false := by decide)
    (hcd : (x == ("__classdict__" : Str)) = false := by decide) : PE X (.Name x pos) (tVar i) := pe_var hN hv hd hcd
end

/-! ### tests -/
theorem iteF {A B : Prop} (h : B) : if false = true then A else B := by
  rw [if_neg Bool.false_ne_true]
  exact h
theorem iteT {A B : Prop} (h : A) : if true = true then A else B := by
  rw [if_pos rfl]
  exact h
theorem ite2 {c A B : Prop} [Decidable c] (h1 : c → A) (h2 : ¬ c → B) : if c then A else B := by
  by_cases h : c
  · rw [if_pos h]
    exact h1 h
  · rw [if_neg h]
    exact h2 h
/-! ### heaps -/
/-- all that was tracked is as it was -/
def Same (H H' : Hp) : Prop := ∀ b o, H b = some o → H' b = some o
theorem Same.refl (H : Hp) : Same H H := fun _ _ h => h
theorem Same.trans {H H1 H2 : Hp} (a : Same H H1) (b : Same H1 H2) : Same H H2 := fun c o h => b c o (a c o h)
theorem Same.free {H H' : Hp} (e : Same H H') {l : Addr} (h : H' l = Option.none) : H l = Option.none := by
  cases q : H l with
  | none => rfl
  | some o =>
    rw [e l o q] at h
    cases h
theorem Same.seq {K : PySem.W.Frag} {H H' : Hp} {a : Addr} {xs : List V} (e : Same H H') (h : SqL K H a xs) : SqL K H' a xs := by
  rcases h with (h | ⟨o, h⟩) | h
  · exact .inl (.inl (e _ _ h))
  · exact .inl (.inr ⟨o, e _ _ h⟩)
  · exact .inr h

end L2

set_option maxRecDepth 100000
namespace XL
open PySem

/-- an exception in the heap: its class, its dict, its newest traceback entry (not in flight) -/
def Xat (h : Heap) (e : Addr) (cls : Value) (od tb : Option Addr) : Prop :=
  ∃ oe vs, h.get? e = some oe ∧ oe.cls = cls ∧ oe.dict = od ∧ oe.data = .fields vs ∧ 1 < vs.size ∧
    ((tb = none ∧ vs[1]? = some Value.none) ∨ ∃ T oT ts, tb = some T ∧ vs[1]? = some (.ref T) ∧ T ≠ e ∧ h.get? T = some oT ∧ oT.data = .fields ts ∧ ts[3]? = some Value.none)

/-- what a passing exception changes: itself, its entry, the frames' slots -/
structure Stp (fs : List Addr) (e : Addr) (tb : Option Addr) (h h' : Heap) : Prop where
  keep : ∀ b o, h.get? b = some o → b ≠ e → tb ≠ some b → b ∉ fs → h'.get? b = some o
  slot : ∀ b o, h.get? b = some o → b ∈ fs → ∃ sl, h'.get? b = some { o with slots := sl }

abbrev frsOf (l : List Env) : List Addr := l.filterMap (·.frame)

theorem dict_mapF (o : Obj) (f : Array Value → Array Value) : (o.mapFields f).dict = o.dict := by
  obtain ⟨c, d, dt, sl⟩ := o
  cases dt <;> rfl

section
variable {M : Model} {A : Around} {E : Value → Shared → Prop} {s : Shared}

theorem entry_x {base : Heap} {env : Env} {outer : List Env} {L e : Addr} {oe : Obj} {vs : Array Value} {hd : Value} {nx : Bool} {cls : Value} {od tb : Option Addr} {g : Heap} {Q : Unit → Shared → Prop}
    (fr : A.frames = some (env :: outer)) (ff : s.heap.FunFrames base (env :: outer)) (fL : env.frame = some L)
    (ge : s.heap.get? e = some oe) (de : oe.data = .fields vs) (se : 1 < vs.size) (ce : oe.cls = cls) (oo : oe.dict = od)
    (st : Stp (frsOf (env :: outer)) e tb g s.heap) (sz : g.objs.size ≤ s.heap.objs.size)
    (k : ∀ h' T, Stp (frsOf (env :: outer)) e tb g h' → g.objs.size ≤ T → Xat h' e cls od (some T) → Q () { s with heap := h' }) :
    wpAny M A (do let a ← frameOf env; let pl ← entryPlaceOf L nx; let b ← EntryCells.newEntry hd a .none (rawInt L) .none pl; setField (.ref e) 1 b) (fun _ s' => wpAny M A (setFlight (.ref e) none) Q E s') E s := by
  have nef : e ∉ frsOf (env :: outer) := fun hm => by
    obtain ⟨_, o, ho, hnf⟩ := ff.mem hm
    have z := ge.symm.trans ho
    cases z
    exact hnf vs de
  refine wpAny_bind (wpAny_frameOf_fun fr ff fL fun h1 so => ?_)
  refine wpAny_bind (wpAny_entryPlaceOf fun pl ip => ?_)
  unfold EntryCells.newEntry newFields
  refine wpAny_bind (wpAny_newObj_type ?_ (ip.sizeOk5 _ _ _ _ _))
  have e1 : h1.get? e = some oe := (so.2.1 e nef).trans ge
  generalize eT : ({ cls := .type "traceback", dict := none, data := .fields ([hd, .ref L, .none, rawInt L, .none] ++ (if pl.isEmpty then List.replicate 6 Value.none else pl)).toArray } : Obj) = oT
  have dT : oT.data = .fields ([hd, .ref L, .none, rawInt L, .none] ++ (if pl.isEmpty then List.replicate 6 Value.none else pl)).toArray := by rw [← eT]
  have fT : oT.isFreed = false := by rw [← eT]; rfl
  have e2 : (h1.push oT).get? e = some oe := Heap.get?_push_of_some oT e1
  refine wpAny_setField e2 de se ?_
  have nTe : h1.objs.size ≠ e := Nat.ne_of_gt (Heap.lt_size e1)
  have d3 := Obj.data_mapFields de (·.setIfInBounds 1 (Value.ref h1.objs.size))
  have e3 := Heap.get?_update_self (Obj.mapFields (·.setIfInBounds 1 (Value.ref h1.objs.size))) e2 (Obj.isFreed_of_fields d3)
  have T3 : ((h1.push oT).update e (Obj.mapFields (·.setIfInBounds 1 (Value.ref h1.objs.size)))).get? h1.objs.size = some oT :=
    (Heap.get?_update_other (h1.push oT) _ (Ne.symm nTe)).trans (Heap.get?_push_size h1 fT)
  unfold setFlight
  refine wpAny_bind (wpAny_field e3 d3 (x := .ref h1.objs.size) (by simp [se]) ?_)
  rw [if_pos (show (Value.ref h1.objs.size != Value.none) = true from by simp)]
  refine wpAny_setField T3 dT (by simp only [List.size_toArray, List.length_append, List.length_cons, List.length_nil] <;> omega) (k _ h1.objs.size ?_ ?_ ?_)
  · have go : ∀ b o, b ≠ e → h1.get? b = some o → (((h1.push oT).update e (Obj.mapFields (·.setIfInBounds 1 (Value.ref h1.objs.size)))).update h1.objs.size
        (Obj.mapFields (·.setIfInBounds 3 ((none : Option Addr).elim Value.none fun f => rawInt f)))).get? b = some o := fun b o be hb => by
      have bT : h1.objs.size ≠ b := Nat.ne_of_gt (Heap.lt_size hb)
      rw [Heap.get?_update_other _ _ bT, Heap.get?_update_other _ _ (Ne.symm be)]
      exact Heap.get?_push_of_some oT hb
    refine ⟨fun b o hb be bt bf => go b o be ((so.2.1 b bf).trans (st.keep b o hb be bt bf)), fun b o hb bf => ?_⟩
    obtain ⟨sl, h2⟩ := st.slot b o hb bf
    obtain ⟨sl2, h3⟩ := so.2.2 b _ h2
    exact ⟨sl2, go b _ (fun z => nef (z ▸ bf)) h3⟩
  · rw [so.1]; exact sz
  · refine ⟨_, _, ?_, (Obj.cls_mapFields _ _).trans ce, (dict_mapF _ _).trans oo, d3, by simp [se], .inr ⟨h1.objs.size, _, _, rfl, by simp [se], nTe, Heap.get?_update_self _ T3 (Obj.isFreed_of_fields (Obj.data_mapFields dT _)), Obj.data_mapFields dT _, ?_⟩⟩
    · rw [Heap.get?_update_other _ _ nTe]
      exact e3
    · first | (simp; done) | (rcases ip with rfl | ⟨_, _, _, _, _, _, _, rfl⟩ <;> simp)

/-- an exception is noted at a frame, and put down -/
theorem note_x {base : Heap} {env : Env} {outer : List Env} {L e : Addr} {cls : Value} {od tb : Option Addr} {Q : Unit → Shared → Prop}
    (fr : A.frames = some (env :: outer)) (ff : s.heap.FunFrames base (env :: outer)) (fL : env.frame = some L) (x : Xat s.heap e cls od tb)
    (k : ∀ h' T, Stp (frsOf (env :: outer)) e tb s.heap h' → s.heap.objs.size ≤ T → Xat h' e cls od (some T) → Q () { s with heap := h' }) :
    wpAny M A (noteFrame (.ref e) env) (fun _ s' => wpAny M A (setFlight (.ref e) none) Q E s') E s := by
  obtain ⟨oe, vs, ge, ce, oo, de, se, y⟩ := x
  unfold noteFrame
  simp only [fL]
  rcases y with ⟨rfl, h1⟩ | ⟨T, oT, ts, rfl, h1, nTe, gT, dT, h3⟩
  · refine wpAny_bind (wpAny_field ge de h1 ?_)
    rw [if_neg (by decide)]
    exact entry_x fr ff fL ge de se ce oo ⟨fun b o hb _ _ _ => hb, fun b o hb _ => ⟨o.slots, hb⟩⟩ (Nat.le_refl _) k
  · refine wpAny_bind (wpAny_field ge de h1 ?_)
    rw [if_pos (show (Value.ref T != Value.none) = true from by simp)]
    refine wpAny_bind (wpAny_field gT dT h3 ?_)
    rw [if_neg (show ¬ ((Value.none == rawInt L) = true) from by simp [rawInt])]
    refine wpAny_bind (wpAny_setField gT dT (Array.getElem?_eq_some_iff.mp h3).1 ?_)
    have ot : ∀ b, b ≠ T → (s.heap.update T (Obj.mapFields (·.setIfInBounds 3 Value.none))).get? b = s.heap.get? b := fun b hb => Heap.get?_update_other _ _ (Ne.symm hb)
    have nr : ∀ b o, s.heap.get? b = some o → (∀ vs, o.data ≠ .fields vs) → b ≠ T := fun b o hb hn q => by
      rw [q] at hb
      have z := gT.symm.trans hb
      cases z
      exact hn ts dT
    refine entry_x (g := s.heap) fr (ff.of_keeps fun b o hb hn => ⟨o, (ot b (nr b o hb hn)).trans hb, rfl⟩) fL ((ot e (Ne.symm nTe)).trans ge) de se ce oo
      ⟨fun b o hb _ bt _ => (ot b fun z => bt (congrArg some z.symm)).trans hb, fun b o hb bf => ⟨o.slots, ?_⟩⟩ (Nat.le_of_eq (Heap.size_after_update ..).symm) k
    · obtain ⟨_, o', ho', hn⟩ := ff.mem bf
      have z := hb.symm.trans ho'
      cases z
      exact (ot b (nr b _ hb hn)).trans hb
end
end XL

set_option maxRecDepth 100000
namespace XL
open PySem

section
variable {prog : Program} {w : World} {A : Around} {E : Value → Shared → Prop} {h : Heap} {g : Array GenState} {d : Drawn} {t : Nat} {os : OsState}
variable {nm qn : Str} {C N : Addr} {bs bm bmB : List Value} {hz : Bool} {sn : List Str} {sub : List Value} {ab : Bool} {col : Option Bool} {dd : Option Addr} {k0 k1 k2 k3 k5 : Option Value} {B ni ii : String}

theorem tcall_xinit (F : ExcBaseFacts B ni ii bmB) (T : OwnTail h bmB bm) {us : List Value} {fI : Addr} {oI : Obj} {Q : Fin → Shared → Prop}
    (gC : h.get? C = some (excClassObj nm qn C N bs bm hz sn sub ab col dd k0 k1 k2 k3 k5 ni))
    (hi : ∀ (A' : Around) (Q' : Option Value → Shared → Prop) (E' : Value → Shared → Prop) (s' : Shared), (∀ b o, h.get? b = some o → s'.heap.get? b = some o) → Q' (some (.ref fI)) s' → wpAny (model prog w) A' (typeLookup (.ref C) "__init__") Q' E' s')
    (gI : h.get? fI = some oI) (cI : oI.cls = .type "function") (lu : us.length ≤ sizeLine)
    (k : ∀ h' e, Heap.MadeExcOf h h' e (.ref C) us → h.objs.size ≤ e →
      wpAny (model prog w) A (call (.ref fI) (.ref e :: us)) (fun r s' => r = .none ∧ Q (.done (.ret (.ref e))) s') E ⟨h', g, d, t, os⟩) :
    wpAny (model prog w) A (Builtin.«type.__call__» ⟨.ref C :: us, []⟩) Q E ⟨h, g, d, t, os⟩ := by
  repeat (first | with_reducible refine wpAny_loadPart_at gC ?_ | with_reducible refine wpAny_madeBy_exc gC ?_ | wp_step)
  refine codeAny_call_builtin_code (Code.quiet_builtin _ F.quiet) (wpAny_check_new_subT F T gC ?_)
  refine codeAny_exc_new_subT F T gC ?_ lu
  show wpAny _ _ _ _ _ _
  generalize e1 : ({ cls := .type "tuple", data := .seq us.toArray } : Obj) = oT
  have fT : oT.isFreed = false := by rw [← e1]; rfl
  generalize e2 : ({ cls := .ref C, data := .fields #[.ref h.objs.size, .none, .none, .none, .bool false, .none] } : Obj) = oE
  have fE : oE.isFreed = false := by rw [← e2]; rfl
  have up : ∀ b o, h.get? b = some o → ((h.push oT).push oE).get? b = some o := fun b o q => Heap.get?_push_of_some oE (Heap.get?_push_of_some oT q)
  have gC' := up _ _ gC
  have gI' := up _ _ gI
  have gE : ((h.push oT).push oE).get? (h.objs.size + 1) = some oE := by
    have z := Heap.get?_push_size (h.push oT) fE
    rwa [Heap.size_push] at z
  have cE : oE.cls = .ref C := by rw [← e2]
  have me : (Value.ref C :: bm).contains (.ref C) = true := by simp
  unfold isInstance
  repeat (first | (with_reducible refine wpAny_loadPart_at gE ?_; rw [cE]) | (with_reducible refine wpAny_isSubtype_exc gC' ?_; rw [me]) | wp_step)
  show wpAny _ _ (typeLookup (.ref C) _) _ _ _
  refine hi _ _ _ _ up ?_
  refine wpAny_holding (wpAny_bind ?_)
  unfold bindSpecial
  refine wpAny_bind (wpAny_typeOf (T := "function") ⟨_, gI', cI⟩ ?_)
  rw [if_pos (by decide)]
  refine wpAny_pure (wpAny_bind (wpAny_mono (k _ (h.objs.size + 1) ⟨up, Heap.get?_none_of_le (Nat.le_succ _), h.objs.size, ?_, Heap.get?_none_of_le (Nat.le_refl _), ?_⟩ (Nat.le_succ _)) (fun r s' z => ?_) fun _ _ x => x))
  · rw [e2]; exact gE
  · rw [e1]; exact Heap.get?_push_of_some oE (Heap.get?_push_size h fT)
  · obtain ⟨rfl, z⟩ := z
    wp_walk
    exact z

theorem call_xinit (F : ExcBaseFacts B ni ii bmB) (T : OwnTail h bmB bm) {us : List Value} {fI : Addr} {oI : Obj} {Q : Value → Shared → Prop}
    (gC : h.get? C = some (excClassObj nm qn C N bs bm hz sn sub ab col dd k0 k1 k2 k3 k5 ni))
    (hi : ∀ (A' : Around) (Q' : Option Value → Shared → Prop) (E' : Value → Shared → Prop) (s' : Shared), (∀ b o, h.get? b = some o → s'.heap.get? b = some o) → Q' (some (.ref fI)) s' → wpAny (model prog w) A' (typeLookup (.ref C) "__init__") Q' E' s')
    (gI : h.get? fI = some oI) (cI : oI.cls = .type "function") (lu : us.length ≤ sizeLine)
    (k : ∀ h' e, Heap.MadeExcOf h h' e (.ref C) us → h.objs.size ≤ e →
      wpAny (model prog w) (A.under (.builtin "type.__call__" ⟨.ref C :: us, []⟩)) (call (.ref fI) (.ref e :: us)) (fun r s' => r = .none ∧ Q (.ref e) s') E ⟨h', g, d, t, os⟩) :
    wpAny (model prog w) A (call (.ref C) us) Q E ⟨h, g, d, t, os⟩ := by
  have a1 := tc_lookup
  have a2 := tc_bind (.ref C)
  have ty : (⟨h, g, d, t, os⟩ : Shared).TypeIs (.ref C) "type" := ⟨_, gC, rfl⟩
  refine wpAny_call (codeAny_of_tree ?_)
  show wpAny _ _ (callAny (.ref C) _) _ _ _
  repeat (any_goals (first | assumption | with_reducible refine wpAny_loadPart_at gC ?_ | wp_step))
  refine ⟨rfl, ?_⟩
  refine codeAny_call_builtin_at (Code.quiet_builtin _ (by decide +kernel)) entry_typeCall (wpAny_check_type_call_sub gC (tcall_xinit F T gC hi gI cI lu fun h' e hm hs => ?_))
  exact k h' e hm hs

/-- raising what was just made, its attributes stored -/
theorem raise_x {M : Model} {s : Shared} {env : Env} {x : Sem Value} {Q : Flow → Shared → Prop} (hh : A.handled = none)
    (k : wpAny M A x (fun v s1 => ∃ e od C nm qn N bs bm hz sn sub ab col dd k0 k1 k2 k3 k5 ni, v = .ref e ∧ bm.contains (.type "BaseException") = true ∧ s1.heap.get? C = some (excClassObj nm qn C N bs bm hz sn sub ab col dd k0 k1 k2 k3 k5 ni) ∧ Xat s1.heap e (.ref C) od none ∧ E (.ref e) s1) E s) :
    wpAny M A (raiseStmt env (some x) none) Q E s := by
  unfold raiseStmt
  refine wpAny_bind (wpAny_mono k (fun v s1 z => ?_) fun _ _ x => x)
  obtain ⟨e, od, C, nm, qn, N, bs, bm, hz, sn, sub, ab, col, dd, k0, k1, k2, k3, k5, ni, rfl, bB, gC, ⟨oe, vs, ge, ce, oo, de, se, y⟩, zE⟩ := z
  have me : (Value.ref C :: bm).contains (.type "BaseException") = true := by rw [List.contains_cons, bB, Bool.or_true]
  obtain ⟨hp, g, d, tk, os⟩ := s1
  rcases y with ⟨_, y1⟩ | ⟨T, _, _, z, _⟩
  · repeat (first | (with_reducible refine wpAny_loadPart_at ge ?_; rw [ce]) | with_reducible refine wpAny_loadPart_at gC ?_ | (with_reducible refine wpAny_isSubtype_exc gC ?_; rw [me]) | wp_step)
    rw [de]
    refine wpAny_pure ?_
    rw [y1]
    refine wpAny_pure ?_
    rw [if_neg (by decide)]
    exact wpAny_pure (wpAny_raiseNew_none hh zE)
  · cases z
end
end XL

set_option maxRecDepth 100000
namespace XL
open PySem PySem.W PySem.Calls PyProof.Rows Builtin Builtin.ObjectAttr

/-- the line of ValueError -/
def vErr : List Value := [.type "ValueError", .type "Exception", .type "BaseException", .type "object"]
/-- own classes, then ValueError's own line -/
def excLine : List Value → Bool
  | [] => false
  | .ref c :: r => excLine r || ((.ref c :: r : List Value) == vErr)
  | v :: r => (v :: r) == vErr
def excOver (K : Frag) (C : Addr) : Bool := (clsIn K C).any fun cd => excLine cd.mro
theorem line_pass (self : Value) : ∀ {l : List Value}, excLine l = true → refuseLoop self "__setattr__" l = pure ()
  | [], e => by cases e
  | v :: r, e => by
    have last : ((v :: r : List Value) == vErr) = true → refuseLoop self "__setattr__" (v :: r) = pure () := fun z => by
      rw [eq_of_beq z]
      exact PySem.F.store_ValueError.passes self
    cases v with
    | ref c =>
      rcases Bool.or_eq_true_iff.mp e with z | z
      · rw [refuseLoop_ref]
        exact line_pass self z
      · exact last z
    | _ => exact last e
theorem line_has : ∀ {l : List Value}, excLine l = true → l.contains (.type "object") = true ∧ l.contains (.type "BaseException") = true ∧ l.isEmpty = false
  | [], e => by cases e
  | v :: r, e => by
    have last : ((v :: r : List Value) == vErr) = true → (v :: r).contains (.type "object") = true ∧ (v :: r).contains (.type "BaseException") = true ∧ (v :: r).isEmpty = false := fun z => by
      rw [eq_of_beq z]
      exact ⟨by decide +kernel, by decide +kernel, rfl⟩
    cases v with
    | ref c =>
      rcases Bool.or_eq_true_iff.mp e with z | z
      · obtain ⟨a, b, _⟩ := line_has z
        exact ⟨by rw [List.contains_cons, a, Bool.or_true], by rw [List.contains_cons, b, Bool.or_true], rfl⟩
      · exact last z
    | _ => exact last e

/-- what is asked of an own error class under ValueError -/
structure XC (K : Frag) (C : Addr) : Prop where
  over : excOver K C = true
  hd : hasDictIn K C = true
  sa : findIn K (.ref C) "__setattr__" = some (some (.builtin "object.__setattr__"))
  ga : findIn K (.ref C) "__getattribute__" = some (some (.builtin "BaseException.__getattribute__"))
  gh : findIn K (.ref C) "__getattr__" = some none
  ca : findIn K (.ref C) "__class__" = some (some (.builtin "object.__class__"))
  cg : specialIn K (.builtin "object.__class__") "__get__" = some (some (.builtin "getset_descriptor.__get__"))
  ct : takesIn K (.builtin "object.__class__") = some true

section
variable {prog : Program} {w : World} {A : Around} {E : Value → Shared → Prop} {s : Shared} {K : Frag} {x C dx : Addr} {ox : Obj} {od : Option Obj} {name : Str} {v : Value} {R : Result → Shared → Prop}

theorem XC.mro (c : XC K C) : ∃ cd, clsIn K C = some cd ∧ excLine cd.mro = true ∧ cd.hasDict = true := by
  obtain ⟨cd, h1, h2⟩ := any_some c.over
  obtain ⟨cd', h3, h4⟩ := any_some c.hd
  rw [h1] at h3
  cases h3
  exact ⟨cd, h1, h2, h4⟩
theorem XC.isObj (c : XC K C) : mroIn K C (.type "object") = some true := by
  obtain ⟨cd, h1, h2, _⟩ := c.mro
  obtain ⟨a, _, b⟩ := line_has h2
  unfold mroIn
  rw [h1, Option.bind_some, if_neg (by rw [b]; decide), a]
theorem XC.isExc (c : XC K C) : mroIn K C (.type "BaseException") = some true := by
  obtain ⟨cd, h1, h2, _⟩ := c.mro
  obtain ⟨_, a, b⟩ := line_has h2
  unfold mroIn
  rw [h1, Option.bind_some, if_neg (by rw [b]; decide), a]

theorem osa_x {tk : Tok} (X : K.In s.heap) (c : XC K C) (I : InstAt s.heap x ox C od) (ha : findIn K (.ref C) name = some none)
    (h : wpAny (model prog w) A.in1 (storeInOwnDict (.ref x) (.ref C) (.str name tk) name v false)
      (fun fin s' => match fin with | .done f => R (.ok f) s' | .again c' => c'.quiet = true ∧ codeAny (model prog w) A c' R s') (fun e s' => R (.error e) s') s) :
    codeAny (model prog w) A (.call (.builtin "object.__setattr__") ⟨[.ref x, .str name tk, v], []⟩) R s := by
  have SF := PySem.F.store_object
  obtain ⟨cd, hc, hl, _⟩ := c.mro
  have sub : Looks (model prog w) s.heap (isInstance (.ref x) (.type "object")) true := I.type.andThen (looks_mroIn X c.isObj)
  refine codeAny_call_builtin SF.slot.plain SF.entry (@check_slot (model prog w) _ _ s "object.__setattr__" "object" "__setattr__" (.ref x) [.str name tk, v] [] _ SF.kind SF.split sub (SF.args (.ref x) (.str name tk) v) ?_)
  have hm : Looks (model prog w) s.heap (mroOf (.ref C)) cd.mro := (looks_clsIn X hc).andThen .now
  rw [osa_eq, refuse_eq]
  refine wpAny_bind (wpAny_bind (I.type.here (wpAny_bind (hm.here ?_))))
  rw [line_pass _ hl]
  refine wpAny_pure (wpAny_bind (I.type.here (wpAny_bind ((looks_findIn X ha).here (wpAny_bind ((Looks.now (a := (none : Option Value))).here ?_))))))
  exact h

theorem own_x (X : K.In s.heap) (c : XC K C) (hx : s.heap.get? x = some ox) (hc : ox.cls = .ref C) (ho : ox.dict = some dx) {Q : Option Addr → Shared → Prop} (h : Q (some dx) s) :
    wpAny (model prog w) A (ownDictForStores (.ref x)) Q E s := by
  obtain ⟨cd, h1, _, h2⟩ := c.mro
  unfold ownDictForStores instanceDict
  refine wpAny_bind (wpAny_loadPart hx ?_)
  rw [hc]
  refine wpAny_bind ((looks_clsIn X h1).here ?_)
  rw [h2, ho]
  exact wpAny_pure h

theorem set_x1 {ns : List Str} {mA : Str → Option Value} {Q : Unit → Shared → Prop} (X : K.In s.heap) (c : XC K C) (hx : s.heap.get? x = some ox) (hc : ox.cls = .ref C) (hn : notCls ox = true) (ho : ox.dict = some dx) (hm : s.heap.Ns1 dx mA)
    (ha : findIn K (.ref C) name = some none) (hw : PySem.Within mA ns) (hz : ns.length ≤ sizeLine)
    (h : ∀ h', h'.Ns1 dx (fun y => if y = name then some v else mA y) → Heap.SameBut dx s.heap h' → Q () { s with heap := h', toks := s.toks + 2 }) :
    wpAny (model prog w) A (setAttr (.ref x) name v) Q E s := by
  obtain ⟨o1, _, _, g1, _⟩ := id hm
  have I : InstAt s.heap x ox C (some o1) := ⟨hx, hc, hn, by rw [ho]; exact g1⟩
  refine set_plain X I c.sa (osa_x (s := { s with toks := s.toks + 1 }) X c I ha ?_)
  refine wpAny_bind (wpAny_pure (wpAny_bind (own_x (s := { s with toks := s.toks + 1 }) X c hx hc ho ?_)))
  refine wpAny_bind (wpAny_pure (wpAny_bind ?_))
  refine wpAny_nsSet1 (s := { s with toks := s.toks + 1 }) hm fun h' n2 s2 => ?_
  obtain ⟨oD, eD, pD, gD, dD, cD⟩ := n2.count (PySem.Within.cons name v hw)
  refine wpAny_bind (wpAny_lookBehind gD (by rw [dD]; exact pastItsLine_dict (Nat.le_trans cD (by rw [List.length_cons]; omega))) ?_)
  exact wpAny_pure (h _ n2 s2)

theorem set_x0 {Q : Unit → Shared → Prop} (X : K.In s.heap) (c : XC K C) (hx : s.heap.get? x = some ox) (hc : ox.cls = .ref C) (hn : notCls ox = true) (ho : ox.dict = none) (hf : ox.isFreed = false)
    (ha : findIn K (.ref C) name = some none)
    (h : ∀ h', h'.get? x = some { ox with dict := some s.heap.objs.size } → h'.Ns1 s.heap.objs.size (fun y => if y = name then some v else none) →
      (∀ b o, b ≠ x → s.heap.get? b = some o → h'.get? b = some o) → s.heap.objs.size ≤ h'.objs.size → Q () { s with heap := h', toks := s.toks + 2 }) :
    wpAny (model prog w) A (setAttr (.ref x) name v) Q E s := by
  obtain ⟨cd, h1, _, h2⟩ := c.mro
  have I : InstAt s.heap x ox C none := ⟨hx, hc, hn, by rw [ho]; trivial⟩
  refine set_plain X I c.sa (osa_x (s := { s with toks := s.toks + 1 }) X c I ha ?_)
  refine wpAny_bind (wpAny_pure (wpAny_bind ?_))
  unfold ownDictForStores instanceDict
  refine wpAny_bind (wpAny_loadPart (s := { s with toks := s.toks + 1 }) hx ?_)
  rw [hc]
  refine wpAny_bind ((looks_clsIn X h1).here (s := { s with toks := s.toks + 1 }) ?_)
  rw [h2, ho, if_neg (by simp)]
  obtain ⟨oc, odi, oda, osl⟩ := ox
  dsimp only at hc ho
  subst hc ho
  have hx1 : (s.heap.push { cls := .type "dict", data := .dict #[] }).get? x = some ⟨.ref C, none, oda, osl⟩ := Heap.get?_push_of_some _ hx
  have nx : x ≠ s.heap.objs.size := Nat.ne_of_lt (Heap.lt_size hx)
  have key : wpAny (model prog w) A.in1 (do let d ← alloc { cls := .type "dict", data := .dict #[] }; update x (fun o => { o with dict := some d }); dictMade (.ref C) x d)
      (fun a s' => wpAny (model prog w) A.in1 (match a with | some d => storeInDict d (.str name s.toks) name v | none => noDictFor (.ref x) (.ref C) name false)
        (fun fin s' => match fin with
          | .done f => (match (Except.ok f : Result) with | .ok (.ret _) => Q () s' | .ok _ => False | .error e => E e s')
          | .again c' => c'.quiet = true ∧ codeAny (model prog w) A c' (fun r s' => match r with | .ok (.ret _) => Q () s' | .ok _ => False | .error e => E e s') s')
        (fun e s' => E e s') s') (fun e s' => E e s') { s with toks := s.toks + 1 } := by
    refine wpAny_bind (wpAny_alloc' ?_)
    refine wpAny_bind (wpAny_update' hx1 ?_)
    refine wpAny_pure ?_
    dsimp only
    have g2 : ((s.heap.push { cls := .type "dict", data := .dict #[] }).update x fun o => { o with dict := some s.heap.objs.size }).get? s.heap.objs.size = some { cls := .type "dict", data := .dict #[] } :=
      (Heap.get?_update_ne _ _ _ _ nx.symm).trans (Heap.get?_push_at rfl rfl)
    have n2 : ((s.heap.push { cls := .type "dict", data := .dict #[] }).update x fun o => { o with dict := some s.heap.objs.size }).Ns s.heap.objs.size (fun _ => none) :=
      ⟨_, #[], _, g2, rfl, fun e he => absurd he (by simp), fun _ => rfl⟩
    unfold storeInDict newKeyGuard
    refine wpAny_bind (wpAny_pure (wpAny_bind (wpAny_nsSet1 (Heap.Ns1.of_empty n2) fun h' n3 s3 => ?_)))
    obtain ⟨oD, eD, pD, gD, dD, cD⟩ := n3.count (Within.cons name v Within.nil)
    refine wpAny_bind (wpAny_lookBehind gD (by rw [dD]; exact pastItsLine_dict (Nat.le_trans cD (by rw [List.length_cons, List.length_nil, sizeLine_eq]; omega))) ?_)
    refine wpAny_pure (h h' ?_ n3 (fun b o bx hb => ?_) ?_)
    · refine (s3.2 x nx).trans (Heap.get?_update_self _ hx1 ?_)
      cases oda <;> first | rfl | exact hf
    · exact (s3.2 b (Nat.ne_of_lt (Heap.lt_size hb))).trans ((Heap.get?_update_ne _ _ _ _ bx).trans (Heap.get?_push_of_some _ hb))
    · rw [s3.1, Heap.size_after_update, Heap.size_push]
      exact Nat.le_succ _
  cases oda <;> first | exact key | cases hn

/-! reading an attribute -/
theorem ga_bind (v : Value) : bindSpecial (.builtin "BaseException.__getattribute__") v = pure (.builtin "BaseException.__getattribute__", [v]) := by
  have f := PySem.F.attr_ValueError.ga.bind v
  exact f
theorem ga_plain : plainId "BaseException.__getattribute__" = true := PySem.F.attr_ValueError.ga.plain

theorem get_xo {Q : Value → Shared → Prop} {expr fill : Bool} {tk : Tok} (X : K.In s.heap) (c : XC K C) (I : InstAt s.heap x ox C od)
    (h : wpAny (model prog w) A.in1 (Builtin.«object.__getattribute__» ⟨[.ref x, .str name tk], []⟩)
      (fun fin s' => match fin with | .done (.ret v) => wpAny (model prog w) A (handedOut v) Q E s' | _ => False) (fun _ _ => False) s) :
    wpAny (model prog w) A (getAttrBy (.ref x) (.str name tk) fill expr) Q E s := by
  obtain ⟨hh, g, d, t, os⟩ := s
  have L0 := I.type (M := model prog w)
  have L1 := looks_findIn (M := model prog w) X c.ga
  have L2 := looks_findIn (M := model prog w) X c.gh
  have sub : Looks (model prog w) hh (isInstance (.ref x) (.type "BaseException")) true := I.type.andThen (looks_mroIn X c.isExc)
  have f2 : (onTheHeap (Value.ref C) && Value.builtin "BaseException.__getattribute__" == Value.builtin "object.__getattribute__") = false := by
    rw [show (Value.builtin "BaseException.__getattribute__" == Value.builtin "object.__getattribute__") = false from by decide +kernel]; rfl
  have f3 : (expr && onTheHeap (Value.builtin "BaseException.__getattribute__")) = false := by cases expr <;> rfl
  unfold getAttrBy
  refine wpAny_holding (wpAny_bind (L0.at (wpAny_bind (L1.at ?_))))
  dsimp only
  rw [f2]
  simp only [Bool.false_eq_true, if_false]
  unfold getAttrByItsOwn hookBefore
  refine wpAny_bind (L2.at (wpAny_bind (wpAny_attempt (wpAny_holding ?_))))
  unfold callGetattribute
  rw [f3]
  simp only [Bool.false_eq_true, if_false]
  unfold boundAndCalled
  rw [ga_bind]
  refine wpAny_bind (wpAny_pure (wpAny_call (codeAny_call_builtin ga_plain PySem.F.entry_bexc_ga
    (@check_slot (model prog w) _ _ ⟨hh, g, d, t, os⟩ "BaseException.__getattribute__" "BaseException" "__getattribute__" (.ref x) [.str name tk] [] _ (by decide +kernel) (by decide +kernel) sub (PySem.F.args_bexc_ga _ _) ?_))))
  refine wpAny_mono h (fun fin s' z => ?_) fun e s' z => z.elim
  rcases fin with (_ | _ | _ | _) | _ <;> first | exact z | exact z.elim

theorem get_x {Q : Value → Shared → Prop} {expr : Bool} (X : K.In s.heap) (c : XC K C) (hx : s.heap.get? x = some ox) (hc : ox.cls = .ref C) (hn : notCls ox = true) (ho : ox.dict = some dx) {o1 : Obj} (g1 : s.heap.get? dx = some o1) (hl : lookIn name o1 = some (some v))
    (ha : findIn K (.ref C) name = some none) (hv : handedIn v = true) (h : Q v { s with toks := s.toks + 1 }) :
    wpAny (model prog w) A (getAttr (.ref x) name expr) Q E s := by
  have I : InstAt s.heap x ox C (some o1) := ⟨hx, hc, hn, by rw [ho]; exact g1⟩
  have hf : findObj K C (some o1) name = some (.value v) := findObj_own c.hd ha rfl hl
  unfold getAttr
  refine wpAny_bind (wpAny_mkText ?_)
  refine get_xo (s := { s with toks := s.toks + 1 }) X c I ?_
  have L0 := I.type (M := model prog w)
  have L1 := looks_find (M := model prog w) X I hf
  obtain ⟨hh, g, d, t, os⟩ := s
  refine wpAny_bind (wpAny_pure (wpAny_bind (wpAny_pure (wpAny_bind (L0.at (wpAny_bind (L1.at ?_)))))))
  refine wpAny_pure ?_
  show wpAny _ _ (handedOut v) _ _ _
  rw [handedOut_of hv]
  exact wpAny_pure h

theorem get_xcls {Q : Option Value → Shared → Prop} (X : K.In s.heap) (c : XC K C) (I : InstAt s.heap x ox C od) (h : Q (some (.ref C)) { s with toks := s.toks + 1 }) :
    wpAny (model prog w) A (getAttr? (.ref x) "__class__") Q E s := by
  obtain ⟨cd, h1, _, h2⟩ := c.mro
  have hf : findObj K C od "__class__" = some (.bind (.builtin "getset_descriptor.__get__") (.builtin "object.__class__")) := by
    unfold findObj
    rw [h1, Option.bind_some, c.ca, Option.bind_some]
    simp [c.cg, c.ct]
  unfold getAttr? getAttrBy?
  refine wpAny_bind (wpAny_mkText (wpAny_bind (wpAny_attempt ?_)))
  refine get_xo (s := { s with toks := s.toks + 1 }) X c I ?_
  have L0 := I.type (M := model prog w)
  have L1 := looks_find (M := model prog w) X I hf
  refine wpAny_bind (wpAny_pure (wpAny_bind (wpAny_pure (wpAny_bind (L0.here (s := { s with toks := s.toks + 1 }) (wpAny_bind (L1.here (s := { s with toks := s.toks + 1 }) ?_)))))))
  show wpAny _ _ (holding [_] (call _ [_, .ref x, .ref C]) >>= ret) _ _ _
  refine wpAny_bind (wpAny_holding (wpAny_call (class_get (s := { s with toks := s.toks + 1 }) (ox := ox) (od := od) X I c.isObj ?_)))
  refine wpAny_pure ?_
  show wpAny _ _ (handedOut (.ref C)) _ _ _
  exact wpAny_pure (wpAny_pure h)
end
end XL

set_option maxRecDepth 100000
namespace XL
open PySem

theorem isStr_ne {x y : Str} {v : Value} (hx : v.isStr x = true) (n : y ≠ x) : v.isStr y = false := by
  cases v <;> simp_all [Value.isStr]
  exact fun z => n z.symm
theorem find_erase {name y : Str} (n : y ≠ name) : ∀ (l : List DictEntry) (i : Nat), l.findIdx? (·.key.isStr name) = some i → (l.eraseIdx i).find? (·.key.isStr y) = l.find? (·.key.isStr y)
  | [], i, h => by simp at h
  | e :: r, i, h => by
    rw [List.findIdx?_cons] at h
    by_cases q : e.key.isStr name = true
    · rw [if_pos q] at h
      cases h
      have z := isStr_ne q n
      simp [z]
    · rw [if_neg q] at h
      cases hi : r.findIdx? (·.key.isStr name) with
      | none => rw [hi] at h; cases h
      | some j =>
        rw [hi] at h
        cases h
        have ih := find_erase n r j hi
        simp only [List.eraseIdx_cons_succ, List.find?_cons]
        split
        · rfl
        · exact ih

section
variable {M : Model} {A : Around} {E : Value → Shared → Prop} {s : Shared} {env : Env}

theorem nsDel_x {a : Addr} {m : Str → Option Value} {name : Str} {Q : Bool → Shared → Prop} (hn : s.heap.Ns a m)
    (k : ∀ h' m', h'.Ns a m' → (∀ y, y ≠ name → m' y = m y) → Heap.SameBut a s.heap h' → Q (m name).isSome { s with heap := h' }) : wpAny M A (nsDel a name) Q E s := by
  obtain ⟨o, es, ep, ho, hd, hk, hm⟩ := id hn
  have nor : es.any (·.refKey) = false := by
    rw [Array.any_eq_false']
    intro e he
    obtain ⟨n, t, h⟩ := hk e he
    simp [DictEntry.refKey, h]
  have some_eq : (m name).isSome = es.any (·.key.isStr name) := by
    rw [← hm name]
    simp only [nsFind, findBy, Option.isSome_map]
    rw [Bool.eq_iff_iff]
    simp only [Array.find?_isSome, Array.any_eq_true]
    constructor
    · rintro ⟨z, hz, hp⟩
      obtain ⟨i, hi, rfl⟩ := Array.mem_iff_getElem.mp hz
      exact ⟨i, hi, hp⟩
    · rintro ⟨i, hi, hp⟩
      exact ⟨_, Array.getElem_mem hi, hp⟩
  have has : nsHas name o = pure (es.any (·.key.isStr name)) := by
    rw [nsHas_eq]
    unfold nsHasByArray
    rw [hd]
    show (if (es.any fun z => z.key.isStr name) = true then _ else _) = _
    generalize (es.any fun z => z.key.isStr name) = b
    cases b <;> simp [nor]
  unfold nsDel
  refine wpAny_bind (wpAny_loadPart ho ?_)
  rw [has]
  refine wpAny_bind (wpAny_pure ?_)
  rw [← some_eq]
  cases q : (m name).isSome
  · have z := k s.heap m hn (fun _ _ => rfl) (.refl ..)
    rw [q] at z
    exact wpAny_pure z
  · refine wpAny_bind (wpAny_updatePart ho (wpAny_pure ?_))
    have key : ∃ m', (s.heap.update a (Obj.dropName name)).Ns a m' ∧ ∀ y, y ≠ name → m' y = m y := by
      obtain ⟨cl, d, dt, sl⟩ := o
      subst hd
      cases hi : es.findIdx? (·.key.isStr name) with
      | none =>
        exact ⟨m, ⟨_, _, ep, Heap.get?_update_self _ ho (by simp only [Obj.dropName_eq, Obj.dropNameByArray, hi] <;> rfl), (by simp only [Obj.dropName_eq, Obj.dropNameByArray, hi] <;> rfl), hk, hm⟩, fun _ _ => rfl⟩
      | some i =>
        refine ⟨_, ⟨_, _, ep + 1, Heap.get?_update_self _ ho (by simp only [Obj.dropName_eq, Obj.dropNameByArray, hi] <;> rfl), (by simp only [Obj.dropName_eq, Obj.dropNameByArray, hi] <;> rfl), hk.erase i, fun _ => rfl⟩, fun y hy => ?_⟩
        rw [← hm y]
        obtain ⟨l⟩ := es
        have hi' : l.findIdx? (·.key.isStr name) = some i := by simpa using hi
        have z := find_erase hy l i hi'
        simp only [nsFind, findBy]
        have il : i < l.length := by
          have := List.findIdx?_eq_some_iff_findIdx_eq.mp hi'
          exact this.1
        have e1 : (Array.mk l).eraseIdxIfInBounds i = Array.mk (l.eraseIdx i) := by
          simp [Array.eraseIdxIfInBounds, il]
        rw [e1]
        simp only [List.find?_toArray]
        rw [z]
    obtain ⟨m', n', e'⟩ := key
    have z := k _ m' n' e' (Heap.SameBut.update ..)
    rw [q] at z
    exact z

/-- behind an except suite: its name is bound to None and goes -/
theorem name_gone {n : Str} {pos : Pos} {m : Str → Option Value} {Q : Unit → Shared → Prop} (hl : env.kindOf n = some .local) (hn : s.heap.Ns env.locals m)
    (hp : (env.scope.kind == .class || (env.scope.kind == .module && env.locals != env.globals)) = false)
    (h : ∀ h' m', h'.Ns env.locals m' → (∀ y, y ≠ n → m' y = m y) → Heap.SameBut env.locals s.heap h' → Q () { s with heap := h', toks := s.toks + 1 }) :
    wpAny M A (do bindName env n .none; unbindBehindTheSuite env n pos) Q E s := by
  refine wpAny_bind (wpAny_bindName (wpAny_storeName_local hl hn (fun h1 n1 s1 => ?_) hp))
  unfold unbindBehindTheSuite
  refine wpAny_onRaise ?_
  unfold unbindName
  refine wpAny_bind (wpAny_point (wpAny_bind ?_))
  unfold deleteName
  simp only [hl, hp]
  rw [if_neg (by decide)]
  refine wpAny_bind (nsDel_x n1 fun h2 m2 n2 e2 s2 => ?_)
  simp only [if_true, Option.isSome_some, Bool.not_true, Bool.false_eq_true, if_false]
  refine wpAny_pure (wpAny_point (h h2 m2 n2 (fun y hy => ?_) (s1.trans s2)))
  rw [e2 y hy, if_neg hy]
end
end XL

set_option maxRecDepth 100000
namespace L2
open PySem PySem.Spec PyProof.Rows XL
variable {q0 : Bool}

/-- an error that was just made (its attributes may be stored), and one that flies or was caught -/
def XN (e C : Addr) (od : Option Addr) : HO := .ext fun h => Xat h e (.ref C) od none
def XO (e C : Addr) (od : Option Addr) : HO := .ext fun h => ∃ ox vs, h.get? e = some ox ∧ ox.cls = .ref C ∧ ox.dict = od ∧ ox.data = .fields vs
/-- an error's attributes -/
def XD (dx : Addr) (fs : List (Str × V)) : HO := .ext fun h => fs.length ≤ 1000 ∧ ∃ mA, h.Ns1 dx mA ∧ (∀ f, RelO (fs.lookup f) (mA f)) ∧ PySem.Within mA (fs.map (·.1))

section
variable {P : Program} {w : World} {H : Hp} {h : Heap} {e C dx : Addr} {od : Option Addr} {fs : List (Str × V)}
theorem xn_ok (x : Xat h e (.ref C) od none) : ObjOk P w H h e (XN e C od) := by
  refine ⟨x, ?_, fun h1 h2 z k => ?_⟩
  · obtain ⟨oe, _, g, _⟩ := x
    exact ⟨oe, g⟩
  · obtain ⟨oe, vs, g, c, o, d, sz, y⟩ := z
    rcases y with y | ⟨T, _, _, z, _⟩
    · exact ⟨oe, vs, k oe g, c, o, d, sz, .inl y⟩
    · cases z
theorem xo_ok (x : ∃ ox vs, h.get? e = some ox ∧ ox.cls = .ref C ∧ ox.dict = od ∧ ox.data = .fields vs) : ObjOk P w H h e (XO e C od) := by
  refine ⟨x, ?_, fun h1 h2 z k => ?_⟩
  · obtain ⟨oe, _, g, _⟩ := x
    exact ⟨oe, g⟩
  · obtain ⟨oe, vs, g, c, o, d⟩ := z
    exact ⟨oe, vs, k oe g, c, o, d⟩
theorem xat_xo {tb : Option Addr} (x : Xat h e (.ref C) od tb) : ∃ ox vs, h.get? e = some ox ∧ ox.cls = .ref C ∧ ox.dict = od ∧ ox.data = .fields vs := by
  obtain ⟨oe, vs, g, c, o, d, _⟩ := x
  exact ⟨oe, vs, g, c, o, d⟩
theorem ns1_at {h1 h2 : Heap} {m : Str → Option Value} (n : h1.Ns1 dx m) (k : ∀ o, h1.get? dx = some o → h2.get? dx = some o) : h2.Ns1 dx m := by
  obtain ⟨o, es, ep, g, r⟩ := n
  exact ⟨o, es, ep, k o g, r⟩
theorem xd_ok (hl : fs.length ≤ 1000) {mA : Str → Option Value} (n : h.Ns1 dx mA) (r : ∀ f, RelO (fs.lookup f) (mA f)) (wi : PySem.Within mA (fs.map (·.1))) : ObjOk P w H h dx (XD dx fs) := by
  refine ⟨⟨hl, mA, n, r, wi⟩, ?_, fun h1 h2 z k => ?_⟩
  · obtain ⟨o, es, ep, g, _⟩ := n
    exact ⟨o, g⟩
  · obtain ⟨hl, mA, n, r, wi⟩ := z
    exact ⟨hl, mA, ns1_at n k, r, wi⟩
end

/-- how an error lies behind a call -/
def CXo (P : Program) (w : World) : CXT := fun outer H s E u s' => ∃ e C od H' T, u = .ref e ∧ s'.os = s.os ∧ AllBare s'.gens ∧ Un (frs outer) [] H H' s.heap s'.heap ∧ HOk P w H' s'.heap ∧
  Xat s'.heap e (.ref C) od (some T) ∧ H' e = some (XO e C od) ∧ s.heap.objs.size ≤ T ∧ H' T = none ∧ E e C H'

/-- its newest entry is no object of ours -/
def Tbs (X : Cx) (pins : List (Addr × Obj)) (H : Hp) (tb : Option Addr) : Prop := ∀ T, tb = some T → X.s₀.heap.objs.size ≤ T ∧ H T = none ∧ T ≠ X.env.locals ∧ (∀ x c, X.env.cells.lookup x = some c → c ≠ T) ∧ ∀ p ∈ X.pn ++ pins, p.1 ≠ T

/-- what is wanted of an error that leaves the code holds wherever E does -/
def Takes (X : Cx) (E : St → XK) : Prop := ∀ (pins : List (Addr × Obj)) (σ : St) (H : Hp) (s : Shared) (e C : Addr) (od tb : Option Addr), Inv X pins σ H s → Xat s.heap e (.ref C) od tb → H e = some (XO e C od) →
  Tbs X pins H tb → E σ e C H → X.xe (.ref e) s

section
variable {X : Cx} {pins : List (Addr × Obj)} {σ : St} {H : Hp} {s : Shared} {e C : Addr} {od tb : Option Addr}

theorem Inv.size_lt (I : Inv X pins σ H s) {b : Addr} (h : s.heap.objs.size ≤ b) : H b = none ∧ b ≠ X.env.locals ∧ (∀ x c, X.env.cells.lookup x = some c → c ≠ b) ∧ ∀ p ∈ X.pn ++ pins, p.1 ≠ b := by
  refine ⟨I.hok.fresh h, fun z => ?_, fun x c hc z => ?_, fun p hp z => ?_⟩
  · rw [z] at h
    exact absurd I.lt (Nat.not_lt.mpr h)
  · obtain ⟨v, o, ho, _⟩ := I.cell x c hc
    rw [z] at ho
    exact absurd (Heap.lt_size ho) (Nat.not_lt.mpr h)
  · have g := (I.pin p hp).1
    rw [z] at g
    exact absurd (Heap.lt_size g) (Nat.not_lt.mpr h)

/-- an error noted at this frame: the invariant stays -/
theorem Inv.noted {h' : Heap} {T : Addr} (I : Inv X pins σ H s) (he : H e = some (XO e C od)) (tbs : Tbs X pins H tb) (st : Stp (frs X.stack) e tb s.heap h') (x : Xat h' e (.ref C) od (some T)) :
    Inv X pins σ H { s with heap := h' } := by
  have neE : ∀ b, H b = none → b ≠ e := fun b n z => by rw [z, he] at n; cases n
  have neT : ∀ b u, H b = some u → tb ≠ some b := fun b u hb z => by rw [(tbs b z).2.1] at hb; cases hb
  have nfr : ∀ b u, H b = some u → b ∉ frs X.stack := fun b u hb z => by rw [I.stkFree b z] at hb; cases hb
  have kp : ∀ b u o, H b = some u → b ≠ e → s.heap.get? b = some o → h'.get? b = some o := fun b u o hb ne g => st.keep b o g ne (neT b u hb) (nfr b u hb)
  have un : Un (frs X.stack) tb.toList H H s.heap h' := by
    refine ⟨fun b o g n hb hx => st.keep b o g (neE b n) (fun z => hx (by rw [z]; simp)) hb, fun b o g n hb hx => st.slot b o g hb, fun b o g n hx => n, fun b o g hx => ?_, fun b xs z => z, fun b o u z => z, fun b ps z => ⟨#[], by rw [z]; simp⟩⟩
    by_cases b1 : b = e
    · subst b1
      obtain ⟨oe, _, ge, _⟩ := x
      exact ⟨oe, ge⟩
    · by_cases b2 : b ∈ frs X.stack
      · obtain ⟨sl, q⟩ := st.slot b o g b2
        exact ⟨_, q⟩
      · exact ⟨o, st.keep b o g b1 (fun z => hx (by rw [z]; simp)) b2⟩
  have hok : HOk X.prog X.w H h' := fun b u hb => by
    by_cases b1 : b = e
    · subst b1
      rw [he] at hb
      cases hb
      exact xo_ok (xat_xo x)
    · refine (I.hok b u hb).stay (fun c v hc q => ?_) (fun c q => q) fun c xs q => q
      rcases hc with rfl | hc
      · exact kp c u v hb b1 q
      · exact kp c _ v hc (fun z => by rw [z, he] at hc; cases hc) q
  refine I.call (g' := s.gens) (d' := s.drawn) (t' := s.toks) (ch := tb.toList) un hok I.bare fun b hb => ?_
  have z : tb = some b := by
    cases tb with
    | none => simp at hb
    | some T' => simp at hb; rw [hb]
  obtain ⟨a1, _, a3, a4, a5⟩ := tbs b z
  exact ⟨.inr a1, a3, a4, a5⟩

/-- an error of a callee reaches what is wanted -/
theorem Takes.pass {E : St → XK} (t : Takes X E) : Passes (CXo X.prog X.w) X E := fun pins σ H s u s' I h => by
  obtain ⟨e, C, od, H', T, rfl, os, bare, un, hok, x, he, sT, hT, q⟩ := h
  have J : Inv X pins σ H' s' := I.call' os un hok bare (ch := []) fun b z => absurd z (by simp)
  refine t pins σ H' s' e C od (some T) J x he (fun T' z => ?_) q
  cases z
  obtain ⟨_, a, b, c⟩ := I.size_lt sT
  exact ⟨Nat.le_trans I.sz sT, hT, a, b, c⟩
theorem pass_none : Passes (CXo X.prog X.w) X (fun _ _ _ _ => False) := fun pins σ H s u s' I h => by
  obtain ⟨e, C, od, H', T, _, _, _, _, _, _, _, _, _, q⟩ := h
  exact q.elim

/-- an error leaves a def -/
theorem takes_def {P : Program} {w : World} {K : PySem.W.Frag} {mg : Str → Option Value} {base : Heap} {N : List Str} {qual : Str} {scope : Scope} {f : Addr} {cd : Value} {A : Around} {outer : List Env} {s₀ : Shared} {H₀ : Hp} {E : XK} :
    Takes (cxOf q0 (CXo P w) P w K mg base N qual scope f cd A outer s₀ H₀ E) (fun _ => E) := fun pins σ H s e C od tb I x he tbs q => by
  show wpAny (model P w) _ (leaving _ (.ref e)) _ _ s
  unfold leaving
  refine wpAny_bind (note_x (L := s₀.heap.objs.size) I.ok.frames I.stack rfl x fun h' T st sT x' => ?_)
  have J := I.noted he tbs st x'
  exact ⟨e, C, od, H, T, rfl, J.os, J.bare, J.base, J.hok, x', he, Nat.le_trans I.sz sT, I.hok.fresh sT, q⟩
end
end L2

set_option maxRecDepth 100000
namespace XL
open PySem PySem.W
def strKey (e : DictEntry) : Bool := match e.key with | .str _ _ => true | _ => false
def nsNoInit (K : Frag) (ns : Addr) : Bool := match K.lookup ns with
  | some ⟨_, _, .dict es _, _⟩ => es.toList.all strKey && !(es.toList.any (·.key.isStr "__init__"))
  | _ => false
def tailIn (K : Frag) : List Value → Bool
  | [] => false
  | .ref a :: r => (match K.lookup a with
      | some ⟨_, _, .cls cd, _⟩ => nsNoInit K cd.ns && tailIn K r
      | _ => false)
  | v :: r => (v :: r) == vErr
theorem ns_of {K : Frag} {h : Heap} {ns : Addr} (X : K.In h) (e : nsNoInit K ns = true) : ∃ mA, h.Ns ns mA ∧ mA "__init__" = none := by
  unfold nsNoInit at e
  split at e
  · rename_i es n sl ho
    obtain ⟨e1, e2⟩ := Bool.and_eq_true_iff.mp e
    refine ⟨_, ⟨_, es, _, X _ _ ho, rfl, fun z hz => ?_, fun _ => rfl⟩, ?_⟩
    · have q := List.all_eq_true.mp e1 z (Array.mem_toList_iff.mpr hz)
      unfold strKey at q
      split at q
      · rename_i a b c
        exact ⟨a, b, c⟩
      · cases q
    · unfold nsFind findBy
      rw [← Array.find?_toList]
      have z : es.toList.find? (fun e => e.key.isStr "__init__") = none := by
        rw [List.find?_eq_none]
        intro y hy q
        rw [Bool.not_eq_true', List.any_eq_false] at e2
        exact e2 y hy q
      rw [z]
      rfl
  · cases e
theorem tail_of {K : Frag} {h : Heap} (X : K.In h) : ∀ {l : List Value}, tailIn K l = true → OwnTail h vErr l
  | [], e => by cases e
  | v :: r, e => by
    have last : ((v :: r : List Value) == vErr) = true → OwnTail h vErr (v :: r) := fun z => by
      rw [eq_of_beq z]
      exact .base
    cases v with
    | ref a =>
      unfold tailIn at e
      split at e
      · rename_i c d cd sl ho
        obtain ⟨e1, e2⟩ := Bool.and_eq_true_iff.mp e
        obtain ⟨mA, n, z⟩ := ns_of X e1
        exact .own (X _ _ ho) n z (tail_of X e2)
      · cases e
    | _ => exact last e
/-- the class object of an own error -/
def xmkIn (K : Frag) (C : Addr) : Bool := match K.lookup C with
  | some ⟨.type "type", _, .cls cd, sl⟩ => (match cd.mro, sl.toList with
    | .ref C' :: bm, [_, _, _, _, some (.builtin i), _] => C' == C && !cd.hasDel && i == "ValueError.__new__" && tailIn K bm
    | _, _ => false)
  | _ => false
theorem xmk_of {K : Frag} {h : Heap} {C : Addr} (X : K.In h) (q : xmkIn K C = true) : ∃ nm qn N bs bm hz sn sub ab col dd k0 k1 k2 k3 k5,
    h.get? C = some (excClassObj nm qn C N bs bm hz sn sub ab col dd k0 k1 k2 k3 k5 "ValueError.__new__") ∧ OwnTail h vErr bm := by
  unfold xmkIn at q
  split at q
  · rename_i dd cd sl ho
    split at q
    · rename_i C' bm k0 k1 k2 k3 n k5 hm hs
      simp only [Bool.and_eq_true, beq_iff_eq, Bool.not_eq_true'] at q
      obtain ⟨⟨⟨rfl, hdel⟩, rfl⟩, ht⟩ := q
      obtain ⟨nm, bs, mro, ns, qn, hd, sn, sub, ab, col, del⟩ := cd
      dsimp only at hm hdel
      subst hm hdel
      have hsl : sl = #[k0, k1, k2, k3, some (.builtin "ValueError.__new__"), k5] := by
        obtain ⟨l⟩ := sl
        simp only at hs
        rw [hs]
      subst hsl
      exact ⟨nm, qn, ns, bs, bm, hd, sn, sub, ab, col, dd, k0, k1, k2, k3, k5, X _ _ ho, tail_of X ht⟩
    · cases q
  · cases q
end XL

namespace L2
open PySem PySem.Spec PyProof.Rows XL
variable {q0 : Bool}
section
variable {X : Cx} {pins : List (Addr × Obj)} {σ : St} {H : Hp} {s : Shared} {a C dx : Addr} {od : Option Addr} {fs : List (Str × V)} {f : Str} {v y : V} {u : Value} {A : Around} {E : Value → Shared → Prop}

theorem xn_at (I : Inv X pins σ H s) (e : H a = some (XN a C od)) : Xat s.heap a (.ref C) od none := (I.hok a _ e).1
theorem xo_at (I : Inv X pins σ H s) (e : H a = some (XO a C od)) : ∃ ox vs, s.heap.get? a = some ox ∧ ox.cls = .ref C ∧ ox.dict = od ∧ ox.data = .fields vs := (I.hok a _ e).1
theorem xd_at (I : Inv X pins σ H s) (e : H dx = some (XD dx fs)) : fs.length ≤ 1000 ∧ ∃ mA, s.heap.Ns1 dx mA ∧ (∀ f, RelO (fs.lookup f) (mA f)) ∧ PySem.Within mA (fs.map (·.1)) := (I.hok dx _ e).1
theorem notCls_f {o : Obj} {vs : Array Value} (d : o.data = .fields vs) : PySem.W.notCls o = true := by
  unfold PySem.W.notCls
  rw [d]

theorem xset0_ok {Q : Unit → Shared → Prop} (I : Inv X pins σ H s) (e : H a = some (XN a C none)) (c : XC X.K C) (n : PySem.W.findIn X.K (.ref C) f = some none) (ry : RelV y u)
    (h : ∀ dx s', H dx = none → Inv X pins σ (upd (upd H dx (XD dx [(f, y)])) a (XN a C (some dx))) s' → Q () s') : wpAny (model X.prog X.w) A (setAttr (.ref a) f u) Q E s := by
  obtain ⟨oe, vs, g, ce, oo, de, sz, tb⟩ := xn_at I e
  refine set_x0 I.kIn c g ce (notCls_f de) oo (Obj.isFreed_of_fields de) n fun h' g' n' k sz' => h s.heap.objs.size _ (I.hok.fresh (Nat.le_refl _)) ?_
  have hN : H s.heap.objs.size = none := I.hok.fresh (Nat.le_refl _)
  have nad : a ≠ s.heap.objs.size := fun z => by rw [z, hN] at e; cases e
  have na : ∀ b, H b = none → b ≠ a := fun b nb z => by rw [z, e] at nb; cases nb
  have nd : ∀ b o, s.heap.get? b = some o → b ≠ s.heap.objs.size := fun b o gb => Nat.ne_of_lt (Heap.lt_size gb)
  have nd' : ∀ b u, H b = some u → b ≠ s.heap.objs.size := fun b u hb z => by rw [z, hN] at hb; cases hb
  have at1 : ∀ b, b ≠ a → b ≠ s.heap.objs.size → upd (upd H s.heap.objs.size (XD s.heap.objs.size [(f, y)])) a (XN a C (some s.heap.objs.size)) b = H b := fun b b1 b2 => by rw [upd_ne b1, upd_ne b2]
  have xnew : Xat h' a (.ref C) (some s.heap.objs.size) none := ⟨_, vs, g', ce, rfl, de, sz, by
    rcases tb with t | ⟨T, _, _, z, _⟩
    · exact .inl t
    · cases z⟩
  have own1 : ∀ b c, H c = some (.own b) → c ≠ a := fun b c hc z => by rw [z, e] at hc; cases hc
  have tup1 : ∀ c xs, H c = some (.tup xs) → c ≠ a := fun c xs hc z => by rw [z, e] at hc; cases hc
  refine I.un ⟨fun b o gb nb _ _ => k b o (na b nb) gb, fun b o gb nb _ _ => ⟨o.slots, k b o (na b nb) gb⟩, fun b o gb nb _ => ?_, fun b o gb _ => ?_, fun b xs z => ?_, fun b o w z => ?_, fun b ps z => ⟨#[], ?_⟩⟩ fun b w hb => ?_
  · rw [at1 b (na b nb) (nd b o gb)]; exact nb
  · by_cases b1 : b = a
    · exact ⟨_, by rw [b1]; exact g'⟩
    · exact ⟨o, k b o b1 gb⟩
  · rw [at1 b (tup1 b xs z) (nd' b _ z)]; exact z
  · rw [at1 b (fun q => by rw [q, e] at z; cases z) (nd' b _ z)]; exact z
  · rw [at1 b (fun q => by rw [q, e] at z; cases z) (nd' b _ z), z]; simp
  · by_cases b1 : b = a
    · subst b1
      rw [upd_same] at hb
      cases hb
      exact xn_ok xnew
    · rw [upd_ne b1] at hb
      by_cases b2 : b = s.heap.objs.size
      · subst b2
        rw [upd_same] at hb
        cases hb
        refine xd_ok (by show 1 ≤ 1000; decide) n' (fun g => ?_) fun g hg => ?_
        · show RelO (List.lookup g [(f, y)]) (if g = f then some u else none)
          by_cases q : g = f
          · rw [if_pos q, q]
            simp only [List.lookup_cons, beq_self_eq_true]
            exact ry
          · rw [if_neg q]
            simp only [List.lookup_cons, beq_eq_false_iff_ne.mpr q]
            exact trivial
        · by_cases q : g = f
          · simp [q]
          · exact absurd (show (if g = f then some u else none) = none from if_neg q) hg
      · rw [upd_ne b2] at hb
        refine (I.hok b w hb).stay (fun c v hc q => ?_) (fun c q => ?_) fun c xs q => ?_
        · rcases hc with rfl | hc
          · exact k c v b1 q
          · exact k c v (own1 b c hc) q
        · rw [at1 c (own1 b c q) (nd' c _ q)]; exact q
        · rw [at1 c (tup1 c xs q) (nd' c _ q)]; exact q

theorem xset1_ok {Q : Unit → Shared → Prop} (I : Inv X pins σ H s) (e : H a = some (XN a C (some dx))) (ed : H dx = some (XD dx fs)) (hl : fs.length < 1000) (c : XC X.K C) (n : PySem.W.findIn X.K (.ref C) f = some none) (ry : RelV y u)
    (h : ∀ s', Inv X pins σ (upd H dx (XD dx (putF f y fs))) s' → Q () s') : wpAny (model X.prog X.w) A (setAttr (.ref a) f u) Q E s := by
  obtain ⟨oe, vs, g, ce, oo, de, sz, tb⟩ := xn_at I e
  obtain ⟨_, mA, nm, r, wi⟩ := xd_at I ed
  have hz : (fs.map (·.1)).length ≤ sizeLine := by rw [List.length_map, sizeLine_eq]; omega
  refine set_x1 I.kIn c g ce (notCls_f de) oo nm n wi hz fun h' n' sb => h _ ?_
  have hd : ∃ o, h'.get? dx = some o := let ⟨o, _, _, e', _⟩ := n'; ⟨o, e'⟩
  refine I.write (x := dx) (e := dx) (by rw [ed]; exact True.intro) (.inl rfl) (fun b q hb z => (sb.2 b hb).trans z) hd ?_
  refine xd_ok (Nat.le_trans (length_putF f y fs) hl) n' (fun g => ?_) fun g hg => ?_
  · show RelO ((putF f y fs).lookup g) (if g = f then some u else mA g)
    rw [lookup_putF]
    by_cases q : g = f
    · rw [if_pos q, if_pos q]; exact ry
    · rw [if_neg q, if_neg q]; exact r g
  · by_cases q : g = f
    · rw [q]; exact (keys_putF f y fs).1
    · refine (keys_putF f y fs).2 g (wi g fun z => hg ?_)
      show (if g = f then some u else mA g) = none
      rw [if_neg q]; exact z

theorem xget_ok {b : Bool} {Q : Value → Shared → Prop} (I : Inv X pins σ H s) (e : H a = some (XO a C (some dx))) (ed : H dx = some (XD dx fs)) (c : XC X.K C) (n : PySem.W.findIn X.K (.ref C) f = some none) (l : fs.lookup f = some v)
    (h : ∀ u s', Inv X pins σ H s' → RelV v u → Q u s') : wpAny (model X.prog X.w) A (getAttr (.ref a) f b) Q E s := by
  obtain ⟨ox, vs, g, ce, oo, de⟩ := xo_at I e
  obtain ⟨_, mA, nm, r, wi⟩ := xd_at I ed
  obtain ⟨u, hu, ru⟩ := RelO.some_of (v := v) (o := mA f) (by rw [← l]; exact r f)
  obtain ⟨o1, g1, hl⟩ := lookIn_ns nm
  exact get_x I.kIn c g ce (notCls_f de) oo g1 (by rw [hl, hu]) n (handed_of ru) (h u _ (I.tok _) ru)
end

/-- self.f = e in an error's __init__ -/
def sXF (K : PySem.W.Frag) (ta tv : TE) (f : Str) : TS := fun D σ H => tv σ H fun y H1 => ta σ H1 fun x H2 => ∃ a C, x = .ref a ∧ XC K C ∧ PySem.W.findIn K (.ref C) f = some none ∧
  ((H2 a = some (XN a C none) ∧ ∀ dx, H2 dx = none → D.nx σ (upd (upd H2 dx (XD dx [(f, y)])) a (XN a C (some dx)))) ∨
   ∃ dx fs, H2 a = some (XN a C (some dx)) ∧ H2 dx = some (XD dx fs) ∧ fs.length < 1000 ∧ D.nx σ (upd H2 dx (XD dx (putF f y fs))))
/-- e.f of an error -/
def tXF (K : PySem.W.Frag) (ta : TE) (f : Str) : TE := fun σ H Q => ta σ H fun x H1 => ∃ a C dx fs v, x = .ref a ∧ H1 a = some (XO a C (some dx)) ∧ H1 dx = some (XD dx fs) ∧ XC K C ∧ PySem.W.findIn K (.ref C) f = some none ∧ fs.lookup f = some v ∧ Q v H1

section
variable {X : Cx} {o e value : Expr} {f : Str} {pos pos' tpos : Pos} {ta tv te : TE}
theorem ps_xfld (ha : PE X o ta) (hv : PE X value tv) (hs : swapsWith value (some (.Attribute o f pos')) pos.line X.env = pure false) : PS X (.Assign [.Attribute o f pos'] value pos) (sXF X.K ta tv f) := by
  intro pins s σ H D I h
  refine plainObj_wpAny_Assign_Attribute (thn (hv pins s σ H _ I h) fun u s1 ⟨y, H1, I1, ry, q⟩ => thn (ha pins s1 σ H1 _ I1 q) fun ov s2 ⟨x, H2, I2, rx, a, C, ex, c, n, q2⟩ => ?_) hs
  subst ex
  obtain rfl : ov = Value.ref a := rx
  rcases q2 with ⟨ea, q2⟩ | ⟨dx, fs, ea, ed, hl, q2⟩
  · exact xset0_ok I2 ea c n ry fun dx s3 nd I3 => ⟨σ, _, I3, q2 dx nd⟩
  · exact xset1_ok I2 ea ed hl c n ry fun s3 I3 => ⟨σ, _, I3, q2⟩
theorem pe_xfld (he : PE X e te) (hb : attributeBase e f X.env (eval e X.env) = eval e X.env) : PE X (.Attribute e f pos) (tXF X.K te f) := by
  intro pins s σ H Q I h
  refine attr_of hb (thn (he pins s σ H _ I h) fun u s1 ⟨x, H1, I1, rx, a, C, dx, fs, v, ex, ea, ed, c, n, l, q⟩ => ?_)
  subst ex
  obtain rfl : u = Value.ref a := rx
  exact xget_ok I1 ea ed c n l fun u' s2 I2 ru => ⟨v, H1, I2, ru, q⟩
end

/-! ### making and raising -/
structure XMk (K : PySem.W.Frag) (C f : Addr) : Prop where
  makes : xmkIn K C = true
  init : PySem.W.findIn K (.ref C) "__init__" = some (some (.ref f))
  fn : PySem.W.isFn K (.ref f) = true
  kp : PySem.W.keepIn K (.ref C) = true
def tXMake (C : Addr) (sp : Sp) (dvs : List V) (t : TA) : TE := fun σ H Q => t σ H fun vs H1 => vs.length ≤ 1000 ∧ ∀ e, H1 e = none →
  sp (.ref e :: (vs ++ dvs)) (upd H1 e (XN e C none)) (fun v H2 => v = .non ∧ Q (.ref e) H2) (fun _ _ _ => False)
def tRaise (K : PySem.W.Frag) (te : TE) (E : St → XK) : TS := fun D σ H => te σ H fun v H1 => ∃ e C od, v = .ref e ∧ H1 e = some (XN e C od) ∧ xmkIn K C = true ∧ E σ e C (upd H1 e (XO e C od))

section
variable {X : Cx} {k : Nat} {f C : Addr} {fd : FuncData} {ps : List Str} {sp : Sp} {dvs : List V} {ds : List Value} {E : St → XK} {x m : Str} {p pos apos : Pos} {e o : Expr} {es : List Expr} {ta te : TE} {t : TA}

theorem run_xmake {pins : List (Addr × Obj)} {σ : St} {H : Hp} {s : Shared} {Q : VK} {us : List Value} {vs : List V} (M : XMk X.K C f) (F : FnOk q0 X.prog X.w X.K X.mg X.base (CXo X.prog X.w) k f fd ps sp) (hr : Room q0 (k + 1) X.A) (hb : Binds X.K fd ps ds) (hd : Vals dvs ds)
    (I : Inv X pins σ H s) (r : Vals vs us) (hl : vs.length ≤ 1000)
    (h : ∀ e, H e = none → sp (.ref e :: (vs ++ dvs)) (upd H e (XN e C none)) (fun v H2 => v = .non ∧ Q (.ref e) H2) (fun _ _ _ => False)) :
    wpAny (model X.prog X.w) X.A (call (.ref C) us) (EP X pins σ Q) X.xe s := by
  obtain ⟨nm, qn, N, bs, bm, hz, sn, sub, ab, col, dd, k0, k1, k2, k3, k5, gC, T⟩ := xmk_of I.kIn M.makes
  have ty : PySem.W.typeIn X.K (.ref f) = some (.type "function") := beq_iff_eq.mp M.fn
  obtain ⟨oI, gI, cI⟩ := Option.map_eq_some_iff.mp (show (X.K.lookup f).map (·.cls) = some (.type "function") from ty)
  have lu : us.length ≤ sizeLine := by
    have := r.length
    rw [← this, sizeLine_eq]
    omega
  obtain ⟨hh, gg, d, tk, os⟩ := s
  refine call_xinit PySem.F.excBase_ValueError T gC (fun A' Q' E' s' kk q => PySem.W.looks_findIn I.kIn M.init A' Q' E' s' kk q) (I.kIn _ _ gI) cI lu fun h' e hm se => ?_
  have hn : H e = none := I.hok.fresh se
  obtain ⟨t0, ge, _, _⟩ := hm.there
  have xa : Xat h' e (.ref C) none none := ⟨_, _, ge, rfl, rfl, rfl, by simp, .inl ⟨rfl, rfl⟩⟩
  have I2 : Inv X pins σ (upd H e (XN e C none)) ⟨h', gg, d, tk, os⟩ := I.laid (t' := tk) hm.keeps se (xn_ok xa)
  have hq := h e hn
  have r2 : Vals (V.ref e :: (vs ++ dvs)) (Value.ref e :: (us ++ ds)) := .cons rfl (r.append hd)
  have hl2 : (Value.ref e :: us ++ ds).length = ps.length := by
    have z := r2.length
    rw [F.len _ _ _ _ hq] at z
    exact z.symm
  refine wpAny_call (codeAny_mono (F.run _ X.stack _ _ ⟨Value.ref e :: us, []⟩ (Value.ref e :: (us ++ ds)) _ _ (fun _ _ _ => False) (hr.make C us [])
    (I2.env0.make C us []) (hb _ (Value.ref e :: us) I2.kIn hl2) r2 hq) fun r s' hq' => ?_)
  cases r with
  | error e' => exact (pass_none pins σ _ _ e' s' I2 hq')
  | ok fl =>
    cases fl with
    | ret u =>
      obtain ⟨v, H', I3, rv, ev, q3⟩ := I2.after hq'
      subst ev
      exact ⟨rv, ⟨V.ref e, H', I3, rfl, q3⟩⟩
    | next => exact False.elim hq'
    | brk => exact False.elim hq'
    | cont => exact False.elim hq'
theorem pe_xmake (M : XMk X.K C f) (F : FnOk q0 X.prog X.w X.K X.mg X.base (CXo X.prog X.w) k f fd ps sp) (hr : Room q0 (k + 1) X.A) (hg : Gl X x) (hm : X.mg x = some (.ref C)) (hb : Binds X.K fd ps ds) (hd : Vals dvs ds)
    (ha : PA X (e :: es) t) (hdb : (x == ("__debug__" : Str)) = false := by decide) (he : starEach (e :: es) X.env = (false, eval e X.env) :: starEach es X.env := by rfl) (hpl : (backTo pos (starEach es X.env)).any (·.1) = false := by rfl) :
    PE X (.Call (.Name x p) (e :: es) [] pos) (tXMake C sp dvs t) := by
  intro pins s σ H Q I h
  refine wpAny_Call_Name_kw (ld_glob I hg hm ?_ hdb)
  refine PySem.W.callWith_K (h₀ := X.base) I.ok.mod.kin M.kp (thn (ha pos pins s σ H _ I h) fun us s1 ⟨vs, H1, I1, r, hl, q⟩ => ⟨I1.kIn, ?_⟩) he hpl
  exact run_xmake M F hr hb hd I1 r hl q

theorem Inv.toXO {pins : List (Addr × Obj)} {σ : St} {H : Hp} {s : Shared} {e : Addr} {od : Option Addr} (I : Inv X pins σ H s) (h : H e = some (XN e C od)) : Inv X pins σ (upd H e (XO e C od)) s := by
  have x := xn_at I h
  obtain ⟨oe, _, ge, _⟩ := id x
  exact I.write (x := e) (e := e) (t' := s.toks) (by rw [h]; exact True.intro) (.inl rfl) (fun b u _ z => z) ⟨oe, ge⟩ (xo_ok (xat_xo x))

theorem tail_base {h : Heap} {bm : List Value} (T : OwnTail h vErr bm) : bm.contains (.type "BaseException") = true := T.hasType (by decide +kernel)
theorem ps_raise (hh : X.A.handled = none) (tk : Takes X E) (he : PE X e te) : PS X (.Raise (some e) none pos) (tRaise X.K te E) := by
  intro pins s σ H D I h
  rw [arm_exec_Raise]
  refine wpAny_bind (wpAny_standAt ?_)
  show wpAny _ _ (raiseStmt X.env (some (do let v ← eval e X.env; standAt pos; pure v)) none) _ _ s
  refine raise_x hh (wpAny_bind (thn (he pins s σ H _ I h) fun v s1 ⟨x, H1, I1, rx, a, C, od, ex, ea, mk, q⟩ => wpAny_bind (wpAny_standAt (wpAny_pure ?_))))
  subst ex
  obtain rfl : v = Value.ref a := rx
  obtain ⟨nm, qn, N, bs, bm, hz, sn, sub, ab, col, dd, k0, k1, k2, k3, k5, gC, T⟩ := xmk_of I1.kIn mk
  have x := xn_at I1 ea
  exact ⟨a, od, C, nm, qn, N, bs, bm, hz, sn, sub, ab, col, dd, k0, k1, k2, k3, k5, _, rfl, tail_base T, gC, x, tk pins σ _ s1 a C od none (I1.toXO ea) x upd_same (fun T' z => by cases z) q⟩
end
end L2

set_option maxRecDepth 100000
namespace XL
open PySem PySem.W
section
variable {M : Model} {A : Around} {E : Value → Shared → Prop} {s : Shared}
theorem flight_x {fs : List Addr} {e T : Addr} {cls : Value} {od : Option Addr} {Q : Unit → Shared → Prop} (x : Xat s.heap e cls od (some T)) (nf : ∀ b ∈ fs, b ≠ T)
    (k : ∀ h', Stp fs e (some T) s.heap h' → Xat h' e cls od (some T) → Q () { s with heap := h' }) : wpAny M A (setFlight (.ref e) none) Q E s := by
  obtain ⟨oe, vs, ge, ce, oo, de, se, y⟩ := x
  rcases y with ⟨z, _⟩ | ⟨T', oT, ts, z, h1, nTe, gT, dT, h3⟩
  · cases z
  · cases z
    unfold setFlight
    refine wpAny_bind (wpAny_field ge de h1 ?_)
    rw [if_pos (show (Value.ref T != Value.none) = true from by simp)]
    have z3 : 3 < ts.size := (Array.getElem?_eq_some_iff.mp h3).1
    have ot : ∀ b, b ≠ T → (s.heap.update T (Obj.mapFields (·.setIfInBounds 3 ((none : Option Addr).elim Value.none fun f => rawInt f)))).get? b = s.heap.get? b := fun b hb => Heap.get?_update_other _ _ (Ne.symm hb)
    refine wpAny_setField gT dT z3 (k _ ⟨fun b o hb _ bt _ => (ot b fun q => bt (congrArg some q.symm)).trans hb, fun b o hb bf => ⟨o.slots, (ot b (nf b bf)).trans hb⟩⟩ ?_)
    exact ⟨oe, vs, (ot e (Ne.symm nTe)).trans ge, ce, oo, de, se, .inr ⟨T, _, _, rfl, h1, nTe, Heap.get?_update_self _ gT (Obj.isFreed_of_fields (Obj.data_mapFields dT _)), Obj.data_mapFields dT _, by simp [z3]⟩⟩

variable {nm qn nm' qn' : Str} {C N C' N' : Addr} {bs bm bs' bm' : List Value} {hz hz' : Bool} {sn sn' : List Str} {sub sub' : List Value} {ab ab' : Bool} {col col' : Option Bool} {dd dd' : Option Addr} {k0 k1 k2 k3 k5 j0 j1 j2 j3 j5 : Option Value} {ni ni' : String}
theorem matches_own {h : Heap} {g : Array GenState} {d : Drawn} {t : Nat} {os : OsState} {e : Addr} {oe : Obj} {b : Bool} {Q : Bool → Shared → Prop}
    (gC : h.get? C = some (excClassObj nm qn C N bs bm hz sn sub ab col dd k0 k1 k2 k3 k5 ni)) (gC' : h.get? C' = some (excClassObj nm' qn' C' N' bs' bm' hz' sn' sub' ab' col' dd' j0 j1 j2 j3 j5 ni'))
    (ge : h.get? e = some oe) (ce : oe.cls = .ref C) (bB : bm'.contains (.type "BaseException") = true) (hm : (Value.ref C :: bm).contains (.ref C') = b)
    (k : Q b ⟨h, g, d, t, os⟩) : wpAny M A (excMatches (.ref e) (.ref C')) Q E ⟨h, g, d, t, os⟩ := by
  have mB : (Value.ref C' :: bm').contains (.type "BaseException") = true := by rw [List.contains_cons, bB, Bool.or_true]
  have nt := tc_notTuple
  unfold excMatches
  repeat (first | (with_reducible refine wpAny_loadPart_at ge ?_; rw [ce]) | with_reducible refine wpAny_loadPart_at gC' ?_ | (with_reducible refine wpAny_isSubtype_exc gC' ?_; rw [mB]) | (with_reducible refine wpAny_isSubtype_exc gC ?_; rw [hm]) | wp_step)
  cases b <;> (wp_walk; exact k)
end
end XL

namespace L2
open PySem PySem.Spec PyProof.Rows XL
variable {q0 : Bool}
/-- the context of a try's body: another wish about errors, what is pinned stays pinned -/
abbrev Cx.tryc (X : Cx) (pins : List (Addr × Obj)) (xe : Value → Shared → Prop) : Cx := { X with xe := xe, pn := X.pn ++ pins }
/-- .. of an except suite: the error is being handled; no error leaves it -/
abbrev Cx.hand (X : Cx) (e : Addr) : Cx := { X with A := X.A.mark (some (.ref e)), calm := false, xe := fun _ _ => False }

section
variable {X : Cx} {pins : List (Addr × Obj)} {σ : St} {H : Hp} {s : Shared}
theorem Cx.Ok.tryc (ok : X.Ok) (pins : List (Addr × Obj)) (xe : Value → Shared → Prop) : (X.tryc pins xe).Ok :=
  ⟨ok.mod, ok.kind, ok.glob, ok.blt, ok.above, ok.inj, ok.has, ok.cab, ok.hd, ok.frames, ok.stk, ok.exf, ok.bs, ok.bsz, ok.noex, ok.exfs, ok.funs, ok.frf⟩
theorem Cx.Ok.untryc {xe : Value → Shared → Prop} (ok : (X.tryc pins xe).Ok) : X.Ok :=
  ⟨ok.mod, ok.kind, ok.glob, ok.blt, ok.above, ok.inj, ok.has, ok.cab, ok.hd, ok.frames, ok.stk, ok.exf, ok.bs, ok.bsz, ok.noex, ok.exfs, ok.funs, ok.frf⟩
theorem Cx.Ok.hand (ok : X.Ok) (e : Addr) : (X.hand e).Ok :=
  ⟨ok.mod, ok.kind, ok.glob, ok.blt, ok.above, ok.inj, ok.has, ok.cab, (fun z => nomatch z), ok.frames, ok.stk, ok.exf, ok.bs, ok.bsz, ok.noex, ok.exfs, ok.funs, ok.frf⟩
theorem Inv.tryc (I : Inv X pins σ H s) (xe : Value → Shared → Prop) : Inv (X.tryc pins xe) [] σ H s :=
  ⟨I.ok.tryc pins xe, I.os, I.bare, I.base, I.loc, I.cell, I.free, I.freeC, fun p hp => I.pin p (by simpa using hp), I.hok, I.len⟩
theorem Inv.untryc {xe : Value → Shared → Prop} {pl : List (Addr × Obj)} (I : Inv (X.tryc pins xe) pl σ H s) : Inv X pins σ H s :=
  ⟨I.ok.untryc, I.os, I.bare, I.base, I.loc, I.cell, I.free, I.freeC, fun p hp => I.pin p (List.mem_append_left _ hp), I.hok, I.len⟩
theorem Inv.hand (I : Inv X pins σ H s) (e : Addr) : Inv (X.hand e) pins σ H s :=
  ⟨I.ok.hand e, I.os, I.bare, I.base, I.loc, I.cell, I.free, I.freeC, I.pin, I.hok, I.len⟩
theorem Inv.unhand {e : Addr} (ok : X.Ok) (I : Inv (X.hand e) pins σ H s) : Inv X pins σ H s :=
  ⟨ok, I.os, I.bare, I.base, I.loc, I.cell, I.free, I.freeC, I.pin, I.hok, I.len⟩

/-- a name of the frame is gone -/
theorem Inv.gone {h' : Heap} {m m' : Str → Option Value} {n : Str} {j t' : Nat} (I : Inv X pins σ H s) (hN : X.N.Nodup) (hj : X.N[j]? = some n) (hl : X.env.scope.names.lookup n = some .local)
    (hm : s.heap.Ns X.env.locals m) (hv : ∀ (i : Nat) (x : Str) (v : V), X.N[i]? = some x → σ[i]? = some (some v) → Vis X.env.scope x → ∃ u, RelV v u ∧ Look X.env s.heap m x u)
    (n' : h'.Ns X.env.locals m') (e' : ∀ y, y ≠ n → m' y = m y) (sb : Heap.SameBut X.env.locals s.heap h') : Inv X pins (σ.set j none) H { s with heap := h', toks := t' } := by
  have kp : ∀ b o, b ≠ X.env.locals → s.heap.get? b = some o → h'.get? b = some o := fun b o nb g => (sb.2 b nb).trans g
  have neL : ∀ b o, X.s₀.heap.get? b = some o → b ≠ X.env.locals := fun b o e => Nat.ne_of_lt (Nat.lt_of_lt_of_le (Heap.lt_size e) I.ok.above)
  have trk : ∀ b u, H b = some u → b ≠ X.env.locals := fun b u hb z => by rw [z, I.free] at hb; cases hb
  refine ⟨I.ok, I.os, I.bare, ⟨fun b o e n hb hx => kp b o (neL b o e) (I.base.keep b o e n hb hx), fun b o e n hb hx => ?_, fun b o e n hx => I.base.free b o e n hx, fun b o e hx => ?_, I.base.tups, I.base.frzs, I.base.tbls⟩,
    ⟨m', n', fun i x v e1 e2 e3 => ?_⟩, fun x c e => ?_, I.free, I.freeC, fun p hp => ?_, fun b u hb => ?_, by rw [List.length_set]; exact I.len⟩
  · obtain ⟨sl, q⟩ := I.base.slot b o e n hb hx
    exact ⟨sl, kp b _ (neL b o e) q⟩
  · obtain ⟨o', q⟩ := I.base.there b o e hx
    exact ⟨o', kp b o' (neL b o e) q⟩
  · have nij : i ≠ j := fun z => by
      subst z
      have hl2 : i < σ.length := by rw [I.len]; exact (List.getElem?_eq_some_iff.mp hj).1
      rw [List.getElem?_set_self hl2] at e2
      cases e2
    rw [List.getElem?_set_ne (Ne.symm nij)] at e2
    have nx : x ≠ n := fun z => nij (nodup_ix hN e1 (by rw [z]; exact hj))
    obtain ⟨u, r, l⟩ := hv i x v e1 e2 e3
    refine ⟨u, r, ?_⟩
    rcases l with ⟨k, z⟩ | ⟨k, c, e, o, ho, hd⟩
    · exact .inl ⟨k, by rw [e' x nx]; exact z⟩
    · exact .inr ⟨k, c, e, o, kp c o (I.cne x c e) ho, hd⟩
  · obtain ⟨v, o, ho, hd⟩ := I.cell x c e
    exact ⟨v, o, kp c o (I.cne x c e) ho, hd⟩
  · obtain ⟨e, a, ne, nf, d⟩ := I.pin p hp
    exact ⟨kp p.1 p.2 ne e, a, ne, nf, d⟩
  · refine (I.hok b u hb).stay (fun c v hc q => ?_) (fun c q => q) fun c xs q => q
    rcases hc with rfl | hc
    · exact kp c v (trk c u hb) q
    · exact kp c v (trk c _ hc) q
end

/-- try: body; except Cx0 as n: suite (slot j) -/
def endH (D : Ends) (j : Nat) : Ends := { nx := fun σ H => D.nx (σ.set j none) H, rt := D.rt, bk := fun σ H => D.bk (σ.set j none) H, ct := fun σ H => D.ct (σ.set j none) H }
section
variable {X : Cx} {pos np hpos : Pos} {body hbody : List Stmt} {b0 : Stmt} {cx n : Str} {C0 : Addr} {j : Nat} {E : St → XK} {tb th : TS}
end
end L2

set_option maxRecDepth 100000
namespace XL
open PySem PySem.W
theorem kitx_x {K : Frag} {x C : Addr} (c : XC K C) : KitX K (.ref x) (.ref C) (fun h => ∃ ox od, InstAt h x ox C od) where
  ty := fun _ _ _ ⟨_, _, I⟩ => I.type
  it := fun _ _ X _ => by
    obtain ⟨cd, hc, _, _⟩ := c.mro
    unfold clsIn at hc
    split at hc
    · rename_i c' d' cd' sl' ho
      intro A' Q' E' s' k q
      unfold isType loadHead
      exact wpAny_bind (wpAny_loadPart (k _ _ (X _ _ ho)) (wpAny_pure q))
    · cases hc
  ne := fun h tp dd its n sl X htp => by
    obtain ⟨cd, hc, _, _⟩ := c.mro
    refine Bool.eq_false_iff.mpr fun q => ?_
    have e : C = tp := Value.ref.inj (beq_iff_eq.mp q)
    subst e
    unfold clsIn at hc
    split at hc
    · rename_i c' d' cd' sl' ho
      have z := (X _ _ ho).symm.trans htp
      cases z
    · cases hc
  ca := fun X ⟨ox, od, I⟩ k => get_xcls X c I k
end XL

namespace L2
open PySem PySem.Spec PyProof.Rows XL
variable {q0 : Bool}
/-- a class as a value -/
def clsV : V → Option Value
  | .ty n => some (.type n)
  | .ref a => some (.ref a)
  | _ => none
theorem clsV_rel {c : V} {u cv : Value} (e : clsV c = some cv) (r : RelV c u) : u = cv := by
  cases c <;> first | (cases e; exact r) | cases e
def clsVs : List V → Option (List Value)
  | [] => some []
  | c :: r => (clsV c).bind fun a => (clsVs r).map (a :: ·)
theorem clsVs_rel : ∀ {cs : List V} {us cv : List Value}, clsVs cs = some cv → Vals cs us → us = cv
  | [], _, _, e, .nil => by cases e; rfl
  | c :: r, _, _, e, .cons rc rr => by
    obtain ⟨a, e1, e2⟩ := Option.bind_eq_some_iff.mp e
    obtain ⟨b, e3, rfl⟩ := Option.map_eq_some_iff.mp e2
    rw [clsV_rel e1 rc, clsVs_rel e3 rr]
section
variable {X : Cx} {pins : List (Addr × Obj)} {σ : St} {H : Hp} {s : Shared} {A : Around} {E : Value → Shared → Prop} {Q : Value → Shared → Prop}
theorem xo_inst {a C : Addr} {od : Option Addr} (I : Inv X pins σ H s) (h : H a = some (XO a C od)) (hd : ∀ d, od = some d → ∃ o, s.heap.get? d = some o) : ∃ ox odx, PySem.W.InstAt s.heap a ox C odx := by
  obtain ⟨ox, vs, g, ce, oo, de⟩ := xo_at I h
  cases e : od with
  | none => exact ⟨ox, none, g, ce, notCls_f de, by rw [oo, e]; trivial⟩
  | some d =>
    obtain ⟨o, go⟩ := hd d e
    exact ⟨ox, some o, g, ce, notCls_f de, by rw [oo, e]; exact go⟩
end

/-- isinstance(x, C), isinstance(x, (C, ..)) -/
def rIsin (K : PySem.W.Frag) : List V → Hp → VK → Prop := fun xs H Q => ∃ x c, xs = [x, c] ∧ ((∃ t cv b, TyOf K H x t ∧ clsV c = some cv ∧ PySem.W.kitOne K t cv = some b ∧ Q (.bl b) H) ∨
  (∃ a C od cv b, x = .ref a ∧ H a = some (XO a C od) ∧ (∀ d, od = some d → ∃ fs, H d = some (XD d fs)) ∧ XC K C ∧ clsV c = some cv ∧ PySem.W.kitOne K (.ref C) cv = some b ∧ Q (.bl b) H) ∨
  (∃ a C od p cs cv b, x = .ref a ∧ H a = some (XO a C od) ∧ (∀ d, od = some d → ∃ fs, H d = some (XD d fs)) ∧ XC K C ∧ c = .ref p ∧ SqT K H p cs ∧ clsVs cs = some cv ∧ PySem.W.kitAny K (.ref C) cv = some b ∧ Q (.bl b) H))
section
variable {X : Cx}
theorem call_isin : CallR X (.builtin "isinstance") (rIsin X.K) := by
  intro pins s σ H us xs Q I r h
  obtain ⟨x, c, rfl, h⟩ := h
  obtain ⟨u, v, rfl, ru, rv⟩ := vals2 r
  rcases h with ⟨t, cv, b, ty, ec, ek, q⟩ | ⟨a, C, od, cv, b, rfl, ha, hd, xc, ec, ek, q⟩ | ⟨a, C, od, p, cs, cv, b, rfl, ha, hd, xc, rfl, hp, ec, ek, q⟩
  · obtain rfl := clsV_rel ec rv
    exact isinst_ok I ru ty ek fun tk => ⟨.bl b, H, I.tok tk, rfl, q⟩
  · obtain rfl := clsV_rel ec rv
    obtain rfl : u = Value.ref a := ru
    refine PySem.W.kia_one (kitx_x xc) I.kIn (xo_inst I ha fun d e => ?_) ek (fun z => nomatch z) fun tk => ⟨.bl b, H, I.tok tk, rfl, q⟩
    obtain ⟨fs, hw⟩ := hd d e
    obtain ⟨_, _, ⟨o, _, _, go, _⟩, _⟩ := xd_at I hw
    exact ⟨o, go⟩
  · obtain rfl : u = Value.ref a := ru
    obtain rfl : v = Value.ref p := rv
    obtain ⟨its, vi, it, _⟩ := I.tuple hp
    obtain rfl := clsVs_rel ec vi
    obtain ⟨o, g, oc, n, od'⟩ := it
    obtain ⟨c1, d1, dt1, sl1⟩ := o
    dsimp only at oc od'
    subst oc od'
    refine PySem.W.kia_tup (kitx_x xc) I.kIn (xo_inst I ha fun d e => ?_) g ek (fun z => nomatch z) fun tk => ⟨.bl b, H, I.tok tk, rfl, q⟩
    obtain ⟨fs, hw⟩ := hd d e
    obtain ⟨_, _, ⟨o, _, _, go, _⟩, _⟩ := xd_at I hw
    exact ⟨o, go⟩
end
end L2

set_option maxRecDepth 100000
namespace L2
open PySem PySem.Spec PyProof.Rows XL
variable {q0 : Bool}
/-! ### list comprehensions: one clause, one name -/
def frees (scope : Scope) : List Str := (scope.names.filter fun x => x.2 == .free).map (·.1)
def Cx.clo (X : Cx) (scope : Scope) : List (Str × Addr) := (frees scope).reverse.map fun n => (n, (X.env.cells.lookup n).getD 0)
theorem closure_of {env : Env} {f : Str → Addr} : ∀ (l : List (Str × NameKind)) (acc : List (Str × Addr)), (∀ x ∈ l, x.2 = .free → env.cells.lookup x.1 = some (f x.1)) →
    (forIn l acc fun x cs => (if x.2 == .free then do let c ← cellOf env x.1; pure (ForInStep.yield ((x.1, c) :: cs)) else pure (ForInStep.yield cs) : Sem (ForInStep (List (Str × Addr))))) =
      pure ((((l.filter fun x => x.2 == .free).map (·.1)).reverse.map fun n => (n, f n)) ++ acc)
  | [], acc, _ => rfl
  | x :: r, acc, h => by
    have ih := fun a => closure_of r a fun y hy => h y (List.mem_cons_of_mem _ hy)
    rw [List.forIn_cons]
    by_cases q : x.2 = .free
    · have e := h x List.mem_cons_self q
      have qb : (x.2 == NameKind.free) = true := by rw [q]; rfl
      rw [if_pos qb, List.filter_cons, if_pos qb]
      have ec : cellOf env x.1 = pure (f x.1) := by unfold cellOf; rw [e]
      rw [ec]
      simp only [pure_bind]
      rw [ih]
      simp
    · have qb : (x.2 == NameKind.free) = false := by simpa using q
      rw [if_neg (by rw [qb]; decide), List.filter_cons, if_neg (by rw [qb]; decide)]
      simp only [pure_bind]
      rw [ih]
theorem clo_of {X : Cx} {scope : Scope} (h : ∀ n ∈ frees scope, ∃ c, X.env.cells.lookup n = some c) : closureFor scope X.env = pure (X.clo scope) := by
  unfold closureFor
  have z := closure_of (env := X.env) (f := fun n => (X.env.cells.lookup n).getD 0) scope.names [] fun x hx hf => by
    obtain ⟨c, e⟩ := h x.1 (List.mem_map.mpr ⟨x, List.mem_filter.mpr ⟨hx, by simp [hf]⟩, rfl⟩)
    rw [e]
    rfl
  rw [List.append_nil] at z
  refine (bind_pure (m := Sem) _).trans ?_
  exact z
theorem clo_mem {X : Cx} {scope : Scope} {n : Str} {c : Addr} (h : (X.clo scope).lookup n = some c) : n ∈ frees scope ∧ c = (X.env.cells.lookup n).getD 0 := by
  have z := PySem.mem_of_lookup h
  unfold Cx.clo at z
  obtain ⟨y, hy, e⟩ := List.mem_map.mp z
  injection e with e1 e2
  subst e1
  exact ⟨List.mem_reverse.mp hy, e2.symm⟩
theorem lookup_map_self {f : Str → Addr} {n : Str} : ∀ {l : List Str}, n ∈ l → (l.map fun y => (y, f y)).lookup n = some (f n)
  | [], h => by simp at h
  | y :: r, h => by
    rw [List.map_cons, List.lookup_cons]
    by_cases q : n = y
    · subst q
      simp
    · rw [show (n == y) = false from by simpa using q]
      exact lookup_map_self ((List.mem_cons.mp h).resolve_left q)
theorem clo_get {X : Cx} {scope : Scope} {n : Str} {c : Addr} (hn : n ∈ frees scope) (h : X.env.cells.lookup n = some c) : (X.clo scope).lookup n = some c := by
  have z := lookup_map_self (f := fun n => (X.env.cells.lookup n).getD 0) (List.mem_reverse.mpr hn)
  unfold Cx.clo
  rw [z, h]
  rfl

/-- what the block of a comprehension asks of the names, all by looking at the text: x its own name, ys names of the def that it reads, fr their slots -/
structure Blk (X : Cx) (scope : Scope) (x : Str) (ys : List Str) (fr : List Nat) : Prop where
  kind : scope.kind = .function
  own : scope.names.lookup x = some .local
  ncell : ∀ y ∈ scope.names, y.2 ≠ .cell
  names : ∀ y ∈ scope.names, y.2 = .local → scope.names.lookup y.1 = some .local
  free : ∀ n ∈ frees scope, X.env.scope.names.lookup n = some .cell
  has : ∀ n, ((relabel scope X.env).names.lookup n = some .cell ∨ (relabel scope X.env).names.lookup n = some .free) → n ∈ frees scope
  slots : fr.map (fun i => X.N[i]?) = ys.map some
  ysf : ∀ y ∈ ys, y ∈ frees scope
  ysc : ∀ y ∈ ys, (relabel scope X.env).names.lookup y = some .cell ∨ (relabel scope X.env).names.lookup y = some .free
  st : X.stack = X.env :: X.outer
  nd : X.N.Nodup
  ndb : (x :: ys).Nodup

section
variable {X : Cx} {pins : List (Addr × Obj)} {σ : St} {H : Hp} {s : Shared} {scope : Scope} {x : Str} {ys : List Str} {fr : List Nat} {fp : List Addr}
theorem Blk.cells (B : Blk X scope x ys fr) (I : Inv X pins σ H s) : ∀ n ∈ frees scope, ∃ c, X.env.cells.lookup n = some c := fun n hn => I.ok.has n (.inl (B.free n hn))
theorem Blk.sub (B : Blk X scope x ys fr) (I : Inv X pins σ H s) {n : Str} {c : Addr} (h : (X.clo scope).lookup n = some c) : X.env.cells.lookup n = some c := by
  obtain ⟨a, b⟩ := clo_mem h
  obtain ⟨d, e⟩ := B.cells I n a
  rw [e] at b
  rw [b, e]
  rfl
end

section
variable {X : Cx} {pins : List (Addr × Obj)} {σ : St} {H : Hp} {s : Shared} {scope : Scope} {x : Str} {ys : List Str} {fr : List Nat} {fp : List Addr}
end

def tTrue : TT := fun _ H Q => Q true H
/-- the tests of a comprehension -/
def PIf (X : Cx) (ifs : List Expr) (t : TT) : Prop :=
  ∀ (pins : List (Addr × Obj)) (s : Shared) (σ : St) (H : Hp) (Q : Bool → Hp → Prop), Inv X pins σ H s → t σ H Q →
    wpAny (model X.prog X.w) X.A (forIn ifs true fun c r => if r = true then do let ok ← isTrue c X.env (eval c X.env); pure (ForInStep.yield ok) else pure (ForInStep.yield r)) (TP X pins σ Q) X.xe s
theorem pif_nil {X : Cx} : PIf X [] tTrue := fun pins s σ H Q I h => wpAny_pure ⟨H, I, h⟩
theorem pif_one {X : Cx} {c : Expr} {t : TT} (hc : PT X c t) : PIf X [c] t := fun pins s σ H Q I h => by
  rw [List.forIn_cons]
  refine wpAny_bind ?_
  rw [if_pos rfl]
  refine wpAny_bind (wpAny_mono (hc pins s σ H Q I h) (fun b s1 q => wpAny_pure ?_) fun _ _ z => z)
  exact wpAny_pure q

section
variable {X : Cx} {scope : Scope} {x : Str} {ys : List Str} {fr : List Nat} {elt iter : Expr} {ifs : List Expr} {px pos : Pos} {wi : TI} {tc : TT} {te : TE}
end
end L2

set_option maxRecDepth 100000
namespace L2
open PySem PySem.Spec PyProof.Rows XL
variable {q0 : Bool}
theorem relab_has {env : Env} {scope : Scope} (nc : ∀ y ∈ scope.names, y.2 ≠ .cell) (n : Str) (h : (relabel scope env).names.lookup n = some .cell ∨ (relabel scope env).names.lookup n = some .free) : n ∈ frees scope := by
  have key : ∀ k, (relabel scope env).names.lookup n = some k → (k = .cell ∨ k = .free) → n ∈ frees scope := fun k e hk => by
    obtain ⟨y, hy, ey⟩ := List.mem_map.mp (PySem.mem_of_lookup e)
    obtain ⟨m, j⟩ := y
    dsimp only at ey
    split at ey
    · rename_i q
      injection ey with e1 e2
      subst e1
      have : j = .free := by
        simp only [Bool.and_eq_true, beq_iff_eq] at q
        exact q.1.1
      subst this
      exact List.mem_map.mpr ⟨_, List.mem_filter.mpr ⟨hy, by simp⟩, rfl⟩
    · injection ey with e1 e2
      subst e1 e2
      rcases hk with z | z
      · exact absurd z (nc _ hy)
      · subst z
        exact List.mem_map.mpr ⟨_, List.mem_filter.mpr ⟨hy, by simp⟩, rfl⟩
  rcases h with h | h
  · exact key _ h (.inl rfl)
  · exact key _ h (.inr rfl)
theorem relab_free {env : Env} {scope : Scope} {n : Str} (h : scope.names.lookup n = some .free) : (relabel scope env).names.lookup n = some .cell ∨ (relabel scope env).names.lookup n = some .free := by
  have key : ∀ (l : List (Str × NameKind)), l.lookup n = some .free → (l.map fun (m, k) => if (k == NameKind.free && env.scope.kind == .function && env.kindOf m == some .cell) then (m, NameKind.cell) else (m, k)).lookup n = some .cell ∨
      (l.map fun (m, k) => if (k == NameKind.free && env.scope.kind == .function && env.kindOf m == some .cell) then (m, NameKind.cell) else (m, k)).lookup n = some .free := fun l => by
    induction l with
    | nil => intro e; simp at e
    | cons y r ih =>
      intro e
      obtain ⟨m, k⟩ := y
      rw [List.map_cons]
      rw [List.lookup_cons] at e
      cases q : n == m with
      | true =>
        rw [q] at e
        cases e
        dsimp only
        split
        · left; rw [List.lookup_cons, q]
        · right; rw [List.lookup_cons, q]
      | false =>
        rw [q] at e
        have z := ih e
        dsimp only
        split <;> (rw [List.lookup_cons, q]; exact z)
  exact key _ h
/-! ### a def of the text, errors as CXo tells -/
section
variable {P : Program} {w : World} {K : PySem.W.Frag} {mg : Str → Option Value} {base : Heap}
/-- an error may leave it -/
theorem Fun.okx {x qual : Str} {st : Stmt} {f : Addr} {fd : FuncData} {N ps : List Str} {k : Nat} {sp : Sp} (F : Fun K x qual st f fd) (S : FnScope N ps (defScope st)) (len : ∀ vs H Q E, sp vs H Q E → vs.length = ps.length)
    (hbody : ∀ (cdv : Value) (A : Around) (outer : List Env) (s : Shared) (H : Hp) (vs : List V) (Q : VK) (E : XK), Room q0 k (A.deeper (envOfC qual (defScope st) s.heap.objs.size f cdv)) → sp vs H Q E →
      ∃ t, PSs (cxOf q0 (CXo P w) P w K mg base N qual (defScope st) f cdv A outer s H E) (defBody st) t ∧ t { nx := fun _ H' => Q .non H', rt := Q } (start N vs) H) : FnOk q0 P w K mg base (CXo P w) (k + 1) f fd ps sp := by
  obtain ⟨oc, od, kV, doc, pm, an, cdv, ct, osl, rfl, lk, hcd⟩ := F.ex
  exact fn_of lk hcd S len fun A outer s H vs Q E hr hsp => hbody cdv A outer s H vs Q E hr hsp
/-- none leaves it -/
theorem Fun.okn {x qual : Str} {st : Stmt} {f : Addr} {fd : FuncData} {N ps : List Str} {k : Nat} {sp : Sp} (F : Fun K x qual st f fd) (S : FnScope N ps (defScope st)) (len : ∀ vs H Q E, sp vs H Q E → vs.length = ps.length)
    (hbody : ∀ (cdv : Value) (A : Around) (outer : List Env) (s : Shared) (H : Hp) (vs : List V) (Q : VK) (E : XK), Room q0 k (A.deeper (envOfC qual (defScope st) s.heap.objs.size f cdv)) → sp vs H Q E →
      ∃ t, PSs (cxOf q0 (CXo P w) P w K mg base N qual (defScope st) f cdv A outer s H E).nox (defBody st) t ∧ t { nx := fun _ H' => Q .non H', rt := Q } (start N vs) H) : FnOk q0 P w K mg base (CXo P w) (k + 1) f fd ps sp := by
  obtain ⟨oc, od, kV, doc, pm, an, cdv, ct, osl, rfl, lk, hcd⟩ := F.ex
  refine fn_of lk hcd S len fun A outer s H vs Q E hr hsp => ?_
  obtain ⟨t, h, q⟩ := hbody cdv A outer s H vs Q E hr hsp
  exact ⟨t, h.nox, q⟩
end

end L2

set_option maxRecDepth 100000
namespace L2
open PySem PySem.Spec PyProof.Rows XL
theorem ifP {b : Bool} {A B : Prop} (h : b = true) (q : A) : if b = true then A else B := by
  rw [if_pos h]
  exact q
theorem ifN {b : Bool} {A B : Prop} (h : b = false) (q : B) : if b = true then A else B := by
  rw [if_neg (by rw [h]; decide)]
  exact q
end L2

set_option maxRecDepth 100000
namespace L2
open PySem PySem.Spec PyProof.Rows XL
section
variable {X : Cx}
end
end L2

set_option maxRecDepth 100000
namespace L2
open PySem PySem.Spec PyProof.Rows
variable {q0 : Bool}
section
variable {X : Cx}
end
end L2

set_option maxRecDepth 100000
namespace L2
open PySem PySem.Spec PyProof.Rows
variable {q0 : Bool}
/-! ### a def (or method) with defaults: T is the tuple of them -/
structure FunD (K : PySem.W.Frag) (x qual : Str) (st : Stmt) (T f : Addr) (fd : FuncData) : Prop where
  ex : ∃ (oc : Value) (od : Option Addr) (kV doc pm : Value) (an : Option Addr) (cdv ct : Value) (osl : Array (Option Value)),
    fd = PySem.W.fnOf x qual (defArgs st) (defBody st) (defScope st) (.ref T) kV doc pm an cdv ct ∧ K.lookup f = some ⟨oc, od, .func fd, osl⟩ ∧ PySem.W.codeIn K cdv qual = true
  kp : PySem.W.keepIn K (.ref f) = true
section
variable {P : Program} {w : World} {K : PySem.W.Frag} {mg : Str → Option Value} {base : Heap}
theorem FunD.okx {x qual : Str} {st : Stmt} {T f : Addr} {fd : FuncData} {N ps : List Str} {k : Nat} {sp : Sp} (F : FunD K x qual st T f fd) (S : FnScope N ps (defScope st)) (len : ∀ vs H Q E, sp vs H Q E → vs.length = ps.length)
    (hbody : ∀ (cdv : Value) (A : Around) (outer : List Env) (s : Shared) (H : Hp) (vs : List V) (Q : VK) (E : XK), Room q0 k (A.deeper (envOfC qual (defScope st) s.heap.objs.size f cdv)) → sp vs H Q E →
      ∃ t, PSs (cxOf q0 (CXo P w) P w K mg base N qual (defScope st) f cdv A outer s H E) (defBody st) t ∧ t { nx := fun _ H' => Q .non H', rt := Q } (start N vs) H) : FnOk q0 P w K mg base (CXo P w) (k + 1) f fd ps sp := by
  obtain ⟨oc, od, kV, doc, pm, an, cdv, ct, osl, rfl, lk, hcd⟩ := F.ex
  exact fn_of lk hcd S len fun A outer s H vs Q E hr hsp => hbody cdv A outer s H vs Q E hr hsp
theorem FunD.okn {x qual : Str} {st : Stmt} {T f : Addr} {fd : FuncData} {N ps : List Str} {k : Nat} {sp : Sp} (F : FunD K x qual st T f fd) (S : FnScope N ps (defScope st)) (len : ∀ vs H Q E, sp vs H Q E → vs.length = ps.length)
    (hbody : ∀ (cdv : Value) (A : Around) (outer : List Env) (s : Shared) (H : Hp) (vs : List V) (Q : VK) (E : XK), Room q0 k (A.deeper (envOfC qual (defScope st) s.heap.objs.size f cdv)) → sp vs H Q E →
      ∃ t, PSs (cxOf q0 (CXo P w) P w K mg base N qual (defScope st) f cdv A outer s H E).nox (defBody st) t ∧ t { nx := fun _ H' => Q .non H', rt := Q } (start N vs) H) : FnOk q0 P w K mg base (CXo P w) (k + 1) f fd ps sp := by
  obtain ⟨oc, od, kV, doc, pm, an, cdv, ct, osl, rfl, lk, hcd⟩ := F.ex
  refine fn_of lk hcd S len fun A outer s H vs Q E hr hsp => ?_
  obtain ⟨t, h, q⟩ := hbody cdv A outer s H vs Q E hr hsp
  exact ⟨t, h.nox, q⟩
/-- how it binds, m arguments written, the last ones from the tuple: h is «fun _ _ _ _ _ _ us hl => match us, hl with | [_, _], _ => ⟨_, rfl, rfl⟩», one _ an argument that is written; ds := [] where all are -/
theorem FunD.binds {x qual : Str} {st : Stmt} {T f : Addr} {fd : FuncData} {ps : List Str} {o : Obj} {items : Array Value} {n : Nat} {ds : List Value} (F : FunD K x qual st T f fd) (ho : K.lookup T = some o) (hs : o.data = .seq items n) (m : Nat) (hm : m + ds.length = ps.length)
    (h : ∀ (kV doc pm : Value) (an : Option Addr) (cdv ct : Value) (us : List Value), us.length = m →
      ∃ k, bindArgs (PySem.W.fnOf x qual (defArgs st) (defBody st) (defScope st) (.ref T) kV doc pm an cdv ct) ⟨us, []⟩ = seqItems? (.ref T) >>= k ∧ k (some items) = pure (ps.zip (us ++ ds))) : Binds K fd ps ds := by
  obtain ⟨oc, od, kV, doc, pm, an, cdv, ct, osl, rfl, lk, hcd⟩ := F.ex
  intro s us hK hl
  rw [List.length_append] at hl
  obtain ⟨k, h1, h2⟩ := h kV doc pm an cdv ct us (by omega)
  exact BindsTo.of_defaults rfl (hK _ _ ho) hs h1 h2
end
end L2

set_option maxRecDepth 100000
namespace L2
open PySem PySem.Spec PyProof.Rows XL
variable {q0 : Bool}
/-! ### list comprehensions: one clause, any target of names -/
abbrev Cx.blkG (X : Cx) (scope : Scope) (zs : List Str) (ys : List Str) (C : Addr) (ex : List Addr) (s : Shared) (H : Hp) (pn : List (Addr × Obj)) : Cx where
  prog := X.prog
  w := X.w
  K := X.K
  mg := X.mg
  base := X.base
  A := X.A
  N := zs ++ ys
  s₀ := s
  H₀ := H
  env := compEnvC scope (X.clo scope) C X.env
  outer := X.stack
  stack := X.stack
  ex := ex
  fn := fun _ => false
  calm := X.calm
  pn := pn
  xe := fun _ _ => False

theorem compLoop_testsG {prog : Program} {w : World} {A : Around} {R : Result → Shared → Prop} {s : Shared} {elt target iter : Expr} {ifs : List Expr} {scope : Scope} {pos : Pos} {it acc : Value} {env : Env} (I : Nat → Shared → Prop)
    (turn : ∀ n s, I n s → wpAny (model prog w) A (pyNext it) (fun r s₁ => match r with
      | none => R (.ok .next) s₁
      | some v => wpAny (model prog w) A (letOwnedTupleGo target it v) (fun _ s₀ => wpAny (model prog w) A (assign target env v) (fun _ s₂ =>
          wpAny (model prog w) A (forIn ifs true fun c r => if r = true then do let ok ← isTrue c env (eval c env); pure (ForInStep.yield ok) else pure (ForInStep.yield r)) (fun ok s₃ =>
            if ok = true then wpAny (model prog w) A (eval elt env) (fun x s₄ =>
              wpAny (model prog w) A (call (.builtin "list.append") [acc, x]) (fun _ s₅ => ∃ m, m < n ∧ I m s₅) (notedBy (model prog w) A env fun e s' => R (.error e) s') s₄) (notedBy (model prog w) A env fun e s' => R (.error e) s') s₃
            else ∃ m, m < n ∧ I m s₃) (notedBy (model prog w) A env fun e s' => R (.error e) s') s₂) (notedBy (model prog w) A env fun e s' => R (.error e) s') s₀) (notedBy (model prog w) A env fun e s' => R (.error e) s') s₁) (notedBy (model prog w) A env fun e s' => R (.error e) s') s)
    (n : Nat) (h : I n s) : codeAny (model prog w) A (.compLoop (.ListComp elt [⟨target, iter, ifs, 0⟩] scope pos) 0 it acc env) R s := by
  refine codeAny_loop rfl I (fun n s hI => ?_) n h
  show wpAny _ A ((compTurn (.ListComp elt [⟨target, iter, ifs, 0⟩] scope pos) 0 it acc env).onRaise (fun x => do noteFrame x env; theTreesLotGoes x)) _ _ s
  refine wpAny_noted ?_
  rw [compTurn_list]
  refine wpAny_bind (wpAny_standAt (wpAny_bind (wpAny_mono (turn n s hI) (fun r s₁ h₁ => ?_) fun _ _ h' => h')))
  cases r with
  | none => exact wpAny_pure h₁
  | some v =>
    refine wpAny_bind (wpAny_mono h₁ (fun _ s₀ h₀ => wpAny_bind (wpAny_mono h₀ (fun _ s₂ h₂ => wpAny_bind (wpAny_mono h₂ (fun ok s₃ h₃ => ?_) fun _ _ h' => h')) fun _ _ h' => h')) fun _ _ h' => h')
    cases ok with
    | false => exact wpAny_pure ⟨rfl, h₃⟩
    | true =>
      exact wpAny_bind (wpAny_bind (wpAny_mono h₃ (fun x s₄ h₄ => wpAny_bind (wpAny_mono h₄ (fun _ s₅ h₅ => wpAny_pure (wpAny_pure ⟨rfl, h₅⟩)) fun _ _ h' => h')) fun _ _ h' => h'))

/-- what the block of a comprehension asks of the names, all by looking at the text: x its own name, ys names of the def that it reads, fr their slots -/
structure BlkG (X : Cx) (scope : Scope) (zs : List Str) (ys : List Str) (fr : List Nat) : Prop where
  kind : scope.kind = .function
  own : ∀ x ∈ zs, scope.names.lookup x = some .local
  ncell : ∀ y ∈ scope.names, y.2 ≠ .cell
  names : ∀ y ∈ scope.names, y.2 = .local → scope.names.lookup y.1 = some .local
  free : ∀ n ∈ frees scope, X.env.scope.names.lookup n = some .cell
  has : ∀ n, ((relabel scope X.env).names.lookup n = some .cell ∨ (relabel scope X.env).names.lookup n = some .free) → n ∈ frees scope
  slots : fr.map (fun i => X.N[i]?) = ys.map some
  ysf : ∀ y ∈ ys, y ∈ frees scope
  ysc : ∀ y ∈ ys, (relabel scope X.env).names.lookup y = some .cell ∨ (relabel scope X.env).names.lookup y = some .free
  st : X.stack = X.env :: X.outer
  nd : X.N.Nodup
  ndb : (zs ++ ys).Nodup

def blk0 (σ : St) (fr : List Nat) (n : Nat) : St := List.replicate n none ++ fr.map fun i => (σ[i]?).join

section
variable {X : Cx} {pins : List (Addr × Obj)} {σ : St} {H : Hp} {s : Shared} {scope : Scope} {zs : List Str} {ys : List Str} {fr : List Nat} {fp : List Addr}
theorem BlkG.cells (B : BlkG X scope zs ys fr) (I : Inv X pins σ H s) : ∀ n ∈ frees scope, ∃ c, X.env.cells.lookup n = some c := fun n hn => I.ok.has n (.inl (B.free n hn))
theorem BlkG.sub (B : BlkG X scope zs ys fr) (I : Inv X pins σ H s) {n : Str} {c : Addr} (h : (X.clo scope).lookup n = some c) : X.env.cells.lookup n = some c := by
  obtain ⟨a, b⟩ := clo_mem h
  obtain ⟨d, e⟩ := B.cells I n a
  rw [e] at b
  rw [b, e]
  rfl
theorem Inv.blkG {h1 : Heap} {m1 : Str → Option Value} {t' : Nat} (B : BlkG X scope zs ys fr) (I : Inv X pins σ H s) (hf : ∀ b ∈ fp, FpOk X pins H b) (hz : ∀ b ∈ fp, b < s.heap.objs.size) (n1 : h1.Ns s.heap.objs.size m1) (k1 : ∀ b o, s.heap.get? b = some o → h1.get? b = some o) :
    Inv (X.blkG scope zs ys s.heap.objs.size fp s H (X.pn ++ pins)) [] (blk0 σ fr zs.length) H { s with heap := h1, toks := t' } := by
  have sub : ∀ n c, (X.clo scope).lookup n = some c → X.env.cells.lookup n = some c := fun n c h => B.sub I h
  have cz : ∀ n c, X.env.cells.lookup n = some c → c < s.heap.objs.size := fun n c e => by
    obtain ⟨v, o, ho, _⟩ := I.cell n c e
    exact Heap.lt_size ho
  have nfs : ∀ b ∈ fp, b ∉ frs X.stack := fun b hb z => (List.mem_cons.mp (I.stkSub b z)).elim (hf b hb).2.1 (hf b hb).2.2.1
  have fz : ∀ b, b ∈ frs X.stack → b < s.heap.objs.size := fun b hb => by
    obtain ⟨_, o, ho, _⟩ := I.stack.mem hb
    exact Heap.lt_size ho
  refine ⟨⟨I.ok.mod, B.kind, I.ok.glob, I.ok.blt, Nat.le_refl _, fun y z c h1 h2 => I.ok.inj y z c (sub y c h1) (sub z c h2), fun y hy => ?_, (fun y c hy _ => nomatch hy), I.ok.hd, I.ok.frames, .inl rfl, fun b hb => ⟨?_, fun y c h => (hf b hb).2.2.2.2.1 y c (sub y c h)⟩,
      I.bs, Nat.le_trans I.ok.bsz I.sz, fun b o e hb => ?_, fun b hb => nfs b hb, I.stack, I.stkFree⟩,
    rfl, I.bare, Un.kept k1, ⟨m1, n1, fun i y v e1 e2 e3 => ?_⟩, fun y c h => ?_, I.hok.fresh (Nat.le_refl _), fun y c h => I.freeC y c (sub y c h), fun p hp => ?_, I.hok.kept k1, ?_⟩
  · obtain ⟨c, e⟩ := B.cells I y (B.has y hy)
    exact ⟨c, clo_get (B.has y hy) e⟩
  · exact Nat.ne_of_lt (hz b hb)
  · rcases (hf b hb).2.2.2.1 with z | z
    · exact I.ok.noex b o e z
    · exact absurd (Nat.lt_of_lt_of_le (Heap.lt_size (I.ok.bs b o e).1) z) (Nat.lt_irrefl _)
  · have ln : (List.replicate zs.length (none : Option V)).length = zs.length := List.length_replicate
    by_cases lt : i < zs.length
    · have e2' : (blk0 σ fr zs.length)[i]? = some (some v) := e2
      unfold blk0 at e2'
      rw [List.getElem?_append_left (by rw [ln]; exact lt), List.getElem?_replicate] at e2'
      split at e2' <;> cases e2'
    · obtain ⟨k, rfl⟩ : ∃ k, i = zs.length + k := ⟨i - zs.length, by omega⟩
      have e2' : (fr.map fun i => (σ[i]?).join)[k]? = some (some v) := by
        have z : (blk0 σ fr zs.length)[zs.length + k]? = some (some v) := e2
        unfold blk0 at z
        rw [List.getElem?_append_right (by rw [ln]; omega), ln] at z
        simpa using z
      have e1' : ys[k]? = some y := by
        have z : (zs ++ ys)[zs.length + k]? = some y := e1
        rw [List.getElem?_append_right (by omega)] at z
        simpa using z
      rw [List.getElem?_map] at e2'
      obtain ⟨j, hj, ej⟩ := Option.map_eq_some_iff.mp e2'
      have ev : σ[j]? = some (some v) := by
        cases q : σ[j]? with
        | none => rw [q] at ej; cases ej
        | some w => rw [q] at ej; exact congrArg some ej
      have eN : X.N[j]? = some y := by
        have z := congrArg (fun l => l[k]?) B.slots
        simp only [List.getElem?_map, hj, e1', Option.map_some] at z
        exact Option.some.inj z
      have my : y ∈ ys := List.mem_of_getElem? e1'
      obtain ⟨m, _, lk⟩ := I.loc
      obtain ⟨u, r, l⟩ := lk j y v eN ev (.inr (.inl (B.free y (B.ysf y my))))
      refine ⟨u, r, .inr ⟨B.ysc y my, ?_⟩⟩
      rcases l with ⟨kk, _⟩ | ⟨_, c, e, o, ho, hd⟩
      · have z := B.free y (B.ysf y my)
        rw [show X.env.scope.names.lookup y = some .local from kk] at z
        cases z
      · exact ⟨c, clo_get (B.ysf y my) e, o, k1 c o ho, hd⟩
  · obtain ⟨v, o, ho, hd⟩ := I.cell y c (sub y c h)
    exact ⟨v, o, k1 c o ho, hd⟩
  · have hp' : p ∈ X.pn ++ pins := by simpa using hp
    obtain ⟨a1, a2, a3, a4, a5⟩ := I.pin p hp'
    exact ⟨k1 _ _ a1, a2, Nat.ne_of_lt (Heap.lt_size a1), fun z => (List.mem_cons.mp (I.stkSub _ z)).elim a3 a4, a5⟩
  · have z := congrArg List.length B.slots
    simp only [List.length_map] at z
    simp [blk0, z]
end

section
variable {X : Cx} {pins : List (Addr × Obj)} {σ : St} {H : Hp} {s : Shared} {scope : Scope} {zs : List Str} {ys : List Str} {fr : List Nat} {fp : List Addr}
/-- back from the block -/
theorem Inv.unblkG {C : Addr} {s' : Shared} {h2 : Heap} {σ' : St} {H' : Hp} {pl : List (Addr × Obj)} (I : Inv X pins σ H s) (hf : ∀ b ∈ fp, FpOk X pins H b) (hC : s.heap.objs.size ≤ C) (J : Inv (X.blkG scope zs ys C fp s H (X.pn ++ pins)) pl σ' H' s') (sb : Heap.SameBut C s'.heap h2) :
    Inv X pins σ H' { s' with heap := h2 } := by
  have kp : ∀ b o, b ≠ C → s'.heap.get? b = some o → h2.get? b = some o := fun b o nb g => (sb.2 b nb).trans g
  have old : ∀ b o, s.heap.get? b = some o → b ≠ C := fun b o g => Nat.ne_of_lt (Nat.lt_of_lt_of_le (Heap.lt_size g) hC)
  have trk : ∀ b u, H' b = some u → b ≠ C := fun b u hb z => by
    have f : H' C = none := J.free
    rw [z, f] at hb
    cases hb
  refine I.call' (s' := { s' with heap := h2 }) J.os (ch := fp) ⟨fun b o e n hb hx => kp b o (old b o e) (J.base.keep b o e n hb hx), fun b o e n hb hx => ?_, fun b o e n hx => J.base.free b o e n hx, fun b o e hx => ?_, J.base.tups, J.base.frzs, J.base.tbls⟩ (fun b u hb => ?_) J.bare fun b hb => ?_
  · obtain ⟨sl, q⟩ := J.base.slot b o e n hb hx
    exact ⟨sl, kp b _ (old b o e) q⟩
  · obtain ⟨o', q⟩ := J.base.there b o e hx
    exact ⟨o', kp b o' (old b o e) q⟩
  · refine (J.hok b u hb).stay (fun c v hc q => ?_) (fun c q => q) fun c xs q => q
    rcases hc with rfl | hc
    · exact kp c v (trk c u hb) q
    · exact kp c v (trk c _ hc) q
  · obtain ⟨_, a1, _, a3, a4, a5⟩ := hf b hb
    exact ⟨a3, a1, a4, a5⟩
end

/-- a target changes its own n slots alone -/
def GOk (n : Nat) (g : TG) : Prop := ∀ v σ H Q, g v σ H Q → g v σ H (fun σ' H' => Q σ' H' ∧ σ'.length = σ.length ∧ ∀ i, n ≤ i → σ'[i]? = σ[i]?)
theorem gok_name {i n : Nat} (h : i < n) : GOk n (gName i) := fun v σ H Q q => ⟨q, by simp, fun j hj => by rw [List.getElem?_set_ne (by omega)]⟩
/-- [elt for .. in iter if c]: te, tc are read with the target's names ahead of the slots fr -/
def CompG (J : It) (n : Nat) (g : TG) (σ : St) (fr : List Nat) (tc : TT) (te : TE) (l : Addr) (H1 : Hp) (Q : VK) : Prop := ∃ W : Nat → Nat → List V → Hp → Prop, (∃ m, W 0 m [] (upd H1 l (.lst []))) ∧ ∀ i m xs H2, W i m xs H2 →
  (J.stop i H2 ∧ Q (.ref l) H2) ∨ (J.go i H2 ∧ ∀ v H3, J.yld i H2 v H3 → g v (blk0 σ fr n) H3 fun σ' H3' => tc σ' H3' fun b H4 => if b = true then
    (te σ' H4 fun y H5 => H5 l = some (.lst xs) ∧ xs.length < sizeLine ∧ ∃ m', m' < m ∧ W (i + 1) m' (xs ++ [y]) (upd H5 l (.lst (xs ++ [y])))) else ∃ m', m' < m ∧ W (i + 1) m' xs H4)
def tCompG (wi : TI) (n : Nat) (g : TG) (fr : List Nat) (tc : TT) (te : TE) : TE := fun σ H Q => wi σ H fun J H1 => ∀ l, H1 l = none → CompG J n g σ fr tc te l H1 Q
section
variable {X : Cx} {scope : Scope} {zs : List Str} {ys : List Str} {fr : List Nat} {elt iter tg : Expr} {g : TG} {ifs : List Expr} {px pos : Pos} {wi : TI} {tc : TT} {te : TE}
theorem comp_coreG {pins : List (Addr × Obj)} {s : Shared} {σ : St} {H : Hp} {Q : VK} {U : Option (Value → Sem Unit)} {R : Value → Shared → Prop} (hc : X.calm = true) (B : BlkG X scope zs ys fr) (hi : PI X tg iter wi) (hg : ∀ C ex s H pn, (∀ x ∈ zs, (relabel scope X.env).names.lookup x = some .local) → (zs ++ ys).Nodup → PG (X.blkG scope zs ys C ex s H pn) tg g) (gok : GOk zs.length g)
    (hif : ∀ C ex s H pn, PIf (X.blkG scope zs ys C ex s H pn) ifs tc) (he : ∀ C ex s H pn, PE (X.blkG scope zs ys C ex s H pn) elt te) (I : Inv X pins σ H s) (h : tCompG wi zs.length g fr tc te σ H Q)
    (fin : ∀ C l H' s' m, (X.s₀.heap.objs.size ≤ C ∧ C ≠ X.env.locals ∧ (∀ x c, X.env.cells.lookup x = some c → c ≠ C) ∧ ∀ p ∈ X.pn ++ pins, p.1 ≠ C) → H' C = none → s'.heap.Ns C m → (∀ h2, Heap.SameBut C s'.heap h2 → Inv X pins σ H' { s' with heap := h2 }) → Q (.ref l) H' → compPost (model X.prog X.w) X.A X.xe U R (.ref l) C (.ok .next) s') :
    wpAny (model X.prog X.w) X.A (eval iter X.env) (fun v s1 => wpAny (model X.prog X.w) X.A (pyIter v) (fun it s2 => wpAny (model X.prog X.w) X.A (newList []) (fun acc s3 =>
      wpAny (model X.prog X.w) X.A (newFunctionEnv scope X.env.globals (X.clo scope) [] X.env.qual none .none (some X.env)) (fun cenv s4 =>
        codeAny (model X.prog X.w) X.A (.compStart (.ListComp elt [⟨tg, iter, ifs, 0⟩] scope pos) 0 it acc { cenv with scope := relabel scope X.env }) (compPost (model X.prog X.w) X.A X.xe U R acc cenv.locals) s4) X.xe s3) X.xe s2) X.xe s1) X.xe s := by
  refine thn (hi pins s σ H _ I h) fun v s1 h1 => thn h1 fun itv s2 h2 => ?_
  obtain ⟨it, fp, tn, J, H2, rfl, I2, T, st2, f2, body⟩ := h2
  have hN : H2 s2.heap.objs.size = none := I2.hok.fresh (Nat.le_refl _)
  obtain ⟨W, ⟨m0, w0⟩, turn⟩ := body s2.heap.objs.size hN
  refine wpAny_newObj_type ?_
  generalize hs3 : ({ s2 with heap := s2.heap.push { cls := .type "list", data := .seq ([] : List Value).toArray } } : Shared) = s3
  have k3 : ∀ b o, s2.heap.get? b = some o → s3.heap.get? b = some o := fun b o g => by rw [← hs3]; exact Heap.get?_push_of_some _ g
  have I3 : Inv X pins σ (upd H2 s2.heap.objs.size (.lst [])) s3 := by
    rw [← hs3]
    exact I2.laid (t' := s2.toks) (fun b u e => Heap.get?_push_of_some _ e) (Nat.le_refl _) ⟨Nat.zero_le _, [], 0, .nil, Heap.get?_push_size _ rfl⟩
  have z2 : ∀ b ∈ fp, b < s2.heap.objs.size := fun b hb => by
    obtain ⟨o, g, _⟩ := T.obj 0 _ st2 b hb
    exact Heap.lt_size g
  have z3 : ∀ b ∈ fp, b < s3.heap.objs.size := fun b hb => by
    obtain ⟨o, g, _⟩ := T.obj 0 _ st2 b hb
    exact Heap.lt_size (k3 b o g)
  have f3 : ∀ b ∈ fp, FpOk X pins (upd H2 s2.heap.objs.size (.lst [])) b := fun b hb => ⟨by rw [upd_ne (Nat.ne_of_lt (z2 b hb))]; exact (f2 b hb).1, (f2 b hb).2⟩
  have st3 : tn 0 s3.heap := T.keep _ _ _ st2 fun b _ o g => k3 b o g
  refine wpAny_newFunctionEnv B.ncell (by intro y hy; simp at hy) (fun h1 n1 sb1 => ?_) B.kind
  have k4 : ∀ b o, s3.heap.get? b = some o → h1.get? b = some o := fun b o g => sb1.extBut b o (Nat.ne_of_lt (Heap.lt_size g)) (Heap.get?_push_of_some _ g)
  have I4 := I3.blkG (t' := s3.toks + ([] : List (Str × Value)).length) B f3 z3 n1 k4
  have st4 : tn 0 h1 := T.keep _ _ _ st3 fun b _ o g => k4 b o g
  have own' : ∀ x ∈ zs, (relabel scope X.env).names.lookup x = some .local := fun x hx => lookup_relabel_local (B.own x hx)
  -- the iterator's objects, through the loop
  have stat : ∀ {H' : Hp}, (∀ b ∈ fp, H' b = none) → ∀ b ∈ fp, FpOk (X.blkG scope zs ys s3.heap.objs.size fp s3 (upd H2 s2.heap.objs.size (.lst [])) (X.pn ++ pins)) [] H' b := fun hn b hb => by
    obtain ⟨_, a1, a2, a3, a4, a5⟩ := f3 b hb
    exact ⟨hn b hb, Nat.ne_of_lt (z3 b hb), fun z => (List.mem_cons.mp (I3.stkSub b z)).elim a1 a2, .inl hb, fun y c h => a4 y c (B.sub I3 h), fun p hp => a5 p (by simpa using hp)⟩
  have loop : ∀ s4 : Shared, s4 = { s3 with heap := h1, toks := s3.toks + ([] : List (Str × Value)).length } →
      codeAny (model X.prog X.w) X.A (.compLoop (.ListComp elt [⟨tg, iter, ifs, 0⟩] scope pos) 0 (.ref it) (.ref s2.heap.objs.size) (compEnvC scope (X.clo scope) s3.heap.objs.size X.env))
        (compPost (model X.prog X.w) X.A X.xe U R (.ref s2.heap.objs.size) s3.heap.objs.size) s4 := by
    rintro s4 rfl
    refine compLoop_testsG (fun n s' => ∃ i xs H', Inv (X.blkG scope zs ys s3.heap.objs.size fp s3 (upd H2 s2.heap.objs.size (.lst [])) (X.pn ++ pins)) [] (blk0 σ fr zs.length) H' s' ∧ tn i s'.heap ∧ (∀ b ∈ fp, H' b = none) ∧ W i n xs H') ?_ m0
      ⟨0, [], _, I4, st4, fun b hb => (f3 b hb).1, w0⟩
    rintro n s5 ⟨i, xs, H5, I5, st5, fr5, w5⟩
    rcases turn i n xs H5 w5 with ⟨stop, q⟩ | ⟨go, step⟩
    · refine wpAny_mono (T.done (X.blkG scope zs ys s3.heap.objs.size fp s3 (upd H2 s2.heap.objs.size (.lst [])) (X.pn ++ pins)) rfl rfl rfl hc i [] s5 _ H5 (fun _ _ => False) I5 (stat fr5) st5 stop) (fun r s6 ⟨hr, I6⟩ => ?_) fun _ _ z => z.elim
      subst hr
      obtain ⟨m, hm, _⟩ := I6.loc
      exact fin _ _ H5 s6 m ⟨I3.sz, (I3.size_lt (Nat.le_refl _)).2⟩ I6.free hm (fun h2 sb => I3.unblkG f3 (Nat.le_refl _) I6 sb) q
    · refine wpAny_mono (T.item (X.blkG scope zs ys s3.heap.objs.size fp s3 (upd H2 s2.heap.objs.size (.lst [])) (X.pn ++ pins)) rfl rfl rfl hc i [] s5 _ H5 (fun _ _ => False) I5 (stat fr5) st5 go) (fun r s6 ⟨u, hr, h6⟩ => ?_) fun _ _ z => z.elim
      subst hr
      refine wpAny_mono h6 (fun _ s7 ⟨y, H7, I7, r7, y7, st7, fr7⟩ => ?_) fun _ _ z => z.elim
      have I7' := I7.pinned (stat fr7) (T.obj _ _ st7)
      refine wpAny_mono (hg _ _ _ _ _ own' B.ndb _ s7 _ H7 y u _ I7' r7 (gok _ _ _ _ (step y H7 y7))) (fun _ s8 ⟨σ8, H8, I8, q8, l8, k8⟩ => ?_) fun _ _ z => z.elim
      have back : ∀ {s9 : Shared} {H9 : Hp} {xs' : List V}, Inv (X.blkG scope zs ys s3.heap.objs.size fp s3 (upd H2 s2.heap.objs.size (.lst [])) (X.pn ++ pins)) ([] ++ pinsAt fp s7.heap) σ8 H9 s9 → (∃ m', m' < n ∧ W (i + 1) m' xs' H9) →
          ∃ m, m < n ∧ ∃ i xs H', Inv (X.blkG scope zs ys s3.heap.objs.size fp s3 (upd H2 s2.heap.objs.size (.lst [])) (X.pn ++ pins)) [] (blk0 σ fr zs.length) H' s9 ∧ tn i s9.heap ∧ (∀ b ∈ fp, H' b = none) ∧ W i m xs H' := fun {s9 H9 xs'} I9 ⟨m', lt, w9⟩ => by
        refine ⟨m', lt, i + 1, xs', H9, I9.unpinned.weak l8.symm (fun j v e => ?_), T.keep _ _ _ st7 fun b hb o e => (I9.pin (b, o) (List.mem_append_right _ (List.mem_append_right _ (mem_pinsAt hb e)))).1, fun b hb => ?_, w9⟩
        · by_cases lj : j < zs.length
          · unfold blk0 at e
            rw [List.getElem?_append_left (by rw [List.length_replicate]; exact lj), List.getElem?_replicate] at e
            split at e <;> cases e
          · rw [k8 j (by omega)]
            exact e
        obtain ⟨o, e, d⟩ := T.obj _ _ st7 b hb
        exact (I9.pin (b, o) (List.mem_append_right _ (List.mem_append_right _ (mem_pinsAt hb e)))).2.1
      refine wpAny_mono (hif _ _ _ _ _ _ s8 _ H8 _ I8 q8) (fun ok s9 ⟨H9, I9, q9⟩ => ?_) fun _ _ z => z.elim
      cases ok with
      | false =>
        rw [if_neg (by decide)] at q9 ⊢
        exact back I9 q9
      | true =>
        rw [if_pos rfl] at q9 ⊢
        refine wpAny_mono (he _ _ _ _ _ _ s9 _ H9 _ I9 q9) (fun ev s10 ⟨yv, H10, I10, r10, hl, len, w10⟩ => ?_) fun _ _ z => z.elim
        refine wpAny_mono (mt_append (X := X.blkG scope zs ys s3.heap.objs.size fp s3 (upd H2 s2.heap.objs.size (.lst [])) (X.pn ++ pins)) _ s10 _ H10 (.ref s2.heap.objs.size) [yv] (.ref s2.heap.objs.size) [ev] (fun v H' => H' = upd H10 s2.heap.objs.size (.lst (xs ++ [yv]))) I10 rfl (.cons r10 .nil) ⟨_, xs, yv, rfl, rfl, hl, len, rfl⟩)
          (fun _ s11 ⟨_, H11, I11, _, e11⟩ => ?_) fun _ _ z => z.elim
        subst e11
        exact back I11 w10
  exact codeAny_compStart_list (loop _ rfl) (T.self _ 0 _ _ _ st4 (loop _ rfl))

theorem pe_compG (hc : X.calm = true) (B : BlkG X scope zs ys fr) (hi : PI X tg iter wi) (hg : ∀ C ex s H pn, (∀ x ∈ zs, (relabel scope X.env).names.lookup x = some .local) → (zs ++ ys).Nodup → PG (X.blkG scope zs ys C ex s H pn) tg g) (gok : GOk zs.length g) (hif : ∀ C ex s H pn, PIf (X.blkG scope zs ys C ex s H pn) ifs tc) (he : ∀ C ex s H pn, PE (X.blkG scope zs ys C ex s H pn) elt te)
    (hs : ∀ x, foldedSetIterable iter X.env x = pure x := by intro _; rfl) : PE X (.ListComp elt [⟨tg, iter, ifs, 0⟩] scope pos) (tCompG wi zs.length g fr tc te) := by
  intro pins s σ H Q I h
  rw [eval_ListComp]
  refine wpAny_comprehension_free (use := none) rfl hs (clo_of (B.cells I)) B.kind B.names (comp_coreG hc B hi hg gok hif he I h fun C l H' s' m _ _ hm iv q => ?_)
  exact ⟨m, hm, fun h2 sb => ⟨.ref l, H', iv h2 sb, rfl, q⟩⟩
/-- y = [elt for x in iter if c] -/
theorem ps_setcG {j : Nat} {y : Str} {py spos : Pos} (hc : X.calm = true) (B : BlkG X scope zs ys fr) (hi : PI X tg iter wi) (hg : ∀ C ex s H pn, (∀ x ∈ zs, (relabel scope X.env).names.lookup x = some .local) → (zs ++ ys).Nodup → PG (X.blkG scope zs ys C ex s H pn) tg g) (gok : GOk zs.length g) (hif : ∀ C ex s H pn, PIf (X.blkG scope zs ys C ex s H pn) ifs tc) (he : ∀ C ex s H pn, PE (X.blkG scope zs ys C ex s H pn) elt te)
    (hj : X.N[j]? = some y) (hy : Loc X.env.scope y) (hf : X.fn y = true ∨ X.env.scope.names.lookup y = some .local := by first | exact .inl rfl | exact .inr rfl | assumption)
    (hsw : swapsWith (.ListComp elt [⟨tg, iter, ifs, 0⟩] scope pos) (some (.Name y py)) spos.line X.env = pure true := by rfl)
    (hs : ∀ x, foldedSetIterable iter X.env x = pure x := by intro _; rfl) : PS X (.Assign [.Name y py] (.ListComp elt [⟨tg, iter, ifs, 0⟩] scope pos) spos) (tAsg (tCompG wi zs.length g fr tc te) (gName j)) := by
  intro pins s σ H D I h
  rw [exec_Assign_Name_used _ _ _ _ hsw]
  refine wpAny_bind (wpAny_standAt (wpAny_bind ?_))
  show wpAny _ _ (do let _ ← comprehension (.ListComp elt [⟨tg, iter, ifs, 0⟩] scope pos) scope X.env _ (newList []) false (eval iter X.env) (some (assign (.Name y py) X.env))) _ _ s
  refine wpAny_bind (wpAny_mono (wpAny_comprehension_free (use := some (assign (.Name y py) X.env)) (Q := fun _ s' => SP X pins D .next s') rfl hs (clo_of (B.cells I)) B.kind B.names
    (comp_coreG hc B hi hg gok hif he I h fun C l H' s' m hC hn hm iv q => ?_)) (fun _ s' z => wpAny_pure (wpAny_pure z)) fun _ _ e => e)
  show wpAny _ _ (assign (.Name y py) X.env (.ref l)) _ _ _
  have J : Inv X pins σ H' s' := iv s'.heap (.refl ..)
  refine wpAny_assign_Name (store_ok2 (v := V.ref l) J B.nd hj hy rfl (fun s2 J2 ⟨a, sb, ha⟩ => ?_) hf)
  have na : a ≠ C := by
    rcases ha with z | z
    · rw [z]; exact Ne.symm hC.2.1
    · exact hC.2.2.1 _ _ z
  refine ⟨m, ?_, fun h2 s3 => ?_⟩
  · obtain ⟨o, es, ep, g, r⟩ := hm
    exact ⟨o, es, ep, (sb.2 C (Ne.symm na)).trans g, r⟩
  · exact ⟨_, H', J2.turned (t' := s2.toks) (fun b o nb g => (s3.2 b nb).trans g) hn (hC.2.1) (.inr hC.1) hC.2.2.1 hC.2.2.2, q⟩
end


/-- all that is asked of a comprehension's names, by looking -/
def blkOkG (scope sc0 : Scope) (N0 : List Str) (zs : List Str) (ys : List Str) (fr : List Nat) : Bool :=
  scope.kind == .function && zs.all (fun x => scope.names.lookup x == some .local) && scope.names.all (fun y => y.2 != .cell) && scope.names.all (fun y => y.2 != .local || scope.names.lookup y.1 == some .local) &&
  (frees scope).all (fun n => sc0.names.lookup n == some .cell) && fr.map (fun i => N0[i]?) == ys.map some && ys.all (fun y => scope.names.lookup y == some .free) && decide N0.Nodup && decide (zs ++ ys).Nodup
theorem blkG_of {X : Cx} {scope sc0 : Scope} {N0 : List Str} {zs : List Str} {ys : List Str} {fr : List Nat} (chk : blkOkG scope sc0 N0 zs ys fr = true) (es : X.env.scope = sc0) (eN : X.N = N0) (st : X.stack = X.env :: X.outer) : BlkG X scope zs ys fr := by
  unfold blkOkG at chk
  simp only [Bool.and_eq_true, beq_iff_eq, List.all_eq_true, decide_eq_true_eq] at chk
  obtain ⟨⟨⟨⟨⟨⟨⟨⟨a1, a2⟩, a3⟩, a4⟩, a5⟩, a6⟩, a7⟩, a8⟩, a9⟩ := chk
  have nc : ∀ y ∈ scope.names, y.2 ≠ .cell := fun y hy => by simpa using a3 y hy
  refine ⟨a1, a2, nc, fun y hy hl => ?_, fun n hn => by rw [es]; exact a5 n hn, fun n h => relab_has nc n h, by rw [eN]; exact a6, fun y hy => ?_, fun y hy => relab_free (a7 y hy), st, by rw [eN]; exact a8, a9⟩
  · have z := a4 y hy
    rw [hl] at z
    simpa using z
  · exact List.mem_map.mpr ⟨(y, .free), List.mem_filter.mpr ⟨PySem.mem_of_lookup (a7 y hy), by simp⟩, rfl⟩
/-- a comprehension by its invariant -/
theorem compG_by {J : It} {n : Nat} {g : TG} {σ : St} {fr : List Nat} {tc : TT} {te : TE} {l : Addr} {H1 : Hp} {Q : VK} (len : Nat) (Pv : Nat → List V → Hp → Prop) (h0 : Pv 0 [] (upd H1 l (.lst []))) (hgo : ∀ i xs H, i < len → Pv i xs H → J.go i H)
    (step : ∀ i xs H2 v H3, i < len → Pv i xs H2 → J.yld i H2 v H3 → ∀ N : List V → Hp → Prop, (∀ xs' H', Pv (i + 1) xs' H' → N xs' H') → g v (blk0 σ fr n) H3 fun σ' H3' => tc σ' H3' fun b H4 => if b = true then
      (te σ' H4 fun y H5 => H5 l = some (.lst xs) ∧ xs.length < sizeLine ∧ N (xs ++ [y]) (upd H5 l (.lst (xs ++ [y])))) else N xs H4)
    (fin : ∀ xs H2, Pv len xs H2 → J.stop len H2 ∧ Q (.ref l) H2) : CompG J n g σ fr tc te l H1 Q := by
  refine ⟨fun i m xs H => m = len - i ∧ i ≤ len ∧ Pv i xs H, ⟨len, by simp, Nat.zero_le _, h0⟩, ?_⟩
  rintro i m xs H2 ⟨rfl, hi, p⟩
  by_cases lt : i < len
  · exact .inr ⟨hgo i xs H2 lt p, fun v H3 y => step i xs H2 v H3 lt p y (fun xs' H' => ∃ m', m' < len - i ∧ m' = len - (i + 1) ∧ i + 1 ≤ len ∧ Pv (i + 1) xs' H') fun xs' H' q => ⟨_, by omega, rfl, lt, q⟩⟩
  · have e : i = len := by omega
    subst e
    exact .inl (fin xs H2 p)
end L2

set_option maxRecDepth 100000
namespace L2
open PySem PySem.Spec PyProof.Rows XL
variable {q0 : Bool}
section
variable {X : Cx} {pins : List (Addr × Obj)} {σ : St} {H : Hp} {s : Shared}
theorem KV.get : ∀ {kvs : List (Key × V)} {vs : List (Key × Value)} {i : Nat} {k : Key} {x : V}, KV kvs vs → kvs[i]? = some (k, x) → ∃ u, vs[i]? = some (k, u) ∧ RelV x u
  | _, _, _, _, _, .nil, e => by simp at e
  | _, (_, _) :: _, 0, _, _, .cons r _, e => by
    simp at e
    subst e
    obtain ⟨r1, r2⟩ := r
    dsimp only at r1 r2
    subst r1
    exact ⟨_, rfl, r2⟩
  | _, _, i + 1, k, x, .cons _ t, e => by
    obtain ⟨u, h1, h2⟩ := KV.get (i := i) (k := k) (x := x) t (by simpa using e)
    exact ⟨u, by simpa using h1, h2⟩
end
section
variable {X : Cx} {o : Expr} {to : TE} {elts : List Expr} {x1 : _} {tpos apos cpos : Pos}
end
end L2

set_option maxRecDepth 100000
namespace PySem.F
end PySem.F
namespace L2
open PySem PySem.Spec PyProof.Rows XL
variable {q0 : Bool}
section
variable {X : Cx} {pins : List (Addr × Obj)} {σ : St} {H : Hp} {s : Shared} {a : Addr} {y v : V} {u r : Value} {A : Around} {E : Value → Shared → Prop}
theorem DPut.stay {d b : Addr} {H' : Hp} {o : HO} (g : DPut H d y v H') (e : H b = some o) (n1 : ∀ kvs, o ≠ .dK kvs) (n2 : ∀ kvs, o ≠ .dT kvs) : H' b = some o := by
  rcases g with ⟨kvs, k, e2, _, _, rfl⟩ | ⟨kvs, k, b2, e2, _, _, _, rfl⟩
  · rw [upd_ne (ne_of e e2 (n1 _))]
    exact e
  · rw [upd_ne (ne_of e e2 (n2 _))]
    exact e
theorem DPut.free {d b : Addr} {H' : Hp} (g : DPut H d y v H') (e : H b = none) : H' b = none := by
  rcases g with ⟨kvs, k, e2, _, _, rfl⟩ | ⟨kvs, k, b2, e2, _, _, _, rfl⟩
  · rw [upd_ne (Ne.symm (ne_of_none e2 e))]
    exact e
  · rw [upd_ne (Ne.symm (ne_of_none e2 e))]
    exact e
end
end L2

set_option maxRecDepth 100000
namespace L2
open PySem PySem.Spec PyProof.Rows XL
variable {q0 : Bool}
/-! ### ranges with a step -/
def Itrs (lo d : Int) (n : Nat) : It := ⟨fun i _ => i < n, fun i H x H' => H' = H ∧ x = .int (lo + (i : Int) * d), fun i _ => n ≤ i⟩
theorem turn_rangeS {P : Program} {w : World} {K : PySem.W.Frag} {tg : Expr} (it : Addr) (lo d : Int) (n : Nat) : Turn P w K tg (Itrs lo d n) [it] it (fun i h => IsRangeIter h it (lo + (i : Nat) * d) ((n : Int) - (i : Nat)) d) where
  mem := by simp
  obj := fun i h st b hb => by
    have e : b = it := by simpa using hb
    subst e
    exact ⟨_, st, fun v z => by
      have z' : Data.fields _ = Data.cell v := z
      cases z'⟩
  keep := fun i h h' st k => k it (by simp) _ st
  item := by
    intro X hP hw hK hc i pins s σ H E I hf st hg
    subst hP hw hK
    obtain ⟨f0, f1, f2, f3, f4, f5⟩ := hf it (by simp)
    have W := Walks.range (prog := X.prog) (w := X.w) (I.ok.hd hc) it lo d n
    refine W.item i s _ _ hg st fun v h' tk hv st' kk => ?_
    obtain ⟨t, rfl⟩ := hv
    have I1 : Inv X pins σ H { s with heap := h', toks := tk } := I.turned (fun b o hb e => kk b o (by simpa using hb) e) f0 f1 f3 f4 f5
    exact ⟨_, rfl, go_of (s := { s with heap := h', toks := tk }) (n := "range_iterator") st' rfl rfl (by decide) ⟨.int (lo + (i : Int) * d), H, I1, ⟨t, rfl⟩, ⟨rfl, rfl⟩, st', fun b hb => (hf b hb).1⟩⟩
  done := by
    intro X hP hw hK hc i pins s σ H E I hf st hg
    subst hP hw hK
    obtain ⟨f0, f1, f2, f3, f4, f5⟩ := hf it (by simp)
    exact wpAny_pyNext_range_end (I.ok.hd hc) st (by have : n ≤ i := hg; omega) fun h' eb => ⟨rfl, I.turned (t' := s.toks) (fun b o hb e => eb b o hb e) f0 f1 f3 f4 f5⟩
  self := fun _ _ _ _ _ st h => wpAny_pyIter_rangeiter st h
theorem rangeSize_down (a b : Int) : Builtin.Range.rangeSize a b (-1) = if b < a then a - b else 0 := by
  unfold Builtin.Range.rangeSize
  rw [if_neg (by decide)]
  simp only [Int.neg_neg, Int.ediv_one]
  split <;> omega
theorem small_down {a b : Int} (ha : -(2 ^ 62) ≤ a) (ha' : a < 2 ^ 62) (hb : -(2 ^ 62) ≤ b) (hb' : b < 2 ^ 62) : Builtin.Range.small a b (-1) = true := by
  unfold Builtin.Range.small
  rw [rangeSize_down]
  simp only [Builtin.Range.rangeFitsLong, Bool.and_eq_true, Bool.or_eq_true, decide_eq_true_eq, beq_iff_eq, show ¬ ((-1 : Int) > 0) by decide, if_false]
  split <;> omega
section
variable {X : Cx} {tg : Expr}
theorem range_itS {pins : List (Addr × Obj)} {σ : St} {H : Hp} {s : Shared} {R : It → Hp → Prop} {E : Value → Shared → Prop} {lo hi d : Int} {n : Nat} {t u v : Tok} {tk : Nat} (I : Inv X pins σ H s) (sm : Builtin.Range.small lo hi d = true) (sz : Builtin.Range.rangeSize lo hi d = n)
    (q : R (Itrs lo d n) H) : wpAny (model X.prog X.w) X.A (pyIter (.ref s.heap.objs.size)) (PIE X pins σ tg R) E { s with heap := s.heap.push { cls := .type "range", data := .fields #[.int lo t, .int hi u, .int d v] }, toks := tk } := by
  refine wpAny_pyIter_range (IsRange.new ..) sm ?_
  have I1 : Inv X pins σ H { s with heap := s.heap.push { cls := .type "range", data := .fields #[.int lo t, .int hi u, .int d v] }, toks := tk } := I.kept fun b o e => Heap.get?_push_of_some _ e
  refine ⟨(s.heap.push { cls := .type "range", data := .fields #[.int lo t, .int hi u, .int d v] }).objs.size, [(s.heap.push { cls := .type "range", data := .fields #[.int lo t, .int hi u, .int d v] }).objs.size], _, _, H, rfl,
    I1.kept (t' := tk) fun b o e => Heap.get?_push_of_some _ e, turn_rangeS _ lo d n, ?_, fun b hb => ?_, q⟩
  · have e1 : lo + ((0 : Nat) : Int) * d = lo := by simp
    have e2 : ((n : Nat) : Int) - ((0 : Nat) : Int) = Builtin.Range.rangeSize lo hi d := by rw [sz]; simp
    show IsRangeIter _ _ (lo + ((0 : Nat) : Int) * d) (((n : Nat) : Int) - ((0 : Nat) : Int)) d
    rw [e1, e2]
    exact Heap.get?_push_size _ rfl
  · have e : b = (s.heap.push { cls := .type "range", data := .fields #[.int lo t, .int hi u, .int d v] }).objs.size := by simpa using hb
    subst e
    exact I1.fpOk (Nat.le_refl _) (I1.hok.fresh (Nat.le_refl _))
def iRng3 (ta : TA) : TI := fun σ H R => ta σ H fun vs H1 => ∃ i j d : Int, vs = [.int i, .int j, .int d] ∧ (-(2 ^ 62) ≤ i ∧ i < 2 ^ 62 ∧ -(2 ^ 62) ≤ j ∧ j < 2 ^ 62) ∧ ((d = 1 ∧ R (Itrs i 1 (j - i).toNat) H1) ∨ (d = -1 ∧ R (Itrs i (-1) (i - j).toNat) H1))
theorem pi_range3 {a b c : Expr} {ta : TA} {p pos : Pos} (hg : Gl X "range") (hm : X.mg "range" = none) (ha : PA X [a, b, c] ta) (hs : starEach [a, b, c] X.env = [(false, eval a X.env), (false, eval b X.env), (false, eval c X.env)] := by rfl) (hs2 : starEach [b, c] X.env = [(false, eval b X.env), (false, eval c X.env)] := by rfl) :
    PI X tg (.Call (.Name "range" p) [a, b, c] [] pos) (iRng3 ta) := by
  intro pins s σ H R I h
  refine Call_ (ld_blt I hg hm boot_range (PyProof.Rows.callWith_type1 (thn (ha pos pins s σ H _ I h) fun us s1 ⟨vs, H1, I1, r1, q1⟩ => ?_) (by rw [hs, hs2]) (by rw [hs2]; rfl)))
  obtain ⟨i, j, d, e, ⟨q1, q2, q3, q4⟩, q⟩ := q1
  subst e
  cases r1 with
  | cons r rr =>
    cases rr with
    | cons r' rr =>
      cases rr with
      | cons r'' rr =>
        cases rr
        obtain ⟨t, rfl⟩ := r
        obtain ⟨t', rfl⟩ := r'
        obtain ⟨t'', rfl⟩ := r''
        rcases q with ⟨rfl, q⟩ | ⟨rfl, q⟩
        · exact call_range_3 (by decide) (range_itS I1 (small_one q1 q2 q3 q4) (by rw [rangeSize_one]; split <;> omega) q) (Or.inl (PyProof.noPylong_small (by decide)))
        · exact call_range_3 (by decide) (range_itS I1 (small_down q1 q2 q3 q4) (by rw [rangeSize_down]; split <;> omega) q) (Or.inl (PyProof.noPylong_small (by decide)))
end
/-! ### deep == -/
/-- x == y, by what stands in them: n bounds the depth -/
inductive EqR (K : PySem.W.Frag) (H : Hp) : Nat → V → V → Bool → Prop
  | sc {n : Nat} {x y : V} (h : scal x y = true) (hb : ∀ b, x ≠ .byt b := by intro _ z; cases z) : EqR K H n x y (decide (x = y))
  | tup {n : Nat} {a b : Addr} {xs ys : List V} (e : Nat → Bool) (ha : SqT K H a xs) (hb : SqT K H b ys) (h : ∀ (j : Nat) (x y : V), xs[j]? = some x → ys[j]? = some y → EqR K H n x y (e j)) :
      EqR K H (n + 1) (.ref a) (.ref b) ((List.range (min xs.length ys.length)).all e && xs.length == ys.length)
  | lst {n : Nat} {a b : Addr} {xs ys : List V} (e : Nat → Bool) (ha : SqL K H a xs) (hb : SqL K H b ys) (hl : xs.length = ys.length) (h : ∀ (j : Nat) (x y : V), xs[j]? = some x → ys[j]? = some y → EqR K H n x y (e j)) :
      EqR K H (n + 1) (.ref a) (.ref b) ((List.range xs.length).all e)
theorem scal_at {x y : V} {u v : Value} {A : Around} {s : Shared} (h : scal x y = true) (hb : ∀ b, x ≠ .byt b) (rx : RelV x u) (ry : RelV y v) : SeqAt.EqAt A s u v (decide (x = y)) := by
  match x, y, h, hb with
  | .non, .non, _, _ => obtain rfl : u = Value.none := rx; obtain rfl : v = Value.none := ry; rw [decide_eq_true rfl]; exact SeqAt.EqAt.same _
  | .int _, .int _, _, _ => obtain ⟨t, rfl⟩ := rx; obtain ⟨t', rfl⟩ := ry; rw [dec_int]; exact SeqAt.EqAt.int_int _ _ _ _
  | .str _, .str _, _, _ => obtain ⟨t, rfl⟩ := rx; obtain ⟨t', rfl⟩ := ry; rw [dec_str]; exact SeqAt.EqAt.str_str _ _ _ _
  | .bl _, .bl _, _, _ => obtain rfl : u = Value.bool _ := rx; obtain rfl : v = Value.bool _ := ry; rw [dec_bl]; exact SeqAt.EqAt.bool_bool _ _
  | .non, .int _, _, _ => obtain rfl : u = Value.none := rx; obtain ⟨t', rfl⟩ := ry; simp only [reduceCtorEq, decide_false]; exact SeqAt.EqAt.none_int _ _
  | .int _, .non, _, _ => obtain ⟨t, rfl⟩ := rx; obtain rfl : v = Value.none := ry; simp only [reduceCtorEq, decide_false]; exact SeqAt.EqAt.int_none _ _
  | .non, .bl _, _, _ => obtain rfl : u = Value.none := rx; obtain rfl : v = Value.bool _ := ry; simp only [reduceCtorEq, decide_false]; exact SeqAt.EqAt.none_bool _
  | .bl _, .non, _, _ => obtain rfl : u = Value.bool _ := rx; obtain rfl : v = Value.none := ry; simp only [reduceCtorEq, decide_false]; exact SeqAt.EqAt.bool_none _
  | .non, .str _, _, _ => obtain rfl : u = Value.none := rx; obtain ⟨t', rfl⟩ := ry; simp only [reduceCtorEq, decide_false]; exact SeqAt.EqAt.none_str _ _
  | .str _, .non, _, _ => obtain ⟨t, rfl⟩ := rx; obtain rfl : v = Value.none := ry; simp only [reduceCtorEq, decide_false]; exact SeqAt.EqAt.str_none _ _
  | .int _, .str _, _, _ => obtain ⟨t, rfl⟩ := rx; obtain ⟨t', rfl⟩ := ry; simp only [reduceCtorEq, decide_false]; exact SeqAt.EqAt.int_str _ _ _ _
  | .str _, .int _, _, _ => obtain ⟨t, rfl⟩ := rx; obtain ⟨t', rfl⟩ := ry; simp only [reduceCtorEq, decide_false]; exact SeqAt.EqAt.str_int _ _ _ _
  | .bl _, .str _, _, _ => obtain rfl : u = Value.bool _ := rx; obtain ⟨t', rfl⟩ := ry; simp only [reduceCtorEq, decide_false]; exact SeqAt.EqAt.bool_str _ _ _
  | .str _, .bl _, _, _ => obtain ⟨t, rfl⟩ := rx; obtain rfl : v = Value.bool _ := ry; simp only [reduceCtorEq, decide_false]; exact SeqAt.EqAt.str_bool _ _ _
  | .byt _, .byt _, _, hb => exact absurd rfl (hb _)
theorem vals_at {xs : List V} {us : List Value} (r : Vals xs us) {j : Nat} (h : j < us.toArray.size) : ∃ x, xs[j]? = some x ∧ RelV x us.toArray[j] := by
  have hl := r.length
  have hj : j < xs.length := by simp at h; omega
  obtain ⟨u, h1, h2⟩ := r.get (x := xs[j]) (List.getElem?_eq_getElem hj)
  refine ⟨xs[j], List.getElem?_eq_getElem hj, ?_⟩
  have : us.toArray[j] = u := by
    have z := List.getElem?_eq_some_iff.mp h1
    obtain ⟨z1, z2⟩ := z
    simpa using z2
  rw [this]
  exact h2
section
variable {X : Cx} {pins : List (Addr × Obj)} {σ : St} {H : Hp} {s : Shared}
theorem eqR_at (I : Inv X pins σ H s) {n : Nat} {x y : V} {k : Bool} (h : EqR X.K H n x y k) :
    ((∀ {A : Around} {u v : Value}, A.units + n < cLine → RelV x u → RelV y v → SeqAt.EqAt A s u v k) ∧ (x = y → k = true)) ∧ ∀ {A : Around} {a b : Addr}, A.units + n < cLine → x = .ref a → y = .ref b → SeqAt.RcAt A s (.ref a) (.ref b) k := by
  induction h with
  | @sc n x y h hb =>
    refine ⟨⟨fun _ rx ry => scal_at h hb rx ry, fun e => decide_eq_true e⟩, fun _ e1 e2 => ?_⟩
    subst e1 e2
    exact absurd h (by show ¬ (false = true); decide)
  | @tup n a b xs ys e ha hb h ih =>
    obtain ⟨its, r1, t1, z1⟩ := I.tuple ha
    obtain ⟨its2, r2, t2, z2⟩ := I.tuple hb
    have l1 := r1.length
    have l2 := r2.length
    have rc : ∀ {A : Around}, A.units + (n + 1) < cLine → SeqAt.RcAt A s (.ref a) (.ref b) ((List.range (min xs.length ys.length)).all e && xs.length == ys.length) := fun {A} hu => by
      have z := SeqAt.RcAt.tuples (A := A) (e := e) (show s.heap.IsTuple a its.toArray from t1) (show s.heap.IsTuple b its2.toArray from t2) (by omega) (fun j h1 h2 => by
        obtain ⟨x, hx, rx⟩ := vals_at r1 h1
        obtain ⟨y, hy, ry⟩ := vals_at r2 h2
        exact (ih j x y hx hy).1.1 (A := A.in1) (by show A.units + 1 + n < cLine; omega) rx ry)
      simpa [l1, l2] using z
    have rf : V.ref a = V.ref b → ((List.range (min xs.length ys.length)).all e && xs.length == ys.length) = true := fun q => by
      cases q
      obtain rfl := I.tuple_inj ha hb
      simp only [Nat.min_self, Bool.and_eq_true, beq_self_eq_true, and_true, List.all_eq_true]
      intro j hj
      rw [List.mem_range] at hj
      exact (ih j xs[j] xs[j] (List.getElem?_eq_getElem hj) (List.getElem?_eq_getElem hj)).1.2 rfl
    refine ⟨⟨fun {A u v} hu rx ry => ?_, rf⟩, fun hu e1 e2 => ?_⟩
    · obtain rfl : u = Value.ref a := rx
      obtain rfl : v = Value.ref b := ry
      by_cases q : a = b
      · subst q
        rw [rf rfl]
        exact SeqAt.EqAt.same _
      · exact .of_refs q (rc hu)
    · cases e1
      cases e2
      exact rc hu
  | @lst n a b xs ys e ha hb hl h ih =>
    obtain ⟨its, r1, t1, z1⟩ := I.list ha
    obtain ⟨its2, r2, t2, z2⟩ := I.list hb
    have l1 := r1.length
    have l2 := r2.length
    have rc : ∀ {A : Around}, A.units + (n + 1) < cLine → SeqAt.RcAt A s (.ref a) (.ref b) ((List.range xs.length).all e) := fun {A} hu => by
      have z := SeqAt.RcAt.lists (A := A) (e := e) t1.isList t2.isList (by simp; omega) (by omega) (fun j h1 h2 => by
        obtain ⟨x, hx, rx⟩ := vals_at r1 h1
        obtain ⟨y, hy, ry⟩ := vals_at r2 h2
        exact (ih j x y hx hy).1.1 (A := A.in1) (by show A.units + 1 + n < cLine; omega) rx ry)
      simpa [l1] using z
    have rf : V.ref a = V.ref b → ((List.range xs.length).all e) = true := fun q => by
      cases q
      obtain rfl := I.list_inj ha hb
      rw [List.all_eq_true]
      intro j hj
      rw [List.mem_range] at hj
      exact (ih j xs[j] xs[j] (List.getElem?_eq_getElem hj) (List.getElem?_eq_getElem hj)).1.2 rfl
    refine ⟨⟨fun {A u v} hu rx ry => ?_, rf⟩, fun hu e1 e2 => ?_⟩
    · obtain rfl : u = Value.ref a := rx
      obtain rfl : v = Value.ref b := ry
      by_cases q : a = b
      · subst q
        rw [rf rfl]
        exact SeqAt.EqAt.same _
      · exact .of_refs q (rc hu)
    · cases e1
      cases e2
      exact rc hu
def rEqD (K : PySem.W.Frag) : R2 := fun x y H Q => ∃ a b n k, x = .ref a ∧ y = .ref b ∧ EqR K H n x y k ∧ n ≤ 10 ∧ Q (.bl k) H
theorem op_eqD (hu : X.A.units + 20 < cLine) : OpR X (compareOp .Eq) (rEqD X.K) := by
  intro pins s σ H x y u v Q I rx ry h
  obtain ⟨a, b, n, k, rfl, rfl, e, hn, q⟩ := h
  obtain rfl : u = Value.ref a := rx
  obtain rfl : v = Value.ref b := ry
  exact (eqR_at I e).2 (A := X.A) (by omega) rfl rfl X.prog X.w X.xe _ ⟨.bl k, H, I, rfl, q⟩
end
theorem hu20_of {A : Around} {k : Nat} (hr : Room q0 k A) : A.units + 20 < cLine := by have := hr.un; omega
/-! ### a dict that the text's top made -/
inductive Ents (w : World) : List DictEntry → List (Key × V) → Prop
  | nil : Ents w [] []
  | cons {k : Key} {x : V} {key val : Value} {h : Int} {es : List DictEntry} {kvs : List (Key × V)} (hh : h = keyH w k) (hk : RelV (kV k) key) (hv : RelV x val) (r : Ents w es kvs) : Ents w (⟨h, key, val⟩ :: es) ((k, x) :: kvs)
theorem Ents.ok {P : Program} {w : World} {es : List DictEntry} {kvs : List (Key × V)} (h : Ents w es kvs) : ∃ vs, KV kvs vs ∧ Pairs (mixKind P w) es vs ∧ ∀ e ∈ es, ∃ k, (mixKind P w).is k e.key = true ∧ e.hash = (mixKind P w).hash k := by
  induction h with
  | nil => exact ⟨[], .nil, .nil, fun e z => nomatch z⟩
  | @cons k x key val h es kvs hh hk hv _ ih =>
    obtain ⟨vs, a, b, c⟩ := ih
    refine ⟨(k, val) :: vs, .cons ⟨rfl, hv⟩ a, .cons (kV_is hk) rfl b, fun e he => ?_⟩
    rcases List.mem_cons.mp he with rfl | z
    · exact ⟨k, kV_is hk, hh⟩
    · exact c e z
section
variable {X : Cx} {pins : List (Addr × Obj)} {σ : St} {H : Hp} {s : Shared} {D : Addr} {kvs : List (Key × V)}
end
end L2

set_option maxRecDepth 100000
namespace L2
open PySem PySem.Spec PyProof.Rows XL
variable {q0 : Bool}
theorem preSum_take {ns : List Int} {f : Nat → Int} (h : ∀ j (l : j < ns.length), f j = ns[j]) : ∀ j, j ≤ ns.length → preSum f j = (ns.take j).sum := by
  intro j
  induction j with
  | zero => intro _; rfl
  | succ j ih =>
    intro l
    have l' : j < ns.length := l
    show preSum f j + f j = _
    rw [ih (Nat.le_of_lt l'), h j l', List.take_add_one, List.getElem?_eq_getElem l', List.sum_append]
    simp
theorem sum_in {ns : List Int} (B : Int) (hb : ∀ n ∈ ns, -B ≤ n ∧ n ≤ B) (h0 : 0 ≤ B) : -(ns.length * B) ≤ ns.sum ∧ ns.sum ≤ ns.length * B := by
  induction ns with
  | nil => simp
  | cons a r ih =>
    have := ih fun n hn => hb n (List.mem_cons_of_mem _ hn)
    have := hb a List.mem_cons_self
    rw [List.sum_cons, List.length_cons]
    have e : ((r.length + 1 : Nat) : Int) * B = r.length * B + B := by rw [Int.natCast_add, Int.add_mul]; simp
    rw [e]
    omega
/-- the sum of a list of ints -/
def rSumL (K : PySem.W.Frag) : List V → Hp → VK → Prop := fun xs H Q => ∃ (p : Addr) (ns : List Int), xs = [.ref p] ∧ SqL K H p (ns.map V.int) ∧ (ns.length ≤ 1000 ∧ ∀ n ∈ ns, -1000000 ≤ n ∧ n ≤ 1000000) ∧ Q (.int ns.sum) H
theorem call_sumL {X : Cx} (hc : X.calm = true) : CallR X (.builtin "sum") (rSumL X.K) := by
  intro pins s σ H xs us Q I r h
  obtain ⟨p, ns, rfl, hs, ⟨hlen, hb⟩, q⟩ := h
  obtain ⟨u, rfl, rx⟩ := vals1 r
  obtain rfl : u = Value.ref p := rx
  obtain ⟨its, vi, ⟨o, n, g, c, _, d⟩, _⟩ := I.list hs
  have hi : IntsAre its ns := intsAre_of vi
  have il : s.heap.IsList p its.toArray := ⟨o, g, c, n, d⟩
  obtain ⟨zs, e⟩ := hi.allInts.items
  have en : ns = zs.toList.map (·.1) := by rw [← hi.numsOf, ← nums_intItems, ← e]
  rw [e] at il
  have sz : zs.size = ns.length := by rw [en, List.length_map, Array.length_toList]
  have hat : ∀ j (l : j < ns.length), numAt zs j = ns[j] := fun j l => by
    rw [numAt_eq, ← en]
    simp [List.getD, l]
  have bd : ∀ j, j ≤ ns.length → InLong (ns.take j).sum := fun j l => by
    have := sum_in 1000000 (ns := ns.take j) (fun n hn => hb n (List.mem_of_mem_take hn)) (by decide)
    have hl : (ns.take j).length ≤ 1000 := by rw [List.length_take]; omega
    unfold InLong
    omega
  refine sum_intList (I.ok.hd hc) il (fun j hj => ⟨?_, ?_⟩) fun h' tk t' hk => ?_
  · rw [hat j (by omega)]
    have := hb ns[j] (List.getElem_mem _)
    unfold InLong
    omega
  · rw [preSum_take hat (j + 1) (by omega)]
    exact bd _ (by omega)
  · refine ⟨.int _, H, I.kept hk, ⟨t', rfl⟩, ?_⟩
    rw [sz, preSum_take hat _ (Nat.le_refl _), List.take_length]
    exact q
/-- all of a list of truths -/
def rAllL (K : PySem.W.Frag) : List V → Hp → VK → Prop := fun xs H Q => ∃ (p : Addr) (bs : List Bool), xs = [.ref p] ∧ SqL K H p (bs.map V.bl) ∧ Q (.bl (bs.all id)) H
theorem valsBl {bs : List Bool} : ∀ {us : List Value}, Vals (bs.map V.bl) us → us = bs.map Value.bool := by
  induction bs with
  | nil => intro us h; cases h; rfl
  | cons b r ih =>
    intro us h
    cases h with
    | cons h1 h2 =>
      have := ih h2
      subst this
      obtain rfl := h1
      rfl
theorem range_all {bs : List Bool} : (List.range bs.length).all (fun i => bs.getD i true) = bs.all id := by
  have h : (List.range bs.length).map (fun i => bs.getD i true) = bs := by
    apply List.ext_getElem
    · simp
    · intro i h1 h2
      simp [List.getD, h2]
  calc _ = ((List.range bs.length).map (fun i => bs.getD i true)).all id := by rw [List.all_map]; rfl
    _ = _ := by rw [h]
theorem call_allL {X : Cx} (hc : X.calm = true) : CallR X (.builtin "all") (rAllL X.K) := by
  intro pins s σ H xs us Q I r h
  obtain ⟨p, bs, rfl, hs, q⟩ := h
  obtain ⟨u, rfl, rx⟩ := vals1 r
  obtain rfl : u = Value.ref p := rx
  obtain ⟨its, vi, ⟨o, n, g, c, _, d⟩, _⟩ := I.list hs
  have il : s.heap.IsList p its.toArray := ⟨o, g, c, n, d⟩
  obtain rfl := valsBl vi
  have hlt : p < s.heap.objs.size := Heap.lt_size g
  refine call_all_walk (wpAny_pyIter_list il ?_)
  refine ⟨_, _, _, _, _, _, fun i => bs.getD i true, rfl, Walks.list (A := X.A.in1) (I.ok.hd hc) _ p (Nat.ne_of_lt hlt) (bs.map Value.bool).toArray, ⟨⟨_, Heap.get?_push_size _ rfl, rfl, rfl⟩, il.push _⟩, ?_, fun h' tk hk => ?_⟩
  · intro i v s' Q' E' hP hQ
    simp only [List.getElem?_toArray, List.getElem?_map, Option.map_eq_some_iff] at hP
    obtain ⟨b, hb, rfl⟩ := hP
    have : bs.getD i true = b := by simp [List.getD, hb]
    rw [← this]
    exact wpAny_pure hQ
  · rw [List.size_toArray, List.length_map, range_all]
    exact ⟨.bl _, H, I.kept (old_kept hk), rfl, q⟩
end L2

set_option maxRecDepth 100000
namespace L2
open PySem PySem.Spec PyProof.Rows XL
variable {q0 : Bool}
section
variable {X : Cx} {pins : List (Addr × Obj)} {σ : St} {H : Hp} {s : Shared} {h' : Heap}
end
section
variable {X : Cx} {tg : Expr}
end
section
variable {X : Cx} {elts : List Expr} {x1 : _} {tpos : Pos}
end
end L2

set_option maxRecDepth 100000
namespace L2
open PySem PySem.Spec PyProof.Rows XL
variable {q0 : Bool}
section
variable {X : Cx} {elts : List Expr} {x1 : _} {tpos : Pos}
end
/-! ### != of lists, deep; is True -/
def rNeD (K : PySem.W.Frag) : R2 := fun x y H Q => ∃ (a b : Addr) (xs ys : List V) (e : Nat → Bool), x = .ref a ∧ y = .ref b ∧ SqL K H a xs ∧ SqL K H b ys ∧ xs.length = ys.length ∧ (∀ (j : Nat) (x y : V), xs[j]? = some x → ys[j]? = some y → EqR K H 10 x y (e j)) ∧ Q (.bl (!(List.range xs.length).all e)) H
theorem op_neD {X : Cx} (hu : X.A.units + 20 < cLine) : OpR X (compareOp .NotEq) (rNeD X.K) := by
  intro pins s σ H x y u v Q I rx ry h
  obtain ⟨a, b, xs, ys, e, rfl, rfl, ha, hb, hl, he, q⟩ := h
  obtain rfl : u = Value.ref a := rx
  obtain rfl : v = Value.ref b := ry
  obtain ⟨its, r1, t1, z1⟩ := I.list ha
  obtain ⟨its2, r2, t2, z2⟩ := I.list hb
  have l1 := r1.length
  have l2 := r2.length
  refine PySem.W.cmp_ofNotEq (SeqAt.RcNeAt.lists (A := X.A) (e := e) t1.isList t2.isList (by simp; omega) (by omega) (fun j h1 h2 => ?_) X.prog X.w X.xe _ ?_)
  · obtain ⟨x, hx, rx⟩ := vals_at r1 h1
    obtain ⟨y, hy, ry⟩ := vals_at r2 h2
    exact (eqR_at I (he j x y hx hy)).1.1 (A := X.A.in1) (by show X.A.units + 1 + 10 < cLine; omega) rx ry
  · have : its.toArray.size = xs.length := by simp; omega
    rw [this]
    exact ⟨.bl _, H, I, rfl, q⟩
end L2
namespace L2
open PySem PySem.Spec PyProof.Rows XL
end L2

set_option maxRecDepth 100000
namespace L2
open PySem PySem.Spec PyProof.Rows XL
end L2

set_option maxRecDepth 100000
namespace XL
open PySem PySem.W
/-- no __init__ of its own -/
def xno0 (K : Frag) (C : Addr) : Bool := match K.lookup C with
  | some ⟨_, _, .cls cd, _⟩ => nsNoInit K cd.ns
  | _ => false
section
variable {prog : Program} {w : World} {A : Around} {E : Value → Shared → Prop} {h : Heap} {g : Array GenState} {d : Drawn} {t : Nat} {os : OsState}
variable {nm qn : Str} {C N : Addr} {bs bm bmB : List Value} {hz : Bool} {sn : List Str} {sub : List Value} {ab : Bool} {col : Option Bool} {dd : Option Addr} {k0 k1 k2 k3 k5 : Option Value} {B ni ii : String}
theorem tcall_xnew (F : ExcBaseFacts B ni ii bmB) (T : OwnTail h bmB bm) {mN : Str → Option Value} {Q : Fin → Shared → Prop}
    (gC : h.get? C = some (excClassObj nm qn C N bs bm hz sn sub ab col dd k0 k1 k2 k3 k5 ni)) (nN : h.Ns N mN) (iN : mN "__init__" = none)
    (kq : ∀ h' e, Heap.MadeExcOf h h' e (.ref C) [] → h.objs.size ≤ e → Q (.done (.ret (.ref e))) ⟨h', g, d, t, os⟩) :
    wpAny (model prog w) A (Builtin.«type.__call__» ⟨[.ref C], []⟩) Q E ⟨h, g, d, t, os⟩ := by
  repeat (first | with_reducible refine wpAny_loadPart_at gC ?_ | with_reducible refine wpAny_madeBy_exc gC ?_ | wp_step)
  refine codeAny_call_builtin_code (Code.quiet_builtin _ F.quiet) (wpAny_check_new_subT F T gC ?_)
  refine codeAny_exc_new_subT F T gC ?_ (Nat.zero_le _)
  change wpAny _ _ _ _ _ _
  generalize e1 : ({ cls := .type "tuple", data := .seq ([] : List Value).toArray } : Obj) = oT
  have fT : oT.isFreed = false := by rw [← e1]; rfl
  generalize e2 : ({ cls := .ref C, data := .fields #[.ref h.objs.size, .none, .none, .none, .bool false, .none] } : Obj) = oE
  have fE : oE.isFreed = false := by rw [← e2]; rfl
  have up : ∀ b o, h.get? b = some o → ((h.push oT).push oE).get? b = some o := fun b o q => Heap.get?_push_of_some oE (Heap.get?_push_of_some oT q)
  have gC' := up _ _ gC
  have nN' : ((h.push oT).push oE).Ns N mN := let ⟨o, es, ep, e, r⟩ := nN; ⟨o, es, ep, up _ _ e, r⟩
  have T' := T.keeps up
  have gE : ((h.push oT).push oE).get? (h.objs.size + 1) = some oE := by
    have z := Heap.get?_push_size (h.push oT) fE
    rwa [Heap.size_push] at z
  have cE : oE.cls = .ref C := by rw [← e2]
  have me : (Value.ref C :: bm).contains (.ref C) = true := by simp
  unfold isInstance
  repeat (first | (with_reducible refine wpAny_loadPart_at gE ?_; rw [cE]) | (with_reducible refine wpAny_isSubtype_exc gC' ?_; rw [me]) | wp_step)
  change wpAny _ _ (typeLookup (Value.ref C) _) _ _ _
  refine wpAny_typeLookup_tail gC' nN' T' F.mroIs F.init.lookup ?_
  rw [iN]
  refine wpAny_holding (wpAny_bind (wpAny_of_eq (F.init.bind _) ?_))
  refine wpAny_bind (wpAny_call (codeAny_call_builtin F.init.plain F.initEntry (wpAny_check_init_subT F T' gC' gE cE ?_)))
  subst e2
  wp_walk
  refine kq _ (h.objs.size + 1) ⟨fun b o hb => ?_, Heap.get?_none_of_le (Nat.le_succ _), h.objs.size + 2, ?_, Heap.get?_none_of_le (by omega), ?_⟩ (Nat.le_succ _)
  · rw [Heap.get?_update_other _ _ (Nat.ne_of_gt (Nat.lt_succ_of_lt (Heap.lt_size hb)))]
    exact Heap.get?_push_of_some _ (up _ _ hb)
  · rw [Heap.get?_update_self _ (Heap.get?_push_of_some _ gE) rfl]
    simp only [Heap.size_push]
    rfl
  · rw [Heap.get?_update_other _ _ (show h.objs.size + 1 ≠ h.objs.size + 2 by omega)]
    exact Heap.get?_push_at (by simp only [Heap.size_push]) rfl
theorem call_xnew (F : ExcBaseFacts B ni ii bmB) (T : OwnTail h bmB bm) {mN : Str → Option Value} {Q : Value → Shared → Prop}
    (gC : h.get? C = some (excClassObj nm qn C N bs bm hz sn sub ab col dd k0 k1 k2 k3 k5 ni)) (nN : h.Ns N mN) (iN : mN "__init__" = none)
    (kq : ∀ h' e, Heap.MadeExcOf h h' e (.ref C) [] → h.objs.size ≤ e → Q (.ref e) ⟨h', g, d, t, os⟩) : wpAny (model prog w) A (call (.ref C) []) Q E ⟨h, g, d, t, os⟩ := by
  have a1 := tc_lookup
  have a2 := tc_bind (.ref C)
  have ty : (⟨h, g, d, t, os⟩ : Shared).TypeIs (.ref C) "type" := ⟨_, gC, rfl⟩
  refine wpAny_call (codeAny_of_tree ?_)
  change wpAny _ _ (callAny (Value.ref C) _) _ _ _
  repeat (any_goals (first | assumption | with_reducible refine wpAny_loadPart_at gC ?_ | wp_step))
  refine ⟨rfl, ?_⟩
  refine codeAny_call_builtin_at (Code.quiet_builtin _ (by decide +kernel)) entry_typeCall (wpAny_check_type_call_sub gC (tcall_xnew F T gC nN iN fun h' e hm hs => ?_))
  exact kq h' e hm hs
end
end XL
namespace L2
open PySem PySem.Spec PyProof.Rows XL
variable {q0 : Bool}
def tXNew (C : Addr) : TE := fun σ H Q => ∀ e, H e = none → Q (.ref e) (upd H e (XN e C none))
section
variable {X : Cx} {C : Addr} {x : Str} {p pos : Pos}
theorem pe_xnew (mk : xmkIn X.K C = true) (no : xno0 X.K C = true) (kp : PySem.W.keepIn X.K (.ref C) = true) (hg : Gl X x) (hm : X.mg x = some (.ref C)) (hdb : (x == ("__debug__" : Str)) = false := by decide) :
    PE X (.Call (.Name x p) [] [] pos) (tXNew C) := by
  intro pins s σ H Q I h
  refine wpAny_Call_Name_kw (ld_glob I hg hm ?_ hdb)
  refine PySem.W.callWith_K0 I.kIn kp ?_
  obtain ⟨nm, qn, N, bs, bm, hz, sn, sub, ab, col, dd, k0, k1, k2, k3, k5, gC, T⟩ := xmk_of I.kIn mk
  obtain ⟨mN, hn, hni⟩ : ∃ mN, s.heap.Ns N mN ∧ mN "__init__" = none := by
    unfold xno0 at no
    split at no
    · rename_i c d cd sl ho
      have z := (I.kIn _ _ ho).symm.trans gC
      injection z with z
      injection z with _ _ z _
      injection z with z
      rw [z] at no
      exact ns_of I.kIn no
    · cases no
  obtain ⟨hh, gg, d, tk, os⟩ := s
  refine call_xnew PySem.F.excBase_ValueError T gC hn hni (fun h' e hm se => ?_)
  have hn' : H e = none := I.hok.fresh se
  obtain ⟨t0, ge, _, _⟩ := hm.there
  have xa : Xat h' e (.ref C) none none := ⟨_, _, ge, rfl, rfl, rfl, by simp, .inl ⟨rfl, rfl⟩⟩
  exact ⟨.ref e, _, I.laid (t' := tk) hm.keeps se (xn_ok xa), rfl, h e hn'⟩
end
section
variable {X : Cx} {pos np hpos np1 np2 hpos1 hpos2 : Pos} {body hbody hbody1 hbody2 : List Stmt} {b0 b1 b2 : Stmt} {cx cx1 cx2 n : Str} {C0 C1 C2 : Addr} {j : Nat} {E : St → XK} {tb th th1 th2 : TS} {rest : List ExceptHandler}
theorem handle_hit {pins : List (Addr × Obj)} {σ' : St} {H' : Hp} {s2 : Shared} {D : Ends} {e C T : Addr} {od : Option Addr} (ok : X.Ok) (hg : Gl X cx) (hm : X.mg cx = some (.ref C0)) (mk0 : xmkIn X.K C0 = true) (hN : X.N.Nodup) (hj : X.N[j]? = some n) (hl : X.env.scope.names.lookup n = some .local)
    (hh : ∀ e, PSs (X.hand e) (b0 :: hbody) th) (hdb : (cx == ("__debug__" : Str)) = false) (J2 : Inv X pins σ' H' s2) (x' : Xat s2.heap e (.ref C) od (some T)) (he : H' e = some (XO e C od)) (tbs2 : Tbs X pins H' (some T)) (nT : ∀ b ∈ frs X.stack, b ≠ T)
    (mkC : xmkIn X.K C = true) (mro : PySem.W.mroIn X.K C (.ref C0) = some true) (hth : th (endH D j) (σ'.set j (some (.ref e))) H') :
    wpAny (model X.prog X.w) X.A (handleBy (.ref e) X.env (.ExceptHandler (some (.Name cx np)) (some n) (b0 :: hbody) hpos :: rest)) (SP X pins D) X.xe s2 := by
  obtain ⟨nm, qn, N, bs, bm, hz, sn, sub, ab, col, dd, k0, k1, k2, k3, k5, gC, TC⟩ := xmk_of J2.kIn mkC
  obtain ⟨nm', qn', N', bs', bm', hz', sn', sub', ab', col', dd', j0, j1, j2, j3, j5, gC0, TC0⟩ := xmk_of J2.kIn mk0
  refine wpAny_handleBy_cons (codeAny_handlers_test (ld_glob (X := X.hand e) (J2.hand e) hg hm ?_ hdb)) (by intro z; cases z)
  obtain ⟨oe, _, ge, ce, _⟩ := id x'
  have hmr : (Value.ref C :: bm).contains (.ref C0) = true := by
    obtain ⟨cd, e1, e2⟩ := Option.bind_eq_some_iff.mp mro
    have e3 : (Value.ref C :: bm) = cd.mro := by
      unfold PySem.W.clsIn at e1
      split at e1
      · rename_i c1 d1 cd1 sl1 ho
        cases e1
        have z := (J2.kIn _ _ ho).symm.trans gC
        injection z with z
        injection z with _ _ z _
        injection z with z
        rw [z]
      · cases e1
    rw [e3]
    split at e2
    · cases e2
    · exact Option.some.inj e2
  refine matches_own (M := model X.prog X.w) gC gC0 ge ce (tail_base TC0) hmr ?_
  show codeAny _ _ _ _ _
  refine codeAny_handlers_suite_as (flight_x (fs := frs X.stack) x' nT fun h3 st3 x3 => ?_)
  have J3 : Inv X pins σ' H' { s2 with heap := h3 } := J2.noted he tbs2 st3 x3
  refine store_ok (v := V.ref e) J3 hN hj (.inl hl) rfl (fun s4 J4 => ?_) (.inr hl)
  refine wpAny_mono (hh e pins s4 _ H' _ (J4.hand e) hth) (fun f s5 q5 => ?_) fun _ _ z => z.elim
  have fin : ∀ {σ5 : St} {H5 : Hp} {Q : Unit → Shared → Prop}, Inv (X.hand e) pins σ5 H5 s5 → (∀ s6, Inv X pins (σ5.set j none) H5 s6 → Q () s6) →
      wpAny (model X.prog X.w) X.A (do bindName X.env n Value.none; unbindBehindTheSuite X.env n hpos) Q X.xe s5 := fun {σ5 H5 Q} K5 kq => by
    have K6 : Inv X pins σ5 H5 s5 := Inv.unhand ok K5
    obtain ⟨m, hm5, hv5⟩ := K6.loc
    refine name_gone (show X.env.kindOf n = some .local from hl) hm5 (by simp [ok.kind]) fun h6 m6 n6 e6 s6 => kq _ (K6.gone hN hj hl hm5 hv5 n6 e6 s6)
  cases f with
  | next =>
    obtain ⟨σ5, H5, K5, z⟩ := q5
    exact fin K5 fun s6 K6 => ⟨_, H5, K6, z⟩
  | brk =>
    obtain ⟨σ5, H5, K5, z⟩ := q5
    exact fin K5 fun s6 K6 => ⟨_, H5, K6, z⟩
  | cont =>
    obtain ⟨σ5, H5, K5, z⟩ := q5
    exact fin K5 fun s6 K6 => ⟨_, H5, K6, z⟩
  | ret u =>
    obtain ⟨v, σ5, H5, K5, r, z⟩ := q5
    exact fin K5 fun s6 K6 => ⟨v, _, H5, K6, r, z⟩
theorem handle_miss {pins : List (Addr × Obj)} {σ' : St} {H' : Hp} {s2 : Shared} {D : Ends} {e C T : Addr} {od : Option Addr} (hg : Gl X cx) (hm : X.mg cx = some (.ref C0)) (mk0 : xmkIn X.K C0 = true) (hdb : (cx == ("__debug__" : Str)) = false) (J2 : Inv X pins σ' H' s2) (x' : Xat s2.heap e (.ref C) od (some T))
    (mkC : xmkIn X.K C = true) (mro : PySem.W.mroIn X.K C (.ref C0) = some false) (k : wpAny (model X.prog X.w) X.A (handleBy (.ref e) X.env rest) (SP X pins D) X.xe s2) :
    wpAny (model X.prog X.w) X.A (handleBy (.ref e) X.env (.ExceptHandler (some (.Name cx np)) (some n) (b0 :: hbody) hpos :: rest)) (SP X pins D) X.xe s2 := by
  obtain ⟨nm, qn, N, bs, bm, hz, sn, sub, ab, col, dd, k0, k1, k2, k3, k5, gC, TC⟩ := xmk_of J2.kIn mkC
  obtain ⟨nm', qn', N', bs', bm', hz', sn', sub', ab', col', dd', j0, j1, j2, j3, j5, gC0, TC0⟩ := xmk_of J2.kIn mk0
  refine wpAny_handleBy_cons (codeAny_handlers_test (ld_glob (X := X.hand e) (J2.hand e) hg hm ?_ hdb)) (by intro z; cases z)
  obtain ⟨oe, _, ge, ce, _⟩ := id x'
  have hmr : (Value.ref C :: bm).contains (.ref C0) = false := by
    obtain ⟨cd, e1, e2⟩ := Option.bind_eq_some_iff.mp mro
    have e3 : (Value.ref C :: bm) = cd.mro := by
      unfold PySem.W.clsIn at e1
      split at e1
      · rename_i c1 d1 cd1 sl1 ho
        cases e1
        have z := (J2.kIn _ _ ho).symm.trans gC
        injection z with z
        injection z with _ _ z _
        injection z with z
        rw [z]
      · cases e1
    rw [e3]
    split at e2
    · cases e2
    · exact Option.some.inj e2
  refine matches_own (M := model X.prog X.w) gC gC0 ge ce (tail_base TC0) hmr ?_
  exact k
def tTry2 (K : PySem.W.Frag) (C1 C2 : Addr) (j : Nat) (E : St → XK) (tb th1 th2 : TS) : TS := fun D σ H => tb D σ H ∧ ∀ σ' e C H', E σ' e C H' → xmkIn K C = true ∧ ((PySem.W.mroIn K C (.ref C1) = some true ∧ th1 (endH D j) (σ'.set j (some (.ref e))) H') ∨
  (PySem.W.mroIn K C (.ref C1) = some false ∧ PySem.W.mroIn K C (.ref C2) = some true ∧ th2 (endH D j) (σ'.set j (some (.ref e))) H'))
/-- try: body; except C1 as n: .. except C2 as n: .. -/
theorem ps_try2 (hg1 : Gl X cx1) (hm1 : X.mg cx1 = some (.ref C1)) (mk1 : xmkIn X.K C1 = true) (hg2 : Gl X cx2) (hm2 : X.mg cx2 = some (.ref C2)) (mk2 : xmkIn X.K C2 = true) (hN : X.N.Nodup) (hj : X.N[j]? = some n) (hl : X.env.scope.names.lookup n = some .local) (hf : X.env.frame = some X.env.locals) (hst : X.stack = X.env :: X.outer)
    (hb : ∀ pins xe, Takes (X.tryc pins xe) E → PSs (X.tryc pins xe) body tb) (hh1 : ∀ e, PSs (X.hand e) (b1 :: hbody1) th1) (hh2 : ∀ e, PSs (X.hand e) (b2 :: hbody2) th2) (hdb1 : (cx1 == ("__debug__" : Str)) = false := by decide) (hdb2 : (cx2 == ("__debug__" : Str)) = false := by decide) :
    PS X (.Try body [.ExceptHandler (some (.Name cx1 np1)) (some n) (b1 :: hbody1) hpos1, .ExceptHandler (some (.Name cx2 np2)) (some n) (b2 :: hbody2) hpos2] [] [] pos) (tTry2 X.K C1 C2 j E tb th1 th2) := by
  intro pins s σ H D I ⟨h1, h2⟩
  refine wpAny_Try_except ?_
  have ok := I.ok
  have T : Takes (X.tryc pins (fun e s₁ => wpAny (model X.prog X.w) X.A (noteFrame e X.env) (fun _ s₂ => wpAny (model X.prog X.w) X.A (setFlight e none) (fun _ s₃ => wpAny (model X.prog X.w) X.A (handleBy e X.env [.ExceptHandler (some (.Name cx1 np1)) (some n) (b1 :: hbody1) hpos1, .ExceptHandler (some (.Name cx2 np2)) (some n) (b2 :: hbody2) hpos2]) (SP X pins D) X.xe s₃) X.xe s₂) X.xe s₁)) E := by
    intro pl σ' H' s' e C od tb' I' x he tbs q
    have J := I'.untryc
    have tbs' : Tbs X pins H' tb' := fun T z => by
      obtain ⟨a1, a2, a3, a4, a5⟩ := tbs T z
      exact ⟨a1, a2, a3, a4, fun p hp => a5 p (List.mem_append_left _ hp)⟩
    obtain ⟨mkC, alt⟩ := h2 σ' e C H' q
    have fr : X.A.frames = some (X.env :: X.outer) := by rw [← hst]; exact J.ok.frames
    have ff : s'.heap.FunFrames X.base (X.env :: X.outer) := by rw [← hst]; exact J.stack
    refine note_x (L := X.env.locals) fr ff hf x fun h' T st sT x' => ?_
    rw [← hst] at st
    have J2 := J.noted he tbs' st x'
    have fr2 : X.base.objs.size ≤ s'.heap.objs.size := Nat.le_trans J.ok.bsz J.sz
    have ff2 : h'.FunFrames X.base X.stack := J2.stack
    have nT : ∀ b ∈ frs X.stack, b ≠ T := fun b hb z => by
      obtain ⟨_, o, ho, hnf⟩ := J.stack.mem hb
      rw [z] at ho
      exact absurd (Heap.lt_size ho) (Nat.not_lt.mpr sT)
    have fresh := J.size_lt sT
    have tbs2 : Tbs X pins H' (some T) := fun T' z => by
      cases z
      exact ⟨Nat.le_trans J.sz sT, fresh.1, fresh.2.1, fresh.2.2.1, fresh.2.2.2⟩
    rcases alt with ⟨mro, hth⟩ | ⟨mro1, mro, hth⟩
    · exact handle_hit ok hg1 hm1 mk1 hN hj hl hh1 hdb1 J2 x' he tbs2 nT mkC mro hth
    · exact handle_miss hg1 hm1 mk1 hdb1 J2 x' mkC mro1 (handle_hit ok hg2 hm2 mk2 hN hj hl hh2 hdb2 J2 x' he tbs2 nT mkC mro hth)
  refine wpAny_mono (hb pins _ T [] s σ H D (I.tryc _) h1) (fun f s1 q => ?_) fun u s1 q => q
  cases f with
  | next =>
    obtain ⟨σ', H', J, z⟩ := q
    exact wpAny_execs_nil ⟨σ', H', J.untryc, z⟩
  | brk =>
    obtain ⟨σ', H', J, z⟩ := q
    exact ⟨σ', H', J.untryc, z⟩
  | cont =>
    obtain ⟨σ', H', J, z⟩ := q
    exact ⟨σ', H', J.untryc, z⟩
  | ret u =>
    obtain ⟨v, σ', H', J, r, z⟩ := q
    exact ⟨v, σ', H', J.untryc, r, z⟩
end
end L2

set_option maxRecDepth 100000
namespace L2
open PySem PySem.Spec PyProof.Rows XL
/-- a op1 b op2 c op3 d -/
def tChain3 (r r' r2 : R2) (ta tb tc td : TE) : TE := fun σ H Q => ta σ H fun x H1 => tb σ H1 fun y H2 => r x y H2 fun z H3 => ∃ k, z = .bl k ∧
  (if k = true then tc σ H3 fun w' H4 => r' y w' H4 fun z2 H5 => ∃ k2, z2 = .bl k2 ∧ (if k2 = true then td σ H5 fun v' H6 => r2 w' v' H6 Q else Q (.bl false) H5) else Q (.bl false) H3)
section
variable {X : Cx} {a b c d : Expr} {ta tb tc td : TE} {pos : Pos}
theorem pt_chain3 {op op' op2 : CmpOp} {r r' r2 : R2} (ho : OpR X (compareOp op) r) (ho' : OpR X (compareOp op') r') (ho2 : OpR X (compareOp op2) r2) (ha : PE X a ta) (hb : PE X b tb) (hc : PE X c tc) (hd : PE X d td)
    (hm : lastMarks [op, op', op2] [b, c, d] = false := by with_unfolding_all rfl) : PT X (.Compare a [op, op', op2] [b, c, d] pos) (tTest (tChain3 r r' r2 ta tb tc td)) := by
  intro pins s σ H Q I h
  refine isTrue_chain (thn (ha pins s σ H _ I h) fun v s1 ⟨x, H1, I1, r1, q1⟩ => test_link (thn (hb pins s1 σ H1 _ I1 q1) fun u s2 ⟨y, H2, I2, r2', q2⟩ =>
    thn (ho pins s2 σ H2 x y v u _ I2 r1 r2' q2) fun d1 s3 ⟨z, H3, I3, r3, k, e, q3⟩ => ?_)) hm
  subst e
  cases r3
  refine wpAny_truthy_bool ?_
  cases k with
  | false =>
    obtain ⟨k', e', q'⟩ := q3
    cases e'
    exact ite_ff ⟨H3, I3, q'⟩
  | true =>
    refine ite_tt (test_link (thn (hc pins s3 σ H3 _ I3 q3) fun w' s4 ⟨z', H4, I4, r4, q4⟩ => thn (ho' pins s4 σ H4 y z' u w' _ I4 r2' r4 q4) fun d' s5 ⟨z2, H5, I5, r5, k2, e2, q5⟩ => ?_))
    subst e2
    cases r5
    refine wpAny_truthy_bool ?_
    cases k2 with
    | false =>
      obtain ⟨k', e', q'⟩ := q5
      cases e'
      exact ite_ff ⟨H5, I5, q'⟩
    | true =>
      refine ite_tt (test_last (thn (hd pins s5 σ H5 _ I5 q5) fun w2 s6 ⟨z3, H6, I6, r6, q6⟩ => thn (ho2 pins s6 σ H6 z' z3 w' w2 _ I6 r4 r6 q6) fun d2 s7 ⟨z4, H7, I7, r7, k3, e3, q7⟩ => ?_))
      subst e3
      cases r7
      exact wpAny_truthy_bool ⟨H7, I7, q7⟩
end
end L2

namespace Sprd
structure Nt where
  h : Int
  lo : Int
  hi : Int
  ws : Int
def ab (x : Int) : Int := if x < 0 then -x else x
structure Way where
  e : Int
  s : Int
  ps : List Int
inductive AL : List Nt → List Int → Int → Int → Prop
  | nil : AL [] [] (-99) 0
  | snoc {ns : List Nt} {ps : List Int} {e s : Int} {n : Nt} {p : Int} (h : AL ns ps e s) (h1 : n.lo ≤ p) (h2 : p + n.h - 1 ≤ n.hi) (h3 : e ≤ p) : AL (ns ++ [n]) (ps ++ [p]) (p + n.h) (s + ab (p - n.ws))
theorem AL.len {ns : List Nt} {ps : List Int} {e s : Int} (h : AL ns ps e s) : ps.length = ns.length := by
  induction h with
  | nil => rfl
  | snoc _ _ _ _ ih => simp [ih]
theorem AL.inv {ns : List Nt} {n : Nt} {ps : List Int} {e s : Int} (h : AL (ns ++ [n]) ps e s) : ∃ ps' e' s' p, AL ns ps' e' s' ∧ ps = ps' ++ [p] ∧ n.lo ≤ p ∧ p + n.h - 1 ≤ n.hi ∧ e' ≤ p ∧ e = p + n.h ∧ s = s' + ab (p - n.ws) := by
  generalize hL : ns ++ [n] = L at h
  cases h with
  | nil => simp at hL
  | snoc h h1 h2 h3 =>
    obtain ⟨a, b⟩ := List.append_inj' hL rfl
    simp at b
    subst a b
    exact ⟨_, _, _, _, h, rfl, h1, h2, h3, rfl, rfl⟩
theorem AL.inv0 {ps : List Int} {e s : Int} (h : AL [] ps e s) : ps = [] ∧ e = -99 ∧ s = 0 := by
  generalize hL : ([] : List Nt) = L at h
  cases h with
  | nil => exact ⟨rfl, rfl, rfl⟩
  | snoc h h1 h2 h3 => simp at hL
abbrev Rw (a b : Way) : Prop := a.e < b.e ∧ b.s < a.s
structure Good (ns : List Nt) (ws : List Way) : Prop where
  al : ∀ w ∈ ws, AL ns w.ps w.e w.s
  so : ws.Pairwise Rw
  co : ∀ ps e s, AL ns ps e s → ∃ w, w ∈ ws ∧ w.e ≤ e ∧ w.s ≤ s
theorem good0 : Good [] [⟨-99, 0, []⟩] where
  al := fun w hw => by
    have := List.mem_singleton.mp hw
    subst this
    exact .nil
  so := by simp
  co := fun ps e s h => by
    obtain ⟨_, rfl, rfl⟩ := h.inv0
    exact ⟨_, List.mem_singleton.mpr rfl, Int.le_refl _, Int.le_refl _⟩
def more (a : Way) (n : Nt) (p : Int) : Int := a.s + ab (p - n.ws)
def better (F : List Way) (m : Int) : Bool := match F.getLast? with | none => true | some f => decide (m < f.s)
def aheadW (ws : List Way) (p : Int) : List Way := ws.filter fun w => decide (w.e ≤ p)
def stepW (ws : List Way) (n : Nt) (F : List Way) (p : Int) : List Way :=
  match (aheadW ws p).getLast? with
  | none => F
  | some a => if better F (more a n p) = true then F ++ [⟨p + n.h, more a n p, a.ps ++ [p]⟩] else F
def foundW (ws : List Way) (n : Nt) : Nat → List Way
  | 0 => []
  | i + 1 => stepW ws n (foundW ws n i) (n.lo + i)
def waysW (ws : List Way) (n : Nt) : List Way := foundW ws n (n.hi - n.h + 2 - n.lo).toNat
structure GoodF (ns : List Nt) (n : Nt) (p0 : Int) (F : List Way) : Prop where
  al : ∀ f ∈ F, AL (ns ++ [n]) f.ps f.e f.s ∧ f.e < p0 + n.h
  so : F.Pairwise Rw
  co : ∀ ps e s, AL (ns ++ [n]) ps e s → e < p0 + n.h → ∃ f, f ∈ F ∧ f.e ≤ e ∧ f.s ≤ s
theorem last_le {F : List Way} (so : F.Pairwise Rw) {a : Way} (h : F.getLast? = some a) : a ∈ F ∧ ∀ w ∈ F, a.s ≤ w.s ∧ w.e ≤ a.e := by
  obtain ⟨r, rfl⟩ : ∃ r, F = r ++ [a] := by
    have := List.getLast?_eq_some_iff.mp h
    exact this
  refine ⟨by simp, fun w hw => ?_⟩
  rcases List.mem_append.mp hw with z | z
  · have := (List.pairwise_append.mp so).2.2 w z a (by simp)
    exact ⟨Int.le_of_lt this.2, Int.le_of_lt this.1⟩
  · have := List.mem_singleton.mp z
    subst this
    exact ⟨Int.le_refl _, Int.le_refl _⟩
theorem stepW_good {ns : List Nt} {ws : List Way} {n : Nt} {F : List Way} {p0 : Int} (G : Good ns ws) (g : GoodF ns n p0 F) (h1 : n.lo ≤ p0) (h2 : p0 + n.h - 1 ≤ n.hi) : GoodF ns n (p0 + 1) (stepW ws n F p0) := by
  have so' : (aheadW ws p0).Pairwise Rw := G.so.filter _
  unfold stepW
  cases ha : (aheadW ws p0).getLast? with
  | none =>
    dsimp only
    refine ⟨fun f hf => ⟨(g.al f hf).1, by have := (g.al f hf).2; omega⟩, g.so, fun ps e s h he => ?_⟩
    by_cases c : e < p0 + n.h
    · exact g.co ps e s h c
    · obtain ⟨ps', e', s', p, a, rfl, b1, b2, b3, rfl, rfl⟩ := h.inv
      obtain ⟨w, hw, w1, w2⟩ := G.co _ _ _ a
      have : aheadW ws p0 = [] := List.getLast?_eq_none_iff.mp ha
      have hm : w ∈ aheadW ws p0 := List.mem_filter.mpr ⟨hw, by simp; omega⟩
      rw [this] at hm
      cases hm
  | some a =>
    dsimp only
    obtain ⟨am, al⟩ := last_le so' ha
    obtain ⟨am1, am2⟩ := List.mem_filter.mp am
    have am3 : a.e ≤ p0 := by simpa using am2
    have cm : ∀ ps e s, AL (ns ++ [n]) ps e s → e < p0 + 1 + n.h → ¬ e < p0 + n.h → e = p0 + n.h ∧ more a n p0 ≤ s := fun ps e s h he c => by
      obtain ⟨ps', e', s', p, b, rfl, b1, b2, b3, rfl, rfl⟩ := h.inv
      have : p = p0 := by omega
      subst this
      obtain ⟨w, hw, w1, w2⟩ := G.co _ _ _ b
      have hm : w ∈ aheadW ws p := List.mem_filter.mpr ⟨hw, by simp; omega⟩
      have := (al w hm).1
      refine ⟨rfl, ?_⟩
      unfold more
      omega
    split
    · rename_i hb
      refine ⟨fun f hf => ?_, ?_, fun ps e s h he => ?_⟩
      · rcases List.mem_append.mp hf with z | z
        · exact ⟨(g.al f z).1, by have := (g.al f z).2; omega⟩
        · have := List.mem_singleton.mp z
          subst this
          exact ⟨.snoc (G.al a am1) h1 h2 am3, by dsimp only; omega⟩
      · refine List.pairwise_append.mpr ⟨g.so, by simp, fun x hx y hy => ?_⟩
        have := List.mem_singleton.mp hy
        subst this
        have z := (g.al x hx).2
        refine ⟨z, ?_⟩
        unfold better at hb
        cases hl : F.getLast? with
        | none =>
          have : F = [] := List.getLast?_eq_none_iff.mp hl
          rw [this] at hx
          cases hx
        | some f =>
          rw [hl] at hb
          have hb' : more a n p0 < f.s := by simpa using hb
          have := (last_le g.so hl).2 x hx
          dsimp only
          omega
      · by_cases c : e < p0 + n.h
        · obtain ⟨f, hf, z⟩ := g.co ps e s h c
          exact ⟨f, List.mem_append.mpr (.inl hf), z⟩
        · obtain ⟨e1, e2⟩ := cm ps e s h he c
          exact ⟨_, List.mem_append.mpr (.inr (List.mem_singleton.mpr rfl)), by dsimp only; omega, e2⟩
    · rename_i hb
      refine ⟨fun f hf => ⟨(g.al f hf).1, by have := (g.al f hf).2; omega⟩, g.so, fun ps e s h he => ?_⟩
      by_cases c : e < p0 + n.h
      · exact g.co ps e s h c
      · obtain ⟨e1, e2⟩ := cm ps e s h he c
        unfold better at hb
        cases hl : F.getLast? with
        | none => rw [hl] at hb; exact absurd rfl hb
        | some f =>
          rw [hl] at hb
          have hb' : ¬ more a n p0 < f.s := by simpa using hb
          obtain ⟨fm, _⟩ := last_le g.so hl
          have := (g.al f fm).2
          exact ⟨f, fm, by omega, by omega⟩
theorem foundW_good {ns : List Nt} {ws : List Way} {n : Nt} (G : Good ns ws) : ∀ i : Nat, i ≤ (n.hi - n.h + 2 - n.lo).toNat → GoodF ns n (n.lo + i) (foundW ws n i) := by
  intro i
  induction i with
  | zero =>
    intro _
    refine ⟨(fun f hf => nomatch hf), List.Pairwise.nil, fun ps e s h he => ?_⟩
    obtain ⟨ps', e', s', p, b, rfl, b1, b2, b3, rfl, rfl⟩ := h.inv
    simp at he
    omega
  | succ i ih =>
    intro l
    have := stepW_good G (ih (by omega)) (by omega) (by omega)
    have e : n.lo + (i : Int) + 1 = n.lo + ((i + 1 : Nat) : Int) := by omega
    rw [e] at this
    exact this
theorem waysW_good {ns : List Nt} {ws : List Way} {n : Nt} (G : Good ns ws) : Good (ns ++ [n]) (waysW ws n) := by
  have g := foundW_good (n := n) G (n.hi - n.h + 2 - n.lo).toNat (Nat.le_refl _)
  refine ⟨fun w hw => (g.al w hw).1, g.so, fun ps e s h => g.co ps e s h ?_⟩
  obtain ⟨ps', e', s', p, b, rfl, b1, b2, b3, rfl, rfl⟩ := h.inv
  omega
def allW (ns : List Nt) : List Way := ns.foldl waysW [⟨-99, 0, []⟩]
theorem allW_good : ∀ (ns ms : List Nt) (ws : List Way), Good ms ws → Good (ms ++ ns) (ns.foldl waysW ws) := by
  intro ns
  induction ns with
  | nil => intro ms ws g; simpa using g
  | cons n r ih =>
    intro ms ws g
    have := ih (ms ++ [n]) (waysW ws n) (waysW_good g)
    simpa using this
def leastP (ns : List Nt) : List Int := match (allW ns).getLast? with | none => [] | some w => w.ps
/-- the best -/
theorem leastP_best {ns : List Nt} {ps0 : List Int} {e0 s0 : Int} (f : AL ns ps0 e0 s0) : ∃ w, (allW ns).getLast? = some w ∧ leastP ns = w.ps ∧ AL ns (leastP ns) w.e w.s ∧ ∀ ps e s, AL ns ps e s → w.s ≤ s := by
  have g : Good ns (allW ns) := by simpa [allW] using allW_good ns [] _ good0
  obtain ⟨w0, hw0, _⟩ := g.co _ _ _ f
  cases hl : (allW ns).getLast? with
  | none =>
    have : allW ns = [] := List.getLast?_eq_none_iff.mp hl
    rw [this] at hw0
    cases hw0
  | some w =>
    obtain ⟨wm, wl⟩ := last_le g.so hl
    have e : leastP ns = w.ps := by unfold leastP; rw [hl]
    refine ⟨w, rfl, e, by rw [e]; exact g.al w wm, fun ps e s h => ?_⟩
    obtain ⟨x, hx, _, h2⟩ := g.co _ _ _ h
    have := (wl x hx).1
    omega
theorem foundW_len (ws : List Way) (n : Nt) : ∀ i, (foundW ws n i).length ≤ i := by
  intro i
  induction i with
  | zero => exact Nat.le_refl _
  | succ i ih =>
    show (stepW ws n (foundW ws n i) (n.lo + i)).length ≤ i + 1
    unfold stepW
    split
    · omega
    · split
      · simp; omega
      · omega
/-! ### by numbers -/
def cs (f : Nat → Int) : Nat → Int
  | 0 => 0
  | j + 1 => cs f j + f j
structure Ok (N : Nat → Nt) (P : Nat → Int) (n : Nat) : Prop where
  lo : ∀ i, i < n → (N i).lo ≤ P i
  hi : ∀ i, i < n → P i + (N i).h - 1 ≤ (N i).hi
  st : ∀ i, i + 1 < n → P i + (N i).h ≤ P (i + 1)
def stray (N : Nat → Nt) (P : Nat → Int) (n : Nat) : Int := cs (fun i => ab (P i - (N i).ws)) n
theorem AL_of {N : Nat → Nt} {P : Nat → Int} : ∀ {n : Nat}, Ok N P n → (∀ i, i < n → -99 ≤ (N i).lo) → ∃ e, AL ((List.range n).map N) ((List.range n).map P) e (stray N P n) ∧ (e = -99 ∧ n = 0 ∨ ∃ m, n = m + 1 ∧ e = P m + (N m).h) := by
  intro n
  induction n with
  | zero => exact fun _ _ => ⟨-99, .nil, .inl ⟨rfl, rfl⟩⟩
  | succ n ih =>
    intro o b
    obtain ⟨e, a, h⟩ := ih ⟨fun i hi => o.lo i (by omega), fun i hi => o.hi i (by omega), fun i hi => o.st i (by omega)⟩ fun i hi => b i (by omega)
    have he : e ≤ P n := by
      rcases h with ⟨rfl, rfl⟩ | ⟨m, rfl, rfl⟩
      · have := o.lo 0 (by omega)
        have := b 0 (by omega)
        omega
      · exact o.st m (by omega)
    refine ⟨P n + (N n).h, ?_, .inr ⟨n, rfl, rfl⟩⟩
    rw [List.range_succ, List.map_append, List.map_append]
    exact .snoc a (o.lo n (by omega)) (o.hi n (by omega)) he
theorem AL_to {ns : List Nt} {ps : List Int} {e s : Int} (h : AL ns ps e s) : ∀ (N : Nat → Nt) (P : Nat → Int), (∀ i (l : i < ns.length), N i = ns[i]) → (∀ i (l : i < ps.length), P i = ps[i]) →
    Ok N P ns.length ∧ s = stray N P ns.length ∧ (∀ m, ns.length = m + 1 → e = P m + (N m).h) := by
  induction h with
  | nil => exact fun N P _ _ => ⟨⟨fun i hi => absurd hi (Nat.not_lt_zero _), fun i hi => absurd hi (Nat.not_lt_zero _), fun i hi => absurd hi (Nat.not_lt_zero _)⟩, rfl, fun m hm => by simp at hm⟩
  | @snoc ns ps e s n p h h1 h2 h3 ih =>
    intro N P hN hP
    have hl := h.len
    obtain ⟨o, es, ee⟩ := ih N P (fun i l => by rw [hN i (by simp; omega), List.getElem_append_left l]) (fun i l => by rw [hP i (by simp; omega), List.getElem_append_left l])
    have eN : N ns.length = n := by rw [hN ns.length (by simp)]; simp
    have eP : P ns.length = p := by rw [hP ns.length (by simp; omega)]; rw [List.getElem_append_right (by omega)]; simp
    rw [List.length_append, List.length_singleton]
    refine ⟨⟨fun i hi => ?_, fun i hi => ?_, fun i hi => ?_⟩, ?_, fun m hm => ?_⟩
    · by_cases c : i < ns.length
      · exact o.lo i c
      · have : i = ns.length := by omega
        subst this
        rw [eN, eP]
        exact h1
    · by_cases c : i < ns.length
      · exact o.hi i c
      · have : i = ns.length := by omega
        subst this
        rw [eN, eP]
        exact h2
    · by_cases c : i + 1 < ns.length
      · exact o.st i c
      · have : ns.length = i + 1 := by omega
        have e' := ee i this
        rw [← this, eP]
        omega
    · show _ = stray N P ns.length + ab (P ns.length - (N ns.length).ws)
      rw [← es, eN, eP]
    · have : m = ns.length := by omega
      subst this
      rw [eN, eP]
/-! ### pushes -/
def lr (n : Nt) (p : Int) : Option Int := if p + n.h - 1 = n.hi then none else some (if p < n.ws then 1 else -1)
def mr (n : Nt) (p : Int) : Option Int := if p = n.lo then none else some (if p > n.ws then -1 else 1)
def mx (a b : Int) : Int := if b > a then b else a
theorem mx_sp (a b : Int) : a ≤ mx a b ∧ b ≤ mx a b ∧ (mx a b = a ∨ mx a b = b) ∧ (b > a → mx a b = b) := by
  unfold mx
  split <;> omega
def fw (N : Nat → Nt) (P : Nat → Int) : Nat → Int
  | 0 => 0
  | i + 1 => match lr (N i) (P i) with | none => 0 | some r => mx 0 (fw N P i + r)
def bw (N : Nat → Nt) (P : Nat → Int) (n : Nat) : Nat → Int
  | 0 => fw N P n
  | k + 1 => match mr (N (n - (k + 1))) (P (n - (k + 1))) with | none => fw N P (n - (k + 1)) | some r => mx (fw N P (n - (k + 1))) (bw N P n k - r)
def qq (N : Nat → Nt) (P : Nat → Int) (n j : Nat) : Int := bw N P n (n - j)
theorem qq_n (N : Nat → Nt) (P : Nat → Int) (n : Nat) : qq N P n n = fw N P n := by unfold qq; rw [Nat.sub_self]; rfl
theorem qq_s {N : Nat → Nt} {P : Nat → Int} {n j : Nat} (h : j < n) : qq N P n j = match mr (N j) (P j) with | none => fw N P j | some r => mx (fw N P j) (qq N P n (j + 1) - r) := by
  unfold qq
  have e1 : n - j = (n - (j + 1)) + 1 := by omega
  have e2 : n - (n - (j + 1) + 1) = j := by omega
  rw [e1]
  show (match mr (N (n - (n - (j + 1) + 1))) (P (n - (n - (j + 1) + 1))) with | none => fw N P (n - (n - (j + 1) + 1)) | some r => mx (fw N P (n - (n - (j + 1) + 1))) (bw N P n (n - (j + 1)) - r)) = _
  rw [e2]
def mv (P : Nat → Int) (k l : Nat) (d : Int) (i : Nat) : Int := P i + (if k ≤ i ∧ i < l then d else 0)
end Sprd
namespace Sprd
end Sprd

set_option maxRecDepth 100000
set_option maxHeartbeats 4000000
namespace S62
open PySem L2 XL
def top (i : Nat) : Stmt := PySem.Challenge.pw_rimnotes_k62_no_notes_and_no_room.main.body.getD i (.Pass ⟨0, 0, 0, 0⟩)
abbrev s_TooFull_init : Stmt := inClass (top 3) 0
abbrev s_is_whole : Stmt := top 5
abbrev s_spread : Stmt := top 10
abbrev s_are_notes : Stmt := top 11
abbrev s_is_note : Stmt := top 12
abbrev s_check_room : Stmt := top 13
abbrev s_least_places : Stmt := top 14
abbrev s_ways_with : Stmt := top 15
abbrev s_least_rise : Stmt := top 16
abbrev s_most_rise : Stmt := top 17
abbrev s_least_pushes : Stmt := top 18
abbrev s_law_cell : Stmt := top 20
abbrev s_law_mix : Stmt := top 21
abbrev s_law_whole : Stmt := top 22
abbrev s_law_allowed : Stmt := top 23
abbrev s_law_wholes : Stmt := top 24
abbrev s_law_told : Stmt := top 25
abbrev s_law_any : Stmt := top 26
abbrev s_law_bad : Stmt := top 27
abbrev s_law_no_list : Stmt := top 28
abbrev s_law_has_room : Stmt := top 29
abbrev s_law_asked : Stmt := top 30
abbrev s_law_stretch : Stmt := top 31
abbrev s_law : Stmt := top 32
structure Adr where
  f_TooFull_init : Addr
  d_TooFull_init : FuncData
  f_is_whole : Addr
  d_is_whole : FuncData
  f_spread : Addr
  d_spread : FuncData
  f_are_notes : Addr
  d_are_notes : FuncData
  f_is_note : Addr
  d_is_note : FuncData
  f_check_room : Addr
  d_check_room : FuncData
  f_least_places : Addr
  d_least_places : FuncData
  f_ways_with : Addr
  d_ways_with : FuncData
  f_least_rise : Addr
  d_least_rise : FuncData
  f_most_rise : Addr
  d_most_rise : FuncData
  f_least_pushes : Addr
  d_least_pushes : FuncData
  f_law_cell : Addr
  d_law_cell : FuncData
  f_law_mix : Addr
  d_law_mix : FuncData
  f_law_whole : Addr
  d_law_whole : FuncData
  f_law_allowed : Addr
  d_law_allowed : FuncData
  f_law_wholes : Addr
  d_law_wholes : FuncData
  f_law_told : Addr
  d_law_told : FuncData
  f_law_any : Addr
  d_law_any : FuncData
  f_law_bad : Addr
  d_law_bad : FuncData
  f_law_no_list : Addr
  d_law_no_list : FuncData
  f_law_has_room : Addr
  d_law_has_room : FuncData
  f_law_asked : Addr
  d_law_asked : FuncData
  f_law_stretch : Addr
  d_law_stretch : FuncData
  f_law : Addr
  d_law : FuncData
  C_RimError : Addr
  C_NoNotes : Addr
  C_TooFull : Addr
structure Txt (w : World) (K : PySem.W.Frag) (mg : Str → Option Value) (t : Adr) : Prop where
  g_RimError : mg "RimError" = some (.ref t.C_RimError)
  g_NoNotes : mg "NoNotes" = some (.ref t.C_NoNotes)
  g_TooFull : mg "TooFull" = some (.ref t.C_TooFull)
  F_TooFull_init : Fun K "__init__" "TooFull.__init__" s_TooFull_init t.f_TooFull_init t.d_TooFull_init
  b_TooFull_init : Binds K t.d_TooFull_init ["self", "first", "last"] []
  g_is_whole : mg "is_whole" = some (.ref t.f_is_whole)
  F_is_whole : Fun K "is_whole" "is_whole" s_is_whole t.f_is_whole t.d_is_whole
  b_is_whole : Binds K t.d_is_whole ["thing", "low", "high"] []
  g_spread : mg "spread" = some (.ref t.f_spread)
  F_spread : Fun K "spread" "spread" s_spread t.f_spread t.d_spread
  b_spread : Binds K t.d_spread ["notes"] []
  g_are_notes : mg "are_notes" = some (.ref t.f_are_notes)
  F_are_notes : Fun K "are_notes" "are_notes" s_are_notes t.f_are_notes t.d_are_notes
  b_are_notes : Binds K t.d_are_notes ["thing"] []
  g_is_note : mg "is_note" = some (.ref t.f_is_note)
  F_is_note : Fun K "is_note" "is_note" s_is_note t.f_is_note t.d_is_note
  b_is_note : Binds K t.d_is_note ["thing"] []
  g_check_room : mg "check_room" = some (.ref t.f_check_room)
  F_check_room : Fun K "check_room" "check_room" s_check_room t.f_check_room t.d_check_room
  b_check_room : Binds K t.d_check_room ["notes"] []
  g_least_places : mg "least_places" = some (.ref t.f_least_places)
  F_least_places : Fun K "least_places" "least_places" s_least_places t.f_least_places t.d_least_places
  b_least_places : Binds K t.d_least_places ["notes"] []
  g_ways_with : mg "ways_with" = some (.ref t.f_ways_with)
  F_ways_with : Fun K "ways_with" "ways_with" s_ways_with t.f_ways_with t.d_ways_with
  b_ways_with : Binds K t.d_ways_with ["ways", "note"] []
  g_least_rise : mg "least_rise" = some (.ref t.f_least_rise)
  F_least_rise : Fun K "least_rise" "least_rise" s_least_rise t.f_least_rise t.d_least_rise
  b_least_rise : Binds K t.d_least_rise ["note", "place"] []
  g_most_rise : mg "most_rise" = some (.ref t.f_most_rise)
  F_most_rise : Fun K "most_rise" "most_rise" s_most_rise t.f_most_rise t.d_most_rise
  b_most_rise : Binds K t.d_most_rise ["note", "place"] []
  g_least_pushes : mg "least_pushes" = some (.ref t.f_least_pushes)
  F_least_pushes : Fun K "least_pushes" "least_pushes" s_least_pushes t.f_least_pushes t.d_least_pushes
  b_least_pushes : Binds K t.d_least_pushes ["notes", "places"] []
  g_law_cell : mg "_law_cell" = some (.ref t.f_law_cell)
  F_law_cell : Fun K "_law_cell" "_law_cell" s_law_cell t.f_law_cell t.d_law_cell
  b_law_cell : Binds K t.d_law_cell ["_law_script", "_law_k"] []
  g_law_mix : mg "_law_mix" = some (.ref t.f_law_mix)
  F_law_mix : Fun K "_law_mix" "_law_mix" s_law_mix t.f_law_mix t.d_law_mix
  b_law_mix : Binds K t.d_law_mix ["_law_cell_here", "_law_k"] []
  g_law_whole : mg "_law_whole" = some (.ref t.f_law_whole)
  F_law_whole : Fun K "_law_whole" "_law_whole" s_law_whole t.f_law_whole t.d_law_whole
  b_law_whole : Binds K t.d_law_whole ["_law_found"] []
  g_law_allowed : mg "_law_allowed" = some (.ref t.f_law_allowed)
  F_law_allowed : Fun K "_law_allowed" "_law_allowed" s_law_allowed t.f_law_allowed t.d_law_allowed
  b_law_allowed : Binds K t.d_law_allowed ["_law_notes", "_law_places"] []
  g_law_wholes : mg "_law_wholes" = some (.ref t.f_law_wholes)
  F_law_wholes : Fun K "_law_wholes" "_law_wholes" s_law_wholes t.f_law_wholes t.d_law_wholes
  b_law_wholes : Binds K t.d_law_wholes ["_law_found", "_law_many"] []
  g_law_told : mg "_law_told" = some (.ref t.f_law_told)
  F_law_told : Fun K "_law_told" "_law_told" s_law_told t.f_law_told t.d_law_told
  b_law_told : Binds K t.d_law_told ["_law_found", "_law_many"] []
  g_law_any : mg "_law_any" = some (.ref t.f_law_any)
  F_law_any : Fun K "_law_any" "_law_any" s_law_any t.f_law_any t.d_law_any
  b_law_any : Binds K t.d_law_any ["_law_script", "_law_many"] []
  g_law_bad : mg "_law_bad" = some (.ref t.f_law_bad)
  F_law_bad : Fun K "_law_bad" "_law_bad" s_law_bad t.f_law_bad t.d_law_bad
  b_law_bad : Binds K t.d_law_bad ["_law_cell_here"] []
  g_law_no_list : mg "_law_no_list" = some (.ref t.f_law_no_list)
  F_law_no_list : Fun K "_law_no_list" "_law_no_list" s_law_no_list t.f_law_no_list t.d_law_no_list
  b_law_no_list : Binds K t.d_law_no_list ["_law_cell_here", "_law_notes"] []
  g_law_has_room : mg "_law_has_room" = some (.ref t.f_law_has_room)
  F_law_has_room : Fun K "_law_has_room" "_law_has_room" s_law_has_room t.f_law_has_room t.d_law_has_room
  b_law_has_room : Binds K t.d_law_has_room ["_law_notes"] []
  g_law_asked : mg "_law_asked" = some (.ref t.f_law_asked)
  F_law_asked : Fun K "_law_asked" "_law_asked" s_law_asked t.f_law_asked t.d_law_asked
  b_law_asked : Binds K t.d_law_asked ["_law_notes"] []
  g_law_stretch : mg "_law_stretch" = some (.ref t.f_law_stretch)
  F_law_stretch : Fun K "_law_stretch" "_law_stretch" s_law_stretch t.f_law_stretch t.d_law_stretch
  b_law_stretch : Binds K t.d_law_stretch ["_law_notes", "_law_found"] []
  g_law : mg "law" = some (.ref t.f_law)
  F_law : Fun K "law" "law" s_law t.f_law t.d_law
  b_law : Binds K t.d_law ["_law_script"] []
  x_RimError : XC K t.C_RimError
  mk_RimError : xmkIn K t.C_RimError = true
  x_NoNotes : XC K t.C_NoNotes
  mk_NoNotes : xmkIn K t.C_NoNotes = true
  x_TooFull : XC K t.C_TooFull
  mk_TooFull : xmkIn K t.C_TooFull = true
  k_TooFull : XMk K t.C_TooFull t.f_TooFull_init
  cg : PySem.W.specialIn K (.builtin "object.__class__") "__get__" = some (some (.builtin "getset_descriptor.__get__"))
  ct : PySem.W.takesIn K (.builtin "object.__class__") = some true
  n_TooFull_first : PySem.W.findIn K (.ref t.C_TooFull) "first" = some none
  n_TooFull_last : PySem.W.findIn K (.ref t.C_TooFull) "last" = some none
  n_abs : mg "abs" = none
  n_all : mg "all" = none
  n_bool : mg "bool" = none
  n_int : mg "int" = none
  n_isinstance : mg "isinstance" = none
  n_len : mg "len" = none
  n_list : mg "list" = none
  n_max : mg "max" = none
  n_range : mg "range" = none
  n_sum : mg "sum" = none
  n_tuple : mg "tuple" = none
  ns_NoNotes : xno0 K t.C_NoNotes = true
  ns_k_NoNotes : PySem.W.keepIn K (.ref t.C_NoNotes) = true
  kit_NoNotes_RimError : PySem.W.kitOne K (.ref t.C_NoNotes) (.ref t.C_RimError) = some true
  mro_NN : PySem.W.mroIn K t.C_NoNotes (.ref t.C_NoNotes) = some true
  mro_TN : PySem.W.mroIn K t.C_TooFull (.ref t.C_NoNotes) = some false
  mro_TT : PySem.W.mroIn K t.C_TooFull (.ref t.C_TooFull) = some true
  v_FARTHEST : ∃ tk, mg "FARTHEST" = some (.int 99 tk)
  v_MOST_HEIGHT : ∃ tk, mg "MOST_HEIGHT" = some (.int 9 tk)
  v_MOST_NOTES : ∃ tk, mg "MOST_NOTES" = some (.int 12 tk)
theorem txt_mk {w : World} {K : PySem.W.Frag} {h : Heap} {mg : Str → Option Value} (X : K.In h) (G : h.Ns mainGlobals mg) {C_RimError C_NoNotes C_TooFull f_TooFull_init f_is_whole f_spread f_are_notes f_is_note f_check_room f_least_places f_ways_with f_least_rise f_most_rise f_least_pushes f_law_cell f_law_mix f_law_whole f_law_allowed f_law_wholes f_law_told f_law_any f_law_bad f_law_no_list f_law_has_room f_law_asked f_law_stretch f_law : Addr} {oc_TooFull_init kv_TooFull_init dc_TooFull_init pm_TooFull_init cd_TooFull_init ct_TooFull_init : Value} {od_TooFull_init an_TooFull_init : Option Addr} {sl_TooFull_init : Array (Option Value)} {oc_is_whole kv_is_whole dc_is_whole pm_is_whole cd_is_whole ct_is_whole : Value} {od_is_whole an_is_whole : Option Addr} {sl_is_whole : Array (Option Value)} {oc_spread kv_spread dc_spread pm_spread cd_spread ct_spread : Value} {od_spread an_spread : Option Addr} {sl_spread : Array (Option Value)} {oc_are_notes kv_are_notes dc_are_notes pm_are_notes cd_are_notes ct_are_notes : Value} {od_are_notes an_are_notes : Option Addr} {sl_are_notes : Array (Option Value)} {oc_is_note kv_is_note dc_is_note pm_is_note cd_is_note ct_is_note : Value} {od_is_note an_is_note : Option Addr} {sl_is_note : Array (Option Value)} {oc_check_room kv_check_room dc_check_room pm_check_room cd_check_room ct_check_room : Value} {od_check_room an_check_room : Option Addr} {sl_check_room : Array (Option Value)} {oc_least_places kv_least_places dc_least_places pm_least_places cd_least_places ct_least_places : Value} {od_least_places an_least_places : Option Addr} {sl_least_places : Array (Option Value)} {oc_ways_with kv_ways_with dc_ways_with pm_ways_with cd_ways_with ct_ways_with : Value} {od_ways_with an_ways_with : Option Addr} {sl_ways_with : Array (Option Value)} {oc_least_rise kv_least_rise dc_least_rise pm_least_rise cd_least_rise ct_least_rise : Value} {od_least_rise an_least_rise : Option Addr} {sl_least_rise : Array (Option Value)} {oc_most_rise kv_most_rise dc_most_rise pm_most_rise cd_most_rise ct_most_rise : Value} {od_most_rise an_most_rise : Option Addr} {sl_most_rise : Array (Option Value)} {oc_least_pushes kv_least_pushes dc_least_pushes pm_least_pushes cd_least_pushes ct_least_pushes : Value} {od_least_pushes an_least_pushes : Option Addr} {sl_least_pushes : Array (Option Value)} {oc_law_cell kv_law_cell dc_law_cell pm_law_cell cd_law_cell ct_law_cell : Value} {od_law_cell an_law_cell : Option Addr} {sl_law_cell : Array (Option Value)} {oc_law_mix kv_law_mix dc_law_mix pm_law_mix cd_law_mix ct_law_mix : Value} {od_law_mix an_law_mix : Option Addr} {sl_law_mix : Array (Option Value)} {oc_law_whole kv_law_whole dc_law_whole pm_law_whole cd_law_whole ct_law_whole : Value} {od_law_whole an_law_whole : Option Addr} {sl_law_whole : Array (Option Value)} {oc_law_allowed kv_law_allowed dc_law_allowed pm_law_allowed cd_law_allowed ct_law_allowed : Value} {od_law_allowed an_law_allowed : Option Addr} {sl_law_allowed : Array (Option Value)} {oc_law_wholes kv_law_wholes dc_law_wholes pm_law_wholes cd_law_wholes ct_law_wholes : Value} {od_law_wholes an_law_wholes : Option Addr} {sl_law_wholes : Array (Option Value)} {oc_law_told kv_law_told dc_law_told pm_law_told cd_law_told ct_law_told : Value} {od_law_told an_law_told : Option Addr} {sl_law_told : Array (Option Value)} {oc_law_any kv_law_any dc_law_any pm_law_any cd_law_any ct_law_any : Value} {od_law_any an_law_any : Option Addr} {sl_law_any : Array (Option Value)} {oc_law_bad kv_law_bad dc_law_bad pm_law_bad cd_law_bad ct_law_bad : Value} {od_law_bad an_law_bad : Option Addr} {sl_law_bad : Array (Option Value)} {oc_law_no_list kv_law_no_list dc_law_no_list pm_law_no_list cd_law_no_list ct_law_no_list : Value} {od_law_no_list an_law_no_list : Option Addr} {sl_law_no_list : Array (Option Value)} {oc_law_has_room kv_law_has_room dc_law_has_room pm_law_has_room cd_law_has_room ct_law_has_room : Value} {od_law_has_room an_law_has_room : Option Addr} {sl_law_has_room : Array (Option Value)} {oc_law_asked kv_law_asked dc_law_asked pm_law_asked cd_law_asked ct_law_asked : Value} {od_law_asked an_law_asked : Option Addr} {sl_law_asked : Array (Option Value)} {oc_law_stretch kv_law_stretch dc_law_stretch pm_law_stretch cd_law_stretch ct_law_stretch : Value} {od_law_stretch an_law_stretch : Option Addr} {sl_law_stretch : Array (Option Value)} {oc_law kv_law dc_law pm_law cd_law ct_law : Value} {od_law an_law : Option Addr} {sl_law : Array (Option Value)} {tkc_FARTHEST : Tok} {tkc_MOST_HEIGHT : Tok} {tkc_MOST_NOTES : Tok}
    (g_RimError : PySem.W.nsIn K mainGlobals "RimError" = some (some (.ref C_RimError)))
    (g_NoNotes : PySem.W.nsIn K mainGlobals "NoNotes" = some (some (.ref C_NoNotes)))
    (g_TooFull : PySem.W.nsIn K mainGlobals "TooFull" = some (some (.ref C_TooFull)))
    (a_TooFull_init : PySem.W.findIn K (.ref C_TooFull) "__init__" = some (some (.ref f_TooFull_init)))
    (l_TooFull_init : K.lookup f_TooFull_init = some ⟨oc_TooFull_init, od_TooFull_init, .func (PySem.W.fnOf "__init__" "TooFull.__init__" (defArgs s_TooFull_init) (defBody s_TooFull_init) (defScope s_TooFull_init) .none kv_TooFull_init dc_TooFull_init pm_TooFull_init an_TooFull_init cd_TooFull_init ct_TooFull_init), sl_TooFull_init⟩)
    (c_TooFull_init : PySem.W.codeIn K cd_TooFull_init "TooFull.__init__" = true)
    (k_TooFull_init : PySem.W.keepIn K (.ref f_TooFull_init) = true)
    (i_TooFull_init : PySem.W.isFn K (.ref f_TooFull_init) = true)
    (a_is_whole : PySem.W.nsIn K mainGlobals "is_whole" = some (some (.ref f_is_whole)))
    (l_is_whole : K.lookup f_is_whole = some ⟨oc_is_whole, od_is_whole, .func (PySem.W.fnOf "is_whole" "is_whole" (defArgs s_is_whole) (defBody s_is_whole) (defScope s_is_whole) .none kv_is_whole dc_is_whole pm_is_whole an_is_whole cd_is_whole ct_is_whole), sl_is_whole⟩)
    (c_is_whole : PySem.W.codeIn K cd_is_whole "is_whole" = true)
    (k_is_whole : PySem.W.keepIn K (.ref f_is_whole) = true)
    (i_is_whole : PySem.W.isFn K (.ref f_is_whole) = true)
    (a_spread : PySem.W.nsIn K mainGlobals "spread" = some (some (.ref f_spread)))
    (l_spread : K.lookup f_spread = some ⟨oc_spread, od_spread, .func (PySem.W.fnOf "spread" "spread" (defArgs s_spread) (defBody s_spread) (defScope s_spread) .none kv_spread dc_spread pm_spread an_spread cd_spread ct_spread), sl_spread⟩)
    (c_spread : PySem.W.codeIn K cd_spread "spread" = true)
    (k_spread : PySem.W.keepIn K (.ref f_spread) = true)
    (i_spread : PySem.W.isFn K (.ref f_spread) = true)
    (a_are_notes : PySem.W.nsIn K mainGlobals "are_notes" = some (some (.ref f_are_notes)))
    (l_are_notes : K.lookup f_are_notes = some ⟨oc_are_notes, od_are_notes, .func (PySem.W.fnOf "are_notes" "are_notes" (defArgs s_are_notes) (defBody s_are_notes) (defScope s_are_notes) .none kv_are_notes dc_are_notes pm_are_notes an_are_notes cd_are_notes ct_are_notes), sl_are_notes⟩)
    (c_are_notes : PySem.W.codeIn K cd_are_notes "are_notes" = true)
    (k_are_notes : PySem.W.keepIn K (.ref f_are_notes) = true)
    (i_are_notes : PySem.W.isFn K (.ref f_are_notes) = true)
    (a_is_note : PySem.W.nsIn K mainGlobals "is_note" = some (some (.ref f_is_note)))
    (l_is_note : K.lookup f_is_note = some ⟨oc_is_note, od_is_note, .func (PySem.W.fnOf "is_note" "is_note" (defArgs s_is_note) (defBody s_is_note) (defScope s_is_note) .none kv_is_note dc_is_note pm_is_note an_is_note cd_is_note ct_is_note), sl_is_note⟩)
    (c_is_note : PySem.W.codeIn K cd_is_note "is_note" = true)
    (k_is_note : PySem.W.keepIn K (.ref f_is_note) = true)
    (i_is_note : PySem.W.isFn K (.ref f_is_note) = true)
    (a_check_room : PySem.W.nsIn K mainGlobals "check_room" = some (some (.ref f_check_room)))
    (l_check_room : K.lookup f_check_room = some ⟨oc_check_room, od_check_room, .func (PySem.W.fnOf "check_room" "check_room" (defArgs s_check_room) (defBody s_check_room) (defScope s_check_room) .none kv_check_room dc_check_room pm_check_room an_check_room cd_check_room ct_check_room), sl_check_room⟩)
    (c_check_room : PySem.W.codeIn K cd_check_room "check_room" = true)
    (k_check_room : PySem.W.keepIn K (.ref f_check_room) = true)
    (i_check_room : PySem.W.isFn K (.ref f_check_room) = true)
    (a_least_places : PySem.W.nsIn K mainGlobals "least_places" = some (some (.ref f_least_places)))
    (l_least_places : K.lookup f_least_places = some ⟨oc_least_places, od_least_places, .func (PySem.W.fnOf "least_places" "least_places" (defArgs s_least_places) (defBody s_least_places) (defScope s_least_places) .none kv_least_places dc_least_places pm_least_places an_least_places cd_least_places ct_least_places), sl_least_places⟩)
    (c_least_places : PySem.W.codeIn K cd_least_places "least_places" = true)
    (k_least_places : PySem.W.keepIn K (.ref f_least_places) = true)
    (i_least_places : PySem.W.isFn K (.ref f_least_places) = true)
    (a_ways_with : PySem.W.nsIn K mainGlobals "ways_with" = some (some (.ref f_ways_with)))
    (l_ways_with : K.lookup f_ways_with = some ⟨oc_ways_with, od_ways_with, .func (PySem.W.fnOf "ways_with" "ways_with" (defArgs s_ways_with) (defBody s_ways_with) (defScope s_ways_with) .none kv_ways_with dc_ways_with pm_ways_with an_ways_with cd_ways_with ct_ways_with), sl_ways_with⟩)
    (c_ways_with : PySem.W.codeIn K cd_ways_with "ways_with" = true)
    (k_ways_with : PySem.W.keepIn K (.ref f_ways_with) = true)
    (i_ways_with : PySem.W.isFn K (.ref f_ways_with) = true)
    (a_least_rise : PySem.W.nsIn K mainGlobals "least_rise" = some (some (.ref f_least_rise)))
    (l_least_rise : K.lookup f_least_rise = some ⟨oc_least_rise, od_least_rise, .func (PySem.W.fnOf "least_rise" "least_rise" (defArgs s_least_rise) (defBody s_least_rise) (defScope s_least_rise) .none kv_least_rise dc_least_rise pm_least_rise an_least_rise cd_least_rise ct_least_rise), sl_least_rise⟩)
    (c_least_rise : PySem.W.codeIn K cd_least_rise "least_rise" = true)
    (k_least_rise : PySem.W.keepIn K (.ref f_least_rise) = true)
    (i_least_rise : PySem.W.isFn K (.ref f_least_rise) = true)
    (a_most_rise : PySem.W.nsIn K mainGlobals "most_rise" = some (some (.ref f_most_rise)))
    (l_most_rise : K.lookup f_most_rise = some ⟨oc_most_rise, od_most_rise, .func (PySem.W.fnOf "most_rise" "most_rise" (defArgs s_most_rise) (defBody s_most_rise) (defScope s_most_rise) .none kv_most_rise dc_most_rise pm_most_rise an_most_rise cd_most_rise ct_most_rise), sl_most_rise⟩)
    (c_most_rise : PySem.W.codeIn K cd_most_rise "most_rise" = true)
    (k_most_rise : PySem.W.keepIn K (.ref f_most_rise) = true)
    (i_most_rise : PySem.W.isFn K (.ref f_most_rise) = true)
    (a_least_pushes : PySem.W.nsIn K mainGlobals "least_pushes" = some (some (.ref f_least_pushes)))
    (l_least_pushes : K.lookup f_least_pushes = some ⟨oc_least_pushes, od_least_pushes, .func (PySem.W.fnOf "least_pushes" "least_pushes" (defArgs s_least_pushes) (defBody s_least_pushes) (defScope s_least_pushes) .none kv_least_pushes dc_least_pushes pm_least_pushes an_least_pushes cd_least_pushes ct_least_pushes), sl_least_pushes⟩)
    (c_least_pushes : PySem.W.codeIn K cd_least_pushes "least_pushes" = true)
    (k_least_pushes : PySem.W.keepIn K (.ref f_least_pushes) = true)
    (i_least_pushes : PySem.W.isFn K (.ref f_least_pushes) = true)
    (a_law_cell : PySem.W.nsIn K mainGlobals "_law_cell" = some (some (.ref f_law_cell)))
    (l_law_cell : K.lookup f_law_cell = some ⟨oc_law_cell, od_law_cell, .func (PySem.W.fnOf "_law_cell" "_law_cell" (defArgs s_law_cell) (defBody s_law_cell) (defScope s_law_cell) .none kv_law_cell dc_law_cell pm_law_cell an_law_cell cd_law_cell ct_law_cell), sl_law_cell⟩)
    (c_law_cell : PySem.W.codeIn K cd_law_cell "_law_cell" = true)
    (k_law_cell : PySem.W.keepIn K (.ref f_law_cell) = true)
    (i_law_cell : PySem.W.isFn K (.ref f_law_cell) = true)
    (a_law_mix : PySem.W.nsIn K mainGlobals "_law_mix" = some (some (.ref f_law_mix)))
    (l_law_mix : K.lookup f_law_mix = some ⟨oc_law_mix, od_law_mix, .func (PySem.W.fnOf "_law_mix" "_law_mix" (defArgs s_law_mix) (defBody s_law_mix) (defScope s_law_mix) .none kv_law_mix dc_law_mix pm_law_mix an_law_mix cd_law_mix ct_law_mix), sl_law_mix⟩)
    (c_law_mix : PySem.W.codeIn K cd_law_mix "_law_mix" = true)
    (k_law_mix : PySem.W.keepIn K (.ref f_law_mix) = true)
    (i_law_mix : PySem.W.isFn K (.ref f_law_mix) = true)
    (a_law_whole : PySem.W.nsIn K mainGlobals "_law_whole" = some (some (.ref f_law_whole)))
    (l_law_whole : K.lookup f_law_whole = some ⟨oc_law_whole, od_law_whole, .func (PySem.W.fnOf "_law_whole" "_law_whole" (defArgs s_law_whole) (defBody s_law_whole) (defScope s_law_whole) .none kv_law_whole dc_law_whole pm_law_whole an_law_whole cd_law_whole ct_law_whole), sl_law_whole⟩)
    (c_law_whole : PySem.W.codeIn K cd_law_whole "_law_whole" = true)
    (k_law_whole : PySem.W.keepIn K (.ref f_law_whole) = true)
    (i_law_whole : PySem.W.isFn K (.ref f_law_whole) = true)
    (a_law_allowed : PySem.W.nsIn K mainGlobals "_law_allowed" = some (some (.ref f_law_allowed)))
    (l_law_allowed : K.lookup f_law_allowed = some ⟨oc_law_allowed, od_law_allowed, .func (PySem.W.fnOf "_law_allowed" "_law_allowed" (defArgs s_law_allowed) (defBody s_law_allowed) (defScope s_law_allowed) .none kv_law_allowed dc_law_allowed pm_law_allowed an_law_allowed cd_law_allowed ct_law_allowed), sl_law_allowed⟩)
    (c_law_allowed : PySem.W.codeIn K cd_law_allowed "_law_allowed" = true)
    (k_law_allowed : PySem.W.keepIn K (.ref f_law_allowed) = true)
    (i_law_allowed : PySem.W.isFn K (.ref f_law_allowed) = true)
    (a_law_wholes : PySem.W.nsIn K mainGlobals "_law_wholes" = some (some (.ref f_law_wholes)))
    (l_law_wholes : K.lookup f_law_wholes = some ⟨oc_law_wholes, od_law_wholes, .func (PySem.W.fnOf "_law_wholes" "_law_wholes" (defArgs s_law_wholes) (defBody s_law_wholes) (defScope s_law_wholes) .none kv_law_wholes dc_law_wholes pm_law_wholes an_law_wholes cd_law_wholes ct_law_wholes), sl_law_wholes⟩)
    (c_law_wholes : PySem.W.codeIn K cd_law_wholes "_law_wholes" = true)
    (k_law_wholes : PySem.W.keepIn K (.ref f_law_wholes) = true)
    (i_law_wholes : PySem.W.isFn K (.ref f_law_wholes) = true)
    (a_law_told : PySem.W.nsIn K mainGlobals "_law_told" = some (some (.ref f_law_told)))
    (l_law_told : K.lookup f_law_told = some ⟨oc_law_told, od_law_told, .func (PySem.W.fnOf "_law_told" "_law_told" (defArgs s_law_told) (defBody s_law_told) (defScope s_law_told) .none kv_law_told dc_law_told pm_law_told an_law_told cd_law_told ct_law_told), sl_law_told⟩)
    (c_law_told : PySem.W.codeIn K cd_law_told "_law_told" = true)
    (k_law_told : PySem.W.keepIn K (.ref f_law_told) = true)
    (i_law_told : PySem.W.isFn K (.ref f_law_told) = true)
    (a_law_any : PySem.W.nsIn K mainGlobals "_law_any" = some (some (.ref f_law_any)))
    (l_law_any : K.lookup f_law_any = some ⟨oc_law_any, od_law_any, .func (PySem.W.fnOf "_law_any" "_law_any" (defArgs s_law_any) (defBody s_law_any) (defScope s_law_any) .none kv_law_any dc_law_any pm_law_any an_law_any cd_law_any ct_law_any), sl_law_any⟩)
    (c_law_any : PySem.W.codeIn K cd_law_any "_law_any" = true)
    (k_law_any : PySem.W.keepIn K (.ref f_law_any) = true)
    (i_law_any : PySem.W.isFn K (.ref f_law_any) = true)
    (a_law_bad : PySem.W.nsIn K mainGlobals "_law_bad" = some (some (.ref f_law_bad)))
    (l_law_bad : K.lookup f_law_bad = some ⟨oc_law_bad, od_law_bad, .func (PySem.W.fnOf "_law_bad" "_law_bad" (defArgs s_law_bad) (defBody s_law_bad) (defScope s_law_bad) .none kv_law_bad dc_law_bad pm_law_bad an_law_bad cd_law_bad ct_law_bad), sl_law_bad⟩)
    (c_law_bad : PySem.W.codeIn K cd_law_bad "_law_bad" = true)
    (k_law_bad : PySem.W.keepIn K (.ref f_law_bad) = true)
    (i_law_bad : PySem.W.isFn K (.ref f_law_bad) = true)
    (a_law_no_list : PySem.W.nsIn K mainGlobals "_law_no_list" = some (some (.ref f_law_no_list)))
    (l_law_no_list : K.lookup f_law_no_list = some ⟨oc_law_no_list, od_law_no_list, .func (PySem.W.fnOf "_law_no_list" "_law_no_list" (defArgs s_law_no_list) (defBody s_law_no_list) (defScope s_law_no_list) .none kv_law_no_list dc_law_no_list pm_law_no_list an_law_no_list cd_law_no_list ct_law_no_list), sl_law_no_list⟩)
    (c_law_no_list : PySem.W.codeIn K cd_law_no_list "_law_no_list" = true)
    (k_law_no_list : PySem.W.keepIn K (.ref f_law_no_list) = true)
    (i_law_no_list : PySem.W.isFn K (.ref f_law_no_list) = true)
    (a_law_has_room : PySem.W.nsIn K mainGlobals "_law_has_room" = some (some (.ref f_law_has_room)))
    (l_law_has_room : K.lookup f_law_has_room = some ⟨oc_law_has_room, od_law_has_room, .func (PySem.W.fnOf "_law_has_room" "_law_has_room" (defArgs s_law_has_room) (defBody s_law_has_room) (defScope s_law_has_room) .none kv_law_has_room dc_law_has_room pm_law_has_room an_law_has_room cd_law_has_room ct_law_has_room), sl_law_has_room⟩)
    (c_law_has_room : PySem.W.codeIn K cd_law_has_room "_law_has_room" = true)
    (k_law_has_room : PySem.W.keepIn K (.ref f_law_has_room) = true)
    (i_law_has_room : PySem.W.isFn K (.ref f_law_has_room) = true)
    (a_law_asked : PySem.W.nsIn K mainGlobals "_law_asked" = some (some (.ref f_law_asked)))
    (l_law_asked : K.lookup f_law_asked = some ⟨oc_law_asked, od_law_asked, .func (PySem.W.fnOf "_law_asked" "_law_asked" (defArgs s_law_asked) (defBody s_law_asked) (defScope s_law_asked) .none kv_law_asked dc_law_asked pm_law_asked an_law_asked cd_law_asked ct_law_asked), sl_law_asked⟩)
    (c_law_asked : PySem.W.codeIn K cd_law_asked "_law_asked" = true)
    (k_law_asked : PySem.W.keepIn K (.ref f_law_asked) = true)
    (i_law_asked : PySem.W.isFn K (.ref f_law_asked) = true)
    (a_law_stretch : PySem.W.nsIn K mainGlobals "_law_stretch" = some (some (.ref f_law_stretch)))
    (l_law_stretch : K.lookup f_law_stretch = some ⟨oc_law_stretch, od_law_stretch, .func (PySem.W.fnOf "_law_stretch" "_law_stretch" (defArgs s_law_stretch) (defBody s_law_stretch) (defScope s_law_stretch) .none kv_law_stretch dc_law_stretch pm_law_stretch an_law_stretch cd_law_stretch ct_law_stretch), sl_law_stretch⟩)
    (c_law_stretch : PySem.W.codeIn K cd_law_stretch "_law_stretch" = true)
    (k_law_stretch : PySem.W.keepIn K (.ref f_law_stretch) = true)
    (i_law_stretch : PySem.W.isFn K (.ref f_law_stretch) = true)
    (a_law : PySem.W.nsIn K mainGlobals "law" = some (some (.ref f_law)))
    (l_law : K.lookup f_law = some ⟨oc_law, od_law, .func (PySem.W.fnOf "law" "law" (defArgs s_law) (defBody s_law) (defScope s_law) .none kv_law dc_law pm_law an_law cd_law ct_law), sl_law⟩)
    (c_law : PySem.W.codeIn K cd_law "law" = true)
    (k_law : PySem.W.keepIn K (.ref f_law) = true)
    (i_law : PySem.W.isFn K (.ref f_law) = true)
    (kc_RimError : PySem.W.keepIn K (.ref C_RimError) = true)
    (ov_RimError : excOver K C_RimError = true)
    (hd_RimError : PySem.W.hasDictIn K C_RimError = true)
    (sa_RimError : PySem.W.findIn K (.ref C_RimError) "__setattr__" = some (some (.builtin "object.__setattr__")))
    (ga_RimError : PySem.W.findIn K (.ref C_RimError) "__getattribute__" = some (some (.builtin "BaseException.__getattribute__")))
    (gh_RimError : PySem.W.findIn K (.ref C_RimError) "__getattr__" = some none)
    (ca_RimError : PySem.W.findIn K (.ref C_RimError) "__class__" = some (some (.builtin "object.__class__")))
    (mk_RimError : xmkIn K C_RimError = true)
    (kc_NoNotes : PySem.W.keepIn K (.ref C_NoNotes) = true)
    (ov_NoNotes : excOver K C_NoNotes = true)
    (hd_NoNotes : PySem.W.hasDictIn K C_NoNotes = true)
    (sa_NoNotes : PySem.W.findIn K (.ref C_NoNotes) "__setattr__" = some (some (.builtin "object.__setattr__")))
    (ga_NoNotes : PySem.W.findIn K (.ref C_NoNotes) "__getattribute__" = some (some (.builtin "BaseException.__getattribute__")))
    (gh_NoNotes : PySem.W.findIn K (.ref C_NoNotes) "__getattr__" = some none)
    (ca_NoNotes : PySem.W.findIn K (.ref C_NoNotes) "__class__" = some (some (.builtin "object.__class__")))
    (mk_NoNotes : xmkIn K C_NoNotes = true)
    (kc_TooFull : PySem.W.keepIn K (.ref C_TooFull) = true)
    (ov_TooFull : excOver K C_TooFull = true)
    (hd_TooFull : PySem.W.hasDictIn K C_TooFull = true)
    (sa_TooFull : PySem.W.findIn K (.ref C_TooFull) "__setattr__" = some (some (.builtin "object.__setattr__")))
    (ga_TooFull : PySem.W.findIn K (.ref C_TooFull) "__getattribute__" = some (some (.builtin "BaseException.__getattribute__")))
    (gh_TooFull : PySem.W.findIn K (.ref C_TooFull) "__getattr__" = some none)
    (ca_TooFull : PySem.W.findIn K (.ref C_TooFull) "__class__" = some (some (.builtin "object.__class__")))
    (mk_TooFull : xmkIn K C_TooFull = true)
    (cg : PySem.W.specialIn K (.builtin "object.__class__") "__get__" = some (some (.builtin "getset_descriptor.__get__")))
    (ct : PySem.W.takesIn K (.builtin "object.__class__") = some true)
    (n_TooFull_first : PySem.W.findIn K (.ref C_TooFull) "first" = some none)
    (n_TooFull_last : PySem.W.findIn K (.ref C_TooFull) "last" = some none)
    (n_abs : PySem.W.nsIn K mainGlobals "abs" = some none)
    (n_all : PySem.W.nsIn K mainGlobals "all" = some none)
    (n_bool : PySem.W.nsIn K mainGlobals "bool" = some none)
    (n_int : PySem.W.nsIn K mainGlobals "int" = some none)
    (n_isinstance : PySem.W.nsIn K mainGlobals "isinstance" = some none)
    (n_len : PySem.W.nsIn K mainGlobals "len" = some none)
    (n_list : PySem.W.nsIn K mainGlobals "list" = some none)
    (n_max : PySem.W.nsIn K mainGlobals "max" = some none)
    (n_range : PySem.W.nsIn K mainGlobals "range" = some none)
    (n_sum : PySem.W.nsIn K mainGlobals "sum" = some none)
    (n_tuple : PySem.W.nsIn K mainGlobals "tuple" = some none)
    (ns_NoNotes : xno0 K C_NoNotes = true)
    (ns_k_NoNotes : PySem.W.keepIn K (.ref C_NoNotes) = true)
    (kit_NoNotes_RimError : PySem.W.kitOne K (.ref C_NoNotes) (.ref C_RimError) = some true)
    (mro_NN : PySem.W.mroIn K C_NoNotes (.ref C_NoNotes) = some true)
    (mro_TN : PySem.W.mroIn K C_TooFull (.ref C_NoNotes) = some false)
    (mro_TT : PySem.W.mroIn K C_TooFull (.ref C_TooFull) = some true)
    (v_FARTHEST : PySem.W.nsIn K mainGlobals "FARTHEST" = some (some (.int 99 tkc_FARTHEST)))
    (v_MOST_HEIGHT : PySem.W.nsIn K mainGlobals "MOST_HEIGHT" = some (some (.int 9 tkc_MOST_HEIGHT)))
    (v_MOST_NOTES : PySem.W.nsIn K mainGlobals "MOST_NOTES" = some (some (.int 12 tkc_MOST_NOTES)))
    : ∃ t, Txt w K mg t :=
  ⟨⟨f_TooFull_init, _, f_is_whole, _, f_spread, _, f_are_notes, _, f_is_note, _, f_check_room, _, f_least_places, _, f_ways_with, _, f_least_rise, _, f_most_rise, _, f_least_pushes, _, f_law_cell, _, f_law_mix, _, f_law_whole, _, f_law_allowed, _, f_law_wholes, _, f_law_told, _, f_law_any, _, f_law_bad, _, f_law_no_list, _, f_law_has_room, _, f_law_asked, _, f_law_stretch, _, f_law, _, C_RimError, C_NoNotes, C_TooFull⟩, {
    g_RimError := PySem.W.mg_of X G g_RimError
    g_NoNotes := PySem.W.mg_of X G g_NoNotes
    g_TooFull := PySem.W.mg_of X G g_TooFull
    F_TooFull_init := fun_mk (st := s_TooFull_init) l_TooFull_init c_TooFull_init k_TooFull_init
    b_TooFull_init := (fun_mk (st := s_TooFull_init) l_TooFull_init c_TooFull_init k_TooFull_init).binds (ps := ["self", "first", "last"]) fun _ _ _ _ _ _ us hl => match us, hl with | [_, _, _], _ => rfl
    g_is_whole := PySem.W.mg_of X G a_is_whole
    F_is_whole := fun_mk (st := s_is_whole) l_is_whole c_is_whole k_is_whole
    b_is_whole := (fun_mk (st := s_is_whole) l_is_whole c_is_whole k_is_whole).binds (ps := ["thing", "low", "high"]) fun _ _ _ _ _ _ us hl => match us, hl with | [_, _, _], _ => rfl
    g_spread := PySem.W.mg_of X G a_spread
    F_spread := fun_mk (st := s_spread) l_spread c_spread k_spread
    b_spread := (fun_mk (st := s_spread) l_spread c_spread k_spread).binds (ps := ["notes"]) fun _ _ _ _ _ _ us hl => match us, hl with | [_], _ => rfl
    g_are_notes := PySem.W.mg_of X G a_are_notes
    F_are_notes := fun_mk (st := s_are_notes) l_are_notes c_are_notes k_are_notes
    b_are_notes := (fun_mk (st := s_are_notes) l_are_notes c_are_notes k_are_notes).binds (ps := ["thing"]) fun _ _ _ _ _ _ us hl => match us, hl with | [_], _ => rfl
    g_is_note := PySem.W.mg_of X G a_is_note
    F_is_note := fun_mk (st := s_is_note) l_is_note c_is_note k_is_note
    b_is_note := (fun_mk (st := s_is_note) l_is_note c_is_note k_is_note).binds (ps := ["thing"]) fun _ _ _ _ _ _ us hl => match us, hl with | [_], _ => rfl
    g_check_room := PySem.W.mg_of X G a_check_room
    F_check_room := fun_mk (st := s_check_room) l_check_room c_check_room k_check_room
    b_check_room := (fun_mk (st := s_check_room) l_check_room c_check_room k_check_room).binds (ps := ["notes"]) fun _ _ _ _ _ _ us hl => match us, hl with | [_], _ => rfl
    g_least_places := PySem.W.mg_of X G a_least_places
    F_least_places := fun_mk (st := s_least_places) l_least_places c_least_places k_least_places
    b_least_places := (fun_mk (st := s_least_places) l_least_places c_least_places k_least_places).binds (ps := ["notes"]) fun _ _ _ _ _ _ us hl => match us, hl with | [_], _ => rfl
    g_ways_with := PySem.W.mg_of X G a_ways_with
    F_ways_with := fun_mk (st := s_ways_with) l_ways_with c_ways_with k_ways_with
    b_ways_with := (fun_mk (st := s_ways_with) l_ways_with c_ways_with k_ways_with).binds (ps := ["ways", "note"]) fun _ _ _ _ _ _ us hl => match us, hl with | [_, _], _ => rfl
    g_least_rise := PySem.W.mg_of X G a_least_rise
    F_least_rise := fun_mk (st := s_least_rise) l_least_rise c_least_rise k_least_rise
    b_least_rise := (fun_mk (st := s_least_rise) l_least_rise c_least_rise k_least_rise).binds (ps := ["note", "place"]) fun _ _ _ _ _ _ us hl => match us, hl with | [_, _], _ => rfl
    g_most_rise := PySem.W.mg_of X G a_most_rise
    F_most_rise := fun_mk (st := s_most_rise) l_most_rise c_most_rise k_most_rise
    b_most_rise := (fun_mk (st := s_most_rise) l_most_rise c_most_rise k_most_rise).binds (ps := ["note", "place"]) fun _ _ _ _ _ _ us hl => match us, hl with | [_, _], _ => rfl
    g_least_pushes := PySem.W.mg_of X G a_least_pushes
    F_least_pushes := fun_mk (st := s_least_pushes) l_least_pushes c_least_pushes k_least_pushes
    b_least_pushes := (fun_mk (st := s_least_pushes) l_least_pushes c_least_pushes k_least_pushes).binds (ps := ["notes", "places"]) fun _ _ _ _ _ _ us hl => match us, hl with | [_, _], _ => rfl
    g_law_cell := PySem.W.mg_of X G a_law_cell
    F_law_cell := fun_mk (st := s_law_cell) l_law_cell c_law_cell k_law_cell
    b_law_cell := (fun_mk (st := s_law_cell) l_law_cell c_law_cell k_law_cell).binds (ps := ["_law_script", "_law_k"]) fun _ _ _ _ _ _ us hl => match us, hl with | [_, _], _ => rfl
    g_law_mix := PySem.W.mg_of X G a_law_mix
    F_law_mix := fun_mk (st := s_law_mix) l_law_mix c_law_mix k_law_mix
    b_law_mix := (fun_mk (st := s_law_mix) l_law_mix c_law_mix k_law_mix).binds (ps := ["_law_cell_here", "_law_k"]) fun _ _ _ _ _ _ us hl => match us, hl with | [_, _], _ => rfl
    g_law_whole := PySem.W.mg_of X G a_law_whole
    F_law_whole := fun_mk (st := s_law_whole) l_law_whole c_law_whole k_law_whole
    b_law_whole := (fun_mk (st := s_law_whole) l_law_whole c_law_whole k_law_whole).binds (ps := ["_law_found"]) fun _ _ _ _ _ _ us hl => match us, hl with | [_], _ => rfl
    g_law_allowed := PySem.W.mg_of X G a_law_allowed
    F_law_allowed := fun_mk (st := s_law_allowed) l_law_allowed c_law_allowed k_law_allowed
    b_law_allowed := (fun_mk (st := s_law_allowed) l_law_allowed c_law_allowed k_law_allowed).binds (ps := ["_law_notes", "_law_places"]) fun _ _ _ _ _ _ us hl => match us, hl with | [_, _], _ => rfl
    g_law_wholes := PySem.W.mg_of X G a_law_wholes
    F_law_wholes := fun_mk (st := s_law_wholes) l_law_wholes c_law_wholes k_law_wholes
    b_law_wholes := (fun_mk (st := s_law_wholes) l_law_wholes c_law_wholes k_law_wholes).binds (ps := ["_law_found", "_law_many"]) fun _ _ _ _ _ _ us hl => match us, hl with | [_, _], _ => rfl
    g_law_told := PySem.W.mg_of X G a_law_told
    F_law_told := fun_mk (st := s_law_told) l_law_told c_law_told k_law_told
    b_law_told := (fun_mk (st := s_law_told) l_law_told c_law_told k_law_told).binds (ps := ["_law_found", "_law_many"]) fun _ _ _ _ _ _ us hl => match us, hl with | [_, _], _ => rfl
    g_law_any := PySem.W.mg_of X G a_law_any
    F_law_any := fun_mk (st := s_law_any) l_law_any c_law_any k_law_any
    b_law_any := (fun_mk (st := s_law_any) l_law_any c_law_any k_law_any).binds (ps := ["_law_script", "_law_many"]) fun _ _ _ _ _ _ us hl => match us, hl with | [_, _], _ => rfl
    g_law_bad := PySem.W.mg_of X G a_law_bad
    F_law_bad := fun_mk (st := s_law_bad) l_law_bad c_law_bad k_law_bad
    b_law_bad := (fun_mk (st := s_law_bad) l_law_bad c_law_bad k_law_bad).binds (ps := ["_law_cell_here"]) fun _ _ _ _ _ _ us hl => match us, hl with | [_], _ => rfl
    g_law_no_list := PySem.W.mg_of X G a_law_no_list
    F_law_no_list := fun_mk (st := s_law_no_list) l_law_no_list c_law_no_list k_law_no_list
    b_law_no_list := (fun_mk (st := s_law_no_list) l_law_no_list c_law_no_list k_law_no_list).binds (ps := ["_law_cell_here", "_law_notes"]) fun _ _ _ _ _ _ us hl => match us, hl with | [_, _], _ => rfl
    g_law_has_room := PySem.W.mg_of X G a_law_has_room
    F_law_has_room := fun_mk (st := s_law_has_room) l_law_has_room c_law_has_room k_law_has_room
    b_law_has_room := (fun_mk (st := s_law_has_room) l_law_has_room c_law_has_room k_law_has_room).binds (ps := ["_law_notes"]) fun _ _ _ _ _ _ us hl => match us, hl with | [_], _ => rfl
    g_law_asked := PySem.W.mg_of X G a_law_asked
    F_law_asked := fun_mk (st := s_law_asked) l_law_asked c_law_asked k_law_asked
    b_law_asked := (fun_mk (st := s_law_asked) l_law_asked c_law_asked k_law_asked).binds (ps := ["_law_notes"]) fun _ _ _ _ _ _ us hl => match us, hl with | [_], _ => rfl
    g_law_stretch := PySem.W.mg_of X G a_law_stretch
    F_law_stretch := fun_mk (st := s_law_stretch) l_law_stretch c_law_stretch k_law_stretch
    b_law_stretch := (fun_mk (st := s_law_stretch) l_law_stretch c_law_stretch k_law_stretch).binds (ps := ["_law_notes", "_law_found"]) fun _ _ _ _ _ _ us hl => match us, hl with | [_, _], _ => rfl
    g_law := PySem.W.mg_of X G a_law
    F_law := fun_mk (st := s_law) l_law c_law k_law
    b_law := (fun_mk (st := s_law) l_law c_law k_law).binds (ps := ["_law_script"]) fun _ _ _ _ _ _ us hl => match us, hl with | [_], _ => rfl
    x_RimError := ⟨ov_RimError, hd_RimError, sa_RimError, ga_RimError, gh_RimError, ca_RimError, cg, ct⟩
    mk_RimError := mk_RimError
    x_NoNotes := ⟨ov_NoNotes, hd_NoNotes, sa_NoNotes, ga_NoNotes, gh_NoNotes, ca_NoNotes, cg, ct⟩
    mk_NoNotes := mk_NoNotes
    x_TooFull := ⟨ov_TooFull, hd_TooFull, sa_TooFull, ga_TooFull, gh_TooFull, ca_TooFull, cg, ct⟩
    mk_TooFull := mk_TooFull
    k_TooFull := ⟨mk_TooFull, a_TooFull_init, i_TooFull_init, kc_TooFull⟩
    cg := cg
    ct := ct
    n_TooFull_first := n_TooFull_first
    n_TooFull_last := n_TooFull_last
    n_abs := PySem.W.mg_none_of X G n_abs
    n_all := PySem.W.mg_none_of X G n_all
    n_bool := PySem.W.mg_none_of X G n_bool
    n_int := PySem.W.mg_none_of X G n_int
    n_isinstance := PySem.W.mg_none_of X G n_isinstance
    n_len := PySem.W.mg_none_of X G n_len
    n_list := PySem.W.mg_none_of X G n_list
    n_max := PySem.W.mg_none_of X G n_max
    n_range := PySem.W.mg_none_of X G n_range
    n_sum := PySem.W.mg_none_of X G n_sum
    n_tuple := PySem.W.mg_none_of X G n_tuple
    ns_NoNotes := ns_NoNotes
    ns_k_NoNotes := ns_k_NoNotes
    kit_NoNotes_RimError := kit_NoNotes_RimError
    mro_NN := mro_NN
    mro_TN := mro_TN
    mro_TT := mro_TT
    v_FARTHEST := ⟨_, PySem.W.mg_of X G v_FARTHEST⟩
    v_MOST_HEIGHT := ⟨_, PySem.W.mg_of X G v_MOST_HEIGHT⟩
    v_MOST_NOTES := ⟨_, PySem.W.mg_of X G v_MOST_NOTES⟩ }⟩
theorem sc_TooFull_init : FnScope ["self", "first", "last"] ["self", "first", "last"] (defScope s_TooFull_init) := ⟨rfl, rfl, rfl, by decide +kernel, rfl, by decide +kernel, by decide +kernel⟩
theorem sc_is_whole : FnScope ["thing", "low", "high"] ["thing", "low", "high"] (defScope s_is_whole) := ⟨rfl, rfl, rfl, by decide +kernel, rfl, by decide +kernel, by decide +kernel⟩
theorem sc_spread : FnScope ["notes", "places"] ["notes"] (defScope s_spread) := ⟨rfl, rfl, rfl, by decide +kernel, rfl, by decide +kernel, by decide +kernel⟩
theorem sc_are_notes : FnScope ["thing"] ["thing"] (defScope s_are_notes) := ⟨rfl, rfl, rfl, by decide +kernel, rfl, by decide +kernel, by decide +kernel⟩
theorem sc_is_note : FnScope ["thing"] ["thing"] (defScope s_is_note) := ⟨rfl, rfl, rfl, by decide +kernel, rfl, by decide +kernel, by decide +kernel⟩
theorem sc_check_room : FnScope ["notes", "first", "together", "last"] ["notes"] (defScope s_check_room) := ⟨rfl, rfl, rfl, by decide +kernel, rfl, by decide +kernel, by decide +kernel⟩
theorem sc_least_places : FnScope ["notes", "ways", "note"] ["notes"] (defScope s_least_places) := ⟨rfl, rfl, rfl, by decide +kernel, rfl, by decide +kernel, by decide +kernel⟩
theorem sc_ways_with : FnScope ["ways", "note", "height", "low", "high", "wish", "found", "place", "ahead", "end", "stray", "places", "more"] ["ways", "note"] (defScope s_ways_with) := ⟨rfl, rfl, rfl, by decide +kernel, rfl, by decide +kernel, by decide +kernel⟩
theorem sc_least_rise : FnScope ["note", "place", "height", "low", "high", "wish"] ["note", "place"] (defScope s_least_rise) := ⟨rfl, rfl, rfl, by decide +kernel, rfl, by decide +kernel, by decide +kernel⟩
theorem sc_most_rise : FnScope ["note", "place", "height", "low", "high", "wish"] ["note", "place"] (defScope s_most_rise) := ⟨rfl, rfl, rfl, by decide +kernel, rfl, by decide +kernel, by decide +kernel⟩
theorem sc_least_pushes : FnScope ["notes", "places", "pushes", "number", "rise"] ["notes", "places"] (defScope s_least_pushes) := ⟨rfl, rfl, rfl, by decide +kernel, rfl, by decide +kernel, by decide +kernel⟩
theorem sc_law_cell : FnScope ["_law_script", "_law_k"] ["_law_script", "_law_k"] (defScope s_law_cell) := ⟨rfl, rfl, rfl, by decide +kernel, rfl, by decide +kernel, by decide +kernel⟩
theorem sc_law_mix : FnScope ["_law_cell_here", "_law_k", "_law_number"] ["_law_cell_here", "_law_k"] (defScope s_law_mix) := ⟨rfl, rfl, rfl, by decide +kernel, rfl, by decide +kernel, by decide +kernel⟩
theorem sc_law_whole : FnScope ["_law_found"] ["_law_found"] (defScope s_law_whole) := ⟨rfl, rfl, rfl, by decide +kernel, rfl, by decide +kernel, by decide +kernel⟩
theorem sc_law_allowed : FnScope ["_law_notes", "_law_places", "_law_k", "_law_height", "_law_low", "_law_high", "_law_wish"] ["_law_notes", "_law_places"] (defScope s_law_allowed) := ⟨rfl, rfl, rfl, by decide +kernel, rfl, by decide +kernel, by decide +kernel⟩
theorem sc_law_wholes : FnScope ["_law_found", "_law_many"] ["_law_found", "_law_many"] (defScope s_law_wholes) := ⟨rfl, rfl, rfl, by decide +kernel, rfl, by decide +kernel, by decide +kernel⟩
theorem sc_law_told : FnScope ["_law_found", "_law_many"] ["_law_found", "_law_many"] (defScope s_law_told) := ⟨rfl, rfl, rfl, by decide +kernel, rfl, by decide +kernel, by decide +kernel⟩
theorem sc_law_any : FnScope ["_law_script", "_law_many", "_law_notes", "_law_k", "_law_cell_here", "_law_low", "_law_height"] ["_law_script", "_law_many"] (defScope s_law_any) := ⟨rfl, rfl, rfl, by decide +kernel, rfl, by decide +kernel, by decide +kernel⟩
theorem sc_law_bad : FnScope ["_law_cell_here", "_law_some"] ["_law_cell_here"] (defScope s_law_bad) := ⟨rfl, rfl, rfl, by decide +kernel, rfl, by decide +kernel, by decide +kernel⟩
theorem sc_law_no_list : FnScope ["_law_cell_here", "_law_notes"] ["_law_cell_here", "_law_notes"] (defScope s_law_no_list) := ⟨rfl, rfl, rfl, by decide +kernel, rfl, by decide +kernel, by decide +kernel⟩
theorem sc_law_has_room : FnScope ["_law_notes", "_law_free", "_law_height", "_law_low", "_law_high", "_law_wish"] ["_law_notes"] (defScope s_law_has_room) := ⟨rfl, rfl, rfl, by decide +kernel, rfl, by decide +kernel, by decide +kernel⟩
theorem sc_law_asked : FnScope ["_law_notes", "_law_found", "_law_told_here", "e"] ["_law_notes"] (defScope s_law_asked) := ⟨rfl, rfl, rfl, by decide +kernel, rfl, by decide +kernel, by decide +kernel⟩
theorem sc_law_stretch : FnScope ["_law_notes", "_law_found", "_law_first", "_law_last", "_law_higher"] ["_law_notes", "_law_found"] (defScope s_law_stretch) := ⟨rfl, rfl, rfl, by decide +kernel, rfl, by decide +kernel, by decide +kernel⟩
theorem sc_law : FnScope ["_law_script", "_law_cell_here", "_law_many", "_law_notes", "_law_way", "_law_at", "_law_handed", "_law_told_here", "_law_found"] ["_law_script"] (defScope s_law) := ⟨rfl, rfl, rfl, by decide +kernel, rfl, by decide +kernel, by decide +kernel⟩
end S62

set_option maxRecDepth 100000
set_option maxHeartbeats 4000000
namespace S62
open PySem L2 XL PyProof.Rows
open Sprd
theorem kit_same {K : PySem.W.Frag} {v : Value} : PySem.W.kitOne K v v = some true := if_pos (by simp)
theorem same_upd {H H' : Hp} {p : Addr} {o : HO} (s : Same H H') (hp : H' p = none) : Same H (L2.upd H' p o) := fun b u z => by
  have z' := s b u z
  rw [upd_ne (ne_of_none z' hp)]
  exact z'
theorem gT_if {i : Nat} {v : V} {σ : L2.St} {H : Hp} {A B : L2.St → Hp → Prop} (h : A (σ.set i (some v)) H) : gName i v σ H (fun σ' H' => tTrue σ' H' fun b H4 => if b = true then A σ' H4 else B σ' H4) := by
  show if true = true then A (σ.set i (some v)) H else B (σ.set i (some v)) H
  rw [if_pos rfl]
  exact h
inductive F2 {α : Type} (R : α → Addr → Prop) : List α → List Addr → Prop
  | nil : F2 R [] []
  | cons {x : α} {q : Addr} {xs : List α} {qs : List Addr} (h : R x q) (r : F2 R xs qs) : F2 R (x :: xs) (q :: qs)
theorem F2.mono {α : Type} {R S : α → Addr → Prop} (f : ∀ x q, R x q → S x q) {xs : List α} {qs : List Addr} (h : F2 R xs qs) : F2 S xs qs := by
  induction h with
  | nil => exact .nil
  | cons h _ ih => exact .cons (f _ _ h) ih
theorem F2.len {α : Type} {R : α → Addr → Prop} {xs : List α} {qs : List Addr} (h : F2 R xs qs) : qs.length = xs.length := by
  induction h with
  | nil => rfl
  | cons _ _ ih => simp [ih]
theorem F2.snoc {α : Type} {R : α → Addr → Prop} {xs : List α} {qs : List Addr} (h : F2 R xs qs) {x : α} {q : Addr} (e : R x q) : F2 R (xs ++ [x]) (qs ++ [q]) := by
  induction h with
  | nil => exact .cons e .nil
  | cons h _ ih => exact .cons h ih
theorem F2.get {α : Type} {R : α → Addr → Prop} {xs : List α} {qs : List Addr} (h : F2 R xs qs) {i : Nat} {x : α} (e : xs[i]? = some x) : ∃ q, qs[i]? = some q ∧ R x q := by
  induction h generalizing i with
  | nil => simp at e
  | @cons y q ys qs h _ ih =>
    cases i with
    | zero =>
      simp at e
      subst e
      exact ⟨q, rfl, h⟩
    | succ j => exact ih (by simpa using e)
theorem F2.get' {α : Type} {R : α → Addr → Prop} {xs : List α} {qs : List Addr} (h : F2 R xs qs) {i : Nat} {q : Addr} (e : qs[i]? = some q) : ∃ x, xs[i]? = some x ∧ R x q := by
  induction h generalizing i with
  | nil => simp at e
  | @cons y q' ys qs h _ ih =>
    cases i with
    | zero =>
      simp at e
      subst e
      exact ⟨y, rfl, h⟩
    | succ j => exact ih (by simpa using e)
theorem F2.last {α : Type} {R : α → Addr → Prop} {xs : List α} {qs : List Addr} (h : F2 R xs qs) {x : α} (e : xs.getLast? = some x) : ∃ rs q, qs = rs ++ [q] ∧ R x q := by
  rw [List.getLast?_eq_getElem?] at e
  obtain ⟨q, hq, r⟩ := h.get e
  have hl := h.len
  have : qs.getLast? = some q := by rw [List.getLast?_eq_getElem?, hl]; exact hq
  obtain ⟨rs, e⟩ := List.getLast?_eq_some_iff.mp this
  exact ⟨rs, q, e, r⟩
def isNt (H : Hp) (n : Nt) (q : Addr) : Prop := H q = some (.tup [.int n.h, .int n.lo, .int n.hi, .int n.ws])
abbrev Any : Addr → Prop := fun _ => True
def isWy (S : Addr → Prop) (H : Hp) (w : Way) (q : Addr) : Prop := ∃ l, S l ∧ H q = some (.tup [.int w.e, .int w.s, .ref l]) ∧ H l = some (.lst (w.ps.map V.int))
structure okN (n : Nt) : Prop where
  h1 : 1 ≤ n.h
  h2 : n.h ≤ 9
  l1 : -99 ≤ n.lo
  l2 : n.lo ≤ 99
  u1 : -99 ≤ n.hi
  u2 : n.hi ≤ 99
  w1 : -99 ≤ n.ws
  w2 : n.ws ≤ 99
/-- the notes as they lie there -/
structure Nts (H : Hp) (l : Addr) (qs : List Addr) (ns : List Nt) : Prop where
  at_ : H l = some (.lst (qs.map V.ref))
  f2 : F2 (isNt H) ns qs
  ok : ∀ n ∈ ns, okN n
  len : ns.length ≤ 12
theorem isNt.same {H H' : Hp} (s : Same H H') (n : Nt) (q : Addr) (h : isNt H n q) : isNt H' n q := s _ _ h
theorem Nts.same {H H' : Hp} {l : Addr} {qs : List Addr} {ns : List Nt} (s : Same H H') (h : Nts H l qs ns) : Nts H' l qs ns := ⟨s _ _ h.at_, h.f2.mono (isNt.same s), h.ok, h.len⟩
theorem isWy.same {H H' : Hp} {S : Addr → Prop} (s : Same H H') (w : Way) (q : Addr) (h : isWy S H w q) : isWy S H' w q := let ⟨l, a, b, c⟩ := h; ⟨l, a, s _ _ b, s _ _ c⟩
def nt0 : Nt := ⟨1, 0, 0, 0⟩
def NN (ns : List Nt) (i : Nat) : Nt := ns.getD i nt0
def PP (ps : List Int) (i : Nat) : Int := ps.getD i 0
theorem NN_at {ns : List Nt} {i : Nat} (h : i < ns.length) : ns[i]? = some (NN ns i) := by unfold NN; simp [List.getD, h]
theorem PP_at {ps : List Int} {i : Nat} (h : i < ps.length) : ps[i]? = some (PP ps i) := by unfold PP; simp [List.getD, h]
theorem Nts.it {H : Hp} {l : Addr} {qs : List Addr} {ns : List Nt} (h : Nts H l qs ns) {i : Nat} (hi : i < ns.length) : ∃ q, atI (qs.map V.ref) (i : Int) = some (.ref q) ∧ isNt H (NN ns i) q := by
  obtain ⟨q, hq, r⟩ := h.f2.get (NN_at hi)
  exact ⟨q, atI_nat (by rw [List.getElem?_map, hq]; rfl), r⟩
theorem PP_it {ps : List Int} {i : Nat} (h : i < ps.length) : atI (ps.map V.int) (i : Int) = some (.int (PP ps i)) := atI_nat (by rw [List.getElem?_map, PP_at h]; rfl)
theorem atI_1 {α : Type} {a b : α} {r : List α} : atI (a :: b :: r) 1 = some b := atI_nat (j := 1) rfl
theorem atI_2 {α : Type} {a b c : α} {r : List α} : atI (a :: b :: c :: r) 2 = some c := atI_nat (j := 2) rfl
theorem atI_0 {α : Type} {a : α} {r : List α} : atI (a :: r) 0 = some a := atI_nat (j := 0) rfl
def hh (ns : List Nt) (i : Nat) : Int := (NN ns i).h
def Roomy (ns : List Nt) : Prop := ∀ a b, a ≤ b → b < ns.length → cs (hh ns) (b + 1) - cs (hh ns) a ≤ (NN ns b).hi - (NN ns a).lo + 1
theorem AL_ok {ns : List Nt} {ps : List Int} {e s : Int} (h : AL ns ps e s) : Ok (NN ns) (PP ps) ns.length ∧ s = stray (NN ns) (PP ps) ns.length := by
  obtain ⟨a, b, _⟩ := AL_to h (NN ns) (PP ps) (fun i l => by unfold NN; simp [List.getD, l]) (fun i l => by unfold PP; simp [List.getD, l])
  exact ⟨a, b⟩
theorem roomy_of {ns : List Nt} {ps : List Int} {e s : Int} (h : AL ns ps e s) : Roomy ns := by
  obtain ⟨o, _⟩ := AL_ok h
  intro a b hab hb
  have key : ∀ k, a + k < ns.length → cs (hh ns) (a + k) - cs (hh ns) a ≤ PP ps (a + k) - PP ps a := by
    intro k
    induction k with
    | zero => intro _; simp
    | succ k ih =>
      intro hk
      have := ih (by omega)
      have := o.st (a + k) (by omega)
      show cs (hh ns) (a + k) + hh ns (a + k) - _ ≤ PP ps (a + k + 1) - _
      unfold hh at *
      omega
  obtain ⟨k, rfl⟩ : ∃ k, b = a + k := ⟨b - a, by omega⟩
  have := key k hb
  have := o.hi (a + k) hb
  have := o.lo a (by omega)
  show cs (hh ns) (a + k) + hh ns (a + k) - _ ≤ _
  unfold hh at *
  omega
section
variable {P : Program} {w : World} {K : PySem.W.Frag} {mg : Str → Option Value} {base : Heap} {t : Adr}
end
end S62

set_option maxRecDepth 100000
set_option maxHeartbeats 4000000
namespace S62
open PySem L2 XL PyProof.Rows
open Sprd
def scalV : V → Bool
  | .int _ => true
  | .bl _ => true
  | .str _ => true
  | .non => true
  | _ => false
def wholeB : V → Int → Int → Bool
  | .int i, lo, hi => decide (lo ≤ i) && decide (i ≤ hi)
  | _, _, _ => false
def noteB : List V → Bool
  | [a, b, c, d] => wholeB a 1 9 && (wholeB b (-99) 99 && (wholeB c (-99) 99 && wholeB d (-99) 99))
  | _ => false
inductive NoteV (H : Hp) : V → Bool → Prop
  | tup {q : Addr} {xs : List V} (h : H q = some (.tup xs)) (s : ∀ v ∈ xs, scalV v = true) : NoteV H (.ref q) (noteB xs)
  | lst {q : Addr} {ys : List V} (h : H q = some (.lst ys)) : NoteV H (.ref q) false
  | sc {x : V} (h : scalV x = true) : NoteV H x false
theorem NoteV.same {H H' : Hp} {x : V} {b : Bool} (s : Same H H') (h : NoteV H x b) : NoteV H' x b := by
  cases h with
  | tup h z => exact .tup (s _ _ h) z
  | lst h => exact .lst (s _ _ h)
  | sc h => exact .sc h
theorem NoteV.good {H : Hp} {n : Nt} {q : Addr} (h : isNt H n q) (o : okN n) : NoteV H (.ref q) true := by
  have z := NoteV.tup h (fun v hv => by
    simp only [List.mem_cons, List.not_mem_nil, or_false] at hv
    rcases hv with rfl | rfl | rfl | rfl <;> rfl)
  have e : noteB [.int n.h, .int n.lo, .int n.hi, .int n.ws] = true := by
    obtain ⟨o1, o2, o3, o4, o5, o6, o7, o8⟩ := o
    unfold noteB wholeB
    simp [o1, o2, o3, o4, o5, o6, o7, o8]
  rw [e] at z
  exact z
/-- no list at all -/
inductive NoList (H : Hp) : V → Prop
  | sc {x : V} (h : scalV x = true) : NoList H x
  | tup {q : Addr} {xs : List V} (h : H q = some (.tup xs)) : NoList H (.ref q)
  | dct {q : Addr} {kvs : List (Key × V)} (h : H q = some (.dK kvs)) : NoList H (.ref q)
/-- what is refused with NoNotes -/
inductive BadArg (H : Hp) : V → Prop
  | some_ {l : Addr} {vs : List V} (bs : Nat → Bool) (h : H l = some (.lst vs)) (n : vs.length ≤ 12) (b : ∀ i v, vs[i]? = some v → NoteV H v (bs i)) (f : (List.range vs.length).all bs = false) : BadArg H (.ref l)
  | long {l : Addr} {vs : List V} (h : H l = some (.lst vs)) (n : 12 < vs.length) : BadArg H (.ref l)
  | no {x : V} (h : NoList H x) : BadArg H x
def spWG : Sp := fun vs H Q _ => ∃ (x : V) (lo hi : Int), vs = [x, .int lo, .int hi] ∧ scalV x = true ∧ Q (.bl (wholeB x lo hi)) H
def spNoteG : Sp := fun vs H Q _ => ∃ (x : V) (b : Bool), vs = [x] ∧ NoteV H x b ∧ ∀ H', Same H H' → Q (.bl b) H'
def spNotesG : Sp := fun vs H Q _ => ∃ (x : V), vs = [x] ∧ ((BadArg H x ∧ ∀ H', Same H H' → Q (.bl false) H') ∨ (∃ l qs ns, x = .ref l ∧ Nts H l qs ns ∧ ∀ H', Same H H' → Q (.bl true) H'))
/-- a comprehension of truths -/
theorem comp_boolJ {J : It} {σ : L2.St} {fr : List Nat} {te : TE} {l : Addr} {H1 : Hp} {Q : VK} (f : Nat → Bool) (len : Nat) (hl : H1 l = none) (hn : len < 1000) (hgo : ∀ i H2, Same H1 H2 → i < len → J.go i H2) (hst : ∀ H2, Same H1 H2 → J.stop len H2) (hy : ∀ i H2 v H3, J.yld i H2 v H3 → H3 = H2)
    (hte : ∀ i H2 v R, i < len → Same H1 H2 → J.yld i H2 v H2 → (∀ H', Same H2 H' → R (.bl (f i)) H') → te ((blk0 σ fr 1).set 0 (some v)) H2 R)
    (fin : ∀ H2, Same H1 H2 → H2 l = some (.lst (((List.range len).map f).map V.bl)) → Q (.ref l) H2) : CompG J 1 (gName 0) σ fr tTrue te l H1 Q := by
  refine compG_by len (fun i xs H2 => xs = ((List.range i).map f).map V.bl ∧ Same H1 H2 ∧ H2 l = some (.lst xs)) ?_ ?_ ?_ ?_
  · exact ⟨rfl, same_upd (Same.refl _) hl, upd_same⟩
  · rintro i xs H2 lt ⟨_, s, _⟩
    exact hgo i H2 s lt
  · rintro i xs H2 v H3 lt ⟨rfl, s2, hl2⟩ y N hN
    have e := hy _ _ _ _ y
    subst e
    refine gT_if (hte i _ v _ lt s2 y fun H' s' => ⟨s' _ _ hl2, ?_, hN _ _ ⟨?_, fun b u z => ?_, upd_same⟩⟩)
    · rw [List.length_map, List.length_map, List.length_range]
      exact Nat.lt_trans lt (Nat.lt_of_lt_of_le hn (by decide))
    · rw [List.range_succ, List.map_append, List.map_append]
      rfl
    · rw [upd_ne (ne_of_none z hl)]
      exact s' _ _ (s2 _ _ z)
  · rintro xs H2 ⟨rfl, s2, hl2⟩
    exact ⟨hst H2 s2, fin H2 s2 hl2⟩
theorem all_map (f : Nat → Bool) (n : Nat) : ((List.range n).map f).all id = (List.range n).all f := by rw [List.all_map]; rfl
def viol (ns : List Nt) (a b : Nat) : Prop := (NN ns b).hi - (NN ns a).lo + 1 < cs (hh ns) (b + 1) - cs (hh ns) a
def XF (t : Adr) (H' : Hp) (e dx : Addr) (a b : Nat) : Prop := H' e = some (XO e t.C_TooFull (some dx)) ∧ H' dx = some (XD dx (putF "last" (.int b) [("first", .int a)]))
def spXF (t : Adr) : Sp := fun vs H Q _ => ∃ (e : Addr) (x y : V), vs = [.ref e, x, y] ∧ H e = some (XN e t.C_TooFull none) ∧ ∀ dx, H dx = none → Q .non (upd (upd (upd H dx (XD dx [("first", x)])) e (XN e t.C_TooFull (some dx))) dx (XD dx (putF "last" y [("first", x)])))
def spRoomG (t : Adr) : Sp := fun vs H Q E => ∃ (l : Addr) (qs : List Addr) (ns : List Nt), vs = [.ref l] ∧ Nts H l qs ns ∧ (Roomy ns → Q .non H) ∧
  ∀ a b, a ≤ b → b < ns.length → viol ns a b → ∀ e dx H', Same H H' → XF t H' e dx a b → E e t.C_TooFull H'
section
variable {P : Program} {w : World} {K : PySem.W.Frag} {mg : Str → Option Value} {base : Heap} {t : Adr}
theorem ok_is_whole (T : Txt w K mg t) : FnOk true P w K mg base (CXo P w) 1 t.f_is_whole t.d_is_whole ["thing", "low", "high"] (spWG) := by
  refine T.F_is_whole.okn (k := 0) sc_is_whole (fun vs H Q E h => ?_) (fun cdv A outer s H vs Q E hr h => ?_)
  · obtain ⟨x, lo, hi, rfl, _⟩ := h
    rfl
  · obtain ⟨x, lo, hi, rfl, h⟩ := h
    refine ⟨_, pss_one (ps_ret (pe_and (pe_callB call_isin rfl T.n_isinstance boot_isinstance (pa_cons (pv 0) (pa_cons (pe_bltn (v := .ty "int") rfl T.n_int boot_int rfl) (pa_nil)))) (pe_and (pe_not (pe_callB call_isin rfl T.n_isinstance boot_isinstance (pa_cons (pv 0) (pa_cons (pe_bltn (v := .ty "bool") rfl T.n_bool boot_bool rfl) (pa_nil))))) (pe_one (pe_chain op_le op_le (pv 1) (pv 0) (pv 2)))))), ?_⟩
    obtain ⟨sx, q⟩ := h
    cases x with
    | int i =>
      refine ⟨_, rfl, _, _, rfl, .inl ⟨_, _, true, .int i, rfl, kit_same, true, rfl, iteT ?_⟩⟩
      refine ⟨_, rfl, _, _, rfl, .inl ⟨_, _, false, .int i, rfl, (by rfl), false, rfl, true, rfl, iteT ?_⟩⟩
      refine ⟨_, rfl, _, rfl, _, _, rfl, rfl, _, rfl, ite2 (fun c => ?_) (fun c => ?_)⟩
      · refine ⟨_, rfl, _, _, rfl, rfl, ?_⟩
        change Q (.bl (decide (lo ≤ i) && decide (i ≤ hi))) H at q
        rw [c, Bool.true_and] at q
        exact q
      · change Q (.bl (decide (lo ≤ i) && decide (i ≤ hi))) H at q
        rw [Bool.eq_false_iff.mpr c, Bool.false_and] at q
        exact q
    | bl b =>
      refine ⟨_, rfl, _, _, rfl, .inl ⟨_, _, true, .bl b, rfl, (by rfl), true, rfl, iteT ?_⟩⟩
      exact ⟨_, rfl, _, _, rfl, .inl ⟨_, _, true, .bl b, rfl, kit_same, true, rfl, false, rfl, iteF q⟩⟩
    | str y => exact ⟨_, rfl, _, _, rfl, .inl ⟨_, _, false, .str y, rfl, (by rfl), false, rfl, iteF q⟩⟩
    | non => exact ⟨_, rfl, _, _, rfl, .inl ⟨_, _, false, .non, rfl, (by rfl), false, rfl, iteF q⟩⟩
    | _ => cases sx
theorem ok_is_note (T : Txt w K mg t) : FnOk true P w K mg base (CXo P w) 2 t.f_is_note t.d_is_note ["thing"] (spNoteG) := by
  refine T.F_is_note.okn (k := 1) sc_is_note (fun vs H Q E h => ?_) (fun cdv A outer s H vs Q E hr h => ?_)
  · obtain ⟨x, b, rfl, _⟩ := h
    rfl
  · obtain ⟨x, b, rfl, h⟩ := h
    refine ⟨_, pss_cons (ps_if (PW.pt (pw_or (pt_not (pt_val (pe_callB call_isin rfl T.n_isinstance boot_isinstance (pa_cons (pv 0) (pa_cons (pe_bltn (v := .ty "tuple") rfl T.n_tuple boot_tuple rfl) (pa_nil)))))) (pw_or (pt_cmpR op_ne (pe_callB call_len_seq rfl T.n_len boot_len (pa_cons (pv 0) (pa_nil))) (pe_int) (nomark _)) (pw_or1 (pt_not (pt_val (pe_call (ok_is_whole T) (hr.mono (by decide)) rfl T.g_is_whole T.F_is_whole.kp T.b_is_whole .nil pass_none (pa_cons (pe_ix ix_tup (pv 0) (pe_int) (fun _ _ => rfl)) (pa_cons (pe_int) (pa_cons (pe_glob (v := .int 9) rfl T.v_MOST_HEIGHT.choose_spec ⟨_, rfl⟩) (pa_nil))))))))))) (pss_one (ps_ret (pe_bl))) (pss_nil))
      (pss_one (ps_ret (pe_callB (call_allL rfl) rfl T.n_all PyProof.Rows.Boot.«all» (pa_cons (pe_compG rfl (blkG_of (zs := ["number"]) (ys := []) (fr := []) (N0 := ["thing"]) (sc0 := defScope s_is_note) (by decide +kernel) rfl rfl rfl) (pi_tup (pe_slice sl_tup (pv 0) (po_some (pe_int)) po_none)) (fun _ _ _ _ _ ow nd => pg_name (i := 0) nd rfl (Or.inl (ow _ (by simp))) (Or.inr (ow _ (by simp)))) (gok_name (by decide)) (fun _ _ _ _ _ => pif_nil) (fun _ _ _ _ _ => pe_call (ok_is_whole T) (hr.mono (by decide)) rfl T.g_is_whole T.F_is_whole.kp T.b_is_whole .nil pass_none (pa_cons (pv 0) (pa_cons (pe_un un_neg (pe_glob (v := .int 99) rfl T.v_FARTHEST.choose_spec ⟨_, rfl⟩)) (pa_cons (pe_glob (v := .int 99) rfl T.v_FARTHEST.choose_spec ⟨_, rfl⟩) (pa_nil)))))) (pa_nil))))), ?_⟩
    obtain ⟨nv, k⟩ := h
    cases nv with
    | lst hq => exact ⟨_, rfl, _, _, rfl, .inl ⟨_, _, false, .lst hq, rfl, (by rfl), false, rfl, ifP rfl (ifP rfl (k _ (Same.refl _)))⟩⟩
    | sc hx =>
      cases x with
      | int i => exact ⟨_, rfl, _, _, rfl, .inl ⟨_, _, false, .int i, rfl, (by rfl), false, rfl, ifP rfl (ifP rfl (k _ (Same.refl _)))⟩⟩
      | bl i => exact ⟨_, rfl, _, _, rfl, .inl ⟨_, _, false, .bl i, rfl, (by rfl), false, rfl, ifP rfl (ifP rfl (k _ (Same.refl _)))⟩⟩
      | str i => exact ⟨_, rfl, _, _, rfl, .inl ⟨_, _, false, .str i, rfl, (by rfl), false, rfl, ifP rfl (ifP rfl (k _ (Same.refl _)))⟩⟩
      | non => exact ⟨_, rfl, _, _, rfl, .inl ⟨_, _, false, .non, rfl, (by rfl), false, rfl, ifP rfl (ifP rfl (k _ (Same.refl _)))⟩⟩
      | _ => cases hx
    | @tup q xs hq sc =>
      refine ⟨_, rfl, _, _, rfl, .inl ⟨_, _, true, .tup hq, rfl, kit_same, true, rfl, ifN rfl ?_⟩⟩
      refine ⟨_, rfl, q, _, rfl, .inr (SqT.of hq), rfl, _, rfl, ?_⟩
      match xs, hq, sc, k with
      | [], hq, sc, k => exact ifP rfl (ifP rfl (k _ (Same.refl _)))
      | [_], hq, sc, k => exact ifP rfl (ifP rfl (k _ (Same.refl _)))
      | [_, _], hq, sc, k => exact ifP rfl (ifP rfl (k _ (Same.refl _)))
      | [_, _, _], hq, sc, k => exact ifP rfl (ifP rfl (k _ (Same.refl _)))
      | _ :: _ :: _ :: _ :: _ :: r, hq, sc, k => exact ifP (by simp; omega) (ifP rfl (k _ (Same.refl _)))
      | [a, b, c, d], hq, sc, k =>
        have sa := sc a (by simp)
        change ∀ H', Same H H' → Q (.bl (wholeB a 1 9 && (wholeB b (-99) 99 && (wholeB c (-99) 99 && wholeB d (-99) 99)))) H' at k
        refine ifN rfl ⟨_, rfl, q, _, 0, _, rfl, rfl, SqT.of hq, atI_0, a, 1, 9, rfl, sa, _, rfl, ?_⟩
        cases wa : wholeB a 1 9 with
        | false =>
          rw [wa] at k
          exact ifP rfl (k _ (Same.refl _))
        | true =>
          rw [wa] at k
          refine ifN rfl ⟨_, rfl, 1, rfl, q, _, rfl, SqT.of hq, (fun z => absurd (show HT.sIx 4 0 (some 1) = 0 from z.1) (by decide)), fun p hp => ⟨p, rfl, ⟨_, SqT.of upd_same⟩, fun l hl => ?_⟩⟩
          have ec : cutV [a, b, c, d] (some 1) none = [b, c, d] := rfl
          rw [ec] at hl ⊢
          generalize hH1 : upd H p (.tup [b, c, d]) = H1 at hl ⊢
          have s1 : Same H H1 := by rw [← hH1]; exact same_upd (Same.refl _) hp
          have k1 : H1 p = some (.tup [b, c, d]) := by rw [← hH1]; exact upd_same
          refine comp_boolJ (fun i => wholeB ([b, c, d].getD i .non) (-99) 99) 3 hl (by decide) (fun i H2 s lt => ?_) (fun H2 s => ⟨_, SqT.of (s _ _ k1), Nat.le_refl _⟩) (fun i H2 v H3 y => y.1) (fun i H2 v R lt s y r => ?_) fun H2 s2 e2 => ?_
          · have : i < [b, c, d].length := lt
            exact ⟨_, _, SqT.of (s _ _ k1), List.getElem?_eq_getElem this⟩
          · have z := y.2 _ (SqT.of (s _ _ k1))
            obtain ⟨ev, sv⟩ : [b, c, d].getD i .non = v ∧ scalV v = true := by
              match i, lt, z with
              | 0, _, z => cases z; exact ⟨rfl, sc _ (by simp)⟩
              | 1, _, z => cases z; exact ⟨rfl, sc _ (by simp)⟩
              | 2, _, z => cases z; exact ⟨rfl, sc _ (by simp)⟩
            have r' := r _ (Same.refl _)
            rw [ev] at r'
            exact ⟨_, rfl, 99, rfl, v, -99, 99, rfl, sv, r'⟩
          · refine ⟨l, _, rfl, SqL.of e2, ?_⟩
            have e : ((List.range 3).map fun i => wholeB ([b, c, d].getD i .non) (-99) 99).all id = (true && (wholeB b (-99) 99 && (wholeB c (-99) 99 && wholeB d (-99) 99))) := by
              show (wholeB b (-99) 99 && (wholeB c (-99) 99 && (wholeB d (-99) 99 && true))) = _
              rw [Bool.and_true, Bool.true_and]
            rw [e]
            exact k _ (s1.trans s2)
theorem ok_are_notes (T : Txt w K mg t) : FnOk true P w K mg base (CXo P w) 3 t.f_are_notes t.d_are_notes ["thing"] (spNotesG) := by
  refine T.F_are_notes.okn (k := 2) sc_are_notes (fun vs H Q E h => ?_) (fun cdv A outer s H vs Q E hr h => ?_)
  · obtain ⟨x, rfl, _⟩ := h
    rfl
  · obtain ⟨x, rfl, h⟩ := h
    refine ⟨_, pss_one (ps_ret (pe_and (pe_callB call_isin rfl T.n_isinstance boot_isinstance (pa_cons (pv 0) (pa_cons (pe_bltn (v := .ty "list") rfl T.n_list boot_list rfl) (pa_nil)))) (pe_and (pe_cmpR op_le (pe_callB call_len_seq rfl T.n_len boot_len (pa_cons (pv 0) (pa_nil))) (pe_glob (v := .int 12) rfl T.v_MOST_NOTES.choose_spec ⟨_, rfl⟩) (nomark _)) (pe_one (pe_callB (call_allL rfl) rfl T.n_all PyProof.Rows.Boot.«all» (pa_cons (pe_compG rfl (blkG_of (zs := ["note"]) (ys := []) (fr := []) (N0 := ["thing"]) (sc0 := defScope s_are_notes) (by decide +kernel) rfl rfl rfl) (pi_list (pv 0)) (fun _ _ _ _ _ ow nd => pg_name (i := 0) nd rfl (Or.inl (ow _ (by simp))) (Or.inr (ow _ (by simp)))) (gok_name (by decide)) (fun _ _ _ _ _ => pif_nil) (fun _ _ _ _ _ => pe_call (ok_is_note T) (hr.mono (by decide)) rfl T.g_is_note T.F_is_note.kp T.b_is_note .nil pass_none (pa_cons (pv 0) (pa_nil)))) (pa_nil))))))), ?_⟩
    rcases h with ⟨bad, k⟩ | ⟨l, qs, ns, rfl, hn, k⟩
    · cases bad with
      | @some_ l vs bs hl n nb f =>
        refine ⟨_, rfl, _, _, rfl, .inl ⟨_, _, true, .lst hl, rfl, kit_same, true, rfl, iteT ?_⟩⟩
        refine ⟨_, rfl, l, _, rfl, .inl (SqL.of hl), _, _, rfl, rfl, _, rfl, ifP (decide_eq_true (by omega)) ⟨_, rfl, l, rfl, ⟨_, SqL.of hl⟩, fun p hp => ?_⟩⟩
        refine comp_boolJ bs (vs).length hp (by omega) (fun i H2 s lt => ⟨_, _, SqL.of (s _ _ hl), List.getElem?_eq_getElem lt⟩) (fun H2 s => ⟨_, SqL.of (s _ _ hl), Nat.le_refl _⟩) (fun i H2 v H3 y => y.1) (fun i H2 v R lt s y r => ⟨_, rfl, v, _, rfl, (nb i v (y.2 _ (SqL.of (s _ _ hl)))).same s, r⟩) fun H2 s2 e2 => ?_
        refine ⟨p, _, rfl, SqL.of e2, ?_⟩
        rw [all_map, f]
        exact k _ s2
      | @long l vs hl n =>
        refine ⟨_, rfl, _, _, rfl, .inl ⟨_, _, true, .lst hl, rfl, kit_same, true, rfl, iteT ?_⟩⟩
        exact ⟨_, rfl, l, _, rfl, .inl (SqL.of hl), _, _, rfl, rfl, _, rfl, ifN (decide_eq_false (by omega)) (k _ (Same.refl _))⟩
      | no nl =>
        cases nl with
        | tup hq => exact ⟨_, rfl, _, _, rfl, .inl ⟨_, _, false, .tup hq, rfl, (by rfl), false, rfl, iteF (k _ (Same.refl _))⟩⟩
        | dct hq => exact ⟨_, rfl, _, _, rfl, .inl ⟨_, _, false, .dK hq, rfl, (by rfl), false, rfl, iteF (k _ (Same.refl _))⟩⟩
        | sc hx =>
          cases x with
          | int i => exact ⟨_, rfl, _, _, rfl, .inl ⟨_, _, false, .int i, rfl, (by rfl), false, rfl, iteF (k _ (Same.refl _))⟩⟩
          | bl i => exact ⟨_, rfl, _, _, rfl, .inl ⟨_, _, false, .bl i, rfl, (by rfl), false, rfl, iteF (k _ (Same.refl _))⟩⟩
          | str i => exact ⟨_, rfl, _, _, rfl, .inl ⟨_, _, false, .str i, rfl, (by rfl), false, rfl, iteF (k _ (Same.refl _))⟩⟩
          | non => exact ⟨_, rfl, _, _, rfl, .inl ⟨_, _, false, .non, rfl, (by rfl), false, rfl, iteF (k _ (Same.refl _))⟩⟩
          | _ => cases hx
    · have hl12 := hn.len
      have hle := hn.f2.len
      have hl := hn.at_
      have nb : ∀ i v, (qs.map V.ref)[i]? = some v → NoteV H v true := fun i v z => by
        rw [List.getElem?_map] at z
        obtain ⟨q, hq, rfl⟩ := Option.map_eq_some_iff.mp z
        obtain ⟨n, en, hnq⟩ := hn.f2.get' hq
        exact .good hnq (hn.ok n (List.mem_of_getElem? en))
      have att : ((List.range (qs.map V.ref).length).all fun _ => true) = true := by rw [List.all_eq_true]; intros; rfl
      refine ⟨_, rfl, _, _, rfl, .inl ⟨_, _, true, .lst hl, rfl, kit_same, true, rfl, iteT ?_⟩⟩
      refine ⟨_, rfl, l, _, rfl, .inl (SqL.of hl), _, _, rfl, rfl, _, rfl, ifP (decide_eq_true (by rw [List.length_map]; omega)) ⟨_, rfl, l, rfl, ⟨_, SqL.of hl⟩, fun p hp => ?_⟩⟩
      refine comp_boolJ (fun _ => true) (qs.map V.ref).length hp (by rw [List.length_map]; omega) (fun i H2 s lt => ⟨_, _, SqL.of (s _ _ hl), List.getElem?_eq_getElem lt⟩) (fun H2 s => ⟨_, SqL.of (s _ _ hl), Nat.le_refl _⟩) (fun i H2 v H3 y => y.1) (fun i H2 v R lt s y r => ⟨_, rfl, v, _, rfl, (nb i v (y.2 _ (SqL.of (s _ _ hl)))).same s, r⟩) fun H2 s2 e2 => ?_
      refine ⟨p, _, rfl, SqL.of e2, ?_⟩
      rw [all_map, att]
      exact k _ s2
theorem ok_TooFull_init (T : Txt w K mg t) : FnOk true P w K mg base (CXo P w) 1 t.f_TooFull_init t.d_TooFull_init ["self", "first", "last"] (spXF t) := by
  refine T.F_TooFull_init.okn (k := 0) sc_TooFull_init (fun vs H Q E h => ?_) (fun cdv A outer s H vs Q E hr h => ?_)
  · obtain ⟨e, x, y, rfl, _⟩ := h
    rfl
  · obtain ⟨e, x, y, rfl, h⟩ := h
    refine ⟨_, pss_cons (ps_xfld (pv 0) (pv 1) rfl)
      (pss_one (ps_xfld (pv 0) (pv 2) rfl)), ?_⟩
    obtain ⟨he, q⟩ := h
    refine ⟨_, rfl, _, rfl, e, t.C_TooFull, rfl, T.x_TooFull, T.n_TooFull_first, .inl ⟨he, fun dx hdx => ?_⟩⟩
    have ne : dx ≠ e := fun z => by rw [z, he] at hdx; cases hdx
    refine ⟨_, rfl, _, rfl, e, t.C_TooFull, rfl, T.x_TooFull, T.n_TooFull_last, .inr ⟨dx, _, upd_same, (by rw [upd_ne ne]; exact upd_same), (by show 1 < 1000; decide), q dx hdx⟩⟩
theorem ok_check_room (T : Txt w K mg t) : FnOk true P w K mg base (CXo P w) 3 t.f_check_room t.d_check_room ["notes"] (spRoomG t) := by
  refine T.F_check_room.okx (k := 2) sc_check_room (fun vs H Q E h => ?_) (fun cdv A outer s H vs Q E hr h => ?_)
  · obtain ⟨l, qs, ns, rfl, _⟩ := h
    rfl
  · obtain ⟨l, qs, ns, rfl, h⟩ := h
    refine ⟨_, pss_one (ps_for PassesOwn.leaving rfl (pi_range1 rfl T.n_range (pa_cons (pe_callB call_len_seq rfl T.n_len boot_len (pa_cons (pv 0) (pa_nil))) (pa_nil))) (pg_name (i := 1) sc_check_room.nd rfl (Or.inl rfl)) (pss_cons (ps_set (i := 2) sc_check_room.nd rfl (Or.inl rfl) (pe_int))
      (pss_one (ps_for PassesOwn.leaving rfl (pi_range2 rfl T.n_range (pa_cons (pv 1) (pa_cons (pe_callB call_len_seq rfl T.n_len boot_len (pa_cons (pv 0) (pa_nil))) (pa_nil)))) (pg_name (i := 3) sc_check_room.nd rfl (Or.inl rfl)) (pss_cons (ps_aug (i := 2) sc_check_room.nd rfl (Or.inl rfl) (pe_ix ix_tup (pe_ix ix_list (pv 0) (pv 3) (fun _ _ => rfl)) (pe_int) (fun _ _ => rfl)) iop_add)
      (pss_one (ps_if (pt_cmpR op_gt (pv 2) (pe_op op_add (pe_op op_sub (pe_ix ix_tup (pe_ix ix_list (pv 0) (pv 3) (fun _ _ => rfl)) (pe_int) (fun _ _ => rfl)) (pe_ix ix_tup (pe_ix ix_list (pv 0) (pv 1) (fun _ _ => rfl)) (pe_int) (fun _ _ => rfl))) (pe_int)) (nomark _)) (pss_one (ps_raise (hr.hd rfl) takes_def (pe_xmake T.k_TooFull (ok_TooFull_init T) (hr.mono (by decide)) rfl T.g_TooFull T.b_TooFull_init .nil (pa_cons (pv 1) (pa_cons (pv 3) (pa_nil)))))) (pss_nil)))))))), ?_⟩
    obtain ⟨hn, k, kx⟩ := h
    have hl12 := hn.len
    have hle := hn.f2.len
    have hln : ((qs.map V.ref).length : Int) = (ns.length : Nat) := by rw [List.length_map, hle]
    refine ⟨_, rfl, l, _, rfl, .inl (SqL.of hn.at_), _, rfl, (by rw [hln]; omega), (by rw [hln]; omega), ?_⟩
    rw [hln, Int.toNat_natCast]
    refine for_range (Pv := fun i σ H2 => ∃ v1 v2 v3 : Option V, σ = [some (.ref l), v1, v2, v3] ∧ H = H2 ∧ ∀ a b, a < i → a ≤ b → b < ns.length → ¬ viol ns a b) ⟨_, _, _, rfl, rfl, fun a b h => absurd h (Nat.not_lt_zero _)⟩ ?_ ?_
    · rintro a σ _ ha ⟨v1, v2, v3, rfl, rfl, ih⟩
      simp only [Int.zero_add]
      refine ⟨_, rfl, _, rfl, l, _, rfl, .inl (SqL.of hn.at_), (a : Int), (ns.length : Nat), by rw [hln], ⟨by omega, by omega, by omega, by omega⟩, ?_⟩
      refine for_range (Pv := fun i σ H2 => ∃ v3 : Option V, σ = [some (.ref l), some (.int a), some (.int (cs (hh ns) (a + i) - cs (hh ns) a)), v3] ∧ H = H2 ∧ ∀ b, a ≤ b → b < a + i → ¬ viol ns a b) ⟨v3, by simp, rfl, fun b h1 h2 => by omega⟩ ?_ ?_
      · rintro b σ _ hb ⟨v3, rfl, rfl, ih2⟩
        have hb' : a + b < ns.length := by omega
        obtain ⟨q, e, hq⟩ := hn.it hb'
        obtain ⟨q0, e0, hq0⟩ := hn.it ha
        have cst : ((a : Int) + (b : Int)) = ((a + b : Nat) : Int) := by omega
        rw [cst]
        have e2 : cs (hh ns) (a + b + 1) = cs (hh ns) (a + b) + (NN ns (a + b)).h := rfl
        refine ⟨_, rfl, _, rfl, _, rfl, l, _, _, _, rfl, rfl, SqL.of hn.at_, e, q, _, 0, _, rfl, rfl, SqT.of hq, atI_0, _, _, rfl, rfl, ?_⟩
        refine ⟨_, rfl, _, rfl, _, rfl, l, _, _, _, rfl, rfl, SqL.of hn.at_, e, q, _, 2, _, rfl, rfl, SqT.of hq, atI_2, _, rfl, _, rfl, l, _, _, _, rfl, rfl, SqL.of hn.at_, e0, q0, _, 1, _, rfl, rfl, SqT.of hq0, atI_1, _, _, rfl, rfl, _, _, rfl, rfl, _, _, rfl, rfl, _, rfl, ?_⟩
        by_cases c : viol ns a (a + b)
        · refine ifP (decide_eq_true (by unfold viol at c; omega)) ⟨_, rfl, _, rfl, (by show 2 ≤ 1000; decide), fun e he => ⟨e, _, _, rfl, upd_same, fun dx hdx => ⟨rfl, e, t.C_TooFull, some dx, rfl, ?_, T.mk_TooFull, ?_⟩⟩⟩
          · have ne : dx ≠ e := fun z => by rw [z, upd_same] at hdx; cases hdx
            rw [upd_ne (Ne.symm ne)]
            exact upd_same
          · have ne : dx ≠ e := fun z => by rw [z, upd_same] at hdx; cases hdx
            rw [upd_ne ne] at hdx
            refine kx a (a + b) (by omega) hb' c e dx _ (fun y o z => ?_) ⟨upd_same, ?_⟩
            · rw [upd_ne (ne_of_none z he), upd_ne (ne_of_none z hdx), upd_ne (ne_of_none z he), upd_ne (ne_of_none z hdx), upd_ne (ne_of_none z he)]
              exact z
            · rw [upd_ne ne]
              exact upd_same
        · refine ifN (decide_eq_false (by unfold viol at c; omega)) ?_
          have e3 : cs (hh ns) (a + (b + 1)) - cs (hh ns) a = cs (hh ns) (a + b) - cs (hh ns) a + (NN ns (a + b)).h := by
            show cs (hh ns) (a + b) + (NN ns (a + b)).h - _ = _
            omega
          rw [e3]
          refine ⟨_, rfl, rfl, fun m m1 m2 => ?_⟩
          by_cases d : m = a + b
          · rw [d]; exact c
          · exact ih2 m m1 (by omega)
      · rintro σ _ ⟨v3, rfl, rfl, ih2⟩
        refine ⟨_, _, _, rfl, rfl, fun m b m1 m2 m3 => ?_⟩
        by_cases d : m = a
        · subst d
          exact ih2 b m2 (by omega)
        · exact ih m b (by omega) m2 m3
    · rintro σ _ ⟨v1, v2, v3, rfl, rfl, ih⟩
      refine k fun a b h1 h2 => ?_
      have := ih a b (by omega) h1 h2
      unfold viol at this
      omega
end
end S62

set_option maxRecDepth 100000
set_option maxHeartbeats 4000000
namespace S62
open PySem L2 XL PyProof.Rows
open Sprd
def optV : Option Int → V
  | none => .non
  | some r => .int r
def spWays : Sp := fun vs H Q _ => ∃ (l q : Addr) (qs : List Addr) (ws : List Way) (n : Nt), vs = [.ref l, .ref q] ∧ H l = some (.lst (qs.map V.ref)) ∧ F2 (isWy Any H) ws qs ∧ isNt H n q ∧ okN n ∧ ws.length ≤ 300 ∧ (∀ w ∈ ws, w.ps.length ≤ 100) ∧
  ∀ H' l' qs', Same H H' → H' l' = some (.lst (qs'.map V.ref)) → F2 (isWy (fun l => H l = none) H') (waysW ws n) qs' → Q (.ref l') H'
def spLeast : Sp := fun vs H Q _ => ∃ (l : Addr) (qs : List Addr) (ns : List Nt), vs = [.ref l] ∧ Nts H l qs ns ∧ (∃ ps e s, AL ns ps e s) ∧ ∀ H' p, Same H H' → H p = none → H' p = some (.lst ((leastP ns).map V.int)) → Q (.ref p) H'
def spLr : Sp := fun vs H Q _ => ∃ (q : Addr) (n : Nt) (p : Int), vs = [.ref q, .int p] ∧ isNt H n q ∧ Q (optV (lr n p)) H
def spMr : Sp := fun vs H Q _ => ∃ (q : Addr) (n : Nt) (p : Int), vs = [.ref q, .int p] ∧ isNt H n q ∧ Q (optV (mr n p)) H
/-- some of a list of ways, by a test -/
theorem comp_ahead {K : PySem.W.Frag} {σ : L2.St} {fr : List Nat} {tc : TT} {te : TE} {l l1 : Addr} {H1 : Hp} {Q : VK} {ws : List Way} {qs : List Addr} (f : Way → Bool) (hl1 : H1 l1 = some (.lst (qs.map V.ref))) (hw : F2 (isWy Any H1) ws qs) (hl : H1 l = none) (hn : ws.length < 1000)
    (htc : ∀ (q : Addr) (w : Way) (H2 : Hp) (R : Bool → Hp → Prop), isWy Any H2 w q → R (f w) H2 → tc ((blk0 σ fr 1).set 0 (some (.ref q))) H2 R)
    (hte : ∀ (q : Addr) (H2 : Hp) (R : VK), R (.ref q) H2 → te ((blk0 σ fr 1).set 0 (some (.ref q))) H2 R)
    (fin : ∀ (rs : List Addr) H2, Same H1 H2 → H2 l = some (.lst (rs.map V.ref)) → F2 (isWy Any H2) (ws.filter f) rs → Q (.ref l) H2) :
    CompG (Itl K l1) 1 (gName 0) σ fr tc te l H1 Q := by
  have hle := hw.len
  refine compG_by qs.length (fun i xs H2 => ∃ rs : List Addr, xs = rs.map V.ref ∧ rs.length ≤ i ∧ Same H1 H2 ∧ H2 l = some (.lst xs) ∧ F2 (isWy Any H1) ((ws.take i).filter f) rs) ?_ ?_ ?_ ?_
  · exact ⟨[], rfl, Nat.le_refl _, same_upd (Same.refl _) hl, upd_same, .nil⟩
  · rintro i xs H2 lt ⟨rs, _, _, s2, _⟩
    exact ⟨_, .ref qs[i], SqL.of (s2 _ _ hl1), by simp [lt]⟩
  · rintro i xs H2 v H3 lt ⟨rs, rfl, rl, s2, hl2, hf⟩ ⟨rfl, hv⟩ N hN
    have hv' := hv _ (SqL.of (s2 _ _ hl1))
    rw [List.getElem?_map] at hv'
    obtain ⟨q, hq, rfl⟩ := Option.map_eq_some_iff.mp hv'
    obtain ⟨w, ew, hwq⟩ := hw.get' hq
    have et : (ws.take (i + 1)).filter f = (ws.take i).filter f ++ (if f w = true then [w] else []) := by
      rw [List.take_add_one, ew, List.filter_append]
      show _ ++ List.filter f [w] = _
      rw [List.filter_cons, List.filter_nil]
    refine htc q w _ _ (isWy.same s2 _ _ hwq) ?_
    cases c : f w with
    | true =>
      refine iteT (hte q _ _ ⟨hl2, ?_, hN _ _ ⟨rs ++ [q], by simp, by simp; omega, fun b u z => ?_, upd_same, ?_⟩⟩)
      · rw [List.length_map]
        exact Nat.lt_trans (by omega : rs.length < 1000) (by decide)
      · rw [upd_ne (ne_of_none z hl)]
        exact s2 _ _ z
      · rw [et, c, if_pos rfl]
        exact hf.snoc hwq
    | false =>
      refine iteF (hN _ _ ⟨rs, rfl, by omega, s2, hl2, ?_⟩)
      rw [et, c, if_neg (by decide), List.append_nil]
      exact hf
  · rintro xs H2 ⟨rs, rfl, _, s2, hl2, hf⟩
    rw [hle, List.take_length] at hf
    exact ⟨⟨_, SqL.of (s2 _ _ hl1), by simp⟩, fin rs H2 s2 hl2 (hf.mono (isWy.same s2))⟩
section
variable {P : Program} {w : World} {K : PySem.W.Frag} {mg : Str → Option Value} {base : Heap} {t : Adr}
theorem ok_ways_with (T : Txt w K mg t) : FnOk true P w K mg base (CXo P w) 1 t.f_ways_with t.d_ways_with ["ways", "note"] (spWays) := by
  refine T.F_ways_with.okn (k := 0) sc_ways_with (fun vs H Q E h => ?_) (fun cdv A outer s H vs Q E hr h => ?_)
  · obtain ⟨l, q, qs, ws, n, rfl, _⟩ := h
    rfl
  · obtain ⟨l, q, qs, ws, n, rfl, h⟩ := h
    refine ⟨_, pss_cons (ps_asg (pv 1) (pg_tup rfl (pgs_cons (pg_name (i := 2) sc_ways_with.nd rfl (Or.inl rfl)) (pgs_cons (pg_name (i := 3) sc_ways_with.nd rfl (Or.inl rfl)) (pgs_cons (pg_name (i := 4) sc_ways_with.nd rfl (Or.inl rfl)) (pgs_cons (pg_name (i := 5) sc_ways_with.nd rfl (Or.inl rfl)) (pgs_nil)))))))
      (pss_cons (ps_set (i := 6) sc_ways_with.nd rfl (Or.inl rfl) (pe_lst (pa_nil)))
      (pss_cons (ps_for PassesOwn.never rfl (pi_range2 rfl T.n_range (pa_cons (pv 3) (pa_cons (pe_op op_add (pe_op op_sub (pv 4) (pv 2)) (pe_int)) (pa_nil)))) (pg_name (i := 7) sc_ways_with.nd rfl (Or.inr rfl)) (pss_cons (ps_setcG rfl (blkG_of (zs := ["way"]) (ys := ["place"]) (fr := [7]) (N0 := ["ways", "note", "height", "low", "high", "wish", "found", "place", "ahead", "end", "stray", "places", "more"]) (sc0 := defScope s_ways_with) (by decide +kernel) rfl rfl rfl) (pi_list (pv 0)) (fun _ _ _ _ _ ow nd => pg_name (i := 0) nd rfl (Or.inl (ow _ (by simp))) (Or.inr (ow _ (by simp)))) (gok_name (by decide)) (fun _ _ _ _ _ => pif_one (pt_cmpR op_le (pe_ix (r := rIxT K) ix_tup (pv 0) (pe_int) (fun _ _ => rfl)) (pv 1) (nomark _))) (fun _ _ _ _ _ => pv 0) (j := 8) rfl (Or.inl rfl))
      (pss_one (ps_if (pt_truth (pv 8) (fun _ => rfl)) (pss_cons (ps_asg (pe_ix ix_list (pv 8) (pe_un un_neg (pe_int)) (fun _ _ => rfl)) (pg_tup rfl (pgs_cons (pg_name (i := 9) sc_ways_with.nd rfl (Or.inl rfl)) (pgs_cons (pg_name (i := 10) sc_ways_with.nd rfl (Or.inl rfl)) (pgs_cons (pg_name (i := 11) sc_ways_with.nd rfl (Or.inl rfl)) (pgs_nil))))))
      (pss_cons (ps_set (i := 12) sc_ways_with.nd rfl (Or.inl rfl) (pe_op op_add (pv 10) (pe_callB call_abs rfl T.n_abs boot_abs (pa_cons (pe_op op_sub (pv 7) (pv 5)) (pa_nil)))))
      (pss_one (ps_if (PW.pt (pw_or (pt_not (pt_truth (pv 6) (fun _ => rfl))) (pw_or1 (pt_cmpR op_lt (pv 12) (pe_ix ix_tup (pe_ix ix_list (pv 6) (pe_un un_neg (pe_int)) (fun _ _ => rfl)) (pe_int) (fun _ _ => rfl)) (nomark _))))) (pss_one (ps_expr (pe_bm PySem.F.plainAttrs_list PySem.F.slot_list_append PySem.F.type_list_append mt_append (pv 6) (pa_cons (pe_tup (pa_cons (pe_op op_add (pv 7) (pv 2)) (pa_cons (pv 12) (pa_cons (pe_op op_cat (pv 11) (pe_lst (pa_cons (pv 7) (pa_nil)))) (pa_nil))))) (pa_nil))))) (pss_nil))))) (pss_nil)))))
      (pss_one (ps_ret (pv 6))))), ?_⟩
    obtain ⟨hl, hw, hq, ok, wl, wp, k⟩ := h
    obtain ⟨o1, o2, o3, o4, o5, o6, o7, o8⟩ := ok
    have hle := hw.len
    refine ⟨_, rfl, q, _, rfl, SqT.of hq, rfl, _, _, rfl, _, _, rfl, _, _, rfl, _, _, rfl, rfl, ?_⟩
    refine ⟨(by show 0 ≤ sizeLine; exact Nat.zero_le _), fun fd hfd => ?_⟩
    refine ⟨_, rfl, _, rfl, _, rfl, _, _, rfl, rfl, _, _, rfl, rfl, n.lo, n.hi - n.h + 2, rfl, ⟨by omega, by omega, by omega, by omega⟩, ?_⟩
    refine for_range (Pv := fun i σ H2 => ∃ (v7 v8 v9 v10 v11 v12 : Option V) (rs : List Addr), σ = [some (.ref l), some (.ref q), some (.int n.h), some (.int n.lo), some (.int n.hi), some (.int n.ws), some (.ref fd), v7, v8, v9, v10, v11, v12] ∧
      Same H H2 ∧ H2 fd = some (.lst (rs.map V.ref)) ∧ F2 (isWy (fun l => l ≠ fd ∧ H l = none) H2) (foundW ws n i) rs) ⟨_, _, _, _, _, _, [], rfl, same_upd (Same.refl _) hfd, upd_same, .nil⟩ ?_ ?_
    · rintro i σ H2 hi ⟨v7, v8, v9, v10, v11, v12, rs, rfl, s2, hf2, fw2⟩
      have fl := foundW_len ws n i
      have rl := fw2.len
      refine ⟨_, rfl, l, rfl, ⟨_, SqL.of (s2 _ _ hl)⟩, fun a ha => ?_⟩
      refine comp_ahead (fun w => decide (w.e ≤ n.lo + i)) (s2 _ _ hl) (hw.mono (isWy.same s2)) ha (by omega) ?_ (fun q H2 R r => ⟨_, rfl, r⟩) fun as H3 s3 ha3 hf3 => ?_
      · rintro q w H2 R ⟨l2, _, e1, e2⟩ r
        exact ⟨_, rfl, q, _, 0, _, rfl, rfl, SqT.of e1, atI_0, _, rfl, _, _, rfl, rfl, _, rfl, r⟩
      have hs : stepW ws n (foundW ws n i) (n.lo + i) = foundW ws n (i + 1) := rfl
      have hf : H3 fd = some (.lst (rs.map V.ref)) := s3 _ _ hf2
      have fw3 := fw2.mono (isWy.same s3)
      unfold stepW at hs
      change F2 (isWy Any H3) (aheadW ws (n.lo + i)) as at hf3
      cases hA : (aheadW ws (n.lo + i)).getLast? with
      | none =>
        have e0 : aheadW ws (n.lo + i) = [] := List.getLast?_eq_none_iff.mp hA
        rw [e0] at hf3
        cases hf3
        rw [hA] at hs
        dsimp only at hs
        refine ⟨_, rfl, _, .inl ⟨_, SqL.of ha3, rfl⟩, ifN rfl ⟨_, _, _, _, _, _, rs, rfl, s2.trans s3, hf, ?_⟩⟩
        rw [← hs]
        exact fw3
      | some w =>
        rw [hA] at hs
        dsimp only at hs
        obtain ⟨as', qa, rfl, l2, _, ea, el2⟩ := hf3.last hA
        have wm : w ∈ ws := (List.mem_filter.mp (List.mem_of_getLast? hA)).1
        refine ⟨_, rfl, _, .inl ⟨_, SqL.of ha3, rfl⟩, ifP (by simp) ⟨_, rfl, 1, rfl, a, _, -1, _, rfl, rfl, SqL.of ha3, (by rw [List.map_append]; exact atI_last _ _), qa, _, rfl, SqT.of ea, rfl, _, _, rfl, _, _, rfl, _, _, rfl, rfl, ?_⟩⟩
        refine ⟨_, rfl, _, rfl, _, rfl, _, _, rfl, rfl, _, rfl, _, _, rfl, rfl, ?_⟩
        have wpl := wp w wm
        cases hF : (foundW ws n i).getLast? with
        | none =>
          have e0 : foundW ws n i = [] := List.getLast?_eq_none_iff.mp hF
          have er : rs = [] := List.eq_nil_of_length_eq_zero (by rw [rl, e0]; rfl)
          have hb : better (foundW ws n i) (more w n (n.lo + i)) = true := by unfold better; rw [hF]
          rw [hb, if_pos rfl] at hs
          refine ⟨_, rfl, _, .inl ⟨_, SqL.of hf, rfl⟩, ifP (by rw [er]; rfl) (ifP rfl ?_)⟩
          refine ⟨_, rfl, .inl ⟨rfl, _, SqL.of hf⟩, _, rfl, _, rfl, _, _, rfl, rfl, _, rfl, _, rfl, _, rfl, (by show 1 ≤ sizeLine; decide), fun p1 hp1 => ⟨l2, p1, _, _, rfl, rfl, same_upd (Same.refl _) hp1 _ _ el2, upd_same, ?_, fun p2 hp2 => ⟨(by show 3 ≤ sizeLine; decide), fun p3 hp3 => ?_⟩⟩⟩
          · rw [List.length_map]
            exact Nat.le_trans (by show w.ps.length + 1 ≤ 1000; omega) (by decide)
          generalize hHb : upd (upd H3 p1 _) p2 _ = Hb at hp3 ⊢
          have sb : Same H3 Hb := by rw [← hHb]; exact same_upd (same_upd (Same.refl _) hp1) hp2
          have kb : Hb p2 = some (.lst ((w.ps ++ [n.lo + (i : Int)]).map V.int)) := by rw [← hHb, List.map_append]; exact upd_same
          generalize hHc : upd Hb p3 _ = Hc
          have sc : Same Hb Hc := by rw [← hHc]; exact same_upd (Same.refl _) hp3
          have kc : Hc p3 = some (.tup [.int (n.lo + i + n.h), .int (more w n (n.lo + i)), .ref p2]) := by rw [← hHc]; exact upd_same
          have n2 : p2 ≠ fd := fun z => by
            rw [z] at hp2
            have := same_upd (Same.refl _) hp1 (o := .lst [V.int (n.lo + (i : Int))]) _ _ hf
            rw [hp2] at this
            cases this
          have hfc : Hc fd = some (.lst (rs.map V.ref)) := sc _ _ (sb _ _ hf)
          refine ⟨fd, _, _, rfl, rfl, hfc, ?_, ?_⟩
          · rw [List.length_map]
            exact Nat.lt_trans (by omega : rs.length < 1000) (by decide)
          refine ⟨_, _, _, _, _, _, rs ++ [p3], rfl, fun b u z => ?_, ?_, ?_⟩
          · rw [upd_ne (ne_of_none z hfd)]
            exact sc _ _ (sb _ _ (s3 _ _ (s2 _ _ z)))
          · rw [List.map_append]
            exact upd_same
          · rw [← hs]
            have m1 : ∀ w' q', isWy (fun l => l ≠ fd ∧ H l = none) H3 w' q' → isWy (fun l => l ≠ fd ∧ H l = none) (upd Hc fd (.lst (rs.map V.ref ++ [.ref p3]))) w' q' := by
              rintro w' q' ⟨l', a', b', c'⟩
              refine ⟨l', a', ?_, ?_⟩
              · rw [upd_ne (ne_of b' hf (fun z => nomatch z))]
                exact sc _ _ (sb _ _ b')
              · rw [upd_ne a'.1]
                exact sc _ _ (sb _ _ c')
            refine F2.snoc (fw3.mono m1) ⟨p2, ⟨n2, ((s2.trans s3).trans (same_upd (Same.refl _) hp1)).free hp2⟩, ?_, ?_⟩
            · rw [upd_ne (ne_of kc hfc (fun z => nomatch z))]
              exact kc
            · rw [upd_ne n2]
              exact sc _ _ kb
        | some f =>
          obtain ⟨rs', qf, er, lf, _, ef, elf⟩ := fw3.last hF
          refine ⟨_, rfl, _, .inl ⟨_, SqL.of hf, rfl⟩, ifN (by rw [er]; simp) ⟨_, rfl, _, rfl, 1, rfl, fd, _, -1, _, rfl, rfl, SqL.of hf, (by rw [er, List.map_append]; exact atI_last _ _), qf, _, 1, _, rfl, rfl, SqT.of ef, atI_1, _, _, rfl, rfl, _, rfl, ?_⟩⟩
          by_cases c : more w n (n.lo + i) < f.s
          · have hb : better (foundW ws n i) (more w n (n.lo + i)) = true := by unfold better; rw [hF]; exact decide_eq_true c
            rw [hb, if_pos rfl] at hs
            refine ifP (decide_eq_true c) ?_
            refine ⟨_, rfl, .inl ⟨rfl, _, SqL.of hf⟩, _, rfl, _, rfl, _, _, rfl, rfl, _, rfl, _, rfl, _, rfl, (by show 1 ≤ sizeLine; decide), fun p1 hp1 => ⟨l2, p1, _, _, rfl, rfl, same_upd (Same.refl _) hp1 _ _ el2, upd_same, ?_, fun p2 hp2 => ⟨(by show 3 ≤ sizeLine; decide), fun p3 hp3 => ?_⟩⟩⟩
            · rw [List.length_map]
              exact Nat.le_trans (by show w.ps.length + 1 ≤ 1000; omega) (by decide)
            generalize hHb : upd (upd H3 p1 _) p2 _ = Hb at hp3 ⊢
            have sb : Same H3 Hb := by rw [← hHb]; exact same_upd (same_upd (Same.refl _) hp1) hp2
            have kb : Hb p2 = some (.lst ((w.ps ++ [n.lo + (i : Int)]).map V.int)) := by rw [← hHb, List.map_append]; exact upd_same
            generalize hHc : upd Hb p3 _ = Hc
            have sc : Same Hb Hc := by rw [← hHc]; exact same_upd (Same.refl _) hp3
            have kc : Hc p3 = some (.tup [.int (n.lo + i + n.h), .int (more w n (n.lo + i)), .ref p2]) := by rw [← hHc]; exact upd_same
            have n2 : p2 ≠ fd := fun z => by
              rw [z] at hp2
              have := same_upd (Same.refl _) hp1 (o := .lst [V.int (n.lo + (i : Int))]) _ _ hf
              rw [hp2] at this
              cases this
            have hfc : Hc fd = some (.lst (rs.map V.ref)) := sc _ _ (sb _ _ hf)
            refine ⟨fd, _, _, rfl, rfl, hfc, ?_, ?_⟩
            · rw [List.length_map]
              exact Nat.lt_trans (by omega : rs.length < 1000) (by decide)
            refine ⟨_, _, _, _, _, _, rs ++ [p3], rfl, fun b u z => ?_, ?_, ?_⟩
            · rw [upd_ne (ne_of_none z hfd)]
              exact sc _ _ (sb _ _ (s3 _ _ (s2 _ _ z)))
            · rw [List.map_append]
              exact upd_same
            · rw [← hs]
              have m1 : ∀ w' q', isWy (fun l => l ≠ fd ∧ H l = none) H3 w' q' → isWy (fun l => l ≠ fd ∧ H l = none) (upd Hc fd (.lst (rs.map V.ref ++ [.ref p3]))) w' q' := by
                rintro w' q' ⟨l', a', b', c'⟩
                refine ⟨l', a', ?_, ?_⟩
                · rw [upd_ne (ne_of b' hf (fun z => nomatch z))]
                  exact sc _ _ (sb _ _ b')
                · rw [upd_ne a'.1]
                  exact sc _ _ (sb _ _ c')
              refine F2.snoc (fw3.mono m1) ⟨p2, ⟨n2, ((s2.trans s3).trans (same_upd (Same.refl _) hp1)).free hp2⟩, ?_, ?_⟩
              · rw [upd_ne (ne_of kc hfc (fun z => nomatch z))]
                exact kc
              · rw [upd_ne n2]
                exact sc _ _ kb
          · have hb : better (foundW ws n i) (more w n (n.lo + i)) = false := by unfold better; rw [hF]; exact decide_eq_false c
            rw [hb, if_neg (by decide)] at hs
            refine ifN (decide_eq_false c) ⟨_, _, _, _, _, _, rs, rfl, s2.trans s3, hf, ?_⟩
            rw [← hs]
            exact fw3
    · rintro σ H2 ⟨v7, v8, v9, v10, v11, v12, rs, rfl, s2, hf2, fw2⟩
      exact ⟨_, rfl, k H2 fd rs s2 hf2 (fw2.mono fun w q ⟨l, a, b, c⟩ => ⟨l, a.2, b, c⟩)⟩
end
end S62

set_option maxRecDepth 100000
set_option maxHeartbeats 4000000
namespace S62
open PySem L2 XL PyProof.Rows
open Sprd
/-- a for over a range with a step -/
theorem for_rangeS {lo d : Int} {n : Nat} {g : TG} {tb : TS} {D : Ends} {σ : L2.St} {H : Hp} (Pv : Nat → L2.St → Hp → Prop) (h0 : Pv 0 σ H)
    (hs : ∀ i σ H, i < n → Pv i σ H → g (.int (lo + (i : Int) * d)) σ H fun σ2 H2 => tb { D with nx := Pv (i + 1), ct := Pv (i + 1), bk := D.nx } σ2 H2) (hd : ∀ σ H, Pv n σ H → D.nx σ H) :
    ∃ W : Nat → Nat → L2.St → Hp → Prop, (∃ m, W 0 m σ H) ∧ ∀ i m σ H, W i m σ H →
      ((Itrs lo d n).stop i H ∧ D.nx σ H) ∨ ((Itrs lo d n).go i H ∧ ∃ N : L2.St → Hp → Prop, (∀ σ' H', N σ' H' → ∃ m', m' < m ∧ W (i + 1) m' σ' H') ∧ ∀ x H', (Itrs lo d n).yld i H x H' → g x σ H' fun σ2 H2 => tb { D with nx := N, ct := N, bk := D.nx } σ2 H2) := by
  refine ⟨fun i m σ H => m = n - i ∧ i ≤ n ∧ Pv i σ H, ⟨n, by simp, Nat.zero_le _, h0⟩, ?_⟩
  rintro i m σ H ⟨rfl, hi, p⟩
  by_cases hlt : i < n
  · refine .inr ⟨hlt, Pv (i + 1), fun σ' H' p' => ⟨n - (i + 1), by omega, rfl, hlt, p'⟩, fun x H' y => ?_⟩
    obtain ⟨e, y⟩ := y
    subst e y
    exact hs i σ _ hlt p
  · have e : i = n := by omega
    subst e
    exact .inl ⟨Nat.le_refl _, hd σ H p⟩
def PL (n : Nat) (F : Nat → Int) : List V := ((List.range (n + 1)).map F).map V.int
theorem PL_len (n : Nat) (F : Nat → Int) : (PL n F).length = n + 1 := by unfold PL; simp
theorem PL_congr {n : Nat} {F G : Nat → Int} (h : ∀ i, i ≤ n → F i = G i) : PL n F = PL n G := by
  unfold PL
  congr 1
  apply List.map_congr_left
  intro i hi
  exact h i (by have := List.mem_range.mp hi; omega)
theorem PL_at {n j : Nat} {F : Nat → Int} (h : j ≤ n) : (PL n F)[j]? = some (.int (F j)) := by
  unfold PL
  rw [List.getElem?_map, List.getElem?_map, List.getElem?_range (by omega)]
  rfl
theorem PL_get {n j : Nat} {F : Nat → Int} (h : j ≤ n) : atI (PL n F) (j : Int) = some (.int (F j)) := atI_nat (PL_at h)
theorem PL_set {n j : Nat} {F : Nat → Int} {x : Int} (h : j ≤ n) : (PL n F).set j (.int x) = PL n (fun i => if i = j then x else F i) := by
  apply List.ext_getElem?
  intro i
  by_cases c : i ≤ n
  · rw [PL_at c]
    by_cases d : j = i
    · subst d
      rw [List.getElem?_set_self (by rw [PL_len]; omega), if_pos rfl]
    · rw [List.getElem?_set_ne d, PL_at c, if_neg (fun z => d z.symm)]
  · rw [List.getElem?_eq_none (by rw [List.length_set, PL_len]; omega), List.getElem?_eq_none (by rw [PL_len]; omega)]
theorem PL_ix {n j : Nat} (h : j ≤ n) (F : Nat → Int) : ixN (PL n F).length (j : Int) = some j := by
  unfold ixN
  rw [PL_len, if_pos (by omega), if_pos (by omega)]
  simp
theorem PL_rep (n : Nat) : (List.replicate (n + 1) [V.int 0]).flatten = PL n (fun _ => 0) := by
  apply List.ext_getElem?
  intro i
  have e : (List.replicate (n + 1) [V.int 0]).flatten = List.replicate (n + 1) (V.int 0) := by
    generalize n + 1 = m
    induction m with
    | zero => rfl
    | succ m ih => rw [List.replicate_succ, List.flatten_cons, ih]; rfl
  rw [e]
  by_cases c : i ≤ n
  · rw [PL_at c, List.getElem?_replicate, if_pos (by omega)]
  · rw [List.getElem?_eq_none (by rw [List.length_replicate]; omega), List.getElem?_eq_none (by rw [PL_len]; omega)]
/-- what stands between -/
def inner (n : Nat) (F : Nat → Int) : List Int := (List.range (n - 1)).map fun i => F (i + 1)
theorem PL_cut (n : Nat) (F : Nat → Int) : cutV (PL n F) (some 1) (some (-1)) = (inner n F).map V.int := by
  unfold cutV
  rw [PL_len]
  have e1 : HT.sIx (n + 1) 0 (some 1) = 1 := by
    show min (1 : Int).toNat (n + 1) = 1
    rw [Nat.min_def, if_pos (by show 1 ≤ n + 1; omega)]
    rfl
  have e2 : HT.sIx (n + 1) (n + 1) (some (-1)) = n := by
    show ((-1 : Int) + ((n + 1 : Nat) : Int)).toNat = n
    omega
  rw [e1, e2]
  apply List.ext_getElem?
  intro i
  unfold inner
  by_cases c : i < n - 1
  · rw [List.getElem?_take_of_lt c, List.getElem?_drop, PL_at (by omega), List.getElem?_map, List.getElem?_map, List.getElem?_range c, Nat.add_comm 1 i]
    rfl
  · rw [List.getElem?_eq_none (by rw [List.length_take]; omega), List.getElem?_eq_none (by simp; omega)]
def spPush : Sp := fun vs H Q _ => ∃ (l pl : Addr) (qs : List Addr) (ns : List Nt) (ps : List Int), vs = [.ref l, .ref pl] ∧ Nts H l qs ns ∧ H pl = some (.lst (ps.map V.int)) ∧ ps.length = ns.length ∧
  ∀ H' p, Same H H' → H p = none → H' p = some (.lst ((inner ns.length (qq (NN ns) (PP ps) ns.length)).map V.int)) → Q (.ref p) H'
def pushP (ns : List Nt) : List Int := inner ns.length (qq (NN ns) (PP (leastP ns)) ns.length)
section
variable {P : Program} {w : World} {K : PySem.W.Frag} {mg : Str → Option Value} {base : Heap} {t : Adr}
theorem ok_least_places (T : Txt w K mg t) : FnOk true P w K mg base (CXo P w) 2 t.f_least_places t.d_least_places ["notes"] (spLeast) := by
  refine T.F_least_places.okn (k := 1) sc_least_places (fun vs H Q E h => ?_) (fun cdv A outer s H vs Q E hr h => ?_)
  · obtain ⟨l, qs, ns, rfl, _⟩ := h
    rfl
  · obtain ⟨l, qs, ns, rfl, h⟩ := h
    refine ⟨_, pss_cons (ps_set (i := 1) sc_least_places.nd rfl (Or.inl rfl) (pe_lst (pa_cons (pe_tup (pa_cons (pe_un un_neg (pe_glob (v := .int 99) rfl T.v_FARTHEST.choose_spec ⟨_, rfl⟩)) (pa_cons (pe_int) (pa_cons (pe_lst (pa_nil)) (pa_nil))))) (pa_nil))))
      (pss_cons (ps_for PassesOwn.never rfl (pi_list (pv 0)) (pg_name (i := 2) sc_least_places.nd rfl (Or.inl rfl)) (pss_one (ps_set (i := 1) sc_least_places.nd rfl (Or.inl rfl) (pe_call (ok_ways_with T) (hr.mono (by decide)) rfl T.g_ways_with T.F_ways_with.kp T.b_ways_with .nil pass_none (pa_cons (pv 1) (pa_cons (pv 2) (pa_nil)))))))
      (pss_one (ps_ret (pe_ix ix_tup (pe_ix ix_list (pv 1) (pe_un un_neg (pe_int)) (fun _ _ => rfl)) (pe_int) (fun _ _ => rfl))))), ?_⟩
    obtain ⟨hn, ⟨ps0, e0, s0, al0⟩, k⟩ := h
    have hl12 := hn.len
    have hle := hn.f2.len
    refine ⟨99, rfl, (by show 0 ≤ sizeLine; exact Nat.zero_le _), fun p1 hp1 => ⟨(by show 3 ≤ sizeLine; decide), fun p2 hp2 => ⟨(by show 1 ≤ sizeLine; decide), fun p3 hp3 => ?_⟩⟩⟩
    generalize hH1 : upd (upd (upd H p1 _) p2 _) p3 _ = H1
    have s1 : Same H H1 := by rw [← hH1]; exact same_upd (same_upd (same_upd (Same.refl _) hp1) hp2) hp3
    have k3 : H1 p3 = some (.lst ([p2].map V.ref)) := by rw [← hH1]; exact upd_same
    have k2 : H1 p2 = some (.tup [.int (-99), .int 0, .ref p1]) := by rw [← hH1, upd_ne (ne_of_none upd_same hp3)]; exact upd_same
    have k1 : H1 p1 = some (.lst (([] : List Int).map V.int)) := by
      rw [← hH1, upd_ne (ne_of_none (same_upd (Same.refl _) hp2 _ _ upd_same) hp3), upd_ne (ne_of_none upd_same hp2)]
      exact upd_same
    refine ⟨_, rfl, l, rfl, ⟨_, SqL.of (s1 _ _ hn.at_)⟩, ?_⟩
    refine for_list (xs := qs.map V.ref) (Pv := fun i σ H2 => ∃ (lw : Addr) (v2 : Option V) (rs : List Addr), σ = [some (.ref l), some (.ref lw), v2] ∧ Same H H2 ∧ H2 lw = some (.lst (rs.map V.ref)) ∧ F2 (isWy (fun l => H l = none) H2) ((ns.take i).foldl waysW [⟨-99, 0, []⟩]) rs ∧
      ((ns.take i).foldl waysW [⟨-99, 0, []⟩]).length ≤ 300) ⟨p3, _, [p2], rfl, s1, k3, .cons ⟨p1, hp1, k2, k1⟩ .nil, by simp⟩ (fun _ _ _ _ ⟨_, _, _, _, z, _⟩ => SqL.of (z _ _ hn.at_)) ?_ ?_
    · rintro i v σ H2 hv ⟨lw, v2, rs, rfl, s2, hlw, hf, hl3⟩
      rw [List.getElem?_map] at hv
      obtain ⟨q, hq, rfl⟩ := Option.map_eq_some_iff.mp hv
      obtain ⟨n, en, hnq⟩ := hn.f2.get' hq
      have ok := hn.ok n (List.mem_of_getElem? en)
      have g : Good (ns.take i) ((ns.take i).foldl waysW [⟨-99, 0, []⟩]) := by simpa using allW_good (ns.take i) [] _ good0
      have et : (ns.take (i + 1)).foldl waysW [⟨-99, 0, []⟩] = waysW ((ns.take i).foldl waysW [⟨-99, 0, []⟩]) n := by rw [List.take_add_one, en, List.foldl_append]; rfl
      refine ⟨_, rfl, _, rfl, lw, q, rs, _, n, rfl, hlw, hf.mono (fun w q ⟨l, _, b, c⟩ => ⟨l, trivial, b, c⟩), isNt.same s2 _ _ hnq, ok, hl3, fun w hw => ?_, fun H3 l' qs' s3 hl' hf' => ?_⟩
      · have := (g.al w hw).len
        rw [List.length_take] at this
        omega
      · refine ⟨l', _, qs', rfl, s2.trans s3, hl', ?_, ?_⟩
        · rw [et]
          exact hf'.mono fun w q ⟨l, a, b, c⟩ => ⟨l, s2.free a, b, c⟩
        · rw [et]
          refine Nat.le_trans (foundW_len _ _ _) ?_
          have := ok.h1
          have := ok.l1
          have := ok.u2
          omega
    · rintro σ H2 ⟨lw, v2, rs, rfl, s2, hlw, hf, hl3⟩
      rw [List.length_map, hle, List.take_length] at hf
      obtain ⟨w, ew, el, _, _⟩ := leastP_best al0
      obtain ⟨rs', q, rfl, l2, fr, e1, e2⟩ := hf.last ew
      refine ⟨_, rfl, 1, rfl, lw, _, -1, _, rfl, rfl, SqL.of hlw, (by rw [List.map_append]; exact atI_last _ _), q, _, 2, _, rfl, rfl, SqT.of e1, atI_2, k H2 l2 s2 fr ?_⟩
      rw [el]
      exact e2
theorem ok_least_rise (T : Txt w K mg t) : FnOk true P w K mg base (CXo P w) 1 t.f_least_rise t.d_least_rise ["note", "place"] (spLr) := by
  refine T.F_least_rise.okn (k := 0) sc_least_rise (fun vs H Q E h => ?_) (fun cdv A outer s H vs Q E hr h => ?_)
  · obtain ⟨q, n, p, rfl, _⟩ := h
    rfl
  · obtain ⟨q, n, p, rfl, h⟩ := h
    refine ⟨_, pss_cons (ps_asg (pv 0) (pg_tup rfl (pgs_cons (pg_name (i := 2) sc_least_rise.nd rfl (Or.inl rfl)) (pgs_cons (pg_name (i := 3) sc_least_rise.nd rfl (Or.inl rfl)) (pgs_cons (pg_name (i := 4) sc_least_rise.nd rfl (Or.inl rfl)) (pgs_cons (pg_name (i := 5) sc_least_rise.nd rfl (Or.inl rfl)) (pgs_nil)))))))
      (pss_cons (ps_if (pt_cmpR op_eq (pe_op op_sub (pe_op op_add (pv 1) (pv 2)) (pe_int)) (pv 4) (nomark _)) (pss_one (ps_ret (pe_non))) (pss_nil))
      (pss_one (ps_ret (pe_ifExp (pt_cmpR op_lt (pv 1) (pv 5) (nomark _)) (pe_int) (pe_un un_neg (pe_int)))))), ?_⟩
    obtain ⟨hq, k⟩ := h
    refine ⟨_, rfl, q, _, rfl, SqT.of hq, rfl, _, _, rfl, _, _, rfl, _, _, rfl, _, _, rfl, rfl, ?_⟩
    refine ⟨_, rfl, _, rfl, _, _, rfl, rfl, _, _, rfl, rfl, _, rfl, rfl, _, rfl, ?_⟩
    unfold lr at k
    by_cases c : p + n.h - 1 = n.hi
    · rw [if_pos c] at k
      exact ifP (decide_eq_true (congrArg V.int c)) k
    · rw [if_neg c] at k
      refine ifN (decide_eq_false (fun z => c (V.int.inj z))) ⟨_, rfl, _, rfl, _, _, rfl, rfl, _, rfl, ?_⟩
      by_cases d : p < n.ws
      · rw [if_pos d] at k
        exact ifP (decide_eq_true d) k
      · rw [if_neg d] at k
        exact ifN (decide_eq_false d) ⟨1, rfl, k⟩
theorem ok_most_rise (T : Txt w K mg t) : FnOk true P w K mg base (CXo P w) 1 t.f_most_rise t.d_most_rise ["note", "place"] (spMr) := by
  refine T.F_most_rise.okn (k := 0) sc_most_rise (fun vs H Q E h => ?_) (fun cdv A outer s H vs Q E hr h => ?_)
  · obtain ⟨q, n, p, rfl, _⟩ := h
    rfl
  · obtain ⟨q, n, p, rfl, h⟩ := h
    refine ⟨_, pss_cons (ps_asg (pv 0) (pg_tup rfl (pgs_cons (pg_name (i := 2) sc_most_rise.nd rfl (Or.inl rfl)) (pgs_cons (pg_name (i := 3) sc_most_rise.nd rfl (Or.inl rfl)) (pgs_cons (pg_name (i := 4) sc_most_rise.nd rfl (Or.inl rfl)) (pgs_cons (pg_name (i := 5) sc_most_rise.nd rfl (Or.inl rfl)) (pgs_nil)))))))
      (pss_cons (ps_if (pt_cmpR op_eq (pv 1) (pv 3) (nomark _)) (pss_one (ps_ret (pe_non))) (pss_nil))
      (pss_one (ps_ret (pe_ifExp (pt_cmpR op_gt (pv 1) (pv 5) (nomark _)) (pe_un un_neg (pe_int)) (pe_int))))), ?_⟩
    obtain ⟨hq, k⟩ := h
    refine ⟨_, rfl, q, _, rfl, SqT.of hq, rfl, _, _, rfl, _, _, rfl, _, _, rfl, _, _, rfl, rfl, ?_⟩
    refine ⟨_, rfl, _, rfl, rfl, _, rfl, ?_⟩
    unfold mr at k
    by_cases c : p = n.lo
    · rw [if_pos c] at k
      exact ifP (decide_eq_true (by rw [c])) k
    · rw [if_neg c] at k
      refine ifN (decide_eq_false (fun z => c (V.int.inj z))) ⟨_, rfl, _, rfl, _, _, rfl, rfl, _, rfl, ?_⟩
      by_cases d : p > n.ws
      · rw [if_pos d] at k
        exact ifP (decide_eq_true d) ⟨1, rfl, k⟩
      · rw [if_neg d] at k
        exact ifN (decide_eq_false d) k
theorem ok_least_pushes (T : Txt w K mg t) : FnOk true P w K mg base (CXo P w) 2 t.f_least_pushes t.d_least_pushes ["notes", "places"] (spPush) := by
  refine T.F_least_pushes.okn (k := 1) sc_least_pushes (fun vs H Q E h => ?_) (fun cdv A outer s H vs Q E hr h => ?_)
  · obtain ⟨l, pl, qs, ns, ps, rfl, _⟩ := h
    rfl
  · obtain ⟨l, pl, qs, ns, ps, rfl, h⟩ := h
    refine ⟨_, pss_cons (ps_set (i := 2) sc_least_pushes.nd rfl (Or.inl rfl) (pe_op op_rep (pe_lst (pa_cons (pe_int) (pa_nil))) (pe_op op_add (pe_callB call_len_seq rfl T.n_len boot_len (pa_cons (pv 0) (pa_nil))) (pe_int))))
      (pss_cons (ps_for PassesOwn.never rfl (pi_range1 rfl T.n_range (pa_cons (pe_callB call_len_seq rfl T.n_len boot_len (pa_cons (pv 0) (pa_nil))) (pa_nil))) (pg_name (i := 3) sc_least_pushes.nd rfl (Or.inl rfl)) (pss_cons (ps_set (i := 4) sc_least_pushes.nd rfl (Or.inl rfl) (pe_call (ok_least_rise T) (hr.mono (by decide)) rfl T.g_least_rise T.F_least_rise.kp T.b_least_rise .nil pass_none (pa_cons (pe_ix ix_list (pv 0) (pv 3) (fun _ _ => rfl)) (pa_cons (pe_ix ix_list (pv 1) (pv 3) (fun _ _ => rfl)) (pa_nil)))))
      (pss_one (ps_if (pt_cmpR op_notN (pv 4) (pe_non) (nomark _)) (pss_one (ps_asg (pe_callB (call_max2 rfl) rfl T.n_max boot_max (pa_cons (pe_int) (pa_cons (pe_op op_add (pe_ix ix_list (pv 2) (pv 3) (fun _ _ => rfl)) (pv 4)) (pa_nil)))) (pg_sub (pv 2) (pe_op op_add (pv 3) (pe_int)) set_list))) (pss_nil)))))
      (pss_cons (ps_for PassesOwn.never rfl (pi_range3 rfl T.n_range (pa_cons (pe_op op_sub (pe_callB call_len_seq rfl T.n_len boot_len (pa_cons (pv 0) (pa_nil))) (pe_int)) (pa_cons (pe_un un_neg (pe_int)) (pa_cons (pe_un un_neg (pe_int)) (pa_nil))))) (pg_name (i := 3) sc_least_pushes.nd rfl (Or.inl rfl)) (pss_cons (ps_set (i := 4) sc_least_pushes.nd rfl (Or.inl rfl) (pe_call (ok_most_rise T) (hr.mono (by decide)) rfl T.g_most_rise T.F_most_rise.kp T.b_most_rise .nil pass_none (pa_cons (pe_ix ix_list (pv 0) (pv 3) (fun _ _ => rfl)) (pa_cons (pe_ix ix_list (pv 1) (pv 3) (fun _ _ => rfl)) (pa_nil)))))
      (pss_one (ps_if (pt_cmpR op_notN (pv 4) (pe_non) (nomark _)) (pss_one (ps_asg (pe_callB (call_max2 rfl) rfl T.n_max boot_max (pa_cons (pe_ix ix_list (pv 2) (pv 3) (fun _ _ => rfl)) (pa_cons (pe_op op_sub (pe_ix ix_list (pv 2) (pe_op op_add (pv 3) (pe_int)) (fun _ _ => rfl)) (pv 4)) (pa_nil)))) (pg_sub (pv 2) (pv 3) set_list))) (pss_nil)))))
      (pss_one (ps_ret (pe_slice sl_list (pv 2) (po_some (pe_int)) (po_some (pe_un un_neg (pe_int)))))))), ?_⟩
    obtain ⟨hn, hpl, hlen, k⟩ := h
    have hl12 := hn.len
    have hle := hn.f2.len
    have hln : ((qs.map V.ref).length : Int) = (ns.length : Nat) := by rw [List.length_map, hle]
    refine ⟨(by show 1 ≤ sizeLine; decide), fun p1 hp1 => ⟨_, rfl, l, _, rfl, .inl (SqL.of (same_upd (Same.refl _) hp1 _ _ hn.at_)), _, _, rfl, rfl, p1, _, _, rfl, rfl, upd_same, (by rw [hln]; omega), (by rw [hln]; omega), ?_, fun p2 hp2 => ?_⟩⟩
    · rw [hln]
      exact Nat.le_trans (by show 1 * _ ≤ 1000; omega) (by decide)
    have er : (((qs.map V.ref).length : Int) + 1).toNat = ns.length + 1 := by rw [hln]; omega
    rw [er, PL_rep]
    generalize hH1 : upd (upd H p1 _) p2 _ = H1
    have s1 : Same H H1 := by rw [← hH1]; exact same_upd (same_upd (Same.refl _) hp1) hp2
    have k2 : H1 p2 = some (.lst (PL ns.length fun _ => 0)) := by rw [← hH1]; exact upd_same
    have fr : H p2 = none := (same_upd (Same.refl _) hp1).free hp2
    refine ⟨_, rfl, l, _, rfl, .inl (SqL.of (s1 _ _ hn.at_)), _, rfl, (by rw [hln]; omega), (by rw [hln]; omega), ?_⟩
    rw [hln, Int.toNat_natCast]
    refine for_range (Pv := fun i σ H2 => ∃ v3 v4 : Option V, σ = [some (.ref l), some (.ref pl), some (.ref p2), v3, v4] ∧ Same H H2 ∧ H2 p2 = some (.lst (PL ns.length fun j => if j ≤ i then fw (NN ns) (PP ps) j else 0))) ⟨_, _, rfl, s1, ?_⟩ ?_ ?_
    · rw [k2]
      congr 2
      refine PL_congr fun j _ => ?_
      by_cases c : j ≤ 0
      · have : j = 0 := by omega
        subst this
        rfl
      · rw [if_neg c]
    · rintro i σ H2 hi ⟨v3, v4, rfl, s2, hp⟩
      obtain ⟨q, e, hq⟩ := hn.it hi
      have hi' : i < ps.length := by omega
      rw [Int.zero_add]
      refine ⟨_, rfl, _, rfl, l, _, _, _, rfl, rfl, SqL.of (s2 _ _ hn.at_), e, _, rfl, _, rfl, pl, _, _, _, rfl, rfl, SqL.of (s2 _ _ hpl), PP_it hi', q, NN ns i, PP ps i, rfl, isNt.same s2 _ _ hq, ?_⟩
      have ef : fw (NN ns) (PP ps) (i + 1) = (match lr (NN ns i) (PP ps i) with | none => 0 | some r => mx 0 (fw (NN ns) (PP ps) i + r)) := rfl
      cases c : lr (NN ns i) (PP ps i) with
      | none =>
        rw [c] at ef
        refine ⟨_, rfl, rfl, _, rfl, ifN rfl ⟨_, _, rfl, s2, ?_⟩⟩
        rw [hp]
        congr 2
        refine PL_congr fun j _ => ?_
        by_cases d : j = i + 1
        · subst d
          rw [if_neg (by omega), if_pos (Nat.le_refl _), ef]
        · by_cases d2 : j ≤ i
          · rw [if_pos d2, if_pos (by omega)]
          · rw [if_neg d2, if_neg (by omega)]
      | some r =>
        rw [c] at ef
        refine ⟨_, rfl, rfl, _, rfl, ifP rfl ⟨_, rfl, _, rfl, p2, _, _, _, rfl, rfl, SqL.of hp, PL_get (by omega), _, rfl, _, _, rfl, rfl, _, _, rfl, _, rfl, _, rfl, _, _, rfl, rfl, p2, _, ((i + 1 : Nat) : Int), i + 1, rfl, rfl, hp, PL_ix (by omega) _, ?_⟩⟩
        refine ⟨_, _, rfl, fun b u z => ?_, ?_⟩
        · rw [upd_ne (ne_of_none z fr)]
          exact s2 _ _ z
        · rw [upd_same, PL_set (by omega)]
          congr 2
          refine PL_congr fun j hj => ?_
          by_cases d : j = i + 1
          · subst d
            rw [if_pos rfl, if_pos (Nat.le_refl i), if_pos (Nat.le_refl (i + 1)), ef]
            rfl
          · rw [if_neg d]
            by_cases d2 : j ≤ i
            · rw [if_pos d2, if_pos (by omega)]
            · rw [if_neg d2, if_neg (by omega)]
    · rintro σ H2 ⟨v3, v4, rfl, s2, hp⟩
      refine ⟨_, rfl, l, _, rfl, .inl (SqL.of (s2 _ _ hn.at_)), _, _, rfl, rfl, 1, rfl, 1, rfl, _, _, _, rfl, ⟨by rw [hln]; omega, by rw [hln]; omega, by decide, by decide⟩, .inr ⟨rfl, ?_⟩⟩
      have en : (((qs.map V.ref).length : Int) - 1 - -1).toNat = ns.length := by rw [hln]; omega
      rw [en]
      refine for_rangeS (n := ns.length) (Pv := fun i σ H2 => ∃ v3 v4 : Option V, σ = [some (.ref l), some (.ref pl), some (.ref p2), v3, v4] ∧ Same H H2 ∧ H2 p2 = some (.lst (PL ns.length fun j => if ns.length - i ≤ j then qq (NN ns) (PP ps) ns.length j else fw (NN ns) (PP ps) j))) ⟨_, _, rfl, s2, ?_⟩ ?_ ?_
      · rw [hp]
        congr 2
        refine PL_congr fun j hj => ?_
        rw [if_pos hj]
        by_cases c : j = ns.length
        · subst c
          rw [if_pos (by omega), qq_n]
        · rw [if_neg (by omega)]
      · rintro k' σ H3 hk ⟨v3, v4, rfl, s3, hp3⟩
        obtain ⟨m, hm⟩ : ∃ m, m = ns.length - 1 - k' := ⟨_, rfl⟩
        have cst : ((qs.map V.ref).length : Int) - 1 + (k' : Int) * (-1) = ((m : Nat) : Int) := by rw [hln]; omega
        rw [cst]
        have hmn : m < ns.length := by omega
        have hmp : m < ps.length := by omega
        obtain ⟨q, e, hq⟩ := hn.it hmn
        refine ⟨_, rfl, _, rfl, l, _, _, _, rfl, rfl, SqL.of (s3 _ _ hn.at_), e, _, rfl, _, rfl, pl, _, _, _, rfl, rfl, SqL.of (s3 _ _ hpl), PP_it hmp, q, NN ns m, PP ps m, rfl, isNt.same s3 _ _ hq, ?_⟩
        have ef := qq_s (N := NN ns) (P := PP ps) hmn
        cases c : mr (NN ns m) (PP ps m) with
        | none =>
          rw [c] at ef
          refine ⟨_, rfl, rfl, _, rfl, ifN rfl ⟨_, _, rfl, s3, ?_⟩⟩
          rw [hp3]
          congr 2
          refine PL_congr fun j _ => ?_
          by_cases d : j = m
          · subst d
            rw [if_neg (by omega), if_pos (by omega), ef]
          · by_cases d2 : ns.length - k' ≤ j
            · rw [if_pos d2, if_pos (by omega)]
            · rw [if_neg d2, if_neg (by omega)]
        | some r =>
          rw [c] at ef
          have cst2 : (m : Int) + 1 = ((m + 1 : Nat) : Int) := by omega
          refine ⟨_, rfl, rfl, _, rfl, ifP rfl ⟨_, rfl, _, rfl, p2, _, _, _, rfl, rfl, SqL.of hp3, PL_get (by omega), _, rfl, _, rfl, _, _, rfl, rfl, p2, _, ((m + 1 : Nat) : Int), _, rfl, rfl, SqL.of hp3, PL_get (by omega), _, rfl, _, _, rfl, rfl, _, _, rfl, _, rfl, _, rfl, p2, _, (m : Int), m, rfl, rfl, hp3, PL_ix (by omega) _, ?_⟩⟩
          refine ⟨_, _, rfl, fun b u z => ?_, ?_⟩
          · rw [upd_ne (ne_of_none z fr)]
            exact s3 _ _ z
          · rw [upd_same, PL_set (by omega)]
            congr 2
            refine PL_congr fun j hj => ?_
            by_cases d : j = m
            · subst d
              rw [if_pos rfl, if_neg (show ¬ ns.length - k' ≤ j by omega), if_pos (show ns.length - k' ≤ j + 1 by omega), if_pos (show ns.length - (k' + 1) ≤ j by omega), ef]
              rfl
            · rw [if_neg d]
              by_cases d2 : ns.length - k' ≤ j
              · rw [if_pos d2, if_pos (by omega)]
              · rw [if_neg d2, if_neg (by omega)]
      · rintro σ H3 ⟨v3, v4, rfl, s3, hp3⟩
        have e1 : PL ns.length (fun j => if ns.length - ns.length ≤ j then qq (NN ns) (PP ps) ns.length j else fw (NN ns) (PP ps) j) = PL ns.length (qq (NN ns) (PP ps) ns.length) := PL_congr fun j _ => by rw [if_pos (by omega)]
        rw [e1] at hp3
        refine ⟨_, rfl, 1, rfl, 1, rfl, -1, rfl, p2, _, rfl, SqL.of hp3, fun p4 hp4 => ?_⟩
        rw [PL_cut]
        exact k _ p4 (same_upd s3 hp4) (s3.free hp4) upd_same
end
end S62

set_option maxRecDepth 100000
set_option maxHeartbeats 4000000
namespace S62
open PySem L2 XL PyProof.Rows
open Sprd
def gr (ns : List Nt) : Nat → Int
  | 0 => -99
  | i + 1 => mx (gr ns i) (NN ns i).lo + (NN ns i).h
theorem map_NN (ns : List Nt) : (List.range ns.length).map (NN ns) = ns := by
  apply List.ext_getElem?
  intro i
  by_cases c : i < ns.length
  · rw [List.getElem?_map, List.getElem?_range c, NN_at c]
    rfl
  · rw [List.getElem?_eq_none (by simp; omega), List.getElem?_eq_none (by omega)]
theorem gr_eq {ns : List Nt} (ok : ∀ n ∈ ns, okN n) : ∀ i, i < ns.length → ∃ a, a ≤ i ∧ gr ns (i + 1) = (NN ns a).lo + (cs (hh ns) (i + 1) - cs (hh ns) a) := by
  intro i
  induction i with
  | zero =>
    intro hi
    refine ⟨0, Nat.le_refl _, ?_⟩
    have := (ok _ (List.mem_of_getElem? (NN_at hi))).l1
    have m := mx_sp (-99) (NN ns 0).lo
    have e : cs (hh ns) (0 + 1) = 0 + (NN ns 0).h := rfl
    show mx (-99) (NN ns 0).lo + (NN ns 0).h = (NN ns 0).lo + (cs (hh ns) (0 + 1) - 0)
    omega
  | succ i ih =>
    intro hi
    obtain ⟨a, ha, e⟩ := ih (by omega)
    have m := mx_sp (gr ns (i + 1)) (NN ns (i + 1)).lo
    have e2 : cs (hh ns) (i + 1 + 1) = cs (hh ns) (i + 1) + (NN ns (i + 1)).h := rfl
    have e3 : gr ns (i + 1 + 1) = mx (gr ns (i + 1)) (NN ns (i + 1)).lo + (NN ns (i + 1)).h := rfl
    rcases m.2.2.1 with q | q
    · exact ⟨a, by omega, by omega⟩
    · exact ⟨i + 1, Nat.le_refl _, by omega⟩
theorem viol_of {ns : List Nt} (ok : ∀ n ∈ ns, okN n) {i : Nat} (hi : i < ns.length) (h : (NN ns i).hi < gr ns (i + 1) - 1) : ∃ a, a ≤ i ∧ viol ns a i := by
  obtain ⟨a, ha, e⟩ := gr_eq ok i hi
  refine ⟨a, ha, ?_⟩
  unfold viol
  omega
theorem feas_gr {ns : List Nt} (ok : ∀ n ∈ ns, okN n) (h : ∀ i, i < ns.length → gr ns (i + 1) - 1 ≤ (NN ns i).hi) : ∃ ps e s, AL ns ps e s := by
  have o : Ok (NN ns) (fun i => mx (gr ns i) (NN ns i).lo) ns.length := ⟨fun i hi => (mx_sp _ _).2.1, fun i hi => h i hi, fun i hi => (mx_sp _ _).1⟩
  obtain ⟨e, a, _⟩ := AL_of o fun i hi => (ok _ (List.mem_of_getElem? (NN_at hi))).l1
  rw [map_NN] at a
  exact ⟨_, _, _, a⟩
theorem feas_roomy {ns : List Nt} (ok : ∀ n ∈ ns, okN n) (h : Roomy ns) : ∃ ps e s, AL ns ps e s := by
  refine feas_gr ok fun i hi => ?_
  by_cases c : (NN ns i).hi < gr ns (i + 1) - 1
  · obtain ⟨a, ha, v⟩ := viol_of ok hi c
    have := h a i ha hi
    unfold viol at v
    omega
  · omega
def spSpG (t : Adr) : Sp := fun vs H Q E => ∃ x : V, vs = [x] ∧ ((BadArg H x ∧ ∀ e H', Same H H' → H' e = some (XO e t.C_NoNotes none) → E e t.C_NoNotes H') ∨
  (∃ l qs ns, x = .ref l ∧ Nts H l qs ns ∧ ((∃ ps e s, AL ns ps e s) → ∀ H' p pl pp, Same H H' → H' p = some (.tup [.ref pl, .ref pp]) → H' pl = some (.lst ((leastP ns).map V.int)) → H' pp = some (.lst ((pushP ns).map V.int)) → Q (.ref p) H') ∧
    ∀ a b, a ≤ b → b < ns.length → viol ns a b → ∀ e dx H', Same H H' → XF t H' e dx a b → E e t.C_TooFull H'))
section
variable {P : Program} {w : World} {K : PySem.W.Frag} {mg : Str → Option Value} {base : Heap} {t : Adr}
theorem ok_spread (T : Txt w K mg t) : FnOk true P w K mg base (CXo P w) 4 t.f_spread t.d_spread ["notes"] (spSpG t) := by
  refine T.F_spread.okx (k := 3) sc_spread (fun vs H Q E h => ?_) (fun cdv A outer s H vs Q E hr h => ?_)
  · obtain ⟨x, rfl, _⟩ := h
    rfl
  · obtain ⟨x, rfl, h⟩ := h
    refine ⟨_, pss_cons (ps_if (pt_not (pt_val (pe_call (ok_are_notes T) (hr.mono (by decide)) rfl T.g_are_notes T.F_are_notes.kp T.b_are_notes .nil pass_none (pa_cons (pv 0) (pa_nil))))) (pss_one (ps_raise (hr.hd rfl) takes_def (pe_xnew T.mk_NoNotes T.ns_NoNotes T.ns_k_NoNotes rfl T.g_NoNotes))) (pss_nil))
      (pss_cons (ps_expr (pe_call (ok_check_room T) (hr.mono (by decide)) rfl T.g_check_room T.F_check_room.kp T.b_check_room .nil takes_def.pass (pa_cons (pv 0) (pa_nil))))
      (pss_cons (ps_set (i := 1) sc_spread.nd rfl (Or.inl rfl) (pe_call (ok_least_places T) (hr.mono (by decide)) rfl T.g_least_places T.F_least_places.kp T.b_least_places .nil pass_none (pa_cons (pv 0) (pa_nil))))
      (pss_one (ps_ret (pe_tup (pa_cons (pv 1) (pa_cons (pe_call (ok_least_pushes T) (hr.mono (by decide)) rfl T.g_least_pushes T.F_least_pushes.kp T.b_least_pushes .nil pass_none (pa_cons (pv 0) (pa_cons (pv 1) (pa_nil)))) (pa_nil)))))))), ?_⟩
    rcases h with ⟨bad, kx⟩ | ⟨l, qs, ns, rfl, hn, k, kx⟩
    · refine ⟨_, rfl, x, rfl, .inl ⟨bad, fun H1 s1 => ⟨false, rfl, ifP rfl fun e he => ⟨e, t.C_NoNotes, none, rfl, upd_same, T.mk_NoNotes, kx e _ (fun y o z => ?_) upd_same⟩⟩⟩⟩
      have z' := s1 _ _ z
      rw [upd_ne (ne_of_none z' he), upd_ne (ne_of_none z' he)]
      exact z'
    · refine ⟨_, rfl, .ref l, rfl, .inr ⟨l, qs, ns, rfl, hn, fun H1 s1 => ⟨true, rfl, ifN rfl ?_⟩⟩⟩
      refine ⟨_, rfl, l, qs, ns, rfl, hn.same s1, fun room => ?_, fun a b h1 h2 v e dx H' s' xf => kx a b h1 h2 v e dx H' (s1.trans s') xf⟩
      have fe := feas_roomy hn.ok room
      obtain ⟨ps0, e0, s0, al0⟩ := id fe
      refine ⟨_, rfl, l, qs, ns, rfl, hn.same s1, fe, fun H2 pl s2 fr2 hpl => ?_⟩
      have hn2 := hn.same (s1.trans s2)
      obtain ⟨w, _, _, alw, _⟩ := leastP_best al0
      refine ⟨_, rfl, _, rfl, _, rfl, l, pl, qs, ns, leastP ns, rfl, hn2, hpl, alw.len, fun H3 pp s3 fr3 hpp => ⟨(by show 2 ≤ sizeLine; decide), fun p hp => ?_⟩⟩
      exact k fe _ p pl pp (same_upd ((s1.trans s2).trans s3) hp) upd_same (same_upd s3 hp _ _ hpl) (same_upd (Same.refl _) hp _ _ hpp)
end
end S62

set_option maxRecDepth 100000
set_option maxHeartbeats 4000000
namespace S62
open PySem L2 XL PyProof.Rows
open Sprd
theorem cm_mod {x d : Int} (h : 0 < d) (h2 : d ≤ 4294967296) : -(2 ^ 64) < x % d ∧ x % d < 2 ^ 64 := by
  have a := Int.emod_nonneg x (show d ≠ 0 by omega)
  have b := Int.emod_lt_of_pos x h
  exact ⟨by omega, by omega⟩
theorem mod_in (x : Int) {d : Int} (h : 0 < d) : 0 ≤ x % d ∧ x % d < d := ⟨Int.emod_nonneg _ (by omega), Int.emod_lt_of_pos _ h⟩
def spCell (K : PySem.W.Frag) : Sp := fun vs H Q _ => ∃ (a : Addr) (ns : List Int) (k : Int), vs = [.ref a, .int k] ∧ SqL K H a (ns.map V.int) ∧ 0 ≤ k ∧ k < 2 ^ 62 ∧ ∀ c : Int, Q (.int c) H
def spMix : Sp := fun vs H Q _ => ∃ c k : Int, vs = [.int c, .int k] ∧ 0 ≤ k ∧ ∀ m : Int, 0 ≤ m → Q (.int m) H
def spWhole : Sp := fun vs H Q _ => ∃ i : Int, vs = [.int i] ∧ Q (.bl true) H
theorem at3 (a b c : V) (x : Int) : ∃ v, atI [a, b, c] (x % 3) = some v ∧ (v = a ∨ v = b ∨ v = c) := by
  have : x % 3 = 0 ∨ x % 3 = 1 ∨ x % 3 = 2 := by omega
  rcases this with e | e | e <;> rw [e]
  · exact ⟨_, rfl, .inl rfl⟩
  · exact ⟨_, rfl, .inr (.inl rfl)⟩
  · exact ⟨_, rfl, .inr (.inr rfl)⟩
section
variable {P : Program} {w : World} {K : PySem.W.Frag} {mg : Str → Option Value} {base : Heap} {t : Adr}
theorem ok_law_cell (T : Txt w K mg t) : FnOk true P w K mg base (CXo P w) 1 t.f_law_cell t.d_law_cell ["_law_script", "_law_k"] (spCell K) := by
  refine T.F_law_cell.okn (k := 0) sc_law_cell (fun vs H Q E h => ?_) (fun cdv A outer s H vs Q E hr h => ?_)
  · obtain ⟨a, ns, k, rfl, _⟩ := h
    rfl
  · obtain ⟨a, ns, k, rfl, h⟩ := h
    refine ⟨_, pss_cons (ps_if (pt_cmpR op_lt (pv 1) (pe_callB call_len_seq rfl T.n_len boot_len (pa_cons (pv 0) (pa_nil))) (nomark _)) (pss_one (ps_ret (pe_ix ix_list (pv 0) (pv 1) (fun _ _ => rfl)))) (pss_nil))
      (pss_one (ps_ret (pe_op op_add (pe_op op_mul (pe_int) (pv 1)) (pe_int)))), ?_⟩
    obtain ⟨hs, k0, k1, q⟩ := h
    refine ⟨_, rfl, _, rfl, a, _, rfl, .inl hs, _, _, rfl, rfl, _, rfl, ?_⟩
    refine ite2 (fun c => ?_) (fun c => ?_)
    · have c' : k < (ns.length : Int) := by simpa using c
      obtain ⟨j, rfl⟩ := Int.eq_ofNat_of_zero_le k0
      have lt : j < ns.length := by omega
      exact ⟨_, rfl, _, rfl, a, _, _, _, rfl, rfl, hs, atI_nat (by rw [List.getElem?_map, List.getElem?_eq_getElem lt]; rfl), q _⟩
    · exact ⟨_, rfl, _, _, rfl, rfl, .inl ⟨by decide, by decide⟩, _, _, rfl, rfl, q _⟩
theorem ok_law_mix (T : Txt w K mg t) : FnOk true P w K mg base (CXo P w) 1 t.f_law_mix t.d_law_mix ["_law_cell_here", "_law_k"] (spMix) := by
  refine T.F_law_mix.okn (k := 0) sc_law_mix (fun vs H Q E h => ?_) (fun cdv A outer s H vs Q E hr h => ?_)
  · obtain ⟨c, k, rfl, _⟩ := h
    rfl
  · obtain ⟨c, k, rfl, h⟩ := h
    refine ⟨_, pss_cons (ps_if (pt_cmpR op_eq (pe_op op_mod (pv 0) (pe_int)) (pe_int) (nomark _)) (pss_one (ps_ret (pe_op op_mod (pe_op op_shr (pv 0) (pe_op op_add (pe_int) (pe_op op_mul (pe_int) (pv 1)))) (pe_op op_pow (pe_int) (pe_int))))) (pss_nil))
      (pss_cons (ps_set (i := 2) sc_law_mix.nd rfl (Or.inl rfl) (pe_op op_mod (pe_op op_mul (pe_op op_add (pe_op op_add (pe_op op_mod (pv 0) (pe_int)) (pe_op op_mul (pe_int) (pv 1))) (pe_int)) (pe_int)) (pe_int)))
      (pss_cons (ps_set (i := 2) sc_law_mix.nd rfl (Or.inl rfl) (pe_op op_mod (pe_op op_add (pe_op op_mul (pv 2) (pv 2)) (pe_op op_mul (pe_int) (pv 1))) (pe_int)))
      (pss_one (ps_ret (pe_op op_fdiv (pe_op op_mod (pe_op op_mul (pv 2) (pe_op op_add (pv 2) (pe_int))) (pe_int)) (pe_int)))))), ?_⟩
    obtain ⟨k0, q⟩ := h
    refine ⟨_, rfl, _, _, rfl, rfl, (by show (0 : Int) < 4; decide), rfl, _, rfl, ite2 (fun z => ?_) (fun z => ?_)⟩
    · refine ⟨_, rfl, _, rfl, _, _, rfl, rfl, .inl ⟨by decide, by decide⟩, _, _, rfl, rfl, _, _, rfl, rfl, (by omega), _, _, rfl, rfl, ⟨by decide, by decide, by decide⟩, _, _, rfl, rfl, (by show (0 : Int) < 2 ^ (40 : Int).toNat; decide), ?_⟩
      exact q _ (Int.emod_nonneg _ (by decide))
    refine ⟨_, rfl, _, _, rfl, rfl, (by show (0 : Int) < 2147483629; decide), _, rfl, _, _, rfl, rfl, .inl ⟨by decide, by decide⟩, _, _, rfl, rfl, _, _, rfl, rfl, _, _, rfl, rfl, .inr ⟨by decide, by decide⟩, _, _, rfl, rfl, (by show (0 : Int) < 2147483647; decide), ?_⟩
    refine ⟨_, rfl, _, rfl, _, _, rfl, rfl, .inl (cm_mod (by decide) (by decide)), _, rfl, _, _, rfl, rfl, .inl ⟨by decide, by decide⟩, _, _, rfl, rfl, _, _, rfl, rfl, (by show (0 : Int) < 2147483629; decide), ?_⟩
    refine ⟨_, rfl, _, rfl, _, _, rfl, rfl, _, _, rfl, rfl, .inl (cm_mod (by decide) (by decide)), _, _, rfl, rfl, (by show (0 : Int) < 2147483587; decide), _, _, rfl, rfl, ⟨by decide, by decide⟩, ?_⟩
    refine q _ ?_
    exact Int.ediv_nonneg (Int.emod_nonneg _ (by decide)) (by decide)
theorem ok_law_whole (T : Txt w K mg t) : FnOk true P w K mg base (CXo P w) 1 t.f_law_whole t.d_law_whole ["_law_found"] (spWhole) := by
  refine T.F_law_whole.okn (k := 0) sc_law_whole (fun vs H Q E h => ?_) (fun cdv A outer s H vs Q E hr h => ?_)
  · obtain ⟨i, rfl, _⟩ := h
    rfl
  · obtain ⟨i, rfl, h⟩ := h
    refine ⟨_, pss_one (ps_ret (pe_and (pe_callB call_isin rfl T.n_isinstance boot_isinstance (pa_cons (pv 0) (pa_cons (pe_bltn (v := .ty "int") rfl T.n_int boot_int rfl) (pa_nil)))) (pe_one (pe_not (pe_callB call_isin rfl T.n_isinstance boot_isinstance (pa_cons (pv 0) (pa_cons (pe_bltn (v := .ty "bool") rfl T.n_bool boot_bool rfl) (pa_nil)))))))), ?_⟩
    refine ⟨_, rfl, _, _, rfl, .inl ⟨_, _, true, .int i, rfl, kit_same, true, rfl, iteT ?_⟩⟩
    exact ⟨_, rfl, _, _, rfl, .inl ⟨_, _, false, .int i, rfl, (by rfl), false, rfl, h⟩⟩
end
end S62

set_option maxRecDepth 100000
set_option maxHeartbeats 4000000
namespace S62
open PySem L2 XL PyProof.Rows
open Sprd
/-- a comprehension whose test is False of each -/
theorem comp_none {K : PySem.W.Frag} {σ : L2.St} {fr : List Nat} {tc : TT} {te : TE} {l l1 : Addr} {H1 : Hp} {Q : VK} {xs : List Int} (hl1 : H1 l1 = some (.lst (xs.map V.int))) (hl : H1 l = none)
    (htc : ∀ (x : Int) (H2 : Hp) (R : Bool → Hp → Prop), R false H2 → tc ((blk0 σ fr 1).set 0 (some (.int x))) H2 R) (fin : ∀ H2, Same H1 H2 → H2 l = some (.lst []) → Q (.ref l) H2) : CompG (Itl K l1) 1 (gName 0) σ fr tc te l H1 Q := by
  refine compG_by xs.length (fun i ys H2 => ys = [] ∧ Same H1 H2 ∧ H2 l = some (.lst [])) ?_ ?_ ?_ ?_
  · exact ⟨rfl, same_upd (Same.refl _) hl, upd_same⟩
  · rintro i ys H2 lt ⟨_, s2, _⟩
    exact ⟨_, .int xs[i], SqL.of (s2 _ _ hl1), by simp [lt]⟩
  · rintro i ys H2 v H3 lt ⟨rfl, s2, hl2⟩ ⟨rfl, hv⟩ N hN
    have hv' := hv _ (SqL.of (s2 _ _ hl1))
    rw [List.getElem?_map] at hv'
    obtain ⟨x, hx, rfl⟩ := Option.map_eq_some_iff.mp hv'
    exact htc x _ _ (iteF (hN _ _ ⟨rfl, s2, hl2⟩))
  · rintro ys H2 ⟨rfl, s2, hl2⟩
    exact ⟨⟨_, SqL.of (s2 _ _ hl1), by simp⟩, fin H2 s2 hl2⟩
def spWholes : Sp := fun vs H Q _ => ∃ (l : Addr) (xs : List Int) (k : Int), vs = [.ref l, .int k] ∧ H l = some (.lst (xs.map V.int)) ∧ (xs.length : Int) = k ∧ ∀ H', Same H H' → Q (.bl true) H'
def spTold : Sp := fun vs H Q _ => ∃ (p pl pp : Addr) (xs ys : List Int) (m : Nat), vs = [.ref p, .int m] ∧ H p = some (.tup [.ref pl, .ref pp]) ∧ H pl = some (.lst (xs.map V.int)) ∧ H pp = some (.lst (ys.map V.int)) ∧ xs.length = m ∧ ys.length = m - 1 ∧ ∀ H', Same H H' → Q (.bl true) H'
def spAllowed : Sp := fun vs H Q _ => ∃ (l pl : Addr) (qs : List Addr) (ns : List Nt) (ps : List Int), vs = [.ref l, .ref pl] ∧ Nts H l qs ns ∧ H pl = some (.lst (ps.map V.int)) ∧ ps.length = ns.length ∧ Ok (NN ns) (PP ps) ns.length ∧ Q (.bl true) H
section
variable {P : Program} {w : World} {K : PySem.W.Frag} {mg : Str → Option Value} {base : Heap} {t : Adr}
theorem ok_law_wholes (T : Txt w K mg t) : FnOk true P w K mg base (CXo P w) 2 t.f_law_wholes t.d_law_wholes ["_law_found", "_law_many"] (spWholes) := by
  refine T.F_law_wholes.okn (k := 1) sc_law_wholes (fun vs H Q E h => ?_) (fun cdv A outer s H vs Q E hr h => ?_)
  · obtain ⟨l, xs, k, rfl, _⟩ := h
    rfl
  · obtain ⟨l, xs, k, rfl, h⟩ := h
    refine ⟨_, pss_cons (ps_if (PW.pt (pw_or (pt_not (pt_val (pe_callB call_isin rfl T.n_isinstance boot_isinstance (pa_cons (pv 0) (pa_cons (pe_bltn (v := .ty "list") rfl T.n_list boot_list rfl) (pa_nil)))))) (pw_or1 (pt_cmpR op_ne (pe_callB call_len_seq rfl T.n_len boot_len (pa_cons (pv 0) (pa_nil))) (pv 1) (nomark _))))) (pss_one (ps_ret (pe_bl))) (pss_nil))
      (pss_one (ps_ret (pe_cmpR (op_eqD (hu20_of hr)) (pe_compG rfl (blkG_of (zs := ["_law_number"]) (ys := []) (fr := []) (N0 := ["_law_found", "_law_many"]) (sc0 := defScope s_law_wholes) (by decide +kernel) rfl rfl rfl) (pi_list (pv 0)) (fun _ _ _ _ _ ow nd => pg_name (i := 0) nd rfl (Or.inl (ow _ (by simp))) (Or.inr (ow _ (by simp)))) (gok_name (by decide)) (fun _ _ _ _ _ => pif_one (pt_not (pt_val (pe_call (ok_law_whole T) (hr.mono (by decide)) rfl T.g_law_whole T.F_law_whole.kp T.b_law_whole .nil pass_none (pa_cons (pv 0) (pa_nil)))))) (fun _ _ _ _ _ => pv 0)) (pe_lst (pa_nil)) (nomark _)))), ?_⟩
    obtain ⟨hl, hk, q⟩ := h
    refine ⟨_, rfl, _, _, rfl, .inl ⟨_, _, true, .lst hl, rfl, kit_same, true, rfl, ifN rfl ?_⟩⟩
    refine ⟨_, rfl, l, _, rfl, .inl (SqL.of hl), _, rfl, rfl, _, rfl, ifN ?_ ?_⟩
    · rw [List.length_map, hk]
      simp
    refine ⟨_, rfl, l, rfl, ⟨_, SqL.of hl⟩, fun p hp => ?_⟩
    refine comp_none hl hp (fun x H2 R r => ⟨_, rfl, x, rfl, true, rfl, r⟩) fun H2 s2 hp2 => ?_
    refine ⟨(by show 0 ≤ sizeLine; exact Nat.zero_le _), fun p3 hp3 => ⟨p, p3, 1, _, rfl, rfl, .lst (xs := []) (ys := []) (fun _ => true) (SqL.of (same_upd (Same.refl _) hp3 _ _ hp2)) (SqL.of upd_same) rfl (fun j x y z => by simp at z), by decide, ?_⟩⟩
    exact q _ (same_upd s2 hp3)
theorem ok_law_told (T : Txt w K mg t) : FnOk true P w K mg base (CXo P w) 3 t.f_law_told t.d_law_told ["_law_found", "_law_many"] (spTold) := by
  refine T.F_law_told.okn (k := 2) sc_law_told (fun vs H Q E h => ?_) (fun cdv A outer s H vs Q E hr h => ?_)
  · obtain ⟨p, pl, pp, xs, ys, m, rfl, _⟩ := h
    rfl
  · obtain ⟨p, pl, pp, xs, ys, m, rfl, h⟩ := h
    refine ⟨_, pss_cons (ps_if (PW.pt (pw_or (pt_not (pt_val (pe_callB call_isin rfl T.n_isinstance boot_isinstance (pa_cons (pv 0) (pa_cons (pe_bltn (v := .ty "tuple") rfl T.n_tuple boot_tuple rfl) (pa_nil)))))) (pw_or1 (pt_cmpR op_ne (pe_callB call_len_seq rfl T.n_len boot_len (pa_cons (pv 0) (pa_nil))) (pe_int) (nomark _))))) (pss_one (ps_ret (pe_bl))) (pss_nil))
      (pss_one (ps_ret (pe_and (pe_call (ok_law_wholes T) (hr.mono (by decide)) rfl T.g_law_wholes T.F_law_wholes.kp T.b_law_wholes .nil pass_none (pa_cons (pe_ix ix_tup (pv 0) (pe_int) (fun _ _ => rfl)) (pa_cons (pv 1) (pa_nil)))) (pe_one (pe_call (ok_law_wholes T) (hr.mono (by decide)) rfl T.g_law_wholes T.F_law_wholes.kp T.b_law_wholes .nil pass_none (pa_cons (pe_ix ix_tup (pv 0) (pe_int) (fun _ _ => rfl)) (pa_cons (pe_callB (call_max2 rfl) rfl T.n_max boot_max (pa_cons (pe_int) (pa_cons (pe_op op_sub (pv 1) (pe_int)) (pa_nil)))) (pa_nil)))))))), ?_⟩
    obtain ⟨hp, hpl, hpp, l1, l2, q⟩ := h
    refine ⟨_, rfl, _, _, rfl, .inl ⟨_, _, true, .tup hp, rfl, kit_same, true, rfl, ifN rfl ?_⟩⟩
    refine ⟨_, rfl, p, _, rfl, .inr (SqT.of hp), rfl, _, rfl, ifN rfl ?_⟩
    refine ⟨_, rfl, p, _, 0, _, rfl, rfl, SqT.of hp, atI_0, _, rfl, pl, xs, (m : Int), rfl, hpl, by omega, fun H1 s1 => ⟨true, rfl, iteT ?_⟩⟩
    refine ⟨_, rfl, p, _, 1, _, rfl, rfl, SqT.of (s1 _ _ hp), atI_1, _, rfl, _, _, rfl, rfl, _, _, rfl, pp, ys, _, rfl, s1 _ _ hpp, ?_, fun H2 s2 => q _ (s1.trans s2)⟩
    split <;> omega
theorem ok_law_allowed (T : Txt w K mg t) : FnOk true P w K mg base (CXo P w) 1 t.f_law_allowed t.d_law_allowed ["_law_notes", "_law_places"] (spAllowed) := by
  refine T.F_law_allowed.okn (k := 0) sc_law_allowed (fun vs H Q E h => ?_) (fun cdv A outer s H vs Q E hr h => ?_)
  · obtain ⟨l, pl, qs, ns, ps, rfl, _⟩ := h
    rfl
  · obtain ⟨l, pl, qs, ns, ps, rfl, h⟩ := h
    refine ⟨_, pss_cons (ps_for PassesOwn.never rfl (pi_range1 rfl T.n_range (pa_cons (pe_callB call_len_seq rfl T.n_len boot_len (pa_cons (pv 0) (pa_nil))) (pa_nil))) (pg_name (i := 2) sc_law_allowed.nd rfl (Or.inl rfl)) (pss_cons (ps_asg (pe_ix ix_list (pv 0) (pv 2) (fun _ _ => rfl)) (pg_tup rfl (pgs_cons (pg_name (i := 3) sc_law_allowed.nd rfl (Or.inl rfl)) (pgs_cons (pg_name (i := 4) sc_law_allowed.nd rfl (Or.inl rfl)) (pgs_cons (pg_name (i := 5) sc_law_allowed.nd rfl (Or.inl rfl)) (pgs_cons (pg_name (i := 6) sc_law_allowed.nd rfl (Or.inl rfl)) (pgs_nil)))))))
      (pss_cons (ps_if (PW.pt (pw_or (pt_cmpR op_lt (pe_ix ix_list (pv 1) (pv 2) (fun _ _ => rfl)) (pv 4) (nomark _)) (pw_or1 (pt_cmpR op_gt (pe_op op_sub (pe_op op_add (pe_ix ix_list (pv 1) (pv 2) (fun _ _ => rfl)) (pv 3)) (pe_int)) (pv 5) (nomark _))))) (pss_one (ps_ret (pe_bl))) (pss_nil))
      (pss_one (ps_if (PW.pt (pw_and (pt_cmpR op_gt (pv 2) (pe_int) (nomark _)) (pw_and1 (pt_cmpR op_lt (pe_ix ix_list (pv 1) (pv 2) (fun _ _ => rfl)) (pe_op op_add (pe_ix ix_list (pv 1) (pe_op op_sub (pv 2) (pe_int)) (fun _ _ => rfl)) (pe_ix ix_tup (pe_ix ix_list (pv 0) (pe_op op_sub (pv 2) (pe_int)) (fun _ _ => rfl)) (pe_int) (fun _ _ => rfl))) (nomark _))))) (pss_one (ps_ret (pe_bl))) (pss_nil))))))
      (pss_one (ps_ret (pe_bl))), ?_⟩
    obtain ⟨hn, hpl, hlen, ok, k⟩ := h
    have hl12 := hn.len
    have hle := hn.f2.len
    have hln : ((qs.map V.ref).length : Int) = (ns.length : Nat) := by rw [List.length_map, hle]
    refine ⟨_, rfl, l, _, rfl, .inl (SqL.of hn.at_), _, rfl, (by rw [hln]; omega), (by rw [hln]; omega), ?_⟩
    rw [hln, Int.toNat_natCast]
    refine for_range (Pv := fun i σ H2 => ∃ v2 v3 v4 v5 v6 : Option V, σ = [some (.ref l), some (.ref pl), v2, v3, v4, v5, v6] ∧ H = H2) ⟨_, _, _, _, _, rfl, rfl⟩ ?_ ?_
    · rintro i σ _ hi ⟨v2, v3, v4, v5, v6, rfl, rfl⟩
      obtain ⟨q, e, hq⟩ := hn.it hi
      have hi' : i < ps.length := by omega
      have c1 := ok.lo i hi
      have c2 := ok.hi i hi
      rw [Int.zero_add]
      have ix := fun {R : Prop} (r : R) => (⟨SqL.of (K := K) hpl, PP_it hi', r⟩ : SqL K H pl (ps.map V.int) ∧ atI (ps.map V.int) (i : Int) = some (.int (PP ps i)) ∧ R)
      refine ⟨_, rfl, _, rfl, l, _, _, .ref q, rfl, rfl, SqL.of hn.at_, e, q, _, rfl, SqT.of hq, rfl, _, _, rfl, _, _, rfl, _, _, rfl, _, _, rfl, rfl, ?_⟩
      refine ⟨_, rfl, _, rfl, pl, _, _, _, rfl, rfl, SqL.of hpl, PP_it hi', _, rfl, _, _, rfl, rfl, _, rfl, ifN (decide_eq_false (by omega)) ?_⟩
      refine ⟨_, rfl, _, rfl, pl, _, _, _, rfl, rfl, SqL.of hpl, PP_it hi', _, rfl, _, _, rfl, rfl, _, _, rfl, rfl, _, rfl, _, _, rfl, rfl, _, rfl, ifN (decide_eq_false (by omega)) ?_⟩
      refine ⟨_, rfl, _, _, rfl, rfl, _, rfl, ?_⟩
      cases i with
      | zero => exact ifN rfl (ifN rfl ⟨_, _, _, _, _, rfl, rfl⟩)
      | succ j =>
        have c3 := ok.st j hi
        obtain ⟨q', e', hq'⟩ := hn.it (show j < ns.length by omega)
        have cst : ((j + 1 : Nat) : Int) - 1 = (j : Int) := by omega
        refine ifP (decide_eq_true (by show (0 : Int) < ((j + 1 : Nat) : Int); omega)) ⟨_, rfl, _, rfl, pl, _, _, _, rfl, rfl, SqL.of hpl, PP_it hi', _, rfl, _, rfl, _, _, rfl, rfl, pl, _, _, _, rfl, rfl, SqL.of hpl, (by rw [cst]; exact PP_it (show j < ps.length by omega)), _, rfl, _, rfl, _, _, rfl, rfl, l, _, _, .ref q', rfl, rfl, SqL.of hn.at_, (by rw [cst]; exact e'), q', _, 0, _, rfl, rfl, SqT.of hq', atI_0, _, _, rfl, rfl, _, _, rfl, rfl, _, rfl, ifN (decide_eq_false (by omega)) ⟨_, _, _, _, _, rfl, rfl⟩⟩
    · rintro σ _ ⟨v2, v3, v4, v5, v6, rfl, rfl⟩
      exact k
end
end S62

set_option maxRecDepth 100000
set_option maxHeartbeats 4000000
namespace S62
open PySem L2 XL PyProof.Rows
open Sprd
structure NtsW (H : Hp) (l : Addr) (qs : List Addr) (ns : List Nt) : Prop where
  at_ : H l = some (.lst (qs.map V.ref))
  f2 : F2 (isNt H) ns qs
  ok : ∀ n ∈ ns, okN n
def spAny (K : PySem.W.Frag) : Sp := fun vs H Q _ => ∃ (sc : Addr) (xs : List Int) (m : Nat), vs = [.ref sc, .int m] ∧ SqL K H sc (xs.map V.int) ∧ m ≤ 13 ∧ ∀ H' l qs ns, Same H H' → H l = none → NtsW H' l qs ns → ns.length = m → Q (.ref l) H'
def AllBad (H : Hp) (xs : List V) : Prop := ∀ v ∈ xs, NoteV H v false
theorem AllBad.same {H H' : Hp} {xs : List V} (s : Same H H') (h : AllBad H xs) : AllBad H' xs := fun v hv => (h v hv).same s
theorem AllBad.snoc {H : Hp} {xs : List V} {v : V} (h : AllBad H xs) (z : NoteV H v false) : AllBad H (xs ++ [v]) := fun x hx => by
  rcases List.mem_append.mp hx with y | y
  · exact h x y
  · have := List.mem_singleton.mp y
    subst this
    exact z
theorem AllBad.app {H : Hp} {xs ys : List V} (h : AllBad H xs) (z : AllBad H ys) : AllBad H (xs ++ ys) := fun x hx => (List.mem_append.mp hx).elim (h x) (z x)
theorem bad_tup {H : Hp} {q : Addr} {xs : List V} (h : H q = some (.tup xs)) (s : xs.all scalV = true) (e : noteB xs = false) : NoteV H (.ref q) false := by
  rw [← e]
  exact .tup h (List.all_eq_true.mp s)
theorem at_mem {xs : List V} {i : Int} (h0 : 0 ≤ i) (h1 : i < xs.length) : ∃ v, atI xs i = some v ∧ v ∈ xs := by
  obtain ⟨j, rfl⟩ := Int.eq_ofNat_of_zero_le h0
  have lt : j < xs.length := by omega
  exact ⟨xs[j], atI_nat (List.getElem?_eq_getElem lt), List.getElem_mem lt⟩
def spBad : Sp := fun vs H Q _ => ∃ c : Int, vs = [.int c] ∧ ∀ H' v, Same H H' → NoteV H' v false → Q v H'
def spNL : Sp := fun vs H Q _ => ∃ (c : Int) (l : Addr) (qs : List Addr), vs = [.int c, .ref l] ∧ H l = some (.lst (qs.map V.ref)) ∧ qs.length ≤ 13 ∧ ∀ H' v, Same H H' → NoList H' v → Q v H'
def spHas : Sp := fun vs H Q _ => ∃ (l : Addr) (qs : List Addr) (ns : List Nt), vs = [.ref l] ∧ Nts H l qs ns ∧ ∀ b, (b = true ↔ ∃ ps e s, AL ns ps e s) → Q (.bl b) H
theorem NoList.same {H H' : Hp} {x : V} (s : Same H H') (h : NoList H x) : NoList H' x := by
  cases h with
  | sc h => exact .sc h
  | tup h => exact .tup (s _ _ h)
  | dct h => exact .dct (s _ _ h)
section
variable {P : Program} {w : World} {K : PySem.W.Frag} {mg : Str → Option Value} {base : Heap} {t : Adr}
theorem ok_law_any (T : Txt w K mg t) : FnOk true P w K mg base (CXo P w) 2 t.f_law_any t.d_law_any ["_law_script", "_law_many"] (spAny K) := by
  refine T.F_law_any.okn (k := 1) sc_law_any (fun vs H Q E h => ?_) (fun cdv A outer s H vs Q E hr h => ?_)
  · obtain ⟨sc, xs, m, rfl, _⟩ := h
    rfl
  · obtain ⟨sc, xs, m, rfl, h⟩ := h
    refine ⟨_, pss_cons (ps_set (i := 2) sc_law_any.nd rfl (Or.inl rfl) (pe_lst (pa_nil)))
      (pss_cons (ps_for PassesOwn.never rfl (pi_range1 rfl T.n_range (pa_cons (pv 1) (pa_nil))) (pg_name (i := 3) sc_law_any.nd rfl (Or.inl rfl)) (pss_cons (ps_set (i := 4) sc_law_any.nd rfl (Or.inl rfl) (pe_call (ok_law_cell T) (hr.mono (by decide)) rfl T.g_law_cell T.F_law_cell.kp T.b_law_cell .nil pass_none (pa_cons (pv 0) (pa_cons (pe_op op_add (pe_int) (pv 3)) (pa_nil)))))
      (pss_cons (ps_set (i := 5) sc_law_any.nd rfl (Or.inl rfl) (pe_op op_sub (pe_op op_mod (pe_call (ok_law_mix T) (hr.mono (by decide)) rfl T.g_law_mix T.F_law_mix.kp T.b_law_mix .nil pass_none (pa_cons (pv 4) (pa_cons (pe_int) (pa_nil)))) (pe_int)) (pe_int)))
      (pss_cons (ps_set (i := 6) sc_law_any.nd rfl (Or.inl rfl) (pe_op op_add (pe_int) (pe_op op_mod (pe_call (ok_law_mix T) (hr.mono (by decide)) rfl T.g_law_mix T.F_law_mix.kp T.b_law_mix .nil pass_none (pa_cons (pv 4) (pa_cons (pe_int) (pa_nil)))) (pe_ix ix_list (pe_lst (pa_cons (pe_int) (pa_cons (pe_int) (pa_cons (pe_int) (pa_nil))))) (pe_op op_mod (pv 4) (pe_int)) (fun _ _ => rfl)))))
      (pss_one (ps_expr (pe_bm PySem.F.plainAttrs_list PySem.F.slot_list_append PySem.F.type_list_append mt_append (pv 2) (pa_cons (pe_tup (pa_cons (pv 6) (pa_cons (pv 5) (pa_cons (pe_op op_sub (pe_op op_add (pv 5) (pe_op op_mod (pe_call (ok_law_mix T) (hr.mono (by decide)) rfl T.g_law_mix T.F_law_mix.kp T.b_law_mix .nil pass_none (pa_cons (pv 4) (pa_cons (pe_int) (pa_nil)))) (pe_int))) (pe_int)) (pa_cons (pe_op op_sub (pe_op op_mod (pe_call (ok_law_mix T) (hr.mono (by decide)) rfl T.g_law_mix T.F_law_mix.kp T.b_law_mix .nil pass_none (pa_cons (pv 4) (pa_cons (pe_int) (pa_nil)))) (pe_int)) (pe_int)) (pa_nil)))))) (pa_nil)))))))))
      (pss_one (ps_ret (pv 2)))), ?_⟩
    obtain ⟨hS, hm, k⟩ := h
    refine ⟨(by show 0 ≤ sizeLine; exact Nat.zero_le _), fun nl hnl => ?_⟩
    refine ⟨_, rfl, (m : Int), rfl, by omega, by omega, ?_⟩
    rw [Int.toNat_natCast]
    refine for_range (Pv := fun i σ H2 => ∃ (v3 v4 v5 v6 : Option V) (ns : List Nt) (nq : List Addr), σ = [some (.ref sc), some (.int m), some (.ref nl), v3, v4, v5, v6] ∧ Same H H2 ∧ H2 nl = some (.lst (nq.map V.ref)) ∧ F2 (isNt H2) ns nq ∧ (∀ n ∈ ns, okN n) ∧ ns.length = i) ⟨_, _, _, _, [], [], rfl, same_upd (Same.refl _) hnl, upd_same, .nil, (fun r z => nomatch z), rfl⟩ ?_ ?_
    · rintro i σ H2 hi ⟨v3, v4, v5, v6, ns, nq, rfl, s2, hn2, f2, ok, nlen⟩
      have nql := f2.len
      refine ⟨_, rfl, _, rfl, _, _, rfl, rfl, sc, xs, _, rfl, s2.seq hS, by omega, by omega, fun c => ?_⟩
      refine ⟨_, rfl, c, 1, rfl, by decide, fun n1 _ => ⟨_, _, rfl, rfl, (by show (0 : Int) < 61; decide), _, _, rfl, rfl, ?_⟩⟩
      obtain ⟨v, ev, hv⟩ := at3 (.int 9) (.int 4) (.int 2) c
      obtain ⟨d, rfl, d1, d2⟩ : ∃ d, v = .int d ∧ 0 < d ∧ d ≤ 9 := by
        rcases hv with rfl | rfl | rfl
        · exact ⟨_, rfl, by decide, by decide⟩
        · exact ⟨_, rfl, by decide, by decide⟩
        · exact ⟨_, rfl, by decide, by decide⟩
      refine ⟨_, rfl, c, 2, rfl, by decide, fun n2 _ => ⟨(by show 3 ≤ sizeLine; decide), fun q3 hq3 => ⟨_, rfl, _, _, rfl, rfl, (by show (0 : Int) < 3; decide), q3, _, _, .int d, rfl, rfl, SqL.of upd_same, ev, _, _, rfl, rfl, d1, _, _, rfl, rfl, ?_⟩⟩⟩
      have sa := same_upd (o := .lst [.int 9, .int 4, .int 2]) (Same.refl _) hq3
      generalize upd H2 q3 (.lst [.int 9, .int 4, .int 2]) = Ha at sa
      refine ⟨_, rfl, .inl ⟨rfl, _, SqL.of (sa _ _ hn2)⟩, _, rfl, _, rfl, _, rfl, _, rfl, c, 3, rfl, by decide, fun n3 _ => ⟨_, _, rfl, rfl, (by show (0 : Int) < 40; decide), _, _, rfl, rfl, _, _, rfl, rfl, _, rfl, c, 4, rfl, by decide, fun n4 _ => ⟨_, _, rfl, rfl, (by show (0 : Int) < 199; decide), _, _, rfl, rfl, (by show 4 ≤ sizeLine; decide), fun p hp => ?_⟩⟩⟩
      have m1 := mod_in n1 (show (0 : Int) < 61 by decide)
      have m2 := mod_in n2 d1
      have m3 := mod_in n3 (show (0 : Int) < 40 by decide)
      have m4 := mod_in n4 (show (0 : Int) < 199 by decide)
      generalize hHc : upd Ha p _ = Hc
      have sc' : Same Ha Hc := by rw [← hHc]; exact same_upd (Same.refl _) hp
      have kp : isNt Hc ⟨1 + n2 % d, n1 % 61 - 30, n1 % 61 - 30 + n3 % 40 - 4, n4 % 199 - 99⟩ p := by
        rw [← hHc]
        exact upd_same
      have s4c := sa.trans sc'
      refine ⟨nl, _, _, rfl, rfl, s4c _ _ hn2, ?_, ?_⟩
      · rw [List.length_map]
        exact Nat.lt_trans (by omega : nq.length < 1000) (by decide)
      refine ⟨_, _, _, _, ns ++ [⟨1 + n2 % d, n1 % 61 - 30, n1 % 61 - 30 + n3 % 40 - 4, n4 % 199 - 99⟩], nq ++ [p], rfl, fun b u z => ?_, ?_, ?_, ?_, ?_⟩
      · rw [upd_ne (ne_of_none z hnl)]
        exact s4c _ _ (s2 _ _ z)
      · rw [List.map_append]
        exact upd_same
      · have mm : ∀ n q, isNt Hc n q → isNt (upd Hc nl (.lst (nq.map V.ref ++ [.ref p]))) n q := fun r q z => by
          unfold isNt
          rw [upd_ne (ne_of z (s4c _ _ hn2) (fun z => nomatch z))]
          exact z
        exact F2.snoc (f2.mono fun r q z => mm r q (s4c _ _ z)) (mm _ _ kp)
      · intro n hn
        rcases List.mem_append.mp hn with z | z
        · exact ok n z
        · have := List.mem_singleton.mp z
          subst this
          constructor <;> (dsimp only; omega)
      · rw [List.length_append, nlen]
        rfl
    · rintro σ H2 ⟨v3, v4, v5, v6, ns, nq, rfl, s2, hn2, f2, ok, nlen⟩
      exact ⟨_, rfl, k H2 nl nq ns s2 hnl ⟨hn2, f2, ok⟩ nlen⟩
end
end S62

set_option maxRecDepth 100000
set_option maxHeartbeats 4000000
namespace S62
open PySem L2 XL PyProof.Rows
open Sprd
def spAskG (t : Adr) : Sp := fun vs H Q _ => ∃ x : V, vs = [x] ∧ ((BadArg H x ∧ ∀ H' p, Same H H' → H' p = some (.tup [.str "no notes", .non]) → Q (.ref p) H') ∨
  (∃ l qs ns, x = .ref l ∧ Nts H l qs ns ∧ ((∃ ps e s, AL ns ps e s) → ∀ H' p t2 pl pp, Same H H' → H' p = some (.tup [.str "told", .ref t2]) → H' t2 = some (.tup [.ref pl, .ref pp]) → H' pl = some (.lst ((leastP ns).map V.int)) → H' pp = some (.lst ((pushP ns).map V.int)) → Q (.ref p) H') ∧
    ∀ a b, a ≤ b → b < ns.length → viol ns a b → ∀ H' p f, Same H H' → H' p = some (.tup [.str "too full", .ref f]) → H' f = some (.tup [.int a, .int b]) → Q (.ref p) H'))
def spStretch : Sp := fun vs H Q _ => ∃ (l f : Addr) (qs : List Addr) (ns : List Nt) (a b : Nat), vs = [.ref l, .ref f] ∧ Nts H l qs ns ∧ H f = some (.tup [.int a, .int b]) ∧ a ≤ b ∧ b < ns.length ∧ viol ns a b ∧ ∀ H', Same H H' → Q (.bl true) H'
theorem cs_cut (ns : List Nt) (a : Nat) : ∀ k, a + k ≤ ns.length → cs (hh ns) (a + k) - cs (hh ns) a = (((ns.drop a).take k).map (·.h)).sum := by
  intro k
  induction k with
  | zero => intro _; simp
  | succ k ih =>
    intro h
    have := ih (by omega)
    have e : (ns.drop a)[k]? = some (NN ns (a + k)) := by rw [List.getElem?_drop]; exact NN_at (by omega)
    rw [List.take_add_one, e, List.map_append, List.sum_append]
    show cs (hh ns) (a + k) + (NN ns (a + k)).h - _ = _ + ((NN ns (a + k)).h + 0)
    omega
theorem F2.cut {α : Type} {R : α → Addr → Prop} {xs : List α} {qs : List Addr} (h : F2 R xs qs) (a k : Nat) : F2 R ((xs.drop a).take k) ((qs.drop a).take k) := by
  induction h generalizing a k with
  | nil => simp; exact .nil
  | cons h r ih =>
    cases a with
    | zero =>
      cases k with
      | zero => exact .nil
      | succ k =>
        have z := ih 0 k
        rw [List.drop_zero, List.drop_zero] at z
        exact .cons h z
    | succ a => exact ih a k
theorem comp_hs {K : PySem.W.Frag} {σ : L2.St} {fr : List Nat} {te : TE} {l l1 : Addr} {H1 : Hp} {Q : VK} {ns : List Nt} {qs : List Addr} (hl1 : H1 l1 = some (.lst (qs.map V.ref))) (hw : F2 (isNt H1) ns qs) (hl : H1 l = none) (hn : ns.length < 1000)
    (hte : ∀ (q : Addr) (n : Nt) (H2 : Hp) (R : VK), isNt H2 n q → R (.int n.h) H2 → te ((blk0 σ fr 1).set 0 (some (.ref q))) H2 R)
    (fin : ∀ H2, Same H1 H2 → H2 l = some (.lst ((ns.map (·.h)).map V.int)) → Q (.ref l) H2) : CompG (Itl K l1) 1 (gName 0) σ fr tTrue te l H1 Q := by
  have hle := hw.len
  refine compG_by qs.length (fun i xs H2 => xs = ((ns.take i).map (·.h)).map V.int ∧ Same H1 H2 ∧ H2 l = some (.lst xs)) ?_ ?_ ?_ ?_
  · exact ⟨by simp, same_upd (Same.refl _) hl, upd_same⟩
  · rintro i xs H2 lt ⟨_, s2, _⟩
    exact ⟨_, .ref qs[i], SqL.of (s2 _ _ hl1), by simp [lt]⟩
  · rintro i xs H2 v H3 lt ⟨rfl, s2, hl2⟩ ⟨rfl, hv⟩ N hN
    have hv' := hv _ (SqL.of (s2 _ _ hl1))
    rw [List.getElem?_map] at hv'
    obtain ⟨q, hq, rfl⟩ := Option.map_eq_some_iff.mp hv'
    obtain ⟨n, en, hr⟩ := hw.get' hq
    refine gT_if (hte q n _ _ (isNt.same s2 _ _ hr) ⟨hl2, ?_, hN _ _ ⟨?_, fun b u z => ?_, upd_same⟩⟩)
    · rw [List.length_map, List.length_map, List.length_take]
      exact Nat.lt_trans (by omega : min i ns.length < 1000) (by decide)
    · rw [List.take_add_one, en, List.map_append, List.map_append]
      rfl
    · rw [upd_ne (ne_of_none z hl)]
      exact s2 _ _ z
  · rintro xs H2 ⟨rfl, s2, hl2⟩
    rw [hle, List.take_length] at hl2
    exact ⟨⟨_, SqL.of (s2 _ _ hl1), by simp⟩, fin H2 s2 hl2⟩
theorem cut_ref (qs : List Addr) {a b : Nat} (h1 : a ≤ b) (h2 : b < qs.length) : cutV (qs.map V.ref) (some (a : Int)) (some ((b : Int) + 1)) = ((qs.drop a).take (b + 1 - a)).map V.ref := by
  unfold cutV
  rw [show ((b : Int) + 1) = ((b + 1 : Nat) : Int) by omega, HT.sIx_nat, HT.sIx_nat, List.length_map, Nat.min_eq_left (by omega), Nat.min_eq_left (by omega), ← List.map_drop, ← List.map_take]
section
variable {P : Program} {w : World} {K : PySem.W.Frag} {mg : Str → Option Value} {base : Heap} {t : Adr}
theorem ok_law_no_list (T : Txt w K mg t) : FnOk true P w K mg base (CXo P w) 1 t.f_law_no_list t.d_law_no_list ["_law_cell_here", "_law_notes"] (spNL) := by
  refine T.F_law_no_list.okn (k := 0) sc_law_no_list (fun vs H Q E h => ?_) (fun cdv A outer s H vs Q E hr h => ?_)
  · obtain ⟨c, l, qs, rfl, _⟩ := h
    rfl
  · obtain ⟨c, l, qs, rfl, h⟩ := h
    refine ⟨_, (by
      refine' pss_one ?c1
      case c1 =>
        with_reducible refine' ps_ret ?e2
        case e2 =>
          with_reducible refine' pe_ix (r := rIxL K) ?r3 ?l4 ?j5 ?p6
          case r3 => exact ix_list
          case p6 => exact fun _ _ => rfl
          case j5 => exact pe_op op_mod (pv 0) (pe_int)
          case l4 =>
            with_reducible refine' pe_lst ?p7
            case p7 =>
              with_reducible refine' pa_cons ?e8 ?q9 rfl
              case e8 => exact pe_non
              case q9 =>
                with_reducible refine' pa_cons ?e10 ?q11 rfl
                case e10 => exact pe_tup (pa_cons (pe_int) (pa_cons (pe_int) (pa_cons (pe_int) (pa_cons (pe_int) (pa_nil)))))
                case q11 =>
                  with_reducible refine' pa_cons ?e12 ?q13 rfl
                  case e12 => exact pe_callTy call_tuple_of rfl T.n_tuple boot_tuple (pa_cons (pv 1) (pa_nil))
                  case q13 =>
                    with_reducible refine' pa_cons ?e14 ?q15 rfl
                    case e14 => exact pe_str
                    case q15 =>
                      with_reducible refine' pa_cons ?e16 ?q17 rfl
                      case e16 => exact pe_dnewK
                      case q17 =>
                        with_reducible refine' pa_cons ?e18 ?q19 rfl
                        case e18 => exact pe_int
                        case q19 =>
                          with_reducible refine' pa_cons ?e20 ?q21 rfl
                          case e20 => exact pe_bl
                          case q21 =>
                            exact pa_nil), ?_⟩
    obtain ⟨hl, lq, k⟩ := h
    refine ⟨(by show 4 ≤ sizeLine; decide), fun p1 hp1 => ?_⟩
    have s1 := same_upd (o := .tup [.int 1, .int 1, .int 9, .int 1]) (Same.refl _) hp1
    have k1 : upd H p1 (.tup [.int 1, .int 1, .int 9, .int 1]) p1 = some (.tup [.int 1, .int 1, .int 9, .int 1]) := upd_same
    generalize upd H p1 (.tup [.int 1, .int 1, .int 9, .int 1]) = H1 at s1 k1 ⊢
    refine ⟨_, rfl, l, _, rfl, .inl ⟨SqL.of (s1 _ _ hl), fun p2 hp2 => ?_⟩⟩
    have s2 := same_upd (o := .tup (qs.map V.ref)) (Same.refl _) hp2
    have k2 : upd H1 p2 (.tup (qs.map V.ref)) p2 = some (.tup (qs.map V.ref)) := upd_same
    generalize upd H1 p2 (.tup (qs.map V.ref)) = H2 at s2 k2 ⊢
    refine fun p3 hp3 => ?_
    have s3 := same_upd (o := .dK []) (Same.refl _) hp3
    have k3 : upd H2 p3 (.dK []) p3 = some (.dK []) := upd_same
    generalize upd H2 p3 (.dK []) = H3 at s3 k3 ⊢
    refine ⟨(by show 7 ≤ sizeLine; decide), fun p4 hp4 => ?_⟩
    have s4 := same_upd (o := .lst [.non, .ref p1, .ref p2, .str "", .ref p3, .int 0, .bl true]) (Same.refl _) hp4
    have m7 := mod_in c (show (0 : Int) < 7 by decide)
    obtain ⟨v, ev, mv⟩ := at_mem (xs := [.non, .ref p1, .ref p2, .str "", .ref p3, .int 0, .bl true]) m7.1 (by show c % 7 < ((7 : Nat) : Int); exact m7.2)
    refine ⟨_, rfl, _, _, rfl, rfl, (by show (0 : Int) < 7; decide), p4, _, _, v, rfl, rfl, SqL.of upd_same, ev, k _ v (((s1.trans s2).trans s3).trans s4) ?_⟩
    simp only [List.mem_cons, List.not_mem_nil, or_false] at mv
    rcases mv with rfl | rfl | rfl | rfl | rfl | rfl | rfl
    · exact .sc rfl
    · exact .tup (s4 _ _ (s3 _ _ (s2 _ _ k1)))
    · exact .tup (s4 _ _ (s3 _ _ k2))
    · exact .sc rfl
    · exact .dct (s4 _ _ k3)
    · exact .sc rfl
    · exact .sc rfl
theorem ok_law_has_room (T : Txt w K mg t) : FnOk true P w K mg base (CXo P w) 1 t.f_law_has_room t.d_law_has_room ["_law_notes"] (spHas) := by
  refine T.F_law_has_room.okn (k := 0) sc_law_has_room (fun vs H Q E h => ?_) (fun cdv A outer s H vs Q E hr h => ?_)
  · obtain ⟨l, qs, ns, rfl, _⟩ := h
    rfl
  · obtain ⟨l, qs, ns, rfl, h⟩ := h
    refine ⟨_, pss_cons (ps_set (i := 1) sc_law_has_room.nd rfl (Or.inl rfl) (pe_un un_neg (pe_int)))
      (pss_cons (ps_for PassesOwn.never rfl (pi_list (pv 0)) (pg_tup rfl (pgs_cons (pg_name (i := 2) sc_law_has_room.nd rfl (Or.inl rfl)) (pgs_cons (pg_name (i := 3) sc_law_has_room.nd rfl (Or.inl rfl)) (pgs_cons (pg_name (i := 4) sc_law_has_room.nd rfl (Or.inl rfl)) (pgs_cons (pg_name (i := 5) sc_law_has_room.nd rfl (Or.inl rfl)) (pgs_nil)))))) (pss_cons (ps_set (i := 1) sc_law_has_room.nd rfl (Or.inl rfl) (pe_op op_add (pe_callB (call_max2 rfl) rfl T.n_max boot_max (pa_cons (pv 1) (pa_cons (pv 3) (pa_nil)))) (pv 2)))
      (pss_one (ps_if (pt_cmpR op_gt (pe_op op_sub (pv 1) (pe_int)) (pv 4) (nomark _)) (pss_one (ps_ret (pe_bl))) (pss_nil)))))
      (pss_one (ps_ret (pe_bl)))), ?_⟩
    obtain ⟨hn, k⟩ := h
    have hl12 := hn.len
    have hle := hn.f2.len
    refine ⟨99, rfl, ?_⟩
    refine ⟨_, rfl, l, rfl, ⟨_, SqL.of hn.at_⟩, ?_⟩
    refine for_list (xs := qs.map V.ref) (Pv := fun i σ H2 => ∃ v2 v3 v4 v5 : Option V, σ = [some (.ref l), some (.int (gr ns i)), v2, v3, v4, v5] ∧ H = H2 ∧ ∀ j, j < i → gr ns (j + 1) - 1 ≤ (NN ns j).hi) ⟨_, _, _, _, rfl, rfl, fun j hj => absurd hj (Nat.not_lt_zero _)⟩ (fun _ _ _ _ ⟨_, _, _, _, _, z, _⟩ => by rw [← z]; exact SqL.of hn.at_) ?_ ?_
    · rintro i v σ _ hv ⟨v2, v3, v4, v5, rfl, rfl, ih⟩
      rw [List.getElem?_map] at hv
      obtain ⟨q, hq, rfl⟩ := Option.map_eq_some_iff.mp hv
      have hi : i < ns.length := by have := (List.getElem?_eq_some_iff.mp hq).1; omega
      obtain ⟨q', e', r'⟩ := hn.f2.get (NN_at hi)
      rw [hq] at e'
      cases e'
      refine ⟨q, _, rfl, SqT.of r', rfl, _, _, rfl, _, _, rfl, _, _, rfl, _, _, rfl, rfl, ?_⟩
      refine ⟨_, rfl, _, rfl, _, _, rfl, _, rfl, _, _, rfl, rfl, ?_⟩
      refine ⟨_, rfl, _, _, rfl, rfl, _, rfl, _, _, rfl, rfl, _, rfl, ?_⟩
      by_cases c : (NN ns i).hi < gr ns (i + 1) - 1
      · refine ifP (decide_eq_true c) (k false ⟨fun z => (nomatch z), fun ⟨ps, e, s, al⟩ => ?_⟩)
        obtain ⟨a, ha, v⟩ := viol_of hn.ok hi c
        have := roomy_of al a i ha hi
        unfold viol at v
        omega
      · refine ifN (decide_eq_false c) ⟨_, _, _, _, rfl, rfl, fun j hj => ?_⟩
        by_cases d : j = i
        · subst d
          omega
        · exact ih j (by omega)
    · rintro σ _ ⟨v2, v3, v4, v5, rfl, rfl, ih⟩
      rw [List.length_map, hle] at ih
      exact k true ⟨fun _ => feas_gr hn.ok ih, fun _ => rfl⟩
theorem ok_law_asked (T : Txt w K mg t) : FnOk true P w K mg base (CXo P w) 5 t.f_law_asked t.d_law_asked ["_law_notes"] (spAskG t) := by
  refine T.F_law_asked.okn (k := 4) sc_law_asked (fun vs H Q E h => ?_) (fun cdv A outer s H vs Q E hr h => ?_)
  · obtain ⟨x, rfl, _⟩ := h
    rfl
  · obtain ⟨x, rfl, h⟩ := h
    refine ⟨_, pss_cons (ps_set (i := 1) sc_law_asked.nd rfl (Or.inl rfl) (pe_non))
      (pss_cons (ps_set (i := 2) sc_law_asked.nd rfl (Or.inl rfl) (pe_str))
      (pss_cons (ps_try2 (E := (fun σ' e C H' => σ' = [some x, some .non, some (.str "told"), none] ∧ Same H H' ∧ ((C = t.C_NoNotes ∧ (∀ H2 p, Same H H2 → H2 p = some (.tup [.str "no notes", .non]) → Q (.ref p) H2) ∧ H' e = some (XO e t.C_NoNotes none)) ∨ (C = t.C_TooFull ∧ ∃ (a b : Nat) (dx : Addr), XF t H' e dx a b ∧ ∀ H2 p f, Same H H2 → H2 p = some (.tup [.str "too full", .ref f]) → H2 f = some (.tup [.int a, .int b]) → Q (.ref p) H2)))) rfl T.g_NoNotes T.mk_NoNotes rfl T.g_TooFull T.mk_TooFull sc_law_asked.nd (j := 3) rfl rfl rfl rfl (fun _ _ tk => pss_one (ps_set (i := 1) sc_law_asked.nd rfl (Or.inl rfl) (pe_call (ok_spread T) (hr.mono (by decide)) rfl T.g_spread T.F_spread.kp T.b_spread .nil tk.pass (pa_cons (pv 0) (pa_nil))))) (fun _ => pss_one (ps_set (i := 2) sc_law_asked.nd rfl (Or.inl rfl) (pe_ix (r := rIxL K) ix_list (pe_lst (pa_cons (pe_str) (pa_cons (pe_str) (pa_nil)))) (pe_callTy call_int1 rfl T.n_int boot_int (pa_cons (pe_callB (r := rIsin K) call_isin rfl T.n_isinstance boot_isinstance (pa_cons (pv 3) (pa_cons (pe_glob (v := .ref _) rfl T.g_RimError rfl) (pa_nil)))) (pa_nil))) (fun _ _ => rfl)))) (fun _ => pss_cons (ps_set (i := 2) sc_law_asked.nd rfl (Or.inl rfl) (pe_str))
      (pss_one (ps_set (i := 1) sc_law_asked.nd rfl (Or.inl rfl) (pe_tup (pa_cons ((pe_xfld (pv 3) rfl : PE _ _ (tXF K _ _))) (pa_cons ((pe_xfld (pv 3) rfl : PE _ _ (tXF K _ _))) (pa_nil))))))))
      (pss_one (ps_ret (pe_tup (pa_cons (pv 2) (pa_cons (pv 1) (pa_nil)))))))), ?_⟩
    refine ⟨?_, ?_⟩
    · rcases h with ⟨bad, k⟩ | ⟨l, qs, ns, rfl, hn, k, kx⟩
      · exact ⟨_, rfl, x, rfl, .inl ⟨bad, fun e H' s' he => ⟨rfl, s', .inl ⟨rfl, k, he⟩⟩⟩⟩
      · refine ⟨_, rfl, .ref l, rfl, .inr ⟨l, qs, ns, rfl, hn, fun fe H' t2 pl pp s' ht hpl hpp => ?_, fun a b h1 h2 v e dx H' s' xf => ⟨rfl, s', .inr ⟨rfl, a, b, dx, xf, kx a b h1 h2 v⟩⟩⟩⟩
        exact ⟨_, rfl, _, rfl, (by show 2 ≤ sizeLine; decide), fun p hp => k fe _ p t2 pl pp (same_upd s' hp) upd_same (same_upd (Same.refl _) hp _ _ ht) (same_upd (Same.refl _) hp _ _ hpl) (same_upd (Same.refl _) hp _ _ hpp)⟩
    · rintro σ' e C H' ⟨rfl, s', ⟨rfl, kq, he⟩ | ⟨rfl, a, b, dx, ⟨x1, x2⟩, kq⟩⟩
      · refine ⟨T.mk_NoNotes, .inl ⟨T.mro_NN, ?_⟩⟩
        refine ⟨(by show 2 ≤ sizeLine; decide), fun p hp => ?_⟩
        have sp := same_upd (o := .lst [.str "other", .str "no notes"]) (Same.refl _) hp
        refine ⟨_, rfl, _, _, rfl, .inr (.inl ⟨e, _, _, _, true, rfl, sp _ _ he, (fun d z => nomatch z), T.x_NoNotes, rfl, T.kit_NoNotes_RimError, .inr ⟨true, rfl, p, _, _, .str "no notes", rfl, rfl, SqL.of upd_same, atI_1, ?_⟩⟩)⟩
        exact ⟨_, rfl, _, rfl, (by show 2 ≤ sizeLine; decide), fun p2 hp2 => kq _ p2 (same_upd (s'.trans sp) hp2) upd_same⟩
      · refine ⟨T.mk_TooFull, .inr ⟨T.mro_TN, T.mro_TT, ?_⟩⟩
        have l1 : (putF "last" (.int b) [("first", V.int a)]).lookup ("first" : Str) = some (V.int a) := by
          rw [lookup_putF, if_neg (by decide +kernel), List.lookup_cons, show (("first" : Str) == "first") = true from by decide +kernel]
        have l2 : (putF "last" (.int b) [("first", V.int a)]).lookup ("last" : Str) = some (V.int b) := by rw [lookup_putF, if_pos rfl]
        refine ⟨_, rfl, e, _, dx, _, .int a, rfl, x1, x2, T.x_TooFull, T.n_TooFull_first, l1, _, rfl, e, _, dx, _, .int b, rfl, x1, x2, T.x_TooFull, T.n_TooFull_last, l2, (by show 2 ≤ sizeLine; decide), fun f hf => ?_⟩
        exact ⟨_, rfl, _, rfl, (by show 2 ≤ sizeLine; decide), fun p hp => kq _ p f (same_upd (same_upd s' hf) hp) upd_same (same_upd (Same.refl _) hp _ _ upd_same)⟩
theorem ok_law_stretch (T : Txt w K mg t) : FnOk true P w K mg base (CXo P w) 2 t.f_law_stretch t.d_law_stretch ["_law_notes", "_law_found"] (spStretch) := by
  refine T.F_law_stretch.okn (k := 1) sc_law_stretch (fun vs H Q E h => ?_) (fun cdv A outer s H vs Q E hr h => ?_)
  · obtain ⟨l, f, qs, ns, a, b, rfl, _⟩ := h
    rfl
  · obtain ⟨l, f, qs, ns, a, b, rfl, h⟩ := h
    refine ⟨_, pss_cons (ps_asg (pv 1) (pg_tup rfl (pgs_cons (pg_name (i := 2) sc_law_stretch.nd rfl (Or.inl rfl)) (pgs_cons (pg_name (i := 3) sc_law_stretch.nd rfl (Or.inl rfl)) (pgs_nil)))))
      (pss_cons (ps_if (PW.pt (pw_or (pt_not (pt_val (pe_call (ok_law_whole T) (hr.mono (by decide)) rfl T.g_law_whole T.F_law_whole.kp T.b_law_whole .nil pass_none (pa_cons (pv 2) (pa_nil))))) (pw_or (pt_not (pt_val (pe_call (ok_law_whole T) (hr.mono (by decide)) rfl T.g_law_whole T.F_law_whole.kp T.b_law_whole .nil pass_none (pa_cons (pv 3) (pa_nil))))) (pw_or1 (pt_not (pt_chain3 op_le op_le op_lt (pe_int) (pv 2) (pv 3) (pe_callB call_len_seq rfl T.n_len boot_len (pa_cons (pv 0) (pa_nil))))))))) (pss_one (ps_ret (pe_bl))) (pss_nil))
      (pss_cons (ps_set (i := 4) sc_law_stretch.nd rfl (Or.inl rfl) (pe_callB (call_sumL rfl) rfl T.n_sum PyProof.Rows.Boot.«sum» (pa_cons (pe_compG rfl (blkG_of (zs := ["_law_note"]) (ys := []) (fr := []) (N0 := ["_law_notes", "_law_found", "_law_first", "_law_last", "_law_higher"]) (sc0 := defScope s_law_stretch) (by decide +kernel) rfl rfl rfl) (pi_list (pe_slice sl_list (pv 0) (po_some (pv 2)) (po_some (pe_op op_add (pv 3) (pe_int))))) (fun _ _ _ _ _ ow nd => pg_name (i := 0) nd rfl (Or.inl (ow _ (by simp))) (Or.inr (ow _ (by simp)))) (gok_name (by decide)) (fun _ _ _ _ _ => pif_nil) (fun _ _ _ _ _ => pe_ix (r := rIxT K) ix_tup (pv 0) (pe_int) (fun _ _ => rfl))) (pa_nil))))
      (pss_one (ps_ret (pe_cmpR op_gt (pv 4) (pe_op op_add (pe_op op_sub (pe_ix ix_tup (pe_ix ix_list (pv 0) (pv 3) (fun _ _ => rfl)) (pe_int) (fun _ _ => rfl)) (pe_ix ix_tup (pe_ix ix_list (pv 0) (pv 2) (fun _ _ => rfl)) (pe_int) (fun _ _ => rfl))) (pe_int)) (nomark _)))))), ?_⟩
    obtain ⟨hn, hf, hab, hbn, vl, k⟩ := h
    have hl12 := hn.len
    have hle := hn.f2.len
    have hln : ((qs.map V.ref).length : Int) = (ns.length : Nat) := by rw [List.length_map, hle]
    refine ⟨_, rfl, f, _, rfl, SqT.of hf, rfl, _, _, rfl, _, _, rfl, rfl, ?_⟩
    refine ⟨_, rfl, (a : Int), rfl, true, rfl, ifN rfl ⟨_, rfl, (b : Int), rfl, true, rfl, ifN rfl ?_⟩⟩
    refine ⟨_, rfl, _, _, rfl, rfl, _, rfl, ifP (decide_eq_true (by omega)) ⟨_, rfl, _, _, rfl, rfl, _, rfl, ifP (decide_eq_true (by omega)) ⟨_, rfl, l, _, rfl, .inl (SqL.of hn.at_), _, _, rfl, rfl, _, rfl, ifN ?_ ?_⟩⟩⟩
    · rw [hln, decide_eq_true (by omega)]
      rfl
    refine ⟨_, rfl, _, rfl, (a : Int), rfl, _, rfl, _, _, rfl, rfl, (b : Int) + 1, rfl, l, _, rfl, SqL.of hn.at_, fun p1 hp1 => ?_⟩
    rw [cut_ref qs hab (by omega)]
    have s1 := same_upd (o := .lst (((qs.drop a).take (b + 1 - a)).map V.ref)) (Same.refl _) hp1
    have k1 : upd H p1 (.lst (((qs.drop a).take (b + 1 - a)).map V.ref)) p1 = some (.lst (((qs.drop a).take (b + 1 - a)).map V.ref)) := upd_same
    generalize upd H p1 (.lst (((qs.drop a).take (b + 1 - a)).map V.ref)) = H1 at s1 k1 ⊢
    have hcl : ((ns.drop a).take (b + 1 - a)).length ≤ 12 := by rw [List.length_take, List.length_drop]; omega
    refine ⟨p1, rfl, ⟨_, SqL.of k1⟩, fun p2 hp2 => ?_⟩
    refine comp_hs k1 ((hn.f2.cut a (b + 1 - a)).mono (isNt.same s1)) hp2 (by omega) (fun q n H2 R hq r => ⟨_, rfl, q, _, 0, _, rfl, rfl, SqT.of hq, atI_0, r⟩) fun H2 s2 e2 => ?_
    have s12 := s1.trans s2
    obtain ⟨qa, ea, hqa⟩ := hn.it (show a < ns.length by omega)
    obtain ⟨qb, eb, hqb⟩ := hn.it hbn
    refine ⟨p2, _, rfl, SqL.of e2, ⟨by simp; omega, fun n hn' => ?_⟩, ?_⟩
    · obtain ⟨m, hm, rfl⟩ := List.mem_map.mp hn'
      have := hn.ok m (List.mem_of_mem_drop (List.mem_of_mem_take hm))
      have := this.h1
      have := (hn.ok m (List.mem_of_mem_drop (List.mem_of_mem_take hm))).h2
      omega
    refine ⟨_, rfl, _, rfl, _, rfl, l, _, _, .ref qb, rfl, rfl, SqL.of (s12 _ _ hn.at_), eb, qb, _, 2, _, rfl, rfl, SqT.of (s12 _ _ hqb), atI_2, _, rfl, _, rfl, l, _, _, .ref qa, rfl, rfl, SqL.of (s12 _ _ hn.at_), ea, qa, _, 1, _, rfl, rfl, SqT.of (s12 _ _ hqa), atI_1, _, _, rfl, rfl, _, _, rfl, rfl, _, _, rfl, rfl, ?_⟩
    have cc := cs_cut ns a (b + 1 - a) (by omega)
    rw [show a + (b + 1 - a) = b + 1 by omega] at cc
    have e : decide ((NN ns b).hi - (NN ns a).lo + 1 < (((ns.drop a).take (b + 1 - a)).map (·.h)).sum) = true := decide_eq_true (by unfold viol at vl; omega)
    show Q (.bl (decide ((NN ns b).hi - (NN ns a).lo + 1 < (((ns.drop a).take (b + 1 - a)).map (·.h)).sum))) H2
    rw [e]
    exact k _ s12
end
end S62

set_option maxRecDepth 100000
set_option maxHeartbeats 4000000
namespace S62
open PySem L2 XL PyProof.Rows
open Sprd
section
variable {P : Program} {w : World} {K : PySem.W.Frag} {mg : Str → Option Value} {base : Heap} {t : Adr}
theorem ok_law_bad (T : Txt w K mg t) : FnOk true P w K mg base (CXo P w) 1 t.f_law_bad t.d_law_bad ["_law_cell_here"] (spBad) := by
  refine T.F_law_bad.okn (k := 0) sc_law_bad (fun vs H Q E h => ?_) (fun cdv A outer s H vs Q E hr h => ?_)
  · obtain ⟨c, rfl, _⟩ := h
    rfl
  · obtain ⟨c, rfl, h⟩ := h
    refine ⟨_, (by
      refine' pss_cons ?a1 ?b2
      case a1 =>
        with_reducible refine' ps_set (i := 1) ?n3 ?i4 ?x5 ?e6 ?s7 ?f8
        case n3 => exact sc_law_bad.nd
        case i4 => rfl
        case x5 => exact Or.inl rfl
        case f8 => exact Or.inl rfl
        case e6 =>
          with_reducible refine' pe_lst ?p9
          case p9 =>
            with_reducible refine' pa_cons ?e10 ?q11 rfl
            case e10 => exact pe_tup (pa_cons (pe_int) (pa_cons (pe_int) (pa_cons (pe_int) (pa_cons (pe_int) (pa_nil)))))
            case q11 =>
              with_reducible refine' pa_cons ?e12 ?q13 rfl
              case e12 => exact pe_tup (pa_cons (pe_int) (pa_cons (pe_int) (pa_cons (pe_int) (pa_cons (pe_int) (pa_nil)))))
              case q13 =>
                with_reducible refine' pa_cons ?e14 ?q15 rfl
                case e14 => exact pe_tup (pa_cons (pe_bl) (pa_cons (pe_int) (pa_cons (pe_int) (pa_cons (pe_int) (pa_nil)))))
                case q15 =>
                  with_reducible refine' pa_cons ?e16 ?q17 rfl
                  case e16 => exact pe_tup (pa_cons (pe_int) (pa_cons (pe_un un_neg (pe_int)) (pa_cons (pe_int) (pa_cons (pe_int) (pa_nil)))))
                  case q17 =>
                    with_reducible refine' pa_cons ?e18 ?q19 rfl
                    case e18 => exact pe_tup (pa_cons (pe_int) (pa_cons (pe_int) (pa_cons (pe_int) (pa_cons (pe_int) (pa_nil)))))
                    case q19 =>
                      with_reducible refine' pa_cons ?e20 ?q21 rfl
                      case e20 => exact pe_tup (pa_cons (pe_int) (pa_cons (pe_int) (pa_cons (pe_int) (pa_cons (pe_int) (pa_nil)))))
                      case q21 =>
                        exact pa_nil
        case s7 => rfl
      case b2 =>
        refine' pss_cons ?a22 ?b23
        case a22 =>
          with_reducible refine' ps_set (i := 1) ?n24 ?i25 ?x26 ?e27 ?s28 ?f29
          case n24 => exact sc_law_bad.nd
          case i25 => rfl
          case x26 => exact Or.inl rfl
          case f29 => exact Or.inl rfl
          case e27 =>
            with_reducible refine' pe_op ?o30 ?l31 ?r32
            case o30 => exact op_cat
            case l31 =>
              exact pv 1
            case r32 =>
              with_reducible refine' pe_lst ?p33
              case p33 =>
                with_reducible refine' pa_cons ?e34 ?q35 rfl
                case e34 => exact pe_tup (pa_cons (pe_int) (pa_cons (pe_int) (pa_cons (pe_int) (pa_cons (pe_un un_neg (pe_int)) (pa_nil)))))
                case q35 =>
                  with_reducible refine' pa_cons ?e36 ?q37 rfl
                  case e36 => exact pe_tup (pa_cons (pe_int) (pa_cons (pe_int) (pa_cons (pe_int) (pa_nil))))
                  case q37 =>
                    with_reducible refine' pa_cons ?e38 ?q39 rfl
                    case e38 => exact pe_tup (pa_cons (pe_int) (pa_cons (pe_int) (pa_cons (pe_int) (pa_cons (pe_int) (pa_cons (pe_int) (pa_nil))))))
                    case q39 =>
                      with_reducible refine' pa_cons ?e40 ?q41 rfl
                      case e40 => exact pe_lst (pa_cons (pe_int) (pa_cons (pe_int) (pa_cons (pe_int) (pa_cons (pe_int) (pa_nil)))))
                      case q41 =>
                        with_reducible refine' pa_cons ?e42 ?q43 rfl
                        case e42 => exact pe_str
                        case q43 =>
                          with_reducible refine' pa_cons ?e44 ?q45 rfl
                          case e44 => exact pe_non
                          case q45 =>
                            with_reducible refine' pa_cons ?e46 ?q47 rfl
                            case e46 => exact pe_int
                            case q47 =>
                              with_reducible refine' pa_cons ?e48 ?q49 rfl
                              case e48 => exact pe_tup (pa_cons (pe_str) (pa_cons (pe_int) (pa_cons (pe_int) (pa_cons (pe_int) (pa_nil)))))
                              case q49 =>
                                exact pa_nil
          case s28 => rfl
        case b23 =>
          refine' pss_cons ?a50 ?b51
          case a50 =>
            with_reducible refine' ps_set (i := 1) ?n52 ?i53 ?x54 ?e55 ?s56 ?f57
            case n52 => exact sc_law_bad.nd
            case i53 => rfl
            case x54 => exact Or.inl rfl
            case f57 => exact Or.inl rfl
            case e55 =>
              with_reducible refine' pe_op ?o58 ?l59 ?r60
              case o58 => exact op_cat
              case l59 =>
                exact pv 1
              case r60 =>
                with_reducible refine' pe_lst ?p61
                case p61 =>
                  with_reducible refine' pa_cons ?e62 ?q63 rfl
                  case e62 => exact pe_tup (pa_cons (pe_int) (pa_cons (pe_int) (pa_cons (pe_non) (pa_cons (pe_int) (pa_nil)))))
                  case q63 =>
                    with_reducible refine' pa_cons ?e64 ?q65 rfl
                    case e64 => exact pe_tup (pa_nil)
                    case q65 =>
                      with_reducible refine' pa_cons ?e66 ?q67 rfl
                      case e66 => exact pe_tup (pa_cons (pe_int) (pa_cons (pe_int) (pa_cons (pe_int) (pa_cons (pe_int) (pa_nil)))))
                      case q67 =>
                        with_reducible refine' pa_cons ?e68 ?q69 rfl
                        case e68 => exact pe_tup (pa_cons (pe_int) (pa_cons (pe_int) (pa_cons (pe_un un_neg (pe_int)) (pa_cons (pe_int) (pa_nil)))))
                        case q69 =>
                          with_reducible refine' pa_cons ?e70 ?q71 rfl
                          case e70 => exact pe_tup (pa_cons (pe_int) (pa_cons (pe_bl) (pa_cons (pe_int) (pa_cons (pe_int) (pa_nil)))))
                          case q71 =>
                            with_reducible refine' pa_cons ?e72 ?q73 rfl
                            case e72 => exact pe_tup (pa_cons (pe_int) (pa_cons (pe_int) (pa_cons (pe_int) (pa_cons (pe_bl) (pa_nil)))))
                            case q73 =>
                              exact pa_nil
            case s56 => rfl
          case b51 =>
            refine' pss_one ?c74
            case c74 =>
              with_reducible refine' ps_ret ?e75
              case e75 =>
                with_reducible refine' pe_ix (r := rIxL K) ?r76 ?l77 ?j78 ?p79
                case r76 => exact ix_list
                case p79 => exact fun _ _ => rfl
                case j78 => exact pe_op op_mod (pv 0) (pe_int)
                case l77 =>
                  with_reducible refine' pe_op ?o80 ?l81 ?r82
                  case o80 => exact op_cat
                  case l81 =>
                    exact pv 1
                  case r82 =>
                    with_reducible refine' pe_lst ?p83
                    case p83 =>
                      with_reducible refine' pa_cons ?e84 ?q85 rfl
                      case e84 => exact pe_tup (pa_cons (pe_int) (pa_cons (pe_str) (pa_cons (pe_int) (pa_cons (pe_int) (pa_nil)))))
                      case q85 =>
                        with_reducible refine' pa_cons ?e86 ?q87 rfl
                        case e86 => exact pe_tup (pa_cons (pe_int) (pa_cons (pe_int) (pa_cons (pe_bl) (pa_cons (pe_int) (pa_nil)))))
                        case q87 =>
                          exact pa_nil), ?_⟩
    have bad0 : AllBad H [] := fun v hv => nomatch hv
    refine ⟨(by show 4 ≤ sizeLine; decide), fun p1 hp1 => ?_⟩
    have s1 := same_upd (o := .tup [.int 0, .int 1, .int 9, .int 1]) (Same.refl _) hp1
    have k1 : upd H p1 (.tup [.int 0, .int 1, .int 9, .int 1]) p1 = some (.tup [.int 0, .int 1, .int 9, .int 1]) := upd_same
    generalize upd H p1 (.tup [.int 0, .int 1, .int 9, .int 1]) = K1 at s1 k1 ⊢
    have bad1b := AllBad.snoc (AllBad.same s1 bad0) (bad_tup k1 rfl rfl)
    refine ⟨(by show 4 ≤ sizeLine; decide), fun p2 hp2 => ?_⟩
    have s2 := same_upd (o := .tup [.int 10, .int 1, .int 20, .int 1]) (Same.refl _) hp2
    have k2 : upd K1 p2 (.tup [.int 10, .int 1, .int 20, .int 1]) p2 = some (.tup [.int 10, .int 1, .int 20, .int 1]) := upd_same
    generalize upd K1 p2 (.tup [.int 10, .int 1, .int 20, .int 1]) = K2 at s2 k2 ⊢
    have bad2b := AllBad.snoc (AllBad.same s2 bad1b) (bad_tup k2 rfl rfl)
    refine ⟨(by show 4 ≤ sizeLine; decide), fun p3 hp3 => ?_⟩
    have s3 := same_upd (o := .tup [.bl true, .int 1, .int 9, .int 1]) (Same.refl _) hp3
    have k3 : upd K2 p3 (.tup [.bl true, .int 1, .int 9, .int 1]) p3 = some (.tup [.bl true, .int 1, .int 9, .int 1]) := upd_same
    generalize upd K2 p3 (.tup [.bl true, .int 1, .int 9, .int 1]) = K3 at s3 k3 ⊢
    have bad3b := AllBad.snoc (AllBad.same s3 bad2b) (bad_tup k3 rfl rfl)
    refine ⟨100, rfl, (by show 4 ≤ sizeLine; decide), fun p4 hp4 => ?_⟩
    have s4 := same_upd (o := .tup [.int 1, .int (-100), .int 9, .int 1]) (Same.refl _) hp4
    have k4 : upd K3 p4 (.tup [.int 1, .int (-100), .int 9, .int 1]) p4 = some (.tup [.int 1, .int (-100), .int 9, .int 1]) := upd_same
    generalize upd K3 p4 (.tup [.int 1, .int (-100), .int 9, .int 1]) = K4 at s4 k4 ⊢
    have bad4b := AllBad.snoc (AllBad.same s4 bad3b) (bad_tup k4 rfl rfl)
    refine ⟨(by show 4 ≤ sizeLine; decide), fun p5 hp5 => ?_⟩
    have s5 := same_upd (o := .tup [.int 1, .int 1, .int 100, .int 1]) (Same.refl _) hp5
    have k5 : upd K4 p5 (.tup [.int 1, .int 1, .int 100, .int 1]) p5 = some (.tup [.int 1, .int 1, .int 100, .int 1]) := upd_same
    generalize upd K4 p5 (.tup [.int 1, .int 1, .int 100, .int 1]) = K5 at s5 k5 ⊢
    have bad5b := AllBad.snoc (AllBad.same s5 bad4b) (bad_tup k5 rfl rfl)
    refine ⟨(by show 4 ≤ sizeLine; decide), fun p6 hp6 => ?_⟩
    have s6 := same_upd (o := .tup [.int 1, .int 1, .int 9, .int 100]) (Same.refl _) hp6
    have k6 : upd K5 p6 (.tup [.int 1, .int 1, .int 9, .int 100]) p6 = some (.tup [.int 1, .int 1, .int 9, .int 100]) := upd_same
    generalize upd K5 p6 (.tup [.int 1, .int 1, .int 9, .int 100]) = K6 at s6 k6 ⊢
    have bad6b := AllBad.snoc (AllBad.same s6 bad5b) (bad_tup k6 rfl rfl)
    refine ⟨(by show 6 ≤ sizeLine; decide), fun La hLa => ?_⟩
    have s7 := same_upd (o := .lst [.ref p1, .ref p2, .ref p3, .ref p4, .ref p5, .ref p6]) (Same.refl _) hLa
    have kLa : upd K6 La (.lst [.ref p1, .ref p2, .ref p3, .ref p4, .ref p5, .ref p6]) La = some (.lst [.ref p1, .ref p2, .ref p3, .ref p4, .ref p5, .ref p6]) := upd_same
    generalize upd K6 La (.lst [.ref p1, .ref p2, .ref p3, .ref p4, .ref p5, .ref p6]) = K7 at s7 kLa ⊢
    have bLa := AllBad.same s7 (show AllBad K6 [.ref p1, .ref p2, .ref p3, .ref p4, .ref p5, .ref p6] from bad6b)
    have bad8 : AllBad K7 [] := fun v hv => nomatch hv
    refine ⟨_, rfl, 100, rfl, (by show 4 ≤ sizeLine; decide), fun p9 hp9 => ?_⟩
    have s9 := same_upd (o := .tup [.int 1, .int 1, .int 9, .int (-100)]) (Same.refl _) hp9
    have k9 : upd K7 p9 (.tup [.int 1, .int 1, .int 9, .int (-100)]) p9 = some (.tup [.int 1, .int 1, .int 9, .int (-100)]) := upd_same
    generalize upd K7 p9 (.tup [.int 1, .int 1, .int 9, .int (-100)]) = K9 at s9 k9 ⊢
    have bad9b := AllBad.snoc (AllBad.same s9 bad8) (bad_tup k9 rfl rfl)
    have kLa := s9 _ _ kLa
    refine ⟨(by show 3 ≤ sizeLine; decide), fun p10 hp10 => ?_⟩
    have s10 := same_upd (o := .tup [.int 1, .int 1, .int 9]) (Same.refl _) hp10
    have k10 : upd K9 p10 (.tup [.int 1, .int 1, .int 9]) p10 = some (.tup [.int 1, .int 1, .int 9]) := upd_same
    generalize upd K9 p10 (.tup [.int 1, .int 1, .int 9]) = K10 at s10 k10 ⊢
    have bad10b := AllBad.snoc (AllBad.same s10 bad9b) (bad_tup k10 rfl rfl)
    have kLa := s10 _ _ kLa
    refine ⟨(by show 5 ≤ sizeLine; decide), fun p11 hp11 => ?_⟩
    have s11 := same_upd (o := .tup [.int 1, .int 1, .int 9, .int 1, .int 1]) (Same.refl _) hp11
    have k11 : upd K10 p11 (.tup [.int 1, .int 1, .int 9, .int 1, .int 1]) p11 = some (.tup [.int 1, .int 1, .int 9, .int 1, .int 1]) := upd_same
    generalize upd K10 p11 (.tup [.int 1, .int 1, .int 9, .int 1, .int 1]) = K11 at s11 k11 ⊢
    have bad11b := AllBad.snoc (AllBad.same s11 bad10b) (bad_tup k11 rfl rfl)
    have kLa := s11 _ _ kLa
    refine ⟨(by show 4 ≤ sizeLine; decide), fun p12 hp12 => ?_⟩
    have s12 := same_upd (o := .lst [.int 1, .int 1, .int 9, .int 1]) (Same.refl _) hp12
    have k12 : upd K11 p12 (.lst [.int 1, .int 1, .int 9, .int 1]) p12 = some (.lst [.int 1, .int 1, .int 9, .int 1]) := upd_same
    generalize upd K11 p12 (.lst [.int 1, .int 1, .int 9, .int 1]) = K12 at s12 k12 ⊢
    have bad12b := AllBad.snoc (AllBad.same s12 bad11b) (.lst k12)
    have kLa := s12 _ _ kLa
    have bad13 := AllBad.snoc bad12b (.sc (x := .str "1199") rfl)
    have bad14 := AllBad.snoc bad13 (.sc (x := .non) rfl)
    have bad15 := AllBad.snoc bad14 (.sc (x := .int 5) rfl)
    refine ⟨(by show 4 ≤ sizeLine; decide), fun p16 hp16 => ?_⟩
    have s16 := same_upd (o := .tup [.str "1", .int 1, .int 9, .int 1]) (Same.refl _) hp16
    have k16 : upd K12 p16 (.tup [.str "1", .int 1, .int 9, .int 1]) p16 = some (.tup [.str "1", .int 1, .int 9, .int 1]) := upd_same
    generalize upd K12 p16 (.tup [.str "1", .int 1, .int 9, .int 1]) = K16 at s16 k16 ⊢
    have bad16b := AllBad.snoc (AllBad.same s16 bad15) (bad_tup k16 rfl rfl)
    have kLa := s16 _ _ kLa
    refine ⟨(by show 8 ≤ sizeLine; decide), fun Lb hLb => ?_⟩
    have s17 := same_upd (o := .lst [.ref p9, .ref p10, .ref p11, .ref p12, .str "1199", .non, .int 5, .ref p16]) (Same.refl _) hLb
    have kLb : upd K16 Lb (.lst [.ref p9, .ref p10, .ref p11, .ref p12, .str "1199", .non, .int 5, .ref p16]) Lb = some (.lst [.ref p9, .ref p10, .ref p11, .ref p12, .str "1199", .non, .int 5, .ref p16]) := upd_same
    generalize upd K16 Lb (.lst [.ref p9, .ref p10, .ref p11, .ref p12, .str "1199", .non, .int 5, .ref p16]) = K17 at s17 kLb ⊢
    have bLb := AllBad.same s17 (show AllBad K16 [.ref p9, .ref p10, .ref p11, .ref p12, .str "1199", .non, .int 5, .ref p16] from bad16b)
    have kLa := s17 _ _ kLa
    have bLa := AllBad.same s9 bLa
    have bLa := AllBad.same s10 bLa
    have bLa := AllBad.same s11 bLa
    have bLa := AllBad.same s12 bLa
    have bLa := AllBad.same s16 bLa
    have bLa := AllBad.same s17 bLa
    refine ⟨La, Lb, _, _, rfl, rfl, kLa, kLb, (by show 14 ≤ sizeLine; decide), fun Lc hLc => ?_⟩
    have s18 := same_upd (o := .lst ([.ref p1, .ref p2, .ref p3, .ref p4, .ref p5, .ref p6] ++ [.ref p9, .ref p10, .ref p11, .ref p12, .str "1199", .non, .int 5, .ref p16])) (Same.refl _) hLc
    have kLc : upd K17 Lc (.lst ([.ref p1, .ref p2, .ref p3, .ref p4, .ref p5, .ref p6] ++ [.ref p9, .ref p10, .ref p11, .ref p12, .str "1199", .non, .int 5, .ref p16])) Lc = some (.lst ([.ref p1, .ref p2, .ref p3, .ref p4, .ref p5, .ref p6] ++ [.ref p9, .ref p10, .ref p11, .ref p12, .str "1199", .non, .int 5, .ref p16])) := upd_same
    generalize upd K17 Lc (.lst ([.ref p1, .ref p2, .ref p3, .ref p4, .ref p5, .ref p6] ++ [.ref p9, .ref p10, .ref p11, .ref p12, .str "1199", .non, .int 5, .ref p16])) = K18 at s18 kLc ⊢
    have bLc := AllBad.same s18 (AllBad.app bLa bLb)
    have bad19 : AllBad K18 [] := fun v hv => nomatch hv
    refine ⟨_, rfl, (by show 4 ≤ sizeLine; decide), fun p20 hp20 => ?_⟩
    have s20 := same_upd (o := .tup [.int 1, .int 1, .non, .int 1]) (Same.refl _) hp20
    have k20 : upd K18 p20 (.tup [.int 1, .int 1, .non, .int 1]) p20 = some (.tup [.int 1, .int 1, .non, .int 1]) := upd_same
    generalize upd K18 p20 (.tup [.int 1, .int 1, .non, .int 1]) = K20 at s20 k20 ⊢
    have bad20b := AllBad.snoc (AllBad.same s20 bad19) (bad_tup k20 rfl rfl)
    have kLc := s20 _ _ kLc
    refine ⟨(by show 0 ≤ sizeLine; exact Nat.zero_le _), fun p21 hp21 => ?_⟩
    have s21 := same_upd (o := .tup []) (Same.refl _) hp21
    have k21 : upd K20 p21 (.tup []) p21 = some (.tup []) := upd_same
    generalize upd K20 p21 (.tup []) = K21 at s21 k21 ⊢
    have bad21b := AllBad.snoc (AllBad.same s21 bad20b) (bad_tup k21 rfl rfl)
    have kLc := s21 _ _ kLc
    refine ⟨(by show 4 ≤ sizeLine; decide), fun p22 hp22 => ?_⟩
    have s22 := same_upd (o := .tup [.int 1, .int 100, .int 9, .int 1]) (Same.refl _) hp22
    have k22 : upd K21 p22 (.tup [.int 1, .int 100, .int 9, .int 1]) p22 = some (.tup [.int 1, .int 100, .int 9, .int 1]) := upd_same
    generalize upd K21 p22 (.tup [.int 1, .int 100, .int 9, .int 1]) = K22 at s22 k22 ⊢
    have bad22b := AllBad.snoc (AllBad.same s22 bad21b) (bad_tup k22 rfl rfl)
    have kLc := s22 _ _ kLc
    refine ⟨100, rfl, (by show 4 ≤ sizeLine; decide), fun p23 hp23 => ?_⟩
    have s23 := same_upd (o := .tup [.int 1, .int 1, .int (-100), .int 1]) (Same.refl _) hp23
    have k23 : upd K22 p23 (.tup [.int 1, .int 1, .int (-100), .int 1]) p23 = some (.tup [.int 1, .int 1, .int (-100), .int 1]) := upd_same
    generalize upd K22 p23 (.tup [.int 1, .int 1, .int (-100), .int 1]) = K23 at s23 k23 ⊢
    have bad23b := AllBad.snoc (AllBad.same s23 bad22b) (bad_tup k23 rfl rfl)
    have kLc := s23 _ _ kLc
    refine ⟨(by show 4 ≤ sizeLine; decide), fun p24 hp24 => ?_⟩
    have s24 := same_upd (o := .tup [.int 1, .bl true, .int 9, .int 1]) (Same.refl _) hp24
    have k24 : upd K23 p24 (.tup [.int 1, .bl true, .int 9, .int 1]) p24 = some (.tup [.int 1, .bl true, .int 9, .int 1]) := upd_same
    generalize upd K23 p24 (.tup [.int 1, .bl true, .int 9, .int 1]) = K24 at s24 k24 ⊢
    have bad24b := AllBad.snoc (AllBad.same s24 bad23b) (bad_tup k24 rfl rfl)
    have kLc := s24 _ _ kLc
    refine ⟨(by show 4 ≤ sizeLine; decide), fun p25 hp25 => ?_⟩
    have s25 := same_upd (o := .tup [.int 1, .int 1, .int 9, .bl false]) (Same.refl _) hp25
    have k25 : upd K24 p25 (.tup [.int 1, .int 1, .int 9, .bl false]) p25 = some (.tup [.int 1, .int 1, .int 9, .bl false]) := upd_same
    generalize upd K24 p25 (.tup [.int 1, .int 1, .int 9, .bl false]) = K25 at s25 k25 ⊢
    have bad25b := AllBad.snoc (AllBad.same s25 bad24b) (bad_tup k25 rfl rfl)
    have kLc := s25 _ _ kLc
    refine ⟨(by show 6 ≤ sizeLine; decide), fun Ld hLd => ?_⟩
    have s26 := same_upd (o := .lst [.ref p20, .ref p21, .ref p22, .ref p23, .ref p24, .ref p25]) (Same.refl _) hLd
    have kLd : upd K25 Ld (.lst [.ref p20, .ref p21, .ref p22, .ref p23, .ref p24, .ref p25]) Ld = some (.lst [.ref p20, .ref p21, .ref p22, .ref p23, .ref p24, .ref p25]) := upd_same
    generalize upd K25 Ld (.lst [.ref p20, .ref p21, .ref p22, .ref p23, .ref p24, .ref p25]) = K26 at s26 kLd ⊢
    have bLd := AllBad.same s26 (show AllBad K25 [.ref p20, .ref p21, .ref p22, .ref p23, .ref p24, .ref p25] from bad25b)
    have kLc := s26 _ _ kLc
    have bLc := AllBad.same s20 bLc
    have bLc := AllBad.same s21 bLc
    have bLc := AllBad.same s22 bLc
    have bLc := AllBad.same s23 bLc
    have bLc := AllBad.same s24 bLc
    have bLc := AllBad.same s25 bLc
    have bLc := AllBad.same s26 bLc
    refine ⟨Lc, Ld, _, _, rfl, rfl, kLc, kLd, (by show 20 ≤ sizeLine; decide), fun Le hLe => ?_⟩
    have s27 := same_upd (o := .lst (([.ref p1, .ref p2, .ref p3, .ref p4, .ref p5, .ref p6] ++ [.ref p9, .ref p10, .ref p11, .ref p12, .str "1199", .non, .int 5, .ref p16]) ++ [.ref p20, .ref p21, .ref p22, .ref p23, .ref p24, .ref p25])) (Same.refl _) hLe
    have kLe : upd K26 Le (.lst (([.ref p1, .ref p2, .ref p3, .ref p4, .ref p5, .ref p6] ++ [.ref p9, .ref p10, .ref p11, .ref p12, .str "1199", .non, .int 5, .ref p16]) ++ [.ref p20, .ref p21, .ref p22, .ref p23, .ref p24, .ref p25])) Le = some (.lst (([.ref p1, .ref p2, .ref p3, .ref p4, .ref p5, .ref p6] ++ [.ref p9, .ref p10, .ref p11, .ref p12, .str "1199", .non, .int 5, .ref p16]) ++ [.ref p20, .ref p21, .ref p22, .ref p23, .ref p24, .ref p25])) := upd_same
    generalize upd K26 Le (.lst (([.ref p1, .ref p2, .ref p3, .ref p4, .ref p5, .ref p6] ++ [.ref p9, .ref p10, .ref p11, .ref p12, .str "1199", .non, .int 5, .ref p16]) ++ [.ref p20, .ref p21, .ref p22, .ref p23, .ref p24, .ref p25])) = K27 at s27 kLe ⊢
    have bLe := AllBad.same s27 (AllBad.app bLc bLd)
    have bad28 : AllBad K27 [] := fun v hv => nomatch hv
    refine ⟨_, rfl, (by show 4 ≤ sizeLine; decide), fun p29 hp29 => ?_⟩
    have s29 := same_upd (o := .tup [.int 1, .str "1", .int 9, .int 1]) (Same.refl _) hp29
    have k29 : upd K27 p29 (.tup [.int 1, .str "1", .int 9, .int 1]) p29 = some (.tup [.int 1, .str "1", .int 9, .int 1]) := upd_same
    generalize upd K27 p29 (.tup [.int 1, .str "1", .int 9, .int 1]) = K29 at s29 k29 ⊢
    have bad29b := AllBad.snoc (AllBad.same s29 bad28) (bad_tup k29 rfl rfl)
    have kLe := s29 _ _ kLe
    refine ⟨(by show 4 ≤ sizeLine; decide), fun p30 hp30 => ?_⟩
    have s30 := same_upd (o := .tup [.int 1, .int 1, .bl true, .int 1]) (Same.refl _) hp30
    have k30 : upd K29 p30 (.tup [.int 1, .int 1, .bl true, .int 1]) p30 = some (.tup [.int 1, .int 1, .bl true, .int 1]) := upd_same
    generalize upd K29 p30 (.tup [.int 1, .int 1, .bl true, .int 1]) = K30 at s30 k30 ⊢
    have bad30b := AllBad.snoc (AllBad.same s30 bad29b) (bad_tup k30 rfl rfl)
    have kLe := s30 _ _ kLe
    refine ⟨(by show 2 ≤ sizeLine; decide), fun Lf hLf => ?_⟩
    have s31 := same_upd (o := .lst [.ref p29, .ref p30]) (Same.refl _) hLf
    have kLf : upd K30 Lf (.lst [.ref p29, .ref p30]) Lf = some (.lst [.ref p29, .ref p30]) := upd_same
    generalize upd K30 Lf (.lst [.ref p29, .ref p30]) = K31 at s31 kLf ⊢
    have bLf := AllBad.same s31 (show AllBad K30 [.ref p29, .ref p30] from bad30b)
    have kLe := s31 _ _ kLe
    have bLe := AllBad.same s29 bLe
    have bLe := AllBad.same s30 bLe
    have bLe := AllBad.same s31 bLe
    refine ⟨Le, Lf, _, _, rfl, rfl, kLe, kLf, (by show 22 ≤ sizeLine; decide), fun Lg hLg => ?_⟩
    have s32 := same_upd (o := .lst ((([.ref p1, .ref p2, .ref p3, .ref p4, .ref p5, .ref p6] ++ [.ref p9, .ref p10, .ref p11, .ref p12, .str "1199", .non, .int 5, .ref p16]) ++ [.ref p20, .ref p21, .ref p22, .ref p23, .ref p24, .ref p25]) ++ [.ref p29, .ref p30])) (Same.refl _) hLg
    have kLg : upd K31 Lg (.lst ((([.ref p1, .ref p2, .ref p3, .ref p4, .ref p5, .ref p6] ++ [.ref p9, .ref p10, .ref p11, .ref p12, .str "1199", .non, .int 5, .ref p16]) ++ [.ref p20, .ref p21, .ref p22, .ref p23, .ref p24, .ref p25]) ++ [.ref p29, .ref p30])) Lg = some (.lst ((([.ref p1, .ref p2, .ref p3, .ref p4, .ref p5, .ref p6] ++ [.ref p9, .ref p10, .ref p11, .ref p12, .str "1199", .non, .int 5, .ref p16]) ++ [.ref p20, .ref p21, .ref p22, .ref p23, .ref p24, .ref p25]) ++ [.ref p29, .ref p30])) := upd_same
    generalize upd K31 Lg (.lst ((([.ref p1, .ref p2, .ref p3, .ref p4, .ref p5, .ref p6] ++ [.ref p9, .ref p10, .ref p11, .ref p12, .str "1199", .non, .int 5, .ref p16]) ++ [.ref p20, .ref p21, .ref p22, .ref p23, .ref p24, .ref p25]) ++ [.ref p29, .ref p30])) = K32 at s32 kLg ⊢
    have bLg := AllBad.same s32 (AllBad.app bLe bLf)
    have m22 := mod_in c (show (0 : Int) < 22 by decide)
    obtain ⟨v, ev, mv⟩ := at_mem (xs := ((([.ref p1, .ref p2, .ref p3, .ref p4, .ref p5, .ref p6] ++ [.ref p9, .ref p10, .ref p11, .ref p12, .str "1199", .non, .int 5, .ref p16]) ++ [.ref p20, .ref p21, .ref p22, .ref p23, .ref p24, .ref p25]) ++ [.ref p29, .ref p30])) m22.1 (by show c % 22 < ((22 : Nat) : Int); exact m22.2)
    exact ⟨_, rfl, _, _, rfl, rfl, (by show (0 : Int) < 22; decide), Lg, _, _, v, rfl, rfl, SqL.of kLg, ev, h _ v (((((((((((((((((((((((((s1.trans s2).trans s3).trans s4).trans s5).trans s6).trans s7).trans s9).trans s10).trans s11).trans s12).trans s16).trans s17).trans s18).trans s20).trans s21).trans s22).trans s23).trans s24).trans s25).trans s26).trans s27).trans s29).trans s30).trans s31).trans s32) (bLg v mv)⟩
end
end S62

set_option maxRecDepth 100000
set_option maxHeartbeats 4000000
namespace S62
open PySem L2 XL PyProof.Rows
open Sprd
def spLaw (K : PySem.W.Frag) : Sp := fun vs H Q _ => ∃ (a : Addr) (ns : List Int), vs = [.ref a] ∧ SqL K H a (ns.map V.int) ∧ ns.length ≤ 63 ∧ ∀ H', Q (.bl true) H'
theorem all_tt (n : Nat) : ((List.range n).all fun _ => true) = true := by
  rw [List.all_eq_true]
  intros
  rfl
theorem eq_nt {K : PySem.W.Frag} {H : Hp} {q : Addr} {m : Nt} {n : Nat} (h : isNt H m q) : EqR K H (n + 1) (.ref q) (.ref q) true := by
  have z := EqR.tup (K := K) (H := H) (n := n) (fun _ => true) (SqT.of h) (SqT.of h) (fun j x y hx hy => by
    rw [hx] at hy
    cases hy
    have : ∃ i, x = .int i := by
      match j, hx with
      | 0, hx => cases hx; exact ⟨_, rfl⟩
      | 1, hx => cases hx; exact ⟨_, rfl⟩
      | 2, hx => cases hx; exact ⟨_, rfl⟩
      | 3, hx => cases hx; exact ⟨_, rfl⟩
      | _ + 4, hx => simp at hx
    obtain ⟨i, rfl⟩ := this
    have e : decide (V.int i = V.int i) = true := decide_eq_true rfl
    rw [← e]
    exact .sc rfl)
  rw [all_tt] at z
  exact z
theorem ne_nts {K : PySem.W.Frag} {H : Hp} {a b : Addr} {qs : List Addr} {ns : List Nt} (ha : H a = some (.lst (qs.map V.ref))) (hb : Nts H b qs ns) {Q : VK} (k : Q (.bl false) H) : rNeD K (.ref a) (.ref b) H Q := by
  refine ⟨a, b, _, _, fun _ => true, rfl, rfl, SqL.of ha, SqL.of hb.at_, rfl, fun j x y hx hy => ?_, ?_⟩
  · rw [hx] at hy
    cases hy
    rw [List.getElem?_map] at hx
    obtain ⟨q, hq, rfl⟩ := Option.map_eq_some_iff.mp hx
    obtain ⟨m, _, hm⟩ := hb.f2.get' hq
    exact eq_nt hm
  · have e : (!(List.range (qs.map V.ref).length).all fun _ => true) = false := by rw [all_tt]; rfl
    rw [e]
    exact k
theorem eq_no {K : PySem.W.Frag} {H : Hp} {a b : Addr} (ha : H a = some (.tup [.str "no notes", .non])) (hb : H b = some (.tup [.str "no notes", .non])) : EqR K H 1 (.ref a) (.ref b) true := by
  have z := EqR.tup (K := K) (H := H) (n := 0) (fun _ => true) (SqT.of ha) (SqT.of hb) (fun j x y hx hy => by
    match j, hx, hy with
    | 0, hx, hy =>
      cases hx; cases hy
      have e : decide (V.str "no notes" = V.str "no notes") = true := decide_eq_true rfl
      rw [← e]
      exact .sc rfl
    | 1, hx, hy =>
      cases hx; cases hy
      have e : decide (V.non = V.non) = true := decide_eq_true rfl
      rw [← e]
      exact .sc rfl
    | _ + 2, hx, hy => simp at hx)
  rw [all_tt] at z
  exact z
/-- good notes, with one thing among them that is none -/
theorem bad_among {H : Hp} {l : Addr} {qs : List Addr} {ns : List Nt} {v : V} {at_ : Nat} {ws : List V} (hn : F2 (isNt H) ns qs) (ok : ∀ n ∈ ns, okN n) (bv : NoteV H v false) (hl : H l = some (.lst ws)) (e : ws = (qs.take at_).map V.ref ++ [v] ++ (qs.drop (at_ + 1)).map V.ref) (hlen : ws.length ≤ 13) : BadArg H (.ref l) := by
  by_cases c : 12 < ws.length
  · exact .long hl c
  · have hm : ∀ i x, ws[i]? = some x → NoteV H x (decide (i ≠ (qs.take at_).length)) := fun i x hx => by
      have good : ∀ q, q ∈ qs → NoteV H (.ref q) true := fun q hq => by
        obtain ⟨j, hj⟩ := List.getElem?_of_mem hq
        obtain ⟨n, en, hnq⟩ := hn.get' hj
        exact .good hnq (ok n (List.mem_of_getElem? en))
      by_cases d : i = (qs.take at_).length
      · have ex : x = v := by
          rw [e, d, List.getElem?_append_left (by simp), List.getElem?_append_right (by simp)] at hx
          simp at hx
          exact hx.symm
        rw [ex, decide_eq_false (fun z => z d)]
        exact bv
      · rw [decide_eq_true d]
        have mem : x ∈ (qs.take at_).map V.ref ∨ x ∈ (qs.drop (at_ + 1)).map V.ref := by
          rw [e] at hx
          by_cases c1 : i < (qs.take at_).length
          · rw [List.append_assoc, List.getElem?_append_left (by simpa using c1)] at hx
            exact .inl (List.mem_of_getElem? hx)
          · rw [List.getElem?_append_right (by simp at c1 d ⊢; omega)] at hx
            exact .inr (List.mem_of_getElem? hx)
        rcases mem with m | m
        · obtain ⟨q, hq, rfl⟩ := List.mem_map.mp m
          exact good q (List.mem_of_mem_take hq)
        · obtain ⟨q, hq, rfl⟩ := List.mem_map.mp m
          exact good q (List.mem_of_mem_drop hq)
    refine .some_ (fun i => decide (i ≠ (qs.take at_).length)) hl (by omega) hm ?_
    rw [Bool.eq_false_iff]
    intro z
    rw [List.all_eq_true] at z
    have := z (qs.take at_).length (by rw [List.mem_range, e]; simp)
    simp at this
theorem cut_hd (qs : List Addr) (k : Nat) : cutV (qs.map V.ref) none (some (k : Int)) = (qs.take k).map V.ref := by
  unfold cutV
  rw [HT.sIx_nat, HT.sIx_none, List.drop_zero, List.length_map, Nat.sub_zero, ← List.map_take]
  congr 1
  by_cases c : k ≤ qs.length
  · rw [Nat.min_eq_left c]
  · rw [Nat.min_eq_right (by omega), List.take_length, List.take_of_length_le (by omega)]
theorem cut_tl (qs : List Addr) (k : Nat) : cutV (qs.map V.ref) (some ((k : Int) + 1)) none = (qs.drop (k + 1)).map V.ref := by
  unfold cutV
  rw [show ((k : Int) + 1) = ((k + 1 : Nat) : Int) by omega, HT.sIx_nat, HT.sIx_none, List.length_map, ← List.map_drop, ← List.map_take]
  congr 1
  by_cases c : k + 1 ≤ qs.length
  · rw [Nat.min_eq_left c, List.take_of_length_le (by simp)]
  · rw [Nat.min_eq_right (by omega), List.drop_length, List.drop_of_length_le (by omega)]
    simp
section
variable {P : Program} {w : World} {K : PySem.W.Frag} {mg : Str → Option Value} {base : Heap} {t : Adr}
theorem ok_law (T : Txt w K mg t) : FnOk true P w K mg base (CXo P w) 6 t.f_law t.d_law ["_law_script"] (spLaw K) := by
  refine T.F_law.okn (k := 5) sc_law (fun vs H Q E h => ?_) (fun cdv A outer s H vs Q E hr h => ?_)
  · obtain ⟨a, xs, rfl, _⟩ := h
    rfl
  · obtain ⟨a, xs, rfl, h⟩ := h
    refine ⟨_, pss_cons (ps_set (i := 1) sc_law.nd rfl (Or.inl rfl) (pe_call (ok_law_cell T) (hr.mono (by decide)) rfl T.g_law_cell T.F_law_cell.kp T.b_law_cell .nil pass_none (pa_cons (pv 0) (pa_cons (pe_int) (pa_nil)))))
      (pss_cons (ps_set (i := 2) sc_law.nd rfl (Or.inl rfl) (pe_op op_mod (pe_op op_fdiv (pv 1) (pe_int)) (pe_int)))
      (pss_cons (ps_set (i := 3) sc_law.nd rfl (Or.inl rfl) (pe_call (ok_law_any T) (hr.mono (by decide)) rfl T.g_law_any T.F_law_any.kp T.b_law_any .nil pass_none (pa_cons (pv 0) (pa_cons (pv 2) (pa_nil)))))
      (pss_cons (ps_if (pt_cmpR op_eq (pe_op op_mod (pv 1) (pe_int)) (pe_int) (nomark _)) (pss_cons (ps_set (i := 4) sc_law.nd rfl (Or.inl rfl) (pe_op op_mod (pe_call (ok_law_mix T) (hr.mono (by decide)) rfl T.g_law_mix T.F_law_mix.kp T.b_law_mix .nil pass_none (pa_cons (pe_call (ok_law_cell T) (hr.mono (by decide)) rfl T.g_law_cell T.F_law_cell.kp T.b_law_cell .nil pass_none (pa_cons (pv 0) (pa_cons (pe_int) (pa_nil)))) (pa_cons (pe_int) (pa_nil)))) (pe_int)))
      (pss_cons (ps_set (i := 5) sc_law.nd rfl (Or.inl rfl) (pe_op op_mod (pe_call (ok_law_mix T) (hr.mono (by decide)) rfl T.g_law_mix T.F_law_mix.kp T.b_law_mix .nil pass_none (pa_cons (pe_call (ok_law_cell T) (hr.mono (by decide)) rfl T.g_law_cell T.F_law_cell.kp T.b_law_cell .nil pass_none (pa_cons (pv 0) (pa_cons (pe_int) (pa_nil)))) (pa_cons (pe_int) (pa_nil)))) (pe_op op_add (pv 2) (pe_int))))
      (pss_cons (ps_set (i := 6) sc_law.nd rfl (Or.inl rfl) (pe_op op_cat (pe_op op_cat (pe_slice sl_list (pv 3) po_none (po_some (pv 5))) (pe_lst (pa_cons (pe_call (ok_law_bad T) (hr.mono (by decide)) rfl T.g_law_bad T.F_law_bad.kp T.b_law_bad .nil pass_none (pa_cons (pe_call (ok_law_cell T) (hr.mono (by decide)) rfl T.g_law_cell T.F_law_cell.kp T.b_law_cell .nil pass_none (pa_cons (pv 0) (pa_cons (pe_int) (pa_nil)))) (pa_nil))) (pa_nil)))) (pe_slice sl_list (pv 3) (po_some (pe_op op_add (pv 5) (pe_int))) po_none)))
      (pss_cons (ps_if (pt_cmpR op_eq (pv 4) (pe_int) (nomark _)) (pss_one (ps_set (i := 6) sc_law.nd rfl (Or.inl rfl) (pe_call (ok_law_any T) (hr.mono (by decide)) rfl T.g_law_any T.F_law_any.kp T.b_law_any .nil pass_none (pa_cons (pv 0) (pa_cons (pe_int) (pa_nil)))))) (pss_nil))
      (pss_cons (ps_if (pt_cmpR op_eq (pv 4) (pe_int) (nomark _)) (pss_one (ps_set (i := 6) sc_law.nd rfl (Or.inl rfl) (pe_call (ok_law_no_list T) (hr.mono (by decide)) rfl T.g_law_no_list T.F_law_no_list.kp T.b_law_no_list .nil pass_none (pa_cons (pe_call (ok_law_cell T) (hr.mono (by decide)) rfl T.g_law_cell T.F_law_cell.kp T.b_law_cell .nil pass_none (pa_cons (pv 0) (pa_cons (pe_int) (pa_nil)))) (pa_cons (pv 3) (pa_nil)))))) (pss_nil))
      (pss_one (ps_ret (pe_cmpR (op_eqD (hu20_of hr)) (pe_call (ok_law_asked T) (hr.mono (by decide)) rfl T.g_law_asked T.F_law_asked.kp T.b_law_asked .nil pass_none (pa_cons (pv 6) (pa_nil))) (pe_tup (pa_cons (pe_str) (pa_cons (pe_non) (pa_nil)))) (nomark _))))))))) (pss_nil))
      (pss_cons (ps_set (i := 6) sc_law.nd rfl (Or.inl rfl) (pe_callTy call_list_of rfl T.n_list boot_list (pa_cons (pv 3) (pa_nil))))
      (pss_cons (ps_asg (pe_call (ok_law_asked T) (hr.mono (by decide)) rfl T.g_law_asked T.F_law_asked.kp T.b_law_asked .nil pass_none (pa_cons (pv 6) (pa_nil))) (pg_tup rfl (pgs_cons (pg_name (i := 7) sc_law.nd rfl (Or.inl rfl)) (pgs_cons (pg_name (i := 8) sc_law.nd rfl (Or.inl rfl)) (pgs_nil)))))
      (pss_cons (ps_if (PW.pt (pw_or (pt_cmpR (op_neD (hu20_of hr)) (pv 6) (pv 3) (nomark _)) (pw_or1 (pt_cmpR op_ne (pv 7) (pe_ix ix_list (pe_lst (pa_cons (pe_str) (pa_cons (pe_str) (pa_nil)))) (pe_callTy call_int1 rfl T.n_int boot_int (pa_cons (pe_call (ok_law_has_room T) (hr.mono (by decide)) rfl T.g_law_has_room T.F_law_has_room.kp T.b_law_has_room .nil pass_none (pa_cons (pv 3) (pa_nil))) (pa_nil))) (fun _ _ => rfl)) (nomark _))))) (pss_one (ps_ret (pe_bl))) (pss_nil))
      (pss_cons (ps_if (pt_cmpR op_eq (pv 7) (pe_str) (nomark _)) (pss_one (ps_ret (pe_call (ok_law_stretch T) (hr.mono (by decide)) rfl T.g_law_stretch T.F_law_stretch.kp T.b_law_stretch .nil pass_none (pa_cons (pv 3) (pa_cons (pv 8) (pa_nil)))))) (pss_nil))
      (pss_one (ps_ret (pe_and (pe_call (ok_law_told T) (hr.mono (by decide)) rfl T.g_law_told T.F_law_told.kp T.b_law_told .nil pass_none (pa_cons (pv 8) (pa_cons (pv 2) (pa_nil)))) (pe_one (pe_call (ok_law_allowed T) (hr.mono (by decide)) rfl T.g_law_allowed T.F_law_allowed.kp T.b_law_allowed .nil pass_none (pa_cons (pv 3) (pa_cons (pe_ix ix_tup (pv 8) (pe_int) (fun _ _ => rfl)) (pa_nil))))))))))))))), ?_⟩
    obtain ⟨hS, hx, k⟩ := h
    refine ⟨_, rfl, a, xs, 0, rfl, hS, by decide, by decide, fun c => ?_⟩
    refine ⟨_, rfl, _, _, rfl, rfl, ⟨by decide, by decide⟩, _, _, rfl, rfl, (by show (0 : Int) < 13; decide), ?_⟩
    obtain ⟨m, hm⟩ := Int.eq_ofNat_of_zero_le (mod_in (c / 4) (show (0 : Int) < 13 by decide)).1
    have hm2 := (mod_in (c / 4) (show (0 : Int) < 13 by decide)).2
    have hm' : c / 4 % 13 = (m : Int) := hm
    refine ⟨_, rfl, _, rfl, a, xs, m, (by show [V.ref a, V.int (c / 4 % 13)] = _; rw [hm']), hS, by omega, fun H1 l qs ns s1 fl hn hnm => ?_⟩
    have hle := hn.f2.len
    have hS1 := s1.seq hS
    refine ⟨_, rfl, _, _, rfl, rfl, (by show (0 : Int) < 4; decide), rfl, _, rfl, ite2 (fun z => ?_) (fun z => ?_)⟩
    · refine ⟨_, rfl, a, xs, 1, rfl, hS1, by decide, by decide, fun c1 => ⟨c1, 9, rfl, by decide, fun w1 _ => ⟨_, _, rfl, rfl, (by show (0 : Int) < 12; decide), ?_⟩⟩⟩
      refine ⟨_, rfl, a, xs, 1, rfl, hS1, by decide, by decide, fun c2 => ⟨c2, 10, rfl, by decide, fun w2 _ => ⟨_, rfl, _, _, rfl, rfl, _, _, rfl, rfl, (by show (0 : Int) < c / 4 % 13 + 1; omega), ?_⟩⟩⟩
      have hw2 := mod_in w2 (show (0 : Int) < c / 4 % 13 + 1 by omega)
      obtain ⟨at_, hat⟩ := Int.eq_ofNat_of_zero_le hw2.1
      have hat' : w2 % (c / 4 % 13 + 1) = (at_ : Int) := hat
      rw [hat'] at hw2
      have atl : at_ ≤ ns.length := by omega
      refine ⟨_, rfl, _, rfl, (at_ : Int), (by show V.int (w2 % (c / 4 % 13 + 1)) = _; rw [hat']), l, _, rfl, SqL.of hn.at_, fun p1 hp1 => ?_⟩
      rw [cut_hd]
      have t1 := same_upd (o := .lst ((qs.take at_).map V.ref)) (Same.refl _) hp1
      have k1 : upd H1 p1 (.lst ((qs.take at_).map V.ref)) p1 = some (.lst ((qs.take at_).map V.ref)) := upd_same
      generalize upd H1 p1 (.lst ((qs.take at_).map V.ref)) = G1 at t1 k1 ⊢
      refine ⟨_, rfl, a, xs, 1, rfl, t1.seq hS1, by decide, by decide, fun c3 => ⟨c3, rfl, fun G2 v t2 bv => ⟨(by show 1 ≤ sizeLine; decide), fun p2 hp2 => ?_⟩⟩⟩
      have t3 := same_upd (o := .lst [v]) (Same.refl _) hp2
      have k2 : upd G2 p2 (.lst [v]) p2 = some (.lst [v]) := upd_same
      generalize upd G2 p2 (.lst [v]) = G3 at t3 k2 ⊢
      have k1' := t3 _ _ (t2 _ _ k1)
      have tl : (qs.take at_).length ≤ 12 := by rw [List.length_take]; omega
      refine ⟨p1, p2, _, _, rfl, rfl, k1', k2, ?_, fun p3 hp3 => ?_⟩
      · rw [List.length_map]
        exact Nat.le_trans (by show _ + 1 ≤ 1000; omega) (by decide)
      have t4 := same_upd (o := .lst ((qs.take at_).map V.ref ++ [v])) (Same.refl _) hp3
      have k3 : upd G3 p3 (.lst ((qs.take at_).map V.ref ++ [v])) p3 = some (.lst ((qs.take at_).map V.ref ++ [v])) := upd_same
      generalize upd G3 p3 (.lst ((qs.take at_).map V.ref ++ [v])) = G4 at t4 k3 ⊢
      have t14 := ((t1.trans t2).trans t3).trans t4
      refine ⟨_, rfl, _, rfl, _, _, rfl, rfl, (at_ : Int) + 1, (by show V.int (w2 % (c / 4 % 13 + 1) + 1) = _; rw [hat']), l, _, rfl, SqL.of (t14 _ _ hn.at_), fun p4 hp4 => ?_⟩
      rw [cut_tl]
      have t5 := same_upd (o := .lst ((qs.drop (at_ + 1)).map V.ref)) (Same.refl _) hp4
      have k4 : upd G4 p4 (.lst ((qs.drop (at_ + 1)).map V.ref)) p4 = some (.lst ((qs.drop (at_ + 1)).map V.ref)) := upd_same
      generalize upd G4 p4 (.lst ((qs.drop (at_ + 1)).map V.ref)) = G5 at t5 k4 ⊢
      have dl : (qs.drop (at_ + 1)).length + at_ ≤ 12 := by rw [List.length_drop]; omega
      refine ⟨p3, p4, _, _, rfl, rfl, t5 _ _ k3, k4, ?_, fun p5 hp5 => ?_⟩
      · rw [List.length_append, List.length_map, List.length_map]
        exact Nat.le_trans (by show _ + 1 + _ ≤ 1000; omega) (by decide)
      have t6 := same_upd (o := .lst ((qs.take at_).map V.ref ++ [v] ++ (qs.drop (at_ + 1)).map V.ref)) (Same.refl _) hp5
      have k5 : upd G5 p5 (.lst ((qs.take at_).map V.ref ++ [v] ++ (qs.drop (at_ + 1)).map V.ref)) p5 = some (.lst ((qs.take at_).map V.ref ++ [v] ++ (qs.drop (at_ + 1)).map V.ref)) := upd_same
      generalize upd G5 p5 (.lst ((qs.take at_).map V.ref ++ [v] ++ (qs.drop (at_ + 1)).map V.ref)) = G6 at t6 k5 ⊢
      have t16 := (t14.trans t5).trans t6
      have bad : BadArg G6 (.ref p5) := bad_among (hn.f2.mono (isNt.same t16)) hn.ok ((((bv.same t3).same t4).same t5).same t6) k5 rfl (by rw [List.length_append, List.length_append, List.length_map, List.length_map, List.length_take]; show min at_ qs.length + 1 + _ ≤ 13; omega)
      have hS6 := t16.seq hS1
      have hl6 := t16 _ _ hn.at_
      have l13 : qs.length ≤ 13 := by omega
      refine ⟨_, rfl, rfl, _, rfl, ite2 (fun z0 => ?_) (fun z0 => ?_)⟩
      · refine ⟨_, rfl, a, xs, 13, rfl, hS6, by decide, fun G7 l2 qs2 ns2 t7 fl2 hn2 hn13 => ?_⟩
        have bad7 : BadArg G7 (.ref l2) := .long hn2.at_ (by rw [List.length_map, hn2.f2.len, hn13]; decide)
        refine ⟨_, rfl, rfl, _, rfl, ite2 (fun z1 => ⟨_, rfl, a, xs, 1, rfl, t7.seq hS6, by decide, by decide, fun c4 => ⟨_, rfl, c4, l, qs, rfl, t7 _ _ hl6, l13, fun G8 x t8 nl => ?_⟩⟩) (fun z1 => ?_)⟩
        · exact ⟨_, rfl, x, rfl, .inl ⟨BadArg.no nl, fun G9 p9 t9 h9 => ⟨(by show 2 ≤ sizeLine; decide), fun q hq => ⟨p9, q, 1, true, rfl, rfl, eq_no (same_upd (Same.refl _) hq _ _ h9) upd_same, by decide, k _⟩⟩⟩⟩
        · exact ⟨_, rfl, .ref l2, rfl, .inl ⟨bad7, fun G9 p9 t9 h9 => ⟨(by show 2 ≤ sizeLine; decide), fun q hq => ⟨p9, q, 1, true, rfl, rfl, eq_no (same_upd (Same.refl _) hq _ _ h9) upd_same, by decide, k _⟩⟩⟩⟩
      · refine ⟨_, rfl, rfl, _, rfl, ite2 (fun z1 => ⟨_, rfl, a, xs, 1, rfl, hS6, by decide, by decide, fun c4 => ⟨_, rfl, c4, l, qs, rfl, hl6, l13, fun G8 x t8 nl => ?_⟩⟩) (fun z1 => ?_)⟩
        · exact ⟨_, rfl, x, rfl, .inl ⟨BadArg.no nl, fun G9 p9 t9 h9 => ⟨(by show 2 ≤ sizeLine; decide), fun q hq => ⟨p9, q, 1, true, rfl, rfl, eq_no (same_upd (Same.refl _) hq _ _ h9) upd_same, by decide, k _⟩⟩⟩⟩
        · exact ⟨_, rfl, .ref p5, rfl, .inl ⟨bad, fun G9 p9 t9 h9 => ⟨(by show 2 ≤ sizeLine; decide), fun q hq => ⟨p9, q, 1, true, rfl, rfl, eq_no (same_upd (Same.refl _) hq _ _ h9) upd_same, by decide, k _⟩⟩⟩⟩
    · have hN : Nts H1 l qs ns := ⟨hn.at_, hn.f2, hn.ok, by omega⟩
      refine ⟨_, rfl, l, _, rfl, .inl (SqL.of hn.at_), fun p hp => ?_⟩
      have sb := same_upd (o := .lst (qs.map V.ref)) (Same.refl _) hp
      have kp : upd H1 p (.lst (qs.map V.ref)) p = some (.lst (qs.map V.ref)) := upd_same
      have hN2 := hN.same sb
      generalize upd H1 p (.lst (qs.map V.ref)) = H2 at sb kp hN2 ⊢
      have hp2 : Nts H2 p qs ns := ⟨kp, hN2.f2, hN2.ok, hN2.len⟩
      refine ⟨_, rfl, .ref p, rfl, .inr ⟨p, qs, ns, rfl, hp2, fun fe H3 pr t2 pl pp s3 hpr ht hpl hpp => ?_, fun x y h1 h2 v H3 pr f s3 hpr hf => ?_⟩⟩
      · refine ⟨pr, _, rfl, SqT.of hpr, rfl, _, _, rfl, _, _, rfl, rfl, ?_⟩
        have hN3 := hN2.same s3
        refine ⟨_, rfl, _, rfl, ne_nts (s3 _ _ kp) hN3 ⟨false, rfl, ifN rfl ?_⟩⟩
        refine ⟨_, rfl, (by show 2 ≤ sizeLine; decide), fun q2 hq2 => ?_⟩
        have s4 := same_upd (o := .lst [.str "too full", .str "told"]) (Same.refl _) hq2
        refine ⟨_, rfl, l, qs, ns, rfl, hN3.same s4, fun b hb => ?_⟩
        have hbt := hb.mpr fe
        subst hbt
        refine .inr ⟨true, rfl, q2, _, _, .str "told", rfl, rfl, SqL.of upd_same, atI_1, rfl, _, rfl, ifN (by simp) ?_⟩
        refine ⟨_, rfl, rfl, _, rfl, ifN (by decide +kernel) ?_⟩
        obtain ⟨ps0, e0, s0, al⟩ := id fe
        obtain ⟨w0, _, _, alw, _⟩ := leastP_best al
        have ok := (AL_ok alw).1
        have ipl : (pushP ns).length = m - 1 := by unfold pushP inner; simp [hnm]
        refine ⟨_, rfl, _, rfl, t2, pl, pp, _, _, m, (by show [V.ref t2, V.int (c / 4 % 13)] = _; rw [hm']), s4 _ _ ht, s4 _ _ hpl, s4 _ _ hpp, (by rw [alw.len, hnm]), ipl, fun H5 s5 => ⟨true, rfl, iteT ?_⟩⟩
        exact ⟨_, rfl, _, rfl, t2, _, 0, _, rfl, rfl, SqT.of (s5 _ _ (s4 _ _ ht)), atI_0, l, pl, qs, ns, leastP ns, rfl, (hN3.same s4).same s5, s5 _ _ (s4 _ _ hpl), alw.len, ok, k _⟩
      · refine ⟨pr, _, rfl, SqT.of hpr, rfl, _, _, rfl, _, _, rfl, rfl, ?_⟩
        have hN3 := hN2.same s3
        refine ⟨_, rfl, _, rfl, ne_nts (s3 _ _ kp) hN3 ⟨false, rfl, ifN rfl ?_⟩⟩
        refine ⟨_, rfl, (by show 2 ≤ sizeLine; decide), fun q2 hq2 => ?_⟩
        have s4 := same_upd (o := .lst [.str "too full", .str "told"]) (Same.refl _) hq2
        refine ⟨_, rfl, l, qs, ns, rfl, hN3.same s4, fun b hb => ?_⟩
        have hbf : b = false := by
          cases b with
          | false => rfl
          | true =>
            obtain ⟨ps0, e0, s0, al⟩ := hb.mp rfl
            have := roomy_of al x y h1 h2
            unfold viol at v
            omega
        subst hbf
        refine .inr ⟨false, rfl, q2, _, _, .str "too full", rfl, rfl, SqL.of upd_same, atI_0, rfl, _, rfl, ifN (by simp) ?_⟩
        exact ⟨_, rfl, rfl, _, rfl, ifP (by simp) ⟨_, rfl, _, rfl, l, f, qs, ns, x, y, rfl, hN3.same s4, s4 _ _ hf, h1, h2, v, fun H' _ => k H'⟩⟩
end
end S62

namespace S62
open PySem L2 XL
theorem walk {l : PySem.W.OpenLaw} {q : Program} {loose : List Str} {XP : (Str → Option Value) → Heap → Prop} {YP : World → Heap → Prop} {d : DefRec} {K : Params → PySem.W.Frag} (hn : l.most = some 63) (hdf : d.params.defaults = [])
    (hY : ∀ (w : World) (h : Heap), YP w h → (K w.params).In h)
    (F : ∀ (w : World) (mg : Str → Option Value) (fa : Addr) (h : Heap), (K w.params).In h → h.Ns mainGlobals mg → mg d.name = some (.ref fa) →
      ∃ fd : FuncData, (∀ (s : Shared) (u : Value), BindsTo s fd ⟨[u], []⟩ [("_law_script", u)]) ∧ ∀ base : Heap, (K w.params).In base → base.Ns mainGlobals mg → FnOk true l.prog w (K w.params) mg base (CXo l.prog w) 6 fa fd ["_law_script"] (spLaw (K w.params))) :
    PySem.W.WalkO q loose XP YP l.row.toRowW d [] (fun f vs => PySem.call f vs) :=
  L2.walk_of (q0 := true) (n := 63) (k := 6) (x := "_law_script") (CX := fun w => CXo l.prog w) (sp := fun w => spLaw (K w.params)) hn (by decide) hdf ⟨fun _ => rfl, by decide, by decide⟩ hY F (fun _ _ a ns hl _ hS => ⟨a, ns, rfl, hS, hl, fun _ => rfl⟩)
    fun w H s e s' z => by obtain ⟨_, _, _, _, _, _, _, _, _, _, _, _, _, _, q⟩ := z; exact q
theorem all_mk {l : PySem.W.OpenLaw} {w : World} {K : PySem.W.Frag} {h : Heap} {mg : Str → Option Value} {fa : Addr} (hfa : mg "law" = some (.ref fa)) (TT : ∃ t, Txt w K mg t) :
    ∃ fd : FuncData, (∀ (s : Shared) (v : Value), BindsTo s fd ⟨[v], []⟩ [("_law_script", v)]) ∧ ∀ base : Heap, K.In base → base.Ns mainGlobals mg → FnOk true l.prog w K mg base (CXo l.prog w) 6 fa fd ["_law_script"] (spLaw K) := by
  obtain ⟨t, T⟩ := TT
  have e := hfa.symm.trans T.g_law
  cases e
  refine ⟨t.d_law, fun s v => ?_, fun base _ _ => ok_law T⟩
  obtain ⟨oc, od, kV, doc, pm, an, cdv, ct, osl, e, lk, hcd⟩ := T.F_law.ex
  rw [e]
  exact .of_eq rfl
end S62
open PySem PySem.W PyProof.Rows
set_option maxRecDepth 100000 in
set_option maxHeartbeats 0 in
theorem PySem.Challenge.cw_rimnotes_k62_no_notes_and_no_room_holds : PySem.Challenge.rw_rimnotes_k62_no_notes_and_no_room.Holds := by
  w_on; o_law; k_head; (case hw => w_witness2)
  k_fill
  refine S62.walk (l := PySem.Challenge.rw_rimnotes_k62_no_notes_and_no_room) rfl rfl (fun w h Y => PySem.W.kIn_of Y) ?F
  case F =>
    intro w mg fa h KX G hmg
    refine S62.all_mk (h := h) hmg ?TT
    refine' S62.txt_mk (w := w) KX G ?g_RimError ?g_NoNotes ?g_TooFull ?a_TooFull_init ?l_TooFull_init ?c_TooFull_init ?k_TooFull_init ?i_TooFull_init ?a_is_whole ?l_is_whole ?c_is_whole ?k_is_whole ?i_is_whole ?a_spread ?l_spread ?c_spread ?k_spread ?i_spread ?a_are_notes ?l_are_notes ?c_are_notes ?k_are_notes ?i_are_notes ?a_is_note ?l_is_note ?c_is_note ?k_is_note ?i_is_note ?a_check_room ?l_check_room ?c_check_room ?k_check_room ?i_check_room ?a_least_places ?l_least_places ?c_least_places ?k_least_places ?i_least_places ?a_ways_with ?l_ways_with ?c_ways_with ?k_ways_with ?i_ways_with ?a_least_rise ?l_least_rise ?c_least_rise ?k_least_rise ?i_least_rise ?a_most_rise ?l_most_rise ?c_most_rise ?k_most_rise ?i_most_rise ?a_least_pushes ?l_least_pushes ?c_least_pushes ?k_least_pushes ?i_least_pushes ?a_law_cell ?l_law_cell ?c_law_cell ?k_law_cell ?i_law_cell ?a_law_mix ?l_law_mix ?c_law_mix ?k_law_mix ?i_law_mix ?a_law_whole ?l_law_whole ?c_law_whole ?k_law_whole ?i_law_whole ?a_law_allowed ?l_law_allowed ?c_law_allowed ?k_law_allowed ?i_law_allowed ?a_law_wholes ?l_law_wholes ?c_law_wholes ?k_law_wholes ?i_law_wholes ?a_law_told ?l_law_told ?c_law_told ?k_law_told ?i_law_told ?a_law_any ?l_law_any ?c_law_any ?k_law_any ?i_law_any ?a_law_bad ?l_law_bad ?c_law_bad ?k_law_bad ?i_law_bad ?a_law_no_list ?l_law_no_list ?c_law_no_list ?k_law_no_list ?i_law_no_list ?a_law_has_room ?l_law_has_room ?c_law_has_room ?k_law_has_room ?i_law_has_room ?a_law_asked ?l_law_asked ?c_law_asked ?k_law_asked ?i_law_asked ?a_law_stretch ?l_law_stretch ?c_law_stretch ?k_law_stretch ?i_law_stretch ?a_law ?l_law ?c_law ?k_law ?i_law ?kc_RimError ?ov_RimError ?hd_RimError ?sa_RimError ?ga_RimError ?gh_RimError ?ca_RimError ?mk_RimError ?kc_NoNotes ?ov_NoNotes ?hd_NoNotes ?sa_NoNotes ?ga_NoNotes ?gh_NoNotes ?ca_NoNotes ?mk_NoNotes ?kc_TooFull ?ov_TooFull ?hd_TooFull ?sa_TooFull ?ga_TooFull ?gh_TooFull ?ca_TooFull ?mk_TooFull ?cg ?ct ?n_TooFull_first ?n_TooFull_last ?n_abs ?n_all ?n_bool ?n_int ?n_isinstance ?n_len ?n_list ?n_max ?n_range ?n_sum ?n_tuple ?ns_NoNotes ?ns_k_NoNotes ?kit_NoNotes_RimError ?mro_NN ?mro_TN ?mro_TT ?v_FARTHEST ?v_MOST_HEIGHT ?v_MOST_NOTES
    (case g_RimError => k_is)
    (case g_NoNotes => k_is)
    (case g_TooFull => k_is)
    (case a_TooFull_init => k_is)
    (case l_TooFull_init => k_is)
    (case c_TooFull_init => k_is)
    (case k_TooFull_init => k_is)
    (case i_TooFull_init => k_is)
    (case a_is_whole => k_is)
    (case l_is_whole => k_is)
    (case c_is_whole => k_is)
    (case k_is_whole => k_is)
    (case i_is_whole => k_is)
    (case a_spread => k_is)
    (case l_spread => k_is)
    (case c_spread => k_is)
    (case k_spread => k_is)
    (case i_spread => k_is)
    (case a_are_notes => k_is)
    (case l_are_notes => k_is)
    (case c_are_notes => k_is)
    (case k_are_notes => k_is)
    (case i_are_notes => k_is)
    (case a_is_note => k_is)
    (case l_is_note => k_is)
    (case c_is_note => k_is)
    (case k_is_note => k_is)
    (case i_is_note => k_is)
    (case a_check_room => k_is)
    (case l_check_room => k_is)
    (case c_check_room => k_is)
    (case k_check_room => k_is)
    (case i_check_room => k_is)
    (case a_least_places => k_is)
    (case l_least_places => k_is)
    (case c_least_places => k_is)
    (case k_least_places => k_is)
    (case i_least_places => k_is)
    (case a_ways_with => k_is)
    (case l_ways_with => k_is)
    (case c_ways_with => k_is)
    (case k_ways_with => k_is)
    (case i_ways_with => k_is)
    (case a_least_rise => k_is)
    (case l_least_rise => k_is)
    (case c_least_rise => k_is)
    (case k_least_rise => k_is)
    (case i_least_rise => k_is)
    (case a_most_rise => k_is)
    (case l_most_rise => k_is)
    (case c_most_rise => k_is)
    (case k_most_rise => k_is)
    (case i_most_rise => k_is)
    (case a_least_pushes => k_is)
    (case l_least_pushes => k_is)
    (case c_least_pushes => k_is)
    (case k_least_pushes => k_is)
    (case i_least_pushes => k_is)
    (case a_law_cell => k_is)
    (case l_law_cell => k_is)
    (case c_law_cell => k_is)
    (case k_law_cell => k_is)
    (case i_law_cell => k_is)
    (case a_law_mix => k_is)
    (case l_law_mix => k_is)
    (case c_law_mix => k_is)
    (case k_law_mix => k_is)
    (case i_law_mix => k_is)
    (case a_law_whole => k_is)
    (case l_law_whole => k_is)
    (case c_law_whole => k_is)
    (case k_law_whole => k_is)
    (case i_law_whole => k_is)
    (case a_law_allowed => k_is)
    (case l_law_allowed => k_is)
    (case c_law_allowed => k_is)
    (case k_law_allowed => k_is)
    (case i_law_allowed => k_is)
    (case a_law_wholes => k_is)
    (case l_law_wholes => k_is)
    (case c_law_wholes => k_is)
    (case k_law_wholes => k_is)
    (case i_law_wholes => k_is)
    (case a_law_told => k_is)
    (case l_law_told => k_is)
    (case c_law_told => k_is)
    (case k_law_told => k_is)
    (case i_law_told => k_is)
    (case a_law_any => k_is)
    (case l_law_any => k_is)
    (case c_law_any => k_is)
    (case k_law_any => k_is)
    (case i_law_any => k_is)
    (case a_law_bad => k_is)
    (case l_law_bad => k_is)
    (case c_law_bad => k_is)
    (case k_law_bad => k_is)
    (case i_law_bad => k_is)
    (case a_law_no_list => k_is)
    (case l_law_no_list => k_is)
    (case c_law_no_list => k_is)
    (case k_law_no_list => k_is)
    (case i_law_no_list => k_is)
    (case a_law_has_room => k_is)
    (case l_law_has_room => k_is)
    (case c_law_has_room => k_is)
    (case k_law_has_room => k_is)
    (case i_law_has_room => k_is)
    (case a_law_asked => k_is)
    (case l_law_asked => k_is)
    (case c_law_asked => k_is)
    (case k_law_asked => k_is)
    (case i_law_asked => k_is)
    (case a_law_stretch => k_is)
    (case l_law_stretch => k_is)
    (case c_law_stretch => k_is)
    (case k_law_stretch => k_is)
    (case i_law_stretch => k_is)
    (case a_law => k_is)
    (case l_law => k_is)
    (case c_law => k_is)
    (case k_law => k_is)
    (case i_law => k_is)
    (case kc_RimError => k_is)
    (case ov_RimError => kernel_rfl)
    (case hd_RimError => k_is)
    (case sa_RimError => k_is)
    (case ga_RimError => k_is)
    (case gh_RimError => k_is)
    (case ca_RimError => k_is)
    (case mk_RimError => first | k_is | kernel_rfl)
    (case kc_NoNotes => k_is)
    (case ov_NoNotes => kernel_rfl)
    (case hd_NoNotes => k_is)
    (case sa_NoNotes => k_is)
    (case ga_NoNotes => k_is)
    (case gh_NoNotes => k_is)
    (case ca_NoNotes => k_is)
    (case mk_NoNotes => first | k_is | kernel_rfl)
    (case kc_TooFull => k_is)
    (case ov_TooFull => kernel_rfl)
    (case hd_TooFull => k_is)
    (case sa_TooFull => k_is)
    (case ga_TooFull => k_is)
    (case gh_TooFull => k_is)
    (case ca_TooFull => k_is)
    (case mk_TooFull => first | k_is | kernel_rfl)
    (case cg => k_is)
    (case ct => k_is)
    (case n_TooFull_first => k_is)
    (case n_TooFull_last => k_is)
    (case n_abs => k_is)
    (case n_all => k_is)
    (case n_bool => k_is)
    (case n_int => k_is)
    (case n_isinstance => k_is)
    (case n_len => k_is)
    (case n_list => k_is)
    (case n_max => k_is)
    (case n_range => k_is)
    (case n_sum => k_is)
    (case n_tuple => k_is)
    (case ns_NoNotes => kernel_rfl)
    (case ns_k_NoNotes => kernel_rfl)
    (case kit_NoNotes_RimError => kernel_rfl)
    (case mro_NN => k_is)
    (case mro_TN => k_is)
    (case mro_TT => k_is)
    (case v_FARTHEST => k_is)
    (case v_MOST_HEIGHT => k_is)
    (case v_MOST_NOTES => k_is)
