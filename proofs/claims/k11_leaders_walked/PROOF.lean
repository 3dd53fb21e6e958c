import PyProof.Rows.All
import Wide.All
import OpenK.AllK
import Wide.FinOn
import Lean
import PyProof.EqAt
import PyProof.EqKinds
import PyProof.TupleCall
import PyProof.StationsW
import PyProof.ExcClass2
import PyProof.RulesAs
import PyProof.ExcBaseAll.ValueError
import OpenK.KDescr
import OpenK.KWalk
import PyProof.ExcAttrAll.ValueError
import PyProof.Comp
import PyProof.ListRange
import PyProof.DictItems
import KE.KPairComp
import KE.KDictOf
import PyProof.AttrMissHeap
import PyProof.Rows.Range3
import KE.KRevIter
import PyProof.ZipIter
import OpenK.KEqL
import PyProof.AutoListH
import PyProof.EnumMake
import PyProof.WalksEnum
import PyProof.NeKinds
import PyProof.MaxThree
import PySem.Challenge.RW_rimnotes_k11_leaders_walked
set_option Elab.async false
set_option linter.all false
set_option maxRecDepth 100000
set_option maxHeartbeats 4000000
set_option maxRecDepth 100000
/-! THE HAND LAYER, for ints, bools, texts, own classes, LISTS and tuples (index, slices, in, append, pop ..), calls, loops. Paste it whole ahead of your own text; what your proof does not reach may be deleted. -/
namespace L2
open PySem PySem.Spec PyProof.Rows
variable {q0 : Bool}

/-- a key: an int or a str -/
abbrev Key := Sum Int Str
def keyIs : Key → Value → Bool
  | .inl k, v => Value.isInt k v
  | .inr x, v => Value.isStrOf x v
def keyH (w : World) : Key → Int
  | .inl k => hashInt k
  | .inr x => hashStr w x
theorem keyIs_shape : ∀ {k : Key} {v : Value}, keyIs k v = true → (∃ i t, k = Sum.inl i ∧ v = Value.int i t) ∨ (∃ x t, k = Sum.inr x ∧ v = Value.str x t)
  | .inl i, v, h => by
    obtain ⟨t, e⟩ := Value.isInt_shape (k := i) (v := v) h
    exact .inl ⟨i, t, rfl, e⟩
  | .inr x, v, h => by
    obtain ⟨t, e⟩ := Value.isStrOf_shape (x := x) (v := v) h
    exact .inr ⟨x, t, rfl, e⟩
theorem keyIs_int (i : Int) (t : Tok) : keyIs (.inl i) (.int i t) = true := by simp [keyIs, Value.isInt]
theorem keyIs_str (x : Str) (t : Tok) : keyIs (.inr x) (.str x t) = true := by simp [keyIs, Value.isStrOf]
theorem key_ll (a b : Int) : decide ((Sum.inl a : Key) = Sum.inl b) = (a == b) := by
  by_cases e : a = b
  · subst e; simp
  · have h : ¬ (Sum.inl a : Key) = Sum.inl b := fun q => e (Sum.inl.inj q)
    rw [decide_eq_false h]
    exact (beq_eq_false_iff_ne.mpr e).symm
theorem key_rr (a b : Str) : decide ((Sum.inr a : Key) = Sum.inr b) = decide (a = b) := by
  by_cases e : a = b
  · subst e; simp
  · have h : ¬ (Sum.inr a : Key) = Sum.inr b := fun q => e (Sum.inr.inj q)
    rw [decide_eq_false h, decide_eq_false e]
theorem key_lr (a : Int) (b : Str) : decide ((Sum.inl a : Key) = Sum.inr b) = false := decide_eq_false (fun q => nomatch q)
theorem key_rl (a : Str) (b : Int) : decide ((Sum.inr a : Key) = Sum.inl b) = false := decide_eq_false (fun q => nomatch q)

def mixKind (prog : Program) (w : World) : PySem.KeyKind prog w Key where
  is := keyIs
  hash := keyH w
  inj := fun v a b ha hb => by
    rcases keyIs_shape ha with ⟨i, t, rfl, rfl⟩ | ⟨x, t, rfl, rfl⟩
    · rcases keyIs_shape hb with ⟨j, u, rfl, e⟩ | ⟨y, u, rfl, e⟩
      · injection e with e1 _; rw [e1]
      · exact nomatch e
    · rcases keyIs_shape hb with ⟨j, u, rfl, e⟩ | ⟨y, u, rfl, e⟩
      · exact nomatch e
      · injection e with e1 _; rw [e1]
  byValue := fun k v h => by
    rcases keyIs_shape h with ⟨i, t, rfl, rfl⟩ | ⟨x, t, rfl, rfl⟩ <;> rfl
  pyHash := fun hv h => by
    rcases keyIs_shape hv with ⟨i, t, rfl, rfl⟩ | ⟨x, t, rfl, rfl⟩
    · exact wpAny_pyHash_int h
    · exact wpAny_pyHash_str h
  eqBool := fun hu hv h => by
    rcases keyIs_shape hu with ⟨i, t, rfl, rfl⟩ | ⟨x, t, rfl, rfl⟩
    · rcases keyIs_shape hv with ⟨j, u, rfl, rfl⟩ | ⟨y, u, rfl, rfl⟩
      · rw [key_ll] at h; exact wpAny_eqBool_int h
      · rw [key_lr] at h; exact SeqAt.EqAt.int_str i t y u _ _ _ _ h
    · rcases keyIs_shape hv with ⟨j, u, rfl, rfl⟩ | ⟨y, u, rfl, rfl⟩
      · rw [key_rl] at h; exact SeqAt.EqAt.str_int x t j u _ _ _ _ h
      · rw [key_rr] at h; exact wpAny_eqBool_str h
  «strs» := fun k x t v h => by
    rcases keyIs_shape h with ⟨i, u, rfl, e⟩ | ⟨y, u, rfl, e⟩
    · exact nomatch e
    · injection e with e1 _
      subst e1
      cases v <;> rfl

theorem mixKind_int (prog : Program) (w : World) (i : Int) (t : Tok) : (mixKind prog w).is (.inl i) (.int i t) = true := keyIs_int i t
theorem mixKind_str (prog : Program) (w : World) (x : Str) (t : Tok) : (mixKind prog w).is (.inr x) (.str x t) = true := keyIs_str x t
end L2

namespace L2
open PySem PySem.Spec PyProof.Rows
variable {q0 : Bool}

/-- a value, without the heap -/
inductive V where
  | non | bl (b : Bool) | int (i : Int) | str (x : Str) | byt (b : Array UInt8) | flt (b : UInt64) | ref (a : Addr) | ty (n : String)
  deriving DecidableEq

def RelV : V → Value → Prop
  | .non, u => u = Value.none
  | .bl b, u => u = Value.bool b
  | .int i, u => ∃ t, u = Value.int i t
  | .str x, u => ∃ t, u = Value.str x t
  | .byt b, u => ∃ t, u = Value.bytes b t
  | .flt b, u => ∃ t, u = Value.float b t
  | .ref a, u => u = Value.ref a
  | .ty n, u => u = Value.type n

abbrev Vals : List V → List Value → Prop := Paired RelV
theorem Vals.length {xs : List V} {us : List Value} (r : Vals xs us) : xs.length = us.length := Paired.length r
theorem Vals.get : ∀ {xs : List V} {us : List Value} {i : Nat} {x : V}, Vals xs us → xs[i]? = some x → ∃ u, us[i]? = some u ∧ RelV x u
  | _, _, _, _, .nil, e => by simp at e
  | _, _, 0, _, .cons r _, e => by simp at e; subst e; exact ⟨_, rfl, r⟩
  | _, _, i + 1, x, .cons _ t, e => by
    obtain ⟨u, h1, h2⟩ := Vals.get (i := i) (x := x) t (by simpa using e)
    exact ⟨u, by simpa using h1, h2⟩
theorem Vals.set {x : V} {u : Value} (r : RelV x u) : ∀ {xs : List V} {us : List Value} (i : Nat), Vals xs us → Vals (xs.set i x) (us.set i u)
  | _, _, _, .nil => .nil
  | _, _, 0, .cons _ t => .cons r t
  | _, _, i + 1, .cons q t => .cons q (Vals.set r i t)
theorem Vals.append : ∀ {xs ys : List V} {us ws : List Value}, Vals xs us → Vals ys ws → Vals (xs ++ ys) (us ++ ws)
  | _, _, _, _, .nil, s => s
  | _, _, _, _, .cons r t, s => .cons r (Vals.append t s)
theorem Vals.take : ∀ {xs : List V} {us : List Value} (n : Nat), Vals xs us → Vals (xs.take n) (us.take n)
  | _, _, 0, _ => .nil
  | _, _, _ + 1, .nil => .nil
  | _, _, n + 1, .cons r t => .cons r (Vals.take n t)
theorem Vals.drop : ∀ {xs : List V} {us : List Value} (n : Nat), Vals xs us → Vals (xs.drop n) (us.drop n)
  | _, _, 0, r => r
  | _, _, _ + 1, .nil => .nil
  | _, _, n + 1, .cons _ t => Vals.drop n t
theorem Vals.none_of : ∀ {xs : List V} {us : List Value} {i : Nat}, Vals xs us → xs[i]? = none → us[i]? = none := fun {xs us i} r e => by
  have h1 := r.length
  have h2 : xs.length ≤ i := List.getElem?_eq_none_iff.mp e
  exact List.getElem?_eq_none_iff.mpr (by omega)

def RelO : Option V → Option Value → Prop
  | some v, some u => RelV v u
  | none, none => True
  | _, _ => False
def KV {κ : Type} : List (κ × V) → List (κ × Value) → Prop := Paired fun (p : κ × V) (q : κ × Value) => p.1 = q.1 ∧ RelV p.2 q.2

/-- a key of a dict (00_mix): an int or a text -/
def kV : Key → V
  | .inl i => .int i
  | .inr x => .str x

/-- what stands at a tracked address -/
inductive HO where
  /-- a list -/
  | lst (xs : List V)
  /-- a tuple (never changes) -/
  | tup (xs : List V)
  /-- a dict whose keys are ints and texts; one whose keys are tuples of ints and texts (the empty one is both) -/
  | dK (kvs : List (Key × V)) | dT (kvs : List (List Key × V))
  /-- a set of ints: its members, its size -/
  | set (S : Int → Bool) (n : Nat)
  /-- an instance of the class at C, its dict at dx, its attributes -/
  | ins (C dx : Addr) (fs : List (Str × V))
  /-- the dict of the instance at x -/
  | own (x : Addr)
  /-- the dict of an exception -/
  | xd (fs : List (Str × V))
  /-- a bound method, f of x -/
  | met (f x : Addr)
  /-- a range object lo, lo + 1, .. below hi -/
  | rng (lo hi : Int)
  /-- a thing that is known to the object (the script; a dict while a loop walks it): read, never written while it is so -/
  | frz (o : Obj) (u : HO)
  /-- a code object's table -/
  | tbl (ps : Array Value)
  /-- any other thing, by what is true of its one object (a def of one's own: SetO a S n := HO.ext fun h => ..) -/
  | ext (φ : Heap → Prop)

abbrev Hp := Addr → Option HO
def upd (H : Hp) (a : Addr) (o : HO) : Hp := fun b => if b = a then some o else H b
theorem upd_same {H : Hp} {a : Addr} {o : HO} : upd H a o a = some o := by unfold upd; rw [if_pos rfl]
theorem upd_ne {H : Hp} {a b : Addr} {o : HO} (h : b ≠ a) : upd H a o b = H b := by unfold upd; rw [if_neg h]
theorem upd_upd {H : Hp} {a : Addr} {o u : HO} : upd (upd H a o) a u = upd H a u := by
  funext b; unfold upd; split <;> rfl
/-- two objects of different content stand apart -/
theorem ne_of {H : Hp} {a b : Addr} {o u : HO} (h : H a = some o) (h' : H b = some u) (d : o ≠ u) : a ≠ b := by
  intro e; subst e; rw [h] at h'; exact d (Option.some.inj h')
theorem ne_of_none {H : Hp} {a b : Addr} {o : HO} (h : H a = some o) (h' : H b = none) : a ≠ b := by
  intro e; subst e; rw [h] at h'; cases h'

section
variable (P : Program) (w : World)
def ObjOk (H : Hp) (h : Heap) (a : Addr) : HO → Prop
  | .lst xs => xs.length ≤ sizeLine ∧ ∃ (its : List Value) (n : Nat), Vals xs its ∧ h.get? a = some { cls := .type "list", data := .seq its.toArray n }
  | .tup xs => xs.length ≤ sizeLine ∧ ∃ its : List Value, Vals xs its ∧ IsTup h a its.toArray
  | .dK kvs => kvs.length ≤ sizeLine ∧ (a == sysModules) = false ∧ ∃ vs, KV kvs vs ∧ h.DictOf (mixKind P w) a vs
  | .dT kvs => kvs.length ≤ sizeLine ∧ (a == sysModules) = false ∧ ∃ xs : List (List Key × Addr × Value),
      Paired (fun (p : List Key × V) (q : List Key × Addr × Value) => p.1 = q.1 ∧ H q.2.1 = some (.tup (p.1.map kV)) ∧ RelV p.2 q.2.2) kvs xs ∧
      ∃ o es ep, h.get? a = some o ∧ o.ExactDict ∧ o.data = .dict es ep ∧ es.toList = xs.map (entryOfKey (tupleKind (mixKind P w))) ∧ (xs.map (·.1)).Nodup
  | .set S n => h.SetOf (intKind P w) a S n
  | .ins C dx fs => H dx = some (.own a) ∧ fs.length ≤ 1000 ∧ dx ≠ a ∧ h.get? a = some (PySem.W.instObj C dx) ∧
      ∃ mA, h.Ns1 dx mA ∧ (∀ f, RelO (fs.lookup f) (mA f)) ∧ PySem.Within mA (fs.map (·.1))
  | .own _ => ∃ o, h.get? a = some o
  | .xd fs => ∃ mA, h.Ns1 a mA ∧ ∀ f, RelO (fs.lookup f) (mA f)
  | .rng lo hi => ∃ t u v, h.get? a = some { cls := .type "range", data := .fields #[.int lo t, .int hi u, .int 1 v] }
  | .frz o u => h.get? a = some o ∧ ObjOk H h a u
  | .tbl ps => h.get? a = some { cls := .none, data := .fields ps }
  | .met f x => h.get? a = some (PySem.W.methodObj (.ref f) (.ref x))
  | .ext φ => φ h ∧ (∃ o, h.get? a = some o) ∧ ∀ h1 h2 : Heap, φ h1 → (∀ o, h1.get? a = some o → h2.get? a = some o) → φ h2
/-- the abstract heap is held -/
def HOk (H : Hp) (h : Heap) : Prop := ∀ a o, H a = some o → ObjOk P w H h a o
end

section
variable {P : Program} {w : World} {H H' : Hp} {h h' : Heap} {a : Addr} {o : HO}
theorem ObjOk.lt (x : ObjOk P w H h a o) : a < h.objs.size := by
  cases o with
  | lst xs => obtain ⟨_, _, _, _, e⟩ := x; exact Heap.lt_size e
  | tup xs => obtain ⟨_, _, _, p⟩ := x; exact p.lt
  | dK kvs => obtain ⟨_, _, _, _, o, _, _, e, _⟩ := x; exact Heap.lt_size e
  | dT kvs => obtain ⟨_, _, _, _, o, _, _, e, _⟩ := x; exact Heap.lt_size e
  | set S n => obtain ⟨o, _, _, _, e, _⟩ := x; exact Heap.lt_size e
  | ins C dx fs => obtain ⟨_, _, _, e, _⟩ := x; exact Heap.lt_size e
  | own y => obtain ⟨_, e⟩ := x; exact Heap.lt_size e
  | xd fs => obtain ⟨_, ⟨_, _, _, e, _⟩, _⟩ := x; exact Heap.lt_size e
  | rng lo hi => obtain ⟨_, _, _, e⟩ := x; exact Heap.lt_size e
  | frz ob u => obtain ⟨e, _⟩ := x; exact Heap.lt_size e
  | tbl ps => exact Heap.lt_size (show h.get? a = some _ from x)
  | met f y => exact Heap.lt_size (show h.get? a = some _ from x)
  | ext φ => obtain ⟨_, ⟨_, e⟩, _⟩ := x; exact Heap.lt_size e
theorem Paired.mapP {α β : Type} {F G : α → β → Prop} : ∀ {l₁ : List α} {l₂ : List β}, Paired F l₁ l₂ → (∀ a b, F a b → G a b) → Paired G l₁ l₂
  | _, _, .nil, _ => .nil
  | _, _, .cons r t, f => .cons (f _ _ r) (Paired.mapP t f)
/-- what an object's description leans on: its own object, its own dict, the tuples -/
theorem ObjOk.stay (x : ObjOk P w H h a o) (k : ∀ b u, (b = a ∨ H b = some (.own a)) → h.get? b = some u → h'.get? b = some u)
    (ho : ∀ b, H b = some (.own a) → H' b = some (.own a)) (ht : ∀ b xs, H b = some (.tup xs) → H' b = some (.tup xs)) : ObjOk P w H' h' a o := by
  induction o with
  | lst xs => obtain ⟨z, its, n, r, e⟩ := x; exact ⟨z, its, n, r, k _ _ (.inl rfl) e⟩
  | tup xs => obtain ⟨z, its, r, ob, e, c⟩ := x; exact ⟨z, its, r, ob, k _ _ (.inl rfl) e, c⟩
  | dK kvs => obtain ⟨z, y, vs, r, ob, es, ep, e, c⟩ := x; exact ⟨z, y, vs, r, ob, es, ep, k _ _ (.inl rfl) e, c⟩
  | dT kvs =>
    obtain ⟨z, y, xs, r, ob, es, ep, e, c⟩ := x
    exact ⟨z, y, xs, Paired.mapP r fun p q z => ⟨z.1, ht _ _ z.2.1, z.2.2⟩, ob, es, ep, k _ _ (.inl rfl) e, c⟩
  | set S n => obtain ⟨ob, es, ep, t, e, c⟩ := x; exact ⟨ob, es, ep, t, k _ _ (.inl rfl) e, c⟩
  | ins C dx fs =>
    obtain ⟨d, z, ne, e, mA, ⟨od, es, ep, e2, c⟩, r⟩ := x
    exact ⟨ho _ d, z, ne, k _ _ (.inl rfl) e, mA, ⟨od, es, ep, k _ _ (.inr d) e2, c⟩, r⟩
  | own y => obtain ⟨ob, e⟩ := x; exact ⟨ob, k _ _ (.inl rfl) e⟩
  | xd fs => obtain ⟨mA, ⟨od, es, ep, e, c⟩, r⟩ := x; exact ⟨mA, ⟨od, es, ep, k _ _ (.inl rfl) e, c⟩, r⟩
  | rng lo hi => obtain ⟨t, u, v, e⟩ := x; exact ⟨t, u, v, k _ _ (.inl rfl) e⟩
  | frz ob u ih => obtain ⟨e, q⟩ := x; exact ⟨k _ _ (.inl rfl) e, ih q⟩
  | tbl ps =>
    have e : h.get? a = some { cls := .none, data := .fields ps } := x
    show h'.get? a = some { cls := .none, data := .fields ps }
    exact k a _ (.inl rfl) e
  | met f y =>
    have e : h.get? a = some (PySem.W.methodObj (.ref f) (.ref y)) := x
    show h'.get? a = some (PySem.W.methodObj (.ref f) (.ref y))
    exact k a _ (.inl rfl) e
  | ext φ => obtain ⟨p, ⟨o, e⟩, st⟩ := x; exact ⟨st _ _ p fun o q => k _ _ (.inl rfl) q, ⟨o, k _ _ (.inl rfl) e⟩, st⟩
theorem HOk.lt (x : HOk P w H h) (e : H a = some o) : a < h.objs.size := (x a o e).lt
theorem HOk.fresh (x : HOk P w H h) (e : h.objs.size ≤ a) : H a = none := by
  cases q : H a with
  | none => rfl
  | some u => exact absurd (Nat.lt_of_lt_of_le (x.lt q) e) (Nat.lt_irrefl _)
/-- every object of the heap is kept -/
theorem HOk.kept (x : HOk P w H h) (k : ∀ b u, h.get? b = some u → h'.get? b = some u) : HOk P w H h' := fun a o e =>
  (x a o e).stay (fun b u _ q => k b u q) (fun _ q => q) fun _ _ q => q
/-- a new object is laid and tracked -/
theorem HOk.laid (x : HOk P w H h) (k : ∀ b u, h.get? b = some u → h'.get? b = some u) (hp : h.objs.size ≤ a) (new : ObjOk P w (upd H a o) h' a o) : HOk P w (upd H a o) h' := fun b u e => by
  have hn := x.fresh hp
  by_cases hb : b = a
  · subst hb; rw [upd_same] at e; cases e; exact new
  · rw [upd_ne hb] at e
    exact (x b u e).stay (fun c v _ q => k c v q) (fun c q => by rw [upd_ne (ne_of_none q hn)]; exact q) fun c xs q => by rw [upd_ne (ne_of_none q hn)]; exact q
end

/-- what may be read as u: it is u, or a known u -/
def Rd (H : Hp) (a : Addr) (u : HO) : Prop := H a = some u ∨ ∃ o, H a = some (.frz o u)
theorem Rd.of {H : Hp} {a : Addr} {u : HO} (h : H a = some u) : Rd H a u := .inl h
theorem Rd.ok {P : Program} {w : World} {H : Hp} {h : Heap} {a : Addr} {u : HO} (r : Rd H a u) (x : HOk P w H h) : ObjOk P w H h a u := by
  rcases r with r | ⟨o, r⟩
  · exact x a u r
  · obtain ⟨_, q⟩ := x a _ r
    exact q
/-- what may be written -/
def Mut : Option HO → Prop
  | some (.lst _) => True
  | some (.dK _) => True
  | some (.dT _) => True
  | some (.set _ _) => True
  | some (.ins _ _ _) => True
  | some (.ext _) => True
  | _ => False
section
variable {P : Program} {w : World} {H : Hp} {h h' : Heap} {x e : Addr} {o' : HO}
/-- the object at e is changed: x itself, or the dict of the instance x -/
theorem HOk.write (ok : HOk P w H h) (mu : Mut (H x)) (he : e = x ∨ H e = some (.own x)) (k : ∀ b u, b ≠ e → h.get? b = some u → h'.get? b = some u) (heo : ∃ u, h'.get? e = some u)
    (new : ObjOk P w (upd H x o') h' x o') : HOk P w (upd H x o') h' := fun b u q => by
  have nown : ∀ c y, H c = some (.own y) → c ≠ x := fun c y r z => by subst z; rw [r] at mu; exact mu
  have ntup : ∀ c xs, H c = some (.tup xs) → c ≠ x := fun c xs r z => by subst z; rw [r] at mu; exact mu
  by_cases hb : b = x
  · subst hb; rw [upd_same] at q; cases q; exact new
  · rw [upd_ne hb] at q
    by_cases hbe : b = e
    · have q' : H b = some (.own x) := by
        rcases he with z | z
        · exact absurd (hbe.trans z) hb
        · rw [hbe]; exact z
      rw [q] at q'; cases q'
      obtain ⟨v, hv⟩ := heo
      exact ⟨v, by rw [hbe]; exact hv⟩
    · refine (ok b u q).stay (fun c v hc r => k c v ?_ r) (fun c r => by rw [upd_ne (nown c b r)]; exact r) fun c xs r => by rw [upd_ne (ntup c xs r)]; exact r
      rcases hc with rfl | hc
      · exact hbe
      · rintro rfl
        rcases he with z | z
        · exact nown c b hc z
        · rw [hc] at z; cases z; exact hb rfl
end

/-! ### kept unless tracked; of the frames at fs (the callers') the slots may change (an exception that passes writes there); of the records at ex (iterators) nothing is said -/
structure Un (fs ex : List Addr) (H H' : Hp) (h h' : Heap) : Prop where
  keep : ∀ b o, h.get? b = some o → H b = none → b ∉ fs → b ∉ ex → h'.get? b = some o
  slot : ∀ b o, h.get? b = some o → H b = none → b ∈ fs → b ∉ ex → ∃ sl, h'.get? b = some { o with slots := sl }
  free : ∀ b o, h.get? b = some o → H b = none → b ∉ ex → H' b = none
  there : ∀ b o, h.get? b = some o → b ∉ ex → ∃ o', h'.get? b = some o'
  tups : ∀ b xs, H b = some (.tup xs) → H' b = some (.tup xs)
  frzs : ∀ b o u, H b = some (.frz o u) → H' b = some (.frz o u)
  tbls : ∀ b ps, H b = some (.tbl ps) → ∃ more, H' b = some (.tbl (ps ++ more))
section
variable {fs fs' ex ex' : List Addr} {H H1 H2 : Hp} {h h1 h2 h' : Heap} {a x e : Addr} {o : HO}
theorem Un.any (u : Un fs ex H H1 h h1) {b : Addr} {ob : Obj} (q : h.get? b = some ob) (n : H b = none) (hx : b ∉ ex) : ∃ sl, h1.get? b = some { ob with slots := sl } := by
  by_cases hb : b ∈ fs
  · exact u.slot b ob q n hb hx
  · exact ⟨ob.slots, u.keep b ob q n hb hx⟩
theorem Un.trans (a : Un fs ex H H1 h h1) (b : Un fs ex H1 H2 h1 h2) : Un fs ex H H2 h h2 where
  keep := fun c ob q n hc hx => b.keep c ob (a.keep c ob q n hc hx) (a.free c ob q n hx) hc hx
  slot := fun c ob q n hc hx => by
    obtain ⟨sl, e1⟩ := a.slot c ob q n hc hx
    obtain ⟨sl', e2⟩ := b.slot c _ e1 (a.free c ob q n hx) hc hx
    exact ⟨sl', e2⟩
  free := fun c ob q n hx => by
    obtain ⟨o', e1⟩ := a.there c ob q hx
    exact b.free c o' e1 (a.free c ob q n hx) hx
  there := fun c ob q hx => by
    obtain ⟨o', e1⟩ := a.there c ob q hx
    exact b.there c o' e1 hx
  tups := fun c xs q => b.tups c xs (a.tups c xs q)
  frzs := fun c ob xs q => b.frzs c ob xs (a.frzs c ob xs q)
  tbls := fun c ps q => by
    obtain ⟨m1, e1⟩ := a.tbls c ps q
    obtain ⟨m2, e2⟩ := b.tbls c _ e1
    exact ⟨m1 ++ m2, by rw [e2, Array.append_assoc]⟩
theorem Un.kept (k : ∀ b u, h.get? b = some u → h'.get? b = some u) : Un fs ex H H h h' :=
  ⟨fun b ob q _ _ _ => k b ob q, fun b ob q _ _ _ => ⟨ob.slots, k b ob q⟩, fun _ _ _ n _ => n, fun b ob q _ => ⟨ob, k b ob q⟩, fun _ _ q => q, fun _ _ _ q => q, fun _ ps q => ⟨#[], by rw [q]; simp⟩⟩
theorem Un.refl : Un fs ex H H h h := Un.kept fun _ _ q => q
theorem Un.laid (k : ∀ b u, h.get? b = some u → h'.get? b = some u) (hp : h.objs.size ≤ a) (hn : H a = none) : Un fs ex H (upd H a o) h h' where
  keep := fun b u q _ _ _ => k b u q
  slot := fun b u q _ _ _ => ⟨u.slots, k b u q⟩
  free := fun b u q n _ => by rw [upd_ne (Nat.ne_of_lt (Nat.lt_of_lt_of_le (Heap.lt_size q) hp))]; exact n
  there := fun b u q _ => ⟨u, k b u q⟩
  tups := fun b xs q => by rw [upd_ne (ne_of_none q hn)]; exact q
  frzs := fun b u xs q => by rw [upd_ne (ne_of_none q hn)]; exact q
  tbls := fun b ps q => ⟨#[], by rw [upd_ne (ne_of_none q hn), q]; simp⟩
theorem Un.write (mu : Mut (H x)) (he : e = x ∨ H e = some (.own x)) (k : ∀ b u, b ≠ e → h.get? b = some u → h'.get? b = some u) (heo : ∃ u, h'.get? e = some u) : Un fs ex H (upd H x o) h h' := by
  have hx : ∀ b, H b = none → b ≠ x := fun b n z => by subst z; rw [n] at mu; exact mu
  have hb : ∀ b, H b = none → b ≠ e := fun b n z => by
    subst z
    rcases he with r | r
    · exact hx b n r
    · rw [n] at r; cases r
  have hm : ∀ b u, H b = some u → ¬ Mut (some u) → b ≠ x := fun b u q nm z => by subst z; rw [q] at mu; exact nm mu
  refine ⟨fun b u q n _ _ => k b u (hb b n) q, fun b u q n _ _ => ⟨u.slots, k b u (hb b n) q⟩, fun b u q n _ => by rw [upd_ne (hx b n)]; exact n, fun b u q _ => ?_,
    fun b xs q => by rw [upd_ne (hm b _ q fun z => z)]; exact q, fun b u xs q => by rw [upd_ne (hm b _ q fun z => z)]; exact q, fun b ps q => ⟨#[], by rw [upd_ne (hm b _ q fun z => z), q]; simp⟩⟩
  by_cases hbe : b = e
  · subst hbe; exact heo
  · exact ⟨u, k b u hbe q⟩
theorem Un.mono (u : Un fs ex H H1 h h1) (hs : ∀ b ∈ fs, b ∈ fs') (hx : ∀ b ∈ ex, b ∈ ex') : Un fs' ex' H H1 h h1 :=
  ⟨fun b ob q n hb he => u.keep b ob q n (fun z => hb (hs b z)) fun z => he (hx b z), fun _ _ q n _ he => u.any q n fun z => he (hx _ z), fun b ob q n he => u.free b ob q n fun z => he (hx b z), fun b ob q he => u.there b ob q fun z => he (hx b z), u.tups, u.frzs, u.tbls⟩
end

/-! ### the heap without what is tracked -/
def trk (h : Heap) (H : Hp) : List Addr := (List.range h.objs.size).filter fun a => (H a).isSome
def hidT (h : Heap) (H : Hp) : Heap := PySem.W.hideAll h (trk h H)
theorem hidT_size (h : Heap) (H : Hp) : (hidT h H).objs.size = h.objs.size := PySem.W.hideAll_size _ _
theorem hidT_get {h : Heap} {H : Hp} {b : Addr} {o : Obj} (e : h.get? b = some o) (n : H b = none) : (hidT h H).get? b = some o :=
  PySem.W.hideAll_get _ e fun hm => by
    have q : (H b).isSome = true := (List.mem_filter.mp hm).2
    rw [n] at q; simp at q
theorem of_hidT {h : Heap} {H : Hp} {b : Addr} {o : Obj} (e : (hidT h H).get? b = some o) : h.get? b = some o ∧ H b = none := by
  have e' : h.get? b = some o := PySem.W.of_hideAll (trk h H) e
  refine ⟨e', ?_⟩
  cases q : H b with
  | none => rfl
  | some x =>
    have hm : b ∈ trk h H := List.mem_filter.mpr ⟨List.mem_range.mpr (Heap.lt_size e'), by simp [q]⟩
    have z : (hidT h H).get? b = none := PySem.W.hideAll_none (trk h H) hm
    rw [z] at e; cases e

/-! ### OpenK's ledger, filled with every new object but one -/
def allNews (g h : Heap) (L : Addr) : List (Addr × Obj) := (List.range h.objs.size).filterMap fun a => if a = L ∨ (g.get? a).isSome = true then none else (h.get? a).map fun o => (a, o)
def rest (g h : Heap) (L d : Addr) : List (Addr × Obj) := (allNews g h L).filter fun p => decide (p.1 ≠ d)
end L2

namespace L2
open PySem PySem.Spec PyProof.Rows
variable {q0 : Bool}

/-- the module's facts, over the base: the heap at the law's entry without what is tracked there -/
structure Mod (K : PySem.W.Frag) (mg : Str → Option Value) (base : Heap) : Prop where
  kin : K.In base
  glob : base.Ns mainGlobals mg
  blt : ∃ mb, base.Ns builtinsNs mb ∧ ∀ x : Str, x ≠ "__name__" → mb x = bootBuiltins x
  nolimit : base.NoLimit

/-- the context: a def's body (or a comprehension's block) running. base: fixed through the whole law; s₀, H₀: the entry; outer: the frames whose slots others may change (a def's callers); stack: all frames that run;
   ex: iterators that were made ahead of the entry and are walked here (a comprehension's); fn: the names whose cells were made at the entry (a def: all; a comprehension's block: its own); calm: not within an except suite; pn: pins that every state bears; xe: what is wanted of an exception that leaves the code -/
structure Cx where
  prog : Program
  w : World
  K : PySem.W.Frag
  mg : Str → Option Value
  base : Heap
  A : Around
  N : List Str
  s₀ : Shared
  H₀ : Hp
  env : Env
  outer : List Env
  stack : List Env
  ex : List Addr
  fn : Str → Bool
  calm : Bool
  pn : List (Addr × Obj)
  xe : Value → Shared → Prop
/-- the callers' frames -/
def frs (l : List Env) : List Addr := l.filterMap (·.frame)
abbrev Cx.fs (X : Cx) : List Addr := frs X.outer

def Vis (sc : Scope) (x : Str) : Prop := sc.names.lookup x = some .local ∨ sc.names.lookup x = some .cell ∨ sc.names.lookup x = some .free
def Loc (sc : Scope) (x : Str) : Prop := sc.names.lookup x = some .local ∨ sc.names.lookup x = some .cell
def Look (env : Env) (h : Heap) (m : Str → Option Value) (x : Str) (u : Value) : Prop :=
  (env.kindOf x = some .local ∧ m x = some u) ∨ ((env.kindOf x = some .cell ∨ env.kindOf x = some .free) ∧ ∃ c, env.cells.lookup x = some c ∧ h.IsCell c (some u))

structure Cx.Ok (X : Cx) : Prop where
  mod : Mod X.K X.mg X.base
  kind : X.env.scope.kind = .function
  glob : X.env.globals = mainGlobals
  blt : X.env.builtins = builtinsNs
  above : X.s₀.heap.objs.size ≤ X.env.locals
  inj : ∀ x y c, X.env.cells.lookup x = some c → X.env.cells.lookup y = some c → x = y
  has : ∀ x, (X.env.kindOf x = some .cell ∨ X.env.kindOf x = some .free) → ∃ c, X.env.cells.lookup x = some c
  cab : ∀ x c, X.fn x = true → X.env.cells.lookup x = some c → X.s₀.heap.objs.size ≤ c
  hd : X.calm = true → X.A.handled = none
  frames : X.A.frames = some X.stack
  stk : X.stack = X.outer ∨ (X.stack = X.env :: X.outer ∧ X.env.frame = some X.env.locals)
  exf : ∀ b ∈ X.ex, b ≠ X.env.locals ∧ ∀ x c, X.env.cells.lookup x = some c → c ≠ b
  bs : ∀ b o, X.base.get? b = some o → X.s₀.heap.get? b = some o ∧ X.H₀ b = none
  bsz : X.base.objs.size ≤ X.s₀.heap.objs.size
  noex : ∀ b o, X.base.get? b = some o → b ∉ X.ex
  exfs : ∀ b ∈ X.ex, b ∉ X.fs
  funs : X.s₀.heap.FunFrames X.base X.outer
  frf : ∀ b ∈ X.fs, X.H₀ b = none

structure Inv (X : Cx) (pins : List (Addr × Obj)) (σ : List (Option V)) (H : Hp) (s : Shared) : Prop where
  ok : X.Ok
  os : s.os = X.s₀.os
  bare : AllBare s.gens
  base : Un X.fs X.ex X.H₀ H X.s₀.heap s.heap
  loc : ∃ m, s.heap.Ns X.env.locals m ∧ ∀ (i : Nat) (x : Str) (v : V), X.N[i]? = some x → σ[i]? = some (some v) → Vis X.env.scope x → ∃ u, RelV v u ∧ Look X.env s.heap m x u
  cell : ∀ x c, X.env.cells.lookup x = some c → ∃ v, s.heap.IsCell c v
  free : H X.env.locals = none
  freeC : ∀ x c, X.env.cells.lookup x = some c → H c = none
  pin : ∀ p ∈ X.pn ++ pins, s.heap.get? p.1 = some p.2 ∧ H p.1 = none ∧ p.1 ≠ X.env.locals ∧ p.1 ∉ X.fs ∧ ∀ v, p.2.data ≠ .cell v
  hok : HOk X.prog X.w H s.heap
  len : σ.length = X.N.length

section
variable {X : Cx} {pins : List (Addr × Obj)} {σ : List (Option V)} {H H' : Hp} {s : Shared} {h' : Heap}

theorem Cx.Ok.nofr (ok : X.Ok) {b : Addr} {o : Obj} (e : X.base.get? b = some o) : b ∉ X.fs := fun hb => by
  have := (ok.funs.mem hb).1
  rw [e] at this; cases this
theorem Inv.bs (I : Inv X pins σ H s) : ∀ b o, X.base.get? b = some o → s.heap.get? b = some o ∧ H b = none := fun b o e =>
  ⟨I.base.keep b o (I.ok.bs b o e).1 (I.ok.bs b o e).2 (I.ok.nofr e) (I.ok.noex b o e), I.base.free b o (I.ok.bs b o e).1 (I.ok.bs b o e).2 (I.ok.noex b o e)⟩
theorem Inv.bk (I : Inv X pins σ H s) : ∀ b o, X.base.get? b = some o → s.heap.get? b = some o := fun b o e => (I.bs b o e).1
theorem Inv.mod (I : Inv X pins σ H s) : Mod X.K X.mg X.base := I.ok.mod
theorem Inv.kIn (I : Inv X pins σ H s) : X.K.In s.heap := I.ok.mod.kin.keeps I.bk
theorem Inv.nolimit (I : Inv X pins σ H s) : s.heap.NoLimit := I.ok.mod.nolimit.keeps I.bk
/-- the frame over the base: for OpenK's rules (K.In X.base is I.mod.kin) -/
theorem Inv.fr (I : Inv X pins σ H s) : ∃ m, Fr X.base X.env.locals s.heap m :=
  let ⟨m, hn, _⟩ := I.loc
  ⟨m, hn, I.bk, Nat.le_trans I.ok.bsz I.ok.above⟩
theorem Inv.lt (I : Inv X pins σ H s) : X.env.locals < s.heap.objs.size := let ⟨_, hn, _⟩ := I.loc; hn.lt
theorem Inv.sz (I : Inv X pins σ H s) : X.s₀.heap.objs.size ≤ s.heap.objs.size := Nat.le_trans I.ok.above (Nat.le_of_lt I.lt)
theorem Inv.nofs (I : Inv X pins σ H s) {a : Addr} (h : s.heap.objs.size ≤ a) : a ∉ X.fs := fun hb => by
  obtain ⟨_, o, ho, _⟩ := I.ok.funs.mem hb
  exact absurd (Nat.lt_of_lt_of_le (Heap.lt_size ho) (Nat.le_trans I.sz h)) (Nat.lt_irrefl _)
theorem Inv.cne (I : Inv X pins σ H s) : ∀ x c, X.env.cells.lookup x = some c → c ≠ X.env.locals := fun x c e z => by
  obtain ⟨v, o, ho, hd⟩ := I.cell x c e
  obtain ⟨m, ⟨o', es, ep, ho', hd', _⟩, _⟩ := I.loc
  rw [z, ho'] at ho; cases ho; rw [hd'] at hd; cases hd
theorem Inv.funs (I : Inv X pins σ H s) : s.heap.FunFrames X.base X.outer := by
  have all : ∀ (l : List Env), (∀ b ∈ frs l, b ∈ X.fs) → X.s₀.heap.FunFrames X.base l → s.heap.FunFrames X.base l := by
    intro l
    induction l with
    | nil => intro _ _; trivial
    | cons env r ih =>
      intro hs hl
      obtain ⟨hk, ⟨L, o, hf, hn, ho, hd⟩, hr⟩ := hl
      have hL : L ∈ X.fs := hs L (by unfold frs; rw [List.filterMap_cons, hf]; exact List.mem_cons_self)
      obtain ⟨sl, e⟩ := I.base.slot L o ho (I.ok.frf L hL) hL fun z => I.ok.exfs L z hL
      exact ⟨hk, ⟨L, _, hf, hn, e, hd⟩, ih (fun b hb => hs b (by unfold frs; rw [List.filterMap_cons, hf]; exact List.mem_cons_of_mem _ hb)) hr⟩
  exact all X.outer (fun _ hb => hb) I.ok.funs

/-- the frames that run, for a call -/
theorem Inv.stack (I : Inv X pins σ H s) : s.heap.FunFrames X.base X.stack := by
  rcases I.ok.stk with e | ⟨e, hf⟩
  · rw [e]; exact I.funs
  · rw [e]
    obtain ⟨m, hn, _⟩ := I.loc
    refine .cons (by rw [I.ok.kind]; decide) hf hn ?_ I.funs
    exact Heap.get?_none_of_le (Nat.le_trans I.ok.bsz I.ok.above)
theorem Inv.stkSub (I : Inv X pins σ H s) : ∀ b ∈ frs X.stack, b ∈ X.env.locals :: X.fs := fun b hb => by
  rcases I.ok.stk with e | ⟨e, hf⟩
  · rw [e] at hb; exact List.mem_cons_of_mem _ hb
  · rw [e] at hb
    unfold frs at hb
    rw [List.filterMap_cons, hf] at hb
    exact hb
theorem Inv.stkFree (I : Inv X pins σ H s) : ∀ b ∈ frs X.stack, H b = none := fun b hb => by
  rcases List.mem_cons.mp (I.stkSub b hb) with e | hb
  · rw [e]; exact I.free
  · obtain ⟨_, o, ho, _⟩ := I.ok.funs.mem hb
    exact I.base.free b o ho (I.ok.frf b hb) fun z => I.ok.exfs b z hb

/-- THE STEP: the untracked objects but the frame and the records at ch are kept (the callers' frames up to slots), the frame's map is kept, the new abstract heap is held -/
theorem Inv.step {g' : Array GenState} {t' : Nat} {d' : Drawn} {ch : List Addr} (I : Inv X pins σ H s)
    (hch : ∀ b ∈ ch, (b ∈ X.ex ∨ X.s₀.heap.objs.size ≤ b) ∧ b ≠ X.env.locals ∧ (∀ x c, X.env.cells.lookup x = some c → c ≠ b) ∧ ∀ p ∈ X.pn ++ pins, p.1 ≠ b)
    (keep : ∀ b o, b ≠ X.env.locals → b ∉ X.fs → b ∉ ch → s.heap.get? b = some o → H b = none → h'.get? b = some o)
    (slot : ∀ b o, b ≠ X.env.locals → b ∈ X.fs → b ∉ ch → s.heap.get? b = some o → H b = none → ∃ sl, h'.get? b = some { o with slots := sl }) (free : ∀ b o, b ∉ ch → s.heap.get? b = some o → H b = none → H' b = none)
    (there : ∀ b o, b ∉ ch → s.heap.get? b = some o → ∃ o', h'.get? b = some o')
    (tups : ∀ b xs, H b = some (.tup xs) → H' b = some (.tup xs)) (frzs : ∀ b o u, H b = some (.frz o u) → H' b = some (.frz o u)) (tbls : ∀ b ps, H b = some (.tbl ps) → ∃ more, H' b = some (.tbl (ps ++ more)))
    (ns : ∀ m, s.heap.Ns X.env.locals m → h'.Ns X.env.locals m) (hok : HOk X.prog X.w H' h') (hg : AllBare g') :
    Inv X pins σ H' { s with heap := h', gens := g', drawn := d', toks := t' } := by
  have neL : ∀ b o, X.s₀.heap.get? b = some o → b ≠ X.env.locals := fun b o e => Nat.ne_of_lt (Nat.lt_of_lt_of_le (Heap.lt_size e) I.ok.above)
  have neC : ∀ b o, X.s₀.heap.get? b = some o → b ∉ X.ex → b ∉ ch := fun b o e hx hb => by
    rcases (hch b hb).1 with z | z
    · exact hx z
    · exact absurd (Nat.lt_of_lt_of_le (Heap.lt_size e) z) (Nat.lt_irrefl _)
  have cellK : ∀ x c, X.env.cells.lookup x = some c → ∀ v, s.heap.IsCell c v → h'.IsCell c v := fun x c e v ⟨o, ho, hd⟩ => by
    have nch : c ∉ ch := fun z => (hch c z).2.2.1 x c e rfl
    by_cases hc : c ∈ X.fs
    · obtain ⟨sl, q⟩ := slot c o (I.cne x c e) hc nch ho (I.freeC x c e)
      exact ⟨_, q, hd⟩
    · exact ⟨o, keep c o (I.cne x c e) hc nch ho (I.freeC x c e), hd⟩
  refine ⟨I.ok, I.os, hg, ⟨fun b o e n hb hx => ?_, fun b o e n hb hx => ?_, fun b o e n hx => ?_, fun b o e hx => ?_, fun b xs e => tups b xs (I.base.tups b xs e), fun b o xs e => frzs b o xs (I.base.frzs b o xs e), fun b ps e => ?_⟩, ?_, fun x c e => ?_, ?_, fun x c e => ?_, fun p hp => ?_, hok, I.len⟩
  · exact keep b o (neL b o e) hb (neC b o e hx) (I.base.keep b o e n hb hx) (I.base.free b o e n hx)
  · obtain ⟨sl, e1⟩ := I.base.slot b o e n hb hx
    obtain ⟨sl', e2⟩ := slot b _ (neL b o e) hb (neC b o e hx) e1 (I.base.free b o e n hx)
    exact ⟨sl', e2⟩
  · obtain ⟨o', e1⟩ := I.base.there b o e hx
    exact free b o' (neC b o e hx) e1 (I.base.free b o e n hx)
  · obtain ⟨o', e1⟩ := I.base.there b o e hx
    exact there b o' (neC b o e hx) e1
  · obtain ⟨m1, e1⟩ := I.base.tbls b ps e
    obtain ⟨m2, e2⟩ := tbls b _ e1
    exact ⟨m1 ++ m2, by rw [e2, Array.append_assoc]⟩
  · obtain ⟨m, hn, hl⟩ := I.loc
    refine ⟨m, ns m hn, fun i x v e1 e2 e3 => ?_⟩
    obtain ⟨u, r, l⟩ := hl i x v e1 e2 e3
    refine ⟨u, r, ?_⟩
    rcases l with l | ⟨k, c, e, z⟩
    · exact .inl l
    · exact .inr ⟨k, c, e, cellK x c e _ z⟩
  · obtain ⟨v, z⟩ := I.cell x c e
    exact ⟨v, cellK x c e v z⟩
  · obtain ⟨m, ⟨o, _, _, ho, _⟩, _⟩ := I.loc
    exact free _ o (fun z => (hch _ z).2.1 rfl) ho I.free
  · obtain ⟨v, o, ho, hd⟩ := I.cell x c e
    exact free c o (fun z => (hch c z).2.2.1 x c e rfl) ho (I.freeC x c e)
  · obtain ⟨e, n, ne, nf, d⟩ := I.pin p hp
    have nch : p.1 ∉ ch := fun z => (hch p.1 z).2.2.2 p hp rfl
    exact ⟨keep p.1 p.2 ne nf nch e n, free p.1 p.2 nch e n, ne, nf, d⟩
/-- .. where the frame's own object is kept too -/
theorem Inv.un {t' : Nat} (I : Inv X pins σ H s) (u : Un X.fs [] H H' s.heap h') (hok : HOk X.prog X.w H' h') : Inv X pins σ H' { s with heap := h', toks := t' } := by
  obtain ⟨m, ⟨o, es, ep, ho, r⟩, _⟩ := id I.loc
  obtain ⟨sl, hL⟩ := u.any ho I.free (by simp)
  exact I.step (g' := s.gens) (d' := s.drawn) (ch := []) (fun _ z => nomatch z) (fun b o _ hb _ e n => u.keep b o e n hb (by simp)) (fun b o _ hb _ e n => u.slot b o e n hb (by simp)) (fun b o _ e n => u.free b o e n (by simp)) (fun b o _ e => u.there b o e (by simp)) u.tups u.frzs u.tbls (fun m' hm => by
    obtain ⟨o', es', ep', ho', r'⟩ := hm
    rw [ho] at ho'; cases ho'
    exact ⟨_, es', ep', hL, r'⟩) hok I.bare
/-- behind a call (or a comprehension's block): the slots of this frame may have changed too, the records at ch may have turned -/
theorem Inv.call {g' : Array GenState} {t' : Nat} {d' : Drawn} {ch : List Addr} (I : Inv X pins σ H s) (u : Un (frs X.stack) ch H H' s.heap h') (hok : HOk X.prog X.w H' h') (hg : AllBare g')
    (hch : ∀ b ∈ ch, (b ∈ X.ex ∨ X.s₀.heap.objs.size ≤ b) ∧ b ≠ X.env.locals ∧ (∀ x c, X.env.cells.lookup x = some c → c ≠ b) ∧ ∀ p ∈ X.pn ++ pins, p.1 ≠ b) :
    Inv X pins σ H' { s with heap := h', gens := g', drawn := d', toks := t' } := by
  obtain ⟨m, ⟨o, es, ep, ho, r⟩, _⟩ := id I.loc
  obtain ⟨sl, hL⟩ := u.any ho I.free fun z => (hch _ z).2.1 rfl
  exact I.step (ch := ch) hch (fun b o hL hb hc e n => u.keep b o e n (fun z => (List.mem_cons.mp (I.stkSub b z)).elim hL hb) hc) (fun b o _ _ hc e n => u.any e n hc) (fun b o hc e n => u.free b o e n hc) (fun b o hc e => u.there b o e hc) u.tups u.frzs u.tbls (fun m' hm => by
    obtain ⟨o', es', ep', ho', r'⟩ := hm
    rw [ho] at ho'; cases ho'
    exact ⟨_, es', ep', hL, r'⟩) hok hg
/-- an untracked record of ours (an iterator) has turned -/
theorem Inv.turned {t' : Nat} {it : Addr} (I : Inv X pins σ H s) (k : ∀ b o, b ≠ it → s.heap.get? b = some o → h'.get? b = some o) (hn : H it = none) (hL : it ≠ X.env.locals)
    (h1 : it ∈ X.ex ∨ X.s₀.heap.objs.size ≤ it) (h2 : ∀ x c, X.env.cells.lookup x = some c → c ≠ it) (h3 : ∀ p ∈ X.pn ++ pins, p.1 ≠ it) : Inv X pins σ H { s with heap := h', toks := t' } := by
  have nit : ∀ b u, H b = some u → b ≠ it := fun b u e z => by rw [z, hn] at e; cases e
  refine I.step (g' := s.gens) (d' := s.drawn) (ch := [it]) (fun b hb => ?_) (fun b o _ _ hc e _ => k b o (fun z => hc (by simp [z])) e) (fun b o _ _ hc e _ => ⟨o.slots, k b o (fun z => hc (by simp [z])) e⟩) (fun _ _ _ _ n => n)
    (fun b o hc e => ⟨o, k b o (fun z => hc (by simp [z])) e⟩) (fun _ _ e => e) (fun _ _ _ e => e) (fun b ps e => ⟨#[], by rw [e]; simp⟩) (fun m hm => ?_) (fun b u e => ?_) I.bare
  · have e : b = it := by simpa using hb
    subst e
    exact ⟨h1, hL, h2, h3⟩
  · obtain ⟨o, es, ep, ho, r⟩ := hm
    exact ⟨o, es, ep, k _ o (Ne.symm hL) ho, r⟩
  · refine (I.hok b u e).stay (fun c v hc q => k c v ?_ q) (fun _ q => q) fun _ _ q => q
    rcases hc with z | z
    · rw [z]; exact nit b u e
    · exact nit c _ z
theorem Inv.tok (I : Inv X pins σ H s) (t : Nat) : Inv X pins σ H { s with toks := t } := I.un (h' := s.heap) (t' := t) Un.refl I.hok
/-- all objects kept -/
theorem Inv.kept {t' : Nat} (I : Inv X pins σ H s) (k : ∀ b u, s.heap.get? b = some u → h'.get? b = some u) : Inv X pins σ H { s with heap := h', toks := t' } := I.un (Un.kept k) (I.hok.kept k)
/-- a new object laid and tracked -/
theorem Inv.laid {a : Addr} {o : HO} {t' : Nat} (I : Inv X pins σ H s) (k : ∀ b u, s.heap.get? b = some u → h'.get? b = some u) (hp : s.heap.objs.size ≤ a) (new : ObjOk X.prog X.w (upd H a o) h' a o) :
    Inv X pins σ (upd H a o) { s with heap := h', toks := t' } := I.un (Un.laid k hp (I.hok.fresh hp)) (I.hok.laid k hp new)
/-- an object written -/
theorem Inv.write {x e : Addr} {o : HO} {t' : Nat} (I : Inv X pins σ H s) (mu : Mut (H x)) (he : e = x ∨ H e = some (.own x)) (k : ∀ b u, b ≠ e → s.heap.get? b = some u → h'.get? b = some u) (heo : ∃ u, h'.get? e = some u)
    (new : ObjOk X.prog X.w (upd H x o) h' x o) : Inv X pins σ (upd H x o) { s with heap := h', toks := t' } := I.un (Un.write mu he k heo) (I.hok.write mu he k heo new)
/-- forgetting slots, pins -/
theorem Inv.weak {σ' : List (Option V)} (I : Inv X pins σ H s) (hl : σ'.length = σ.length) (w : ∀ (i : Nat) v, σ'[i]? = some (some v) → σ[i]? = some (some v)) : Inv X pins σ' H s :=
  ⟨I.ok, I.os, I.bare, I.base, let ⟨m, hn, hl'⟩ := I.loc; ⟨m, hn, fun i x v e1 e2 e3 => hl' i x v e1 (w i v e2) e3⟩, I.cell, I.free, I.freeC, I.pin, I.hok, hl.trans I.len⟩
theorem Inv.pins_of {pins' : List (Addr × Obj)} (I : Inv X pins σ H s) (h : ∀ p ∈ pins', s.heap.get? p.1 = some p.2 ∧ H p.1 = none ∧ p.1 ≠ X.env.locals ∧ p.1 ∉ X.fs ∧ ∀ v, p.2.data ≠ .cell v) : Inv X pins' σ H s :=
  ⟨I.ok, I.os, I.bare, I.base, I.loc, I.cell, I.free, I.freeC, fun p hp => (List.mem_append.mp hp).elim (fun z => I.pin p (List.mem_append_left _ z)) (h p), I.hok, I.len⟩

theorem nodup_ix {N : List Str} (hN : N.Nodup) {i j : Nat} {x : Str} (a : N[i]? = some x) (b : N[j]? = some x) : i = j := by
  obtain ⟨h1, e1⟩ := List.getElem?_eq_some_iff.mp a
  obtain ⟨h2, e2⟩ := List.getElem?_eq_some_iff.mp b
  exact (List.getElem_inj hN).mp (e1.trans e2.symm)

/-- a name is stored; what changed -/
theorem store_ok2 {M : Model} {A : Around} {E : Value → Shared → Prop} {i : Nat} {x : Str} {v : V} {u : Value} {Q : Unit → Shared → Prop} (I : Inv X pins σ H s) (hN : X.N.Nodup) (hi : X.N[i]? = some x) (hx : Loc X.env.scope x) (r : RelV v u)
    (h : ∀ s', Inv X pins (σ.set i (some v)) H s' → (∃ a, Heap.SameBut a s.heap s'.heap ∧ (a = X.env.locals ∨ X.env.cells.lookup x = some a)) → Q () s') (hf : X.fn x = true ∨ X.env.scope.names.lookup x = some .local := by first | exact .inl rfl | exact .inr rfl | assumption) : wpAny M A (storeName X.env x u) Q E s := by
  obtain ⟨m, hn, hl⟩ := id I.loc
  have hcls : (X.env.scope.kind == .class || (X.env.scope.kind == .module && X.env.locals != X.env.globals)) = false := by rw [I.ok.kind]; rfl
  have hiσ : i < σ.length := by rw [I.len]; exact (List.getElem?_eq_some_iff.mp hi).1
  have cne := I.cne
  have tracked : ∀ {a : Addr} {h' : Heap}, (∃ o, s.heap.get? a = some o ∧ H a = none) → Heap.SameBut a s.heap h' → HOk X.prog X.w H h' := fun {a h'} ha hs b ob e => by
    obtain ⟨_, _, hfree⟩ := ha
    refine (I.hok b ob e).stay (fun c w' hc q => (hs.2 c ?_).trans q) (fun _ q => q) fun _ _ q => q
    rintro rfl
    rcases hc with rfl | hc
    · rw [hfree] at e; cases e
    · rw [hfree] at hc; cases hc
  rcases hx with hk | hk
  · refine wpAny_storeName_local hk hn (fun h' hn' hs => ?_) hcls
    obtain ⟨oL, _, _, hoL, _⟩ := id hn
    refine h _ ⟨I.ok, I.os, I.bare, ⟨fun b o e n hb hx => ?_, fun b o e n hb hx => ?_, I.base.free, fun b o e hx => ?_, I.base.tups, I.base.frzs, I.base.tbls⟩, ⟨_, hn', fun j y v' e1 e2 e3 => ?_⟩, fun y c e => ?_, I.free, I.freeC, fun p hp => ?_, tracked ⟨oL, hoL, I.free⟩ hs, by simpa using I.len⟩ ⟨_, hs, .inl rfl⟩
    · exact (hs.2 b (Nat.ne_of_lt (Nat.lt_of_lt_of_le (Heap.lt_size e) I.ok.above))).trans (I.base.keep b o e n hb hx)
    · obtain ⟨sl, e1⟩ := I.base.slot b o e n hb hx
      exact ⟨sl, (hs.2 b (Nat.ne_of_lt (Nat.lt_of_lt_of_le (Heap.lt_size e) I.ok.above))).trans e1⟩
    · obtain ⟨o', e1⟩ := I.base.there b o e hx
      exact ⟨o', (hs.2 b (Nat.ne_of_lt (Nat.lt_of_lt_of_le (Heap.lt_size e) I.ok.above))).trans e1⟩
    · by_cases hj : j = i
      · subst hj
        rw [hi] at e1; cases e1
        rw [List.getElem?_set_self hiσ] at e2
        cases e2
        exact ⟨u, r, .inl ⟨hk, by simp⟩⟩
      · rw [List.getElem?_set_ne (Ne.symm hj)] at e2
        obtain ⟨u', r', q⟩ := hl j y v' e1 e2 e3
        refine ⟨u', r', ?_⟩
        rcases q with ⟨k, e⟩ | ⟨k, c, e, z⟩
        · refine .inl ⟨k, ?_⟩
          have : y ≠ x := fun e => hj (nodup_ix hN e1 (e ▸ hi))
          simp [this, e]
        · exact .inr ⟨k, c, e, z.sameBut hs (cne y c e)⟩
    · obtain ⟨w', z⟩ := I.cell y c e
      exact ⟨w', z.sameBut hs (cne y c e)⟩
    · obtain ⟨e, n, ne, nf, d⟩ := I.pin p hp
      exact ⟨(hs.2 p.1 ne).trans e, n, ne, nf, d⟩
  · have hfn : X.fn x = true := by
      rcases hf with z | z
      · exact z
      · rw [z] at hk; cases hk
    obtain ⟨c, hc⟩ := I.ok.has x (.inl hk)
    obtain ⟨w', z⟩ := I.cell x c hc
    refine wpAny_storeName_cell I.ok.kind hk hc z (fun h' hc' hs => ?_)
    obtain ⟨oc, hoc, hocd⟩ := id z
    refine h { s with heap := h' } ⟨I.ok, I.os, I.bare, ⟨fun b o e n hb hx => ?_, fun b o e n hb hx => ?_, I.base.free, fun b o e hx => ?_, I.base.tups, I.base.frzs, I.base.tbls⟩, ⟨m, hn.sameBut hs (Ne.symm (cne x c hc)), fun j y v' e1 e2 e3 => ?_⟩, fun y c' e => ?_, I.free, I.freeC, fun p hp => ?_, tracked ⟨oc, hoc, I.freeC x c hc⟩ hs, by simpa using I.len⟩ ⟨c, hs, .inr hc⟩
    · exact (hs.2 b (Nat.ne_of_lt (Nat.lt_of_lt_of_le (Heap.lt_size e) (I.ok.cab x c hfn hc)))).trans (I.base.keep b o e n hb hx)
    · obtain ⟨sl, e1⟩ := I.base.slot b o e n hb hx
      exact ⟨sl, (hs.2 b (Nat.ne_of_lt (Nat.lt_of_lt_of_le (Heap.lt_size e) (I.ok.cab x c hfn hc)))).trans e1⟩
    · obtain ⟨o', e1⟩ := I.base.there b o e hx
      exact ⟨o', (hs.2 b (Nat.ne_of_lt (Nat.lt_of_lt_of_le (Heap.lt_size e) (I.ok.cab x c hfn hc)))).trans e1⟩
    · by_cases hj : j = i
      · subst hj
        rw [hi] at e1; cases e1
        rw [List.getElem?_set_self hiσ] at e2
        cases e2
        exact ⟨u, r, .inr ⟨.inl hk, c, hc, hc'⟩⟩
      · rw [List.getElem?_set_ne (Ne.symm hj)] at e2
        obtain ⟨u', r', q⟩ := hl j y v' e1 e2 e3
        refine ⟨u', r', ?_⟩
        rcases q with q | ⟨k, c', e, z'⟩
        · exact .inl q
        · refine .inr ⟨k, c', e, z'.sameBut hs ?_⟩
          rintro rfl
          exact hj (nodup_ix hN e1 (I.ok.inj _ _ _ e hc ▸ hi))
    · by_cases hcc : c' = c
      · subst hcc; exact ⟨_, hc'⟩
      · obtain ⟨w2, z2⟩ := I.cell y c' e
        exact ⟨w2, z2.sameBut hs hcc⟩
    · obtain ⟨e, n, ne, nf, d⟩ := I.pin p hp
      refine ⟨(hs.2 p.1 ?_).trans e, n, ne, nf, d⟩
      intro q
      rw [q, hoc] at e
      have q' : oc = p.2 := Option.some.inj e
      exact d w' (by rw [← q']; exact hocd)
theorem store_ok {M : Model} {A : Around} {E : Value → Shared → Prop} {i : Nat} {x : Str} {v : V} {u : Value} {Q : Unit → Shared → Prop} (I : Inv X pins σ H s) (hN : X.N.Nodup) (hi : X.N[i]? = some x) (hx : Loc X.env.scope x) (r : RelV v u)
    (h : ∀ s', Inv X pins (σ.set i (some v)) H s' → Q () s') (hf : X.fn x = true ∨ X.env.scope.names.lookup x = some .local := by first | exact .inl rfl | exact .inr rfl | assumption) : wpAny M A (storeName X.env x u) Q E s :=
  store_ok2 I hN hi hx r (fun s' I' _ => h s' I') hf
/-- behind a call or a block, the state as it is -/
theorem Inv.call' {s' : Shared} {ch : List Addr} (I : Inv X pins σ H s) (ho : s'.os = s.os) (u : Un (frs X.stack) ch H H' s.heap s'.heap) (hok : HOk X.prog X.w H' s'.heap) (hg : AllBare s'.gens)
    (hch : ∀ b ∈ ch, (b ∈ X.ex ∨ X.s₀.heap.objs.size ≤ b) ∧ b ≠ X.env.locals ∧ (∀ x c, X.env.cells.lookup x = some c → c ≠ b) ∧ ∀ p ∈ X.pn ++ pins, p.1 ≠ b) : Inv X pins σ H' s' := by
  obtain ⟨h', g', d', t', o'⟩ := s'
  have e : o' = s.os := ho
  subst e
  exact I.call (g' := g') (t' := t') (d' := d') u hok hg hch
end

/-! ### the judgements -/
/-- an exception: its class, its own dict's address (where it has one), the abstract heap behind it -/
abbrev XK := Addr → Addr → Hp → Prop
abbrev St := List (Option V)
abbrev VK := V → Hp → Prop
/-- an expression's reading; a test's; an argument list's -/
abbrev TE := St → Hp → VK → Prop
abbrev TT := St → Hp → (Bool → Hp → Prop) → Prop
abbrev TA := St → Hp → (List V → Hp → Prop) → Prop
/-- what is wanted behind a statement -/
structure Ends where
  nx : St → Hp → Prop
  rt : VK
  bk : St → Hp → Prop := fun _ _ => False
  ct : St → Hp → Prop := fun _ _ => False
abbrev TS := Ends → St → Hp → Prop

def EP (X : Cx) (pins : List (Addr × Obj)) (σ : St) (Q : VK) (u : Value) (s' : Shared) : Prop := ∃ v H', Inv X pins σ H' s' ∧ RelV v u ∧ Q v H'
def TP (X : Cx) (pins : List (Addr × Obj)) (σ : St) (Q : Bool → Hp → Prop) (b : Bool) (s' : Shared) : Prop := ∃ H', Inv X pins σ H' s' ∧ Q b H'
def AP (X : Cx) (pins : List (Addr × Obj)) (σ : St) (Q : List V → Hp → Prop) (us : List Value) (s' : Shared) : Prop := ∃ vs H', Inv X pins σ H' s' ∧ Vals vs us ∧ Q vs H'
def SP (X : Cx) (pins : List (Addr × Obj)) (D : Ends) (f : Flow) (s' : Shared) : Prop :=
  match f with
  | .next => ∃ σ' H', Inv X pins σ' H' s' ∧ D.nx σ' H'
  | .brk => ∃ σ' H', Inv X pins σ' H' s' ∧ D.bk σ' H'
  | .cont => ∃ σ' H', Inv X pins σ' H' s' ∧ D.ct σ' H'
  | .ret u => ∃ v σ' H', Inv X pins σ' H' s' ∧ RelV v u ∧ D.rt v H'

def PE (X : Cx) (e : Expr) (t : TE) : Prop :=
  ∀ (pins : List (Addr × Obj)) (s : Shared) (σ : St) (H : Hp) (Q : VK), Inv X pins σ H s → t σ H Q → wpAny (model X.prog X.w) X.A (eval e X.env) (EP X pins σ Q) X.xe s
def PT (X : Cx) (e : Expr) (t : TT) : Prop :=
  ∀ (pins : List (Addr × Obj)) (s : Shared) (σ : St) (H : Hp) (Q : Bool → Hp → Prop), Inv X pins σ H s → t σ H Q → wpAny (model X.prog X.w) X.A (isTrue e X.env (eval e X.env)) (TP X pins σ Q) X.xe s
/-- a test whatever its 'whole' is (and, or) -/
def PW (X : Cx) (e : Expr) (t : TT) : Prop :=
  ∀ (whole : Sem Value) (pins : List (Addr × Obj)) (s : Shared) (σ : St) (H : Hp) (Q : Bool → Hp → Prop), Inv X pins σ H s → t σ H Q → wpAny (model X.prog X.w) X.A (isTrue e X.env whole) (TP X pins σ Q) X.xe s
theorem PW.pt {X : Cx} {e : Expr} {t : TT} (h : PW X e t) : PT X e t := h _
/-- an argument list (no star), from the left -/
def PA (X : Cx) (es : List Expr) (t : TA) : Prop :=
  ∀ (pos : Pos) (pins : List (Addr × Obj)) (s : Shared) (σ : St) (H : Hp) (Q : List V → Hp → Prop), Inv X pins σ H s → t σ H Q → wpAny (model X.prog X.w) X.A (spliced (backTo pos (starEach es X.env))) (AP X pins σ Q) X.xe s
def PS (X : Cx) (st : Stmt) (t : TS) : Prop :=
  ∀ (pins : List (Addr × Obj)) (s : Shared) (σ : St) (H : Hp) (D : Ends), Inv X pins σ H s → t D σ H → wpAny (model X.prog X.w) X.A (exec st X.env) (SP X pins D) X.xe s
def PSs (X : Cx) (st : List Stmt) (t : TS) : Prop :=
  ∀ (pins : List (Addr × Obj)) (s : Shared) (σ : St) (H : Hp) (D : Ends), Inv X pins σ H s → t D σ H → wpAny (model X.prog X.w) X.A (execs st X.env) (SP X pins D) X.xe s
/-- weaken the end -/
theorem thn {α : Type} {t : Sem α} {Q Q' : α → Shared → Prop} {M : Model} {A : Around} {E : Value → Shared → Prop} {s : Shared} (h : wpAny M A t Q E s) (hQ : ∀ a s, Q a s → Q' a s) : wpAny M A t Q' E s := wpAny_mono h hQ fun _ _ x => x
end L2

namespace L2
open PySem PySem.Spec PyProof.Rows
variable {q0 : Bool}
section
variable {X : Cx}

/-! ### names and constants -/
def tVar (i : Nat) : TE := fun σ H Q => ∃ v, σ[i]? = some (some v) ∧ Q v H
def tC (v : V) : TE := fun _ H Q => Q v H
theorem pe_var {i : Nat} {x : Str} {pos : Pos} (hN : X.N[i]? = some x) (hv : Vis X.env.scope x) (hd : (x == ("__debug__" : Str)) = false := by decide) (hcd : (x == ("__classdict__" : Str)) = false := by decide) : PE X (.Name x pos) (tVar i) := by
  intro pins s σ H Q I h
  obtain ⟨v, e, h⟩ := h
  obtain ⟨m, hn, hl⟩ := I.loc
  obtain ⟨u, r, l⟩ := hl i x v hN e hv
  have fin : EP X pins σ Q u s := ⟨v, H, I, r, h⟩
  rcases l with ⟨hk, hm⟩ | ⟨hk, c, hc, hcell⟩
  · exact wpAny_Name (wpAny_loadName_local I.ok.kind hk hn hm fin) hd
  · rcases hk with hk | hk
    · exact wpAny_Name (wpAny_loadName_cell I.ok.kind hk hc hcell fin) hd
    · exact wpAny_Name (wpAny_loadName_free I.ok.kind hk hc hcell fin hcd) hd
theorem pe_int {i j pos} : PE X (.Constant (.int i) j pos) (tC (.int i)) := fun _ _ _ H _ I h => wpAny_Constant_int ⟨.int i, H, I.tok _, ⟨_, rfl⟩, h⟩
theorem pe_bl {b j pos} : PE X (.Constant (.bool b) j pos) (tC (.bl b)) := fun _ _ _ H _ I h => Constant_bool ⟨.bl b, H, I, rfl, h⟩
theorem pe_non {j pos} : PE X (.Constant .none j pos) (tC .non) := fun _ _ _ H _ I h => Constant_none ⟨.non, H, I, rfl, h⟩
theorem pe_str {x j pos} : PE X (.Constant (.str x) j pos) (tC (.str x)) := fun _ _ _ H _ I h => Calls.Constant_str ⟨.str x, H, I.tok _, ⟨_, rfl⟩, h⟩

/-- a global name of the def -/
def Gl (X : Cx) (x : Str) : Prop := X.env.kindOf x = some .globalImplicit
theorem ld_glob {E : Value → Shared → Prop} {pins : List (Addr × Obj)} {s : Shared} {σ : St} {H : Hp} {x : Str} {u : Value} {pos : Pos} {Q : Value → Shared → Prop} (I : Inv X pins σ H s) (hg : Gl X x) (hm : X.mg x = some u) (h : Q u s)
    (hd : (x == ("__debug__" : Str)) = false := by decide) : wpAny (model X.prog X.w) X.A (eval (.Name x pos) X.env) Q E s :=
  Calls.Name_function_global I.ok.kind hg (Calls.loadGlobal_global (by rw [I.ok.glob]; exact I.mod.glob.keeps I.bk) hm h) hd
theorem ld_blt {E : Value → Shared → Prop} {pins : List (Addr × Obj)} {s : Shared} {σ : St} {H : Hp} {x : Str} {u : Value} {pos : Pos} {Q : Value → Shared → Prop} (I : Inv X pins σ H s) (hg : Gl X x) (hm : X.mg x = none) (hv : bootBuiltins x = some u) (h : Q u s)
    (hn : x ≠ "__name__" := by decide) (hd : (x == ("__debug__" : Str)) = false := by decide) : wpAny (model X.prog X.w) X.A (eval (.Name x pos) X.env) Q E s := by
  obtain ⟨mb, h1, h2⟩ := I.mod.blt
  exact Calls.Name_function_global I.ok.kind hg (Calls.loadGlobal_builtin (by rw [I.ok.glob]; exact I.mod.glob.keeps I.bk) hm (by rw [I.ok.blt]; exact h1.keeps I.bk) ((h2 x hn).trans hv) h) hd
/-- a module's constant, a class, a function, as a value -/
theorem pe_glob {x : Str} {v : V} {u : Value} {pos : Pos} (hg : Gl X x) (hm : X.mg x = some u) (r : RelV v u) (hd : (x == ("__debug__" : Str)) = false := by decide) : PE X (.Name x pos) (tC v) :=
  fun _ _ _ H _ I h => ld_glob I hg hm ⟨v, H, I, r, h⟩ hd
theorem pe_bltn {x : Str} {v : V} {u : Value} {pos : Pos} (hg : Gl X x) (hm : X.mg x = none) (hv : bootBuiltins x = some u) (r : RelV v u) (hn : x ≠ "__name__" := by decide) (hd : (x == ("__debug__" : Str)) = false := by decide) : PE X (.Name x pos) (tC v) :=
  fun _ _ _ H _ I h => ld_blt I hg hm hv ⟨v, H, I, r, h⟩ hn hd

variable {a b : Expr} {ta tb : TE} {pos : Pos}
/-! ### comparisons -/
def PC (X : Cx) (op : CmpOp) (a b : Expr) (t : TE) : Prop :=
  ∀ (pins : List (Addr × Obj)) (s : Shared) (σ : St) (H : Hp) (Q : VK), Inv X pins σ H s → t σ H Q →
    wpAny (model X.prog X.w) X.A (eval a X.env) (fun v s₁ => wpAny (model X.prog X.w) X.A (eval b X.env) (fun u s₂ => wpAny (model X.prog X.w) X.A (compareOp op v u) (EP X pins σ Q) X.xe s₂) X.xe s₁) X.xe s
theorem nobehind (b : Expr) {op : CmpOp} (h : op ≠ .In) (h2 : op ≠ .NotIn) : behindInMarks op b = false := by
  have e1 : (op == CmpOp.In) = false := by cases op <;> first | rfl | exact absurd rfl h
  have e2 : (op == CmpOp.NotIn) = false := by cases op <;> first | rfl | exact absurd rfl h2
  cases b <;> simp [behindInMarks, e1, e2]
/-- a comparison as a value, as a test -/
def tB (t : TE) : TT := fun σ H Q => t σ H fun x H1 => ∃ c, x = .bl c ∧ Q c H1
theorem pt_cmp {op : CmpOp} {t : TE} (h : PC X op a b t) (h1 : behindInMarks op b = false := by first | exact nobehind _ (by decide) (by decide) | rfl) : PT X (.Compare a [op] [b] pos) (tB t) := by
  intro pins s σ H Q I hw
  refine wpAny_isTrue_Compare1 (thn (h pins s σ H _ I hw) fun v s1 h1 => thn h1 fun u s2 h2 => thn h2 fun c s3 ⟨x, H1, I1, r1, q1⟩ => ?_) h1
  obtain ⟨d, rfl, q⟩ := q1
  cases r1
  exact wpAny_truthy_bool ⟨H1, I1, q⟩
/-- an expression whose value is a bool, as a test -/
theorem pt_val {e : Expr} {t : TE} (h : PE X e t) (he : ∀ whole, isTrue e X.env whole = (do let v ← whole; standAt e.pos; holding [v] (truthy v)) := by intro _; rfl) : PT X e (tB t) := by
  intro pins s σ H Q I hw
  refine isTrue_plain (thn (h pins s σ H _ I hw) fun v s1 ⟨x, H1, I1, r1, q1⟩ => ?_) (he _)
  obtain ⟨d, rfl, q⟩ := q1
  cases r1
  exact wpAny_truthy_bool ⟨H1, I1, q⟩

/-! ### and, or, not -/
variable {tA tB' : TT} {rest : List Expr}
def tOr (t u : TT) : TT := fun σ H Q => t σ H fun c H1 => if c = true then Q true H1 else u σ H1 Q
def tNot (t : TT) : TT := fun σ H Q => t σ H fun c H1 => Q (!c) H1
theorem pw_or1 (ha : PT X a tA) : PW X (.BoolOp .Or [a] pos) tA := by
  intro wh pins s σ H Q I h
  refine isTrue_or (thn (ha pins s σ H Q I h) fun c s1 e => ?_)
  cases c with
  | false => exact isTrue_or_nil e
  | true => exact e
theorem pw_or (ha : PT X a tA) (hb : PW X (.BoolOp .Or (b :: rest) pos) tB') : PW X (.BoolOp .Or (a :: b :: rest) pos) (tOr tA tB') := by
  intro wh pins s σ H Q I h
  refine isTrue_or (thn (ha pins s σ H _ I h) fun c s1 ⟨H1, I1, q1⟩ => ?_)
  cases c with
  | true => exact ⟨H1, I1, q1⟩
  | false => exact hb wh pins s1 σ H1 Q I1 q1
theorem pt_not (ha : PT X a tA) : PT X (.UnaryOp .Not a pos) (tNot tA) := by
  intro pins s σ H Q I h
  exact isTrue_not (ha pins s σ H (fun c H1 => Q (!c) H1) I h)
/-- .. as values (bools) -/
def tAndV (ta tb : TE) : TE := fun σ H Q => ta σ H fun x H1 => ∃ c, x = .bl c ∧ if c = true then tb σ H1 Q else Q (.bl false) H1
def tNotV (ta : TE) : TE := fun σ H Q => ta σ H fun x H1 => ∃ c, x = .bl c ∧ Q (.bl (!c)) H1
theorem pe_one {op} {t : TE} (h : PE X a t) : PE X (.BoolOp op [a] pos) t := fun pins s σ H Q I hw => BoolOp_one (h pins s σ H Q I hw)
theorem pe_and (ha : PE X a ta) (hb : PE X (.BoolOp .And (b :: rest) pos) tb) : PE X (.BoolOp .And (a :: b :: rest) pos) (tAndV ta tb) := by
  intro pins s σ H Q I h
  refine BoolOp_and (thn (ha pins s σ H _ I h) fun v s1 ⟨x, H1, I1, r1, q1⟩ => ?_)
  obtain ⟨c, rfl, q1⟩ := q1
  cases r1
  refine wpAny_truthy_bool ?_
  cases c with
  | true => exact hb pins s1 σ H1 Q I1 q1
  | false => exact ⟨.bl false, H1, I1, rfl, q1⟩
theorem pe_not (ha : PE X a ta) : PE X (.UnaryOp .Not a pos) (tNotV ta) := by
  intro pins s σ H Q I h
  refine UnaryOp_ (thn (ha pins s σ H _ I h) fun v s1 ⟨x, H1, I1, r1, q1⟩ => ?_)
  obtain ⟨c, rfl, q1⟩ := q1
  cases r1
  exact not_of (wpAny_truthy_bool ⟨.bl (!c), H1, I1, rfl, q1⟩)
/-- a if t else b -/
def tIf (t : TT) (ta tb : TE) : TE := fun σ H Q => t σ H fun c H1 => if c = true then ta σ H1 Q else tb σ H1 Q
theorem pe_ifExp {c : Expr} (hc : PT X c tA) (ha : PE X a ta) (hb : PE X b tb) : PE X (.IfExp c a b pos) (tIf tA ta tb) := by
  intro pins s σ H Q I h
  refine wpAny_IfExp (thn (hc pins s σ H _ I h) fun d s1 ⟨H1, I1, q1⟩ => ?_)
  cases d with
  | true => exact ha pins s1 σ H1 Q I1 q1
  | false => exact hb pins s1 σ H1 Q I1 q1
end
end L2

namespace L2
open PySem PySem.Spec PyProof.Rows
variable {q0 : Bool}

/-! ### a list, a tuple that is read: tracked, frozen, or an object of the module -/
def SqL (K : PySem.W.Frag) (H : Hp) (a : Addr) (xs : List V) : Prop :=
  Rd H a (.lst xs) ∨
    ∃ (o : Obj) (its : Array Value) (n : Nat), K.lookup a = some o ∧ o.cls = .type "list" ∧ o.dict = none ∧ o.data = .seq its n ∧ its.size ≤ sizeLine ∧ Vals xs its.toList
def SqT (K : PySem.W.Frag) (H : Hp) (a : Addr) (xs : List V) : Prop :=
  Rd H a (.tup xs) ∨
    ∃ (o : Obj) (its : Array Value) (n : Nat), K.lookup a = some o ∧ o.cls = .type "tuple" ∧ o.data = .seq its n ∧ its.size ≤ sizeLine ∧ Vals xs its.toList
def absV : Value → Option V
  | .none => some .non
  | .bool b => some (.bl b)
  | .int i _ => some (.int i)
  | .str x _ => some (.str x)
  | .bytes b _ => some (.byt b)
  | .float b _ => some (.flt b)
  | .ref a => some (.ref a)
  | .type n => some (.ty n)
  | _ => none
theorem RelV.abs {x : V} {u : Value} (r : RelV x u) : absV u = some x := by
  cases x with
  | non => cases r; rfl
  | bl _ => cases r; rfl
  | int _ => obtain ⟨t, rfl⟩ := r; rfl
  | str _ => obtain ⟨t, rfl⟩ := r; rfl
  | byt _ => obtain ⟨t, rfl⟩ := r; rfl
  | flt _ => obtain ⟨t, rfl⟩ := r; rfl
  | ref _ => cases r; rfl
  | ty _ => cases r; rfl
theorem RelV.inj {x y : V} {u : Value} (r : RelV x u) (q : RelV y u) : x = y := Option.some.inj (r.abs.symm.trans q.abs)
theorem Vals.inj : ∀ {xs ys : List V} {us : List Value}, Vals xs us → Vals ys us → xs = ys
  | _, _, _, .nil, .nil => rfl
  | _, _, _, .cons r t, .cons r' t' => by rw [r.inj r', Vals.inj t t']
section
variable {X : Cx} {pins : List (Addr × Obj)} {σ : St} {H : Hp} {s : Shared} {a : Addr} {xs ys : List V}
theorem SqL.of {K : PySem.W.Frag} (h : H a = some (.lst xs)) : SqL K H a xs := .inl (.inl h)
theorem SqT.of {K : PySem.W.Frag} (h : H a = some (.tup xs)) : SqT K H a xs := .inl (.inl h)
theorem Inv.list (I : Inv X pins σ H s) (h : SqL X.K H a xs) : ∃ its : List Value, Vals xs its ∧ PlainL s.heap a its.toArray ∧ xs.length ≤ sizeLine := by
  rcases h with h | ⟨o, its, n, hk, hc, hd, hs, hz, r⟩
  · obtain ⟨z, its, n, r, e⟩ := h.ok I.hok
    exact ⟨its, r, ⟨_, n, e, rfl, rfl, rfl⟩, z⟩
  · refine ⟨its.toList, r, ⟨o, n, I.kIn a o hk, hc, hd, by simpa using hs⟩, ?_⟩
    have e := r.length
    simp only [Array.length_toList] at e
    omega
theorem Inv.tuple (I : Inv X pins σ H s) (h : SqT X.K H a xs) : ∃ its : List Value, Vals xs its ∧ IsTup s.heap a its.toArray ∧ xs.length ≤ sizeLine := by
  rcases h with h | ⟨o, its, n, hk, hc, hs, hz, r⟩
  · obtain ⟨z, its, r, p⟩ := h.ok I.hok
    exact ⟨its, r, p, z⟩
  · refine ⟨its.toList, r, ⟨o, I.kIn a o hk, hc, n, by simpa using hs⟩, ?_⟩
    have e := r.length
    simp only [Array.length_toList] at e
    omega
theorem Inv.list_inj (I : Inv X pins σ H s) (h : SqL X.K H a xs) (h' : SqL X.K H a ys) : xs = ys := by
  obtain ⟨its, r, ⟨o, n, e, _, _, d⟩, _⟩ := I.list h
  obtain ⟨its', r', ⟨o', n', e', _, _, d'⟩, _⟩ := I.list h'
  rw [e] at e'; cases e'
  rw [d] at d'
  injection d' with d1 _
  have : its = its' := by simpa using congrArg Array.toList d1
  subst this
  exact r.inj r'
theorem Inv.tuple_inj (I : Inv X pins σ H s) (h : SqT X.K H a xs) (h' : SqT X.K H a ys) : xs = ys := by
  obtain ⟨its, r, ⟨o, e, _, n, d⟩, _⟩ := I.tuple h
  obtain ⟨its', r', ⟨o', e', _, n', d'⟩, _⟩ := I.tuple h'
  rw [e] at e'; cases e'
  rw [d] at d'
  injection d' with d1 _
  have : its = its' := by simpa using congrArg Array.toList d1
  subst this
  exact r.inj r'
end

/-! ### another wish about exceptions -/
abbrev Cx.wish (X : Cx) (E : Value → Shared → Prop) : Cx := { X with xe := E }
/-- no exception leaves -/
abbrev Cx.nox (X : Cx) : Cx := X.wish fun _ _ => False
theorem Cx.Ok.wish {X : Cx} (ok : X.Ok) (E : Value → Shared → Prop) : (X.wish E).Ok :=
  ⟨ok.mod, ok.kind, ok.glob, ok.blt, ok.above, ok.inj, ok.has, ok.cab, ok.hd, ok.frames, ok.stk, ok.exf, ok.bs, ok.bsz, ok.noex, ok.exfs, ok.funs, ok.frf⟩
theorem Cx.Ok.unwish {X : Cx} {E : Value → Shared → Prop} (ok : (X.wish E).Ok) : X.Ok :=
  ⟨ok.mod, ok.kind, ok.glob, ok.blt, ok.above, ok.inj, ok.has, ok.cab, ok.hd, ok.frames, ok.stk, ok.exf, ok.bs, ok.bsz, ok.noex, ok.exfs, ok.funs, ok.frf⟩
section
variable {X : Cx} {pins : List (Addr × Obj)} {σ : St} {H : Hp} {s : Shared} {E : Value → Shared → Prop}
theorem Inv.wish (I : Inv X pins σ H s) (E : Value → Shared → Prop) : Inv (X.wish E) pins σ H s := ⟨I.ok.wish E, I.os, I.bare, I.base, I.loc, I.cell, I.free, I.freeC, I.pin, I.hok, I.len⟩
theorem Inv.unwish (I : Inv (X.wish E) pins σ H s) : Inv X pins σ H s := ⟨I.ok.unwish, I.os, I.bare, I.base, I.loc, I.cell, I.free, I.freeC, I.pin, I.hok, I.len⟩
theorem SP.unwish {D : Ends} {f : Flow} {s' : Shared} (h : SP (X.wish E) pins D f s') : SP X pins D f s' := by
  cases f with
  | next => obtain ⟨σ', H', I, q⟩ := h; exact ⟨σ', H', I.unwish, q⟩
  | brk => obtain ⟨σ', H', I, q⟩ := h; exact ⟨σ', H', I.unwish, q⟩
  | cont => obtain ⟨σ', H', I, q⟩ := h; exact ⟨σ', H', I.unwish, q⟩
  | ret u => obtain ⟨v, σ', H', I, r, q⟩ := h; exact ⟨v, σ', H', I.unwish, r, q⟩
theorem PE.nox {e : Expr} {t : TE} (h : PE X.nox e t) : PE X e t := fun pins s σ H Q I hw =>
  wpAny_mono (h pins s σ H Q (I.wish _) hw) (fun _ _ ⟨v, H', I', r, q⟩ => ⟨v, H', I'.unwish, r, q⟩) fun _ _ z => False.elim z
theorem PT.nox {e : Expr} {t : TT} (h : PT X.nox e t) : PT X e t := fun pins s σ H Q I hw =>
  wpAny_mono (h pins s σ H Q (I.wish _) hw) (fun _ _ ⟨H', I', q⟩ => ⟨H', I'.unwish, q⟩) fun _ _ z => False.elim z
theorem PSs.nox {st : List Stmt} {t : TS} (h : PSs X.nox st t) : PSs X st t := fun pins s σ H D I hw =>
  wpAny_mono (h pins s σ H D (I.wish _) hw) (fun _ _ q => q.unwish) fun _ _ z => False.elim z
end

/-! ### blocks and small statements -/
section
variable {X : Cx} {st : Stmt} {rest : List Stmt} {t u : TS} {e : Expr} {te : TE} {pos : Pos}
def tNext : TS := fun D σ H => D.nx σ H
def tSeq (t u : TS) : TS := fun D σ H => t { D with nx := u D } σ H
theorem pss_nil : PSs X [] tNext := fun _ _ σ H _ I h => wpAny_execs_nil ⟨σ, H, I, h⟩
theorem pss_cons (h1 : PS X st t) (h2 : PSs X rest u) : PSs X (st :: rest) (tSeq t u) := by
  intro pins s σ H D I h
  refine wpAny_execs_cons (thn (h1 pins s σ H { D with nx := u D } I h) fun f s1 q => ?_)
  cases f with
  | next =>
    obtain ⟨σ', H', I', q⟩ := q
    exact h2 pins s1 σ' H' D I' q
  | ret v => exact q
  | brk => exact q
  | cont => exact q
theorem pss_one (h1 : PS X st t) : PSs X [st] t := by
  intro pins s σ H D I h
  refine wpAny_execs_cons (thn (h1 pins s σ H D I h) fun f s1 q => ?_)
  cases f with
  | next => exact wpAny_execs_nil q
  | ret v => exact q
  | brk => exact q
  | cont => exact q
/-- in a def's body nothing is shown -/
theorem Inv.quiet {pins : List (Addr × Obj)} {σ : St} {H : Hp} {s : Shared} (I : Inv X pins σ H s) : interactive X.env = false := by simp [interactive, I.ok.kind]
/-- an expression whose value is dropped -/
def tDrop (te : TE) : TS := fun D σ H => te σ H fun _ H1 => D.nx σ H1
theorem ps_expr (he : PE X e te) (hs : swapsWith e none pos.line X.env = pure false := by rfl) : PS X (.Expr e pos) (tDrop te) := by
  intro pins s σ H D I h
  exact wpAny_Expr_any (thn (he pins s σ H _ I h) fun v s1 ⟨x, H1, I1, r1, q1⟩ => ⟨σ, H1, I1, q1⟩) I.quiet hs
def tRet (te : TE) : TS := fun D σ H => te σ H D.rt
theorem ps_ret (he : PE X e te) : PS X (.Return (some e) pos) (tRet te) := by
  intro pins s σ H D I h
  exact wpAny_Return_some (thn (he pins s σ H _ I h) fun v s1 ⟨x, H1, I1, r1, q1⟩ => ⟨x, σ, H1, I1, r1, q1⟩)
def tIfS (c : TT) (t u : TS) : TS := fun D σ H => c σ H fun b H1 => if b = true then t D σ H1 else u D σ H1
theorem ps_if {c : Expr} {a b : List Stmt} {tc : TT} (hc : PT X c tc) (ha : PSs X a t) (hb : PSs X b u) : PS X (.If c a b pos) (tIfS tc t u) := by
  intro pins s σ H D I h
  refine wpAny_If (thn (hc pins s σ H _ I h) fun d s1 ⟨H1, I1, q1⟩ => ?_)
  cases d with
  | true => exact ha pins s1 σ H1 D I1 q1
  | false => exact hb pins s1 σ H1 D I1 q1
/-- code that the proof never comes to -/
def tNever : TS := fun _ _ _ => False
theorem ps_never : PS X st tNever := fun _ _ _ _ _ _ h => h.elim
end

/-! ### targets -/
abbrev TG := V → St → Hp → (St → Hp → Prop) → Prop
abbrev TGs := List V → St → Hp → (St → Hp → Prop) → Prop
def PG (X : Cx) (target : Expr) (t : TG) : Prop :=
  ∀ (pins : List (Addr × Obj)) (s : Shared) (σ : St) (H : Hp) (v : V) (u : Value) (Q : St → Hp → Prop), Inv X pins σ H s → RelV v u → t v σ H Q →
    wpAny (model X.prog X.w) X.A (assign target X.env u) (fun _ s' => ∃ σ' H', Inv X pins σ' H' s' ∧ Q σ' H') X.xe s
/-- several targets, one after another -/
def PGs (X : Cx) (ts : List Expr) (t : TGs) : Prop :=
  ∀ (pins : List (Addr × Obj)) (s : Shared) (σ : St) (H : Hp) (vs : List V) (us : List Value) (Q : St → Hp → Prop), Inv X pins σ H s → Vals vs us → t vs σ H Q →
    wpAny (model X.prog X.w) X.A (assignInOrder ((assignEach ts X.env).map (·.2)) us) (fun _ s' => ∃ σ' H', Inv X pins σ' H' s' ∧ Q σ' H') X.xe s
section
variable {X : Cx} {pos : Pos}
def gName (i : Nat) : TG := fun v σ H Q => Q (σ.set i (some v)) H
theorem pg_name {i : Nat} {x : Str} (hN : X.N.Nodup) (hi : X.N[i]? = some x) (hx : Loc X.env.scope x) (hf : X.fn x = true ∨ X.env.scope.names.lookup x = some .local := by first | exact .inl rfl | exact .inr rfl | assumption) : PG X (.Name x pos) (gName i) := by
  intro pins s σ H v u Q I r h
  exact wpAny_assign_Name (store_ok I hN hi hx r (fun s' I' => ⟨_, H, I', h⟩) hf)
def gNil : TGs := fun vs σ H Q => vs = [] ∧ Q σ H
def gCons (t : TG) (u : TGs) : TGs := fun vs σ H Q => ∃ v r, vs = v :: r ∧ t v σ H fun σ' H' => u r σ' H' Q
theorem pgs_nil : PGs X [] gNil := by
  intro pins s σ H vs us Q I r h
  obtain ⟨e, h⟩ := h
  subst e
  cases r
  exact assignInOrder_nil ⟨σ, H, I, h⟩
theorem pgs_cons {e : Expr} {es : List Expr} {t : TG} {u : TGs} (h1 : PG X e t) (h2 : PGs X es u)
    (hs : (assignEach (e :: es) X.env).map (·.2) = assign e X.env :: (assignEach es X.env).map (·.2) := by rfl) : PGs X (e :: es) (gCons t u) := by
  intro pins s σ H vs us Q I r h
  obtain ⟨v, vr, e1, h⟩ := h
  subst e1
  cases r with
  | cons r rr =>
    rw [hs]
    refine assignInOrder_cons (thn (h1 pins s σ H _ _ _ I r h) fun _ s1 ⟨σ1, H1, I1, q1⟩ => ?_)
    exact h2 pins s1 σ1 H1 _ _ Q I1 rr q1
/-- (a, b, ..) = a tuple of that length -/
def gTup (K : PySem.W.Frag) (n : Nat) (t : TGs) : TG := fun v σ H Q => ∃ a xs, v = .ref a ∧ SqT K H a xs ∧ xs.length = n ∧ t xs σ H Q
theorem pg_tup {es : List Expr} {k : Nat} {t : TGs} {n : Nat} (hc : X.calm = true) (h : PGs X es t)
    (hn : (assignEach es X.env).length = n := by rfl) (hst : (assignEach es X.env).findIdx? (·.1) = none := by rfl) : PG X (.Tuple es k pos) (gTup X.K n t) := by
  intro pins s σ H v u Q I r hw
  obtain ⟨a, xs, e1, hq, hl, hw⟩ := hw
  subst e1
  cases r
  obtain ⟨its, rv, ht, hz⟩ := I.tuple hq
  refine assign_Tuple_tuple (I.ok.hd hc) ht (by simp [hn, ← hl, rv.length]) hst fun h' hx => ?_
  have I1 : Inv X pins σ H { s with heap := h' } := I.kept (t' := s.toks) fun b o e => hx b o (Nat.ne_of_lt (Heap.lt_size e)) e
  exact h pins _ σ H xs _ Q I1 (by simpa using rv) hw
/-- target = value -/
def tAsg (te : TE) (g : TG) : TS := fun D σ H => te σ H fun x H1 => g x σ H1 D.nx
theorem ps_asg {tg e : Expr} {te : TE} {g : TG} (he : PE X e te) (hg : PG X tg g) (hs : swapsWithSole [tg] e pos.line X.env = pure false := by rfl) (hw : swappedStores [tg] e X.env = pure none := by rfl)
    (h1 : (assignEach [tg] X.env).map (·.2) = [assign tg X.env] := by rfl) : PS X (.Assign [tg] e pos) (tAsg te g) := by
  intro pins s σ H D I h
  refine wpAny_Assign_stores (thn (he pins s σ H _ I h) fun v s1 ⟨x, H1, I1, r1, q1⟩ => ?_) hs hw
  rw [h1]
  exact thn (hg pins s1 σ H1 x v _ I1 r1 q1) fun _ s2 q => q
/-- name = value -/
theorem ps_set {i : Nat} {x : Str} {e : Expr} {te : TE} {pos' : Pos} (hN : X.N.Nodup) (hi : X.N[i]? = some x) (hx : Loc X.env.scope x) (he : PE X e te) (hs : swapsWith e (some (.Name x pos')) pos.line X.env = pure false := by rfl) (hf : X.fn x = true ∨ X.env.scope.names.lookup x = some .local := by first | exact .inl rfl | exact .inr rfl | assumption) :
    PS X (.Assign [.Name x pos'] e pos) (tAsg te (gName i)) := by
  intro pins s σ H D I h
  refine wpAny_Assign_Name (thn (he pins s σ H _ I h) fun v s1 ⟨y, H1, I1, r1, q1⟩ => ?_) hs
  exact store_ok I1 hN hi hx r1 (fun s2 I2 => ⟨_, H1, I2, q1⟩) hf
end

/-! ### while -/
section
variable {X : Cx} {pos : Pos}
end

/-! ### what a loop or a comprehension walks -/
/-- at turn i: it yields x (the heap may grow), or it stops -/
structure It where
  go : Nat → Hp → Prop
  yld : Nat → Hp → V → Hp → Prop
  stop : Nat → Hp → Prop
/-- the iterator's own objects may turn: they are not the frame's, not pinned, younger than the entry (or a comprehension's own) -/
def FpOk (X : Cx) (pins : List (Addr × Obj)) (H : Hp) (b : Addr) : Prop :=
  H b = none ∧ b ≠ X.env.locals ∧ b ∉ X.fs ∧ (b ∈ X.ex ∨ X.s₀.heap.objs.size ≤ b) ∧ (∀ x c, X.env.cells.lookup x = some c → c ≠ b) ∧ ∀ p ∈ X.pn ++ pins, p.1 ≠ b
theorem Inv.fpOk {X : Cx} {pins : List (Addr × Obj)} {σ : St} {H H' : Hp} {s : Shared} {b : Addr} (I : Inv X pins σ H s) (hb : s.heap.objs.size ≤ b) (hn : H' b = none) : FpOk X pins H' b := by
  refine ⟨hn, Nat.ne_of_gt (Nat.lt_of_lt_of_le I.lt hb), I.nofs hb, .inr (Nat.le_trans I.sz hb), fun x c e z => ?_, fun p hp z => ?_⟩
  · obtain ⟨v, q⟩ := I.cell x c e
    exact absurd (Nat.lt_of_lt_of_le q.lt (by rw [z]; exact hb)) (Nat.lt_irrefl _)
  · exact absurd (Nat.lt_of_lt_of_le (Heap.lt_size (I.pin p hp).1) (by rw [z]; exact hb)) (Nat.lt_irrefl _)
structure Turn (P : Program) (w : World) (K : PySem.W.Frag) (tg : Expr) (J : It) (fp : List Addr) (it : Addr) (tn : Nat → Heap → Prop) : Prop where
  mem : it ∈ fp
  obj : ∀ i h, tn i h → ∀ b ∈ fp, ∃ o, h.get? b = some o ∧ ∀ v, o.data ≠ .cell v
  keep : ∀ i h h', tn i h → (∀ b ∈ fp, ∀ o, h.get? b = some o → h'.get? b = some o) → tn i h'
  item : ∀ (X : Cx), X.prog = P → X.w = w → X.K = K → X.calm = true → ∀ (i : Nat) (pins : List (Addr × Obj)) (s : Shared) (σ : St) (H : Hp) (E : Value → Shared → Prop), Inv X pins σ H s → (∀ b ∈ fp, FpOk X pins H b) → tn i s.heap → J.go i H →
    wpAny (model P w) X.A (pyNext (.ref it)) (fun r s1 => ∃ u, r = some u ∧
      wpAny (model P w) X.A (letOwnedTupleGo tg (.ref it) u) (fun _ s2 => ∃ x H', Inv X pins σ H' s2 ∧ RelV x u ∧ J.yld i H x H' ∧ tn (i + 1) s2.heap ∧ ∀ b ∈ fp, H' b = none) E s1) E s
  done : ∀ (X : Cx), X.prog = P → X.w = w → X.K = K → X.calm = true → ∀ (i : Nat) (pins : List (Addr × Obj)) (s : Shared) (σ : St) (H : Hp) (E : Value → Shared → Prop), Inv X pins σ H s → (∀ b ∈ fp, FpOk X pins H b) → tn i s.heap → J.stop i H →
    wpAny (model P w) X.A (pyNext (.ref it)) (fun r s1 => r = none ∧ Inv X pins σ H s1) E s
  self : ∀ (A : Around) (i : Nat) (s : Shared) (Q : Value → Shared → Prop) (E : Value → Shared → Prop), tn i s.heap → Q (.ref it) s → wpAny (model P w) A (pyIter (.ref it)) Q E s
abbrev TI := St → Hp → (It → Hp → Prop) → Prop
/-- an iterator has come -/
def PIE (X : Cx) (pins : List (Addr × Obj)) (σ : St) (tg : Expr) (R : It → Hp → Prop) (itv : Value) (s2 : Shared) : Prop :=
  ∃ (it : Addr) (fp : List Addr) (tn : Nat → Heap → Prop) (J : It) (H' : Hp), itv = .ref it ∧ Inv X pins σ H' s2 ∧ Turn X.prog X.w X.K tg J fp it tn ∧ tn 0 s2.heap ∧ (∀ b ∈ fp, FpOk X pins H' b) ∧ R J H'
def PI (X : Cx) (tg iter : Expr) (wi : TI) : Prop :=
  ∀ (pins : List (Addr × Obj)) (s : Shared) (σ : St) (H : Hp) (R : It → Hp → Prop), Inv X pins σ H s → wi σ H R →
    wpAny (model X.prog X.w) X.A (eval iter X.env) (fun v s1 => wpAny (model X.prog X.w) X.A (pyIter v) (PIE X pins σ tg R) X.xe s1) X.xe s

/-- the step ahead of the store is nothing for an iterator that keeps no tuple -/
theorem go_of {M : Model} {A : Around} {E : Value → Shared → Prop} {s : Shared} {tg : Expr} {it : Addr} {u : Value} {o : Obj} {n : String} {vs : Array Value} {Q : Unit → Shared → Prop} (ho : s.heap.get? it = some o) (hc : o.cls = .type n) (hd : o.data = .fields vs)
    (hn : ["enumerate", "zip", "dict_itemiterator", "dict_reverseitemiterator", "odict_iterator", "itertools.zip_longest", "itertools.pairwise"].contains n = false) (hQ : Q () s) : wpAny M A (letOwnedTupleGo tg (.ref it) u) Q E s := by
  unfold letOwnedTupleGo
  cases tg <;> first
    | exact wpAny_pure hQ
    | (cases u <;> first
        | exact wpAny_pure hQ
        | (refine wpAny_bind (wpAny_load ho ?_)
           rw [hc, hd]
           show wpAny M A (if (["enumerate", "zip", "dict_itemiterator", "dict_reverseitemiterator", "odict_iterator", "itertools.zip_longest", "itertools.pairwise"].contains n && vs[0]? == some (rawInt _)) = true then _ else _) Q E s
           rw [if_neg (by intro h; rw [hn, Bool.false_and] at h; cases h)]
           exact wpAny_pure hQ))

/-- the list at a, as it stands at each turn (a loop may append to it) -/
def Itl (K : PySem.W.Frag) (a : Addr) : It :=
  ⟨fun i H => ∃ xs x, SqL K H a xs ∧ xs[i]? = some x, fun i H x H' => H' = H ∧ ∀ xs, SqL K H a xs → xs[i]? = some x, fun i H => ∃ xs, SqL K H a xs ∧ xs.length ≤ i⟩
/-- lo, lo + 1, .. (n of them) -/
def Itr (lo : Int) (n : Nat) : It := ⟨fun i _ => i < n, fun i H x H' => H' = H ∧ x = .int (lo + i), fun i _ => n ≤ i⟩
theorem turn_list {P : Program} {w : World} {K : PySem.W.Frag} {tg : Expr} (a it : Addr) : Turn P w K tg (Itl K a) [it] it (fun i h => h.IsListIter it a i) where
  mem := by simp
  obj := fun i h st b hb => by
    have e : b = it := by simpa using hb
    subst e
    obtain ⟨o, e, c, d⟩ := st
    exact ⟨o, e, fun v z => by rw [d] at z; cases z⟩
  keep := fun i h h' st k => st.at fun o e => k it (by simp) o e
  item := by
    intro X hP hw hK hc i pins s σ H E I hf st hg
    subst hP hw hK
    obtain ⟨xs, x, hq, hx⟩ := hg
    obtain ⟨its, rv, p, hz⟩ := I.list hq
    obtain ⟨u, hu, ru⟩ := rv.get hx
    obtain ⟨f0, f1, f2, f3, f4, f5⟩ := hf it (by simp)
    refine wpAny_pyNext_list_item st p.isList (x := u) (by simpa using hu) fun h' st' sb => ?_
    have I1 : Inv X pins σ H { s with heap := h' } := I.turned (t' := s.toks) (fun b o hb e => (sb.2 b hb).trans e) f0 f1 f3 f4 f5
    obtain ⟨o, e, c, d⟩ := id st'
    exact ⟨u, rfl, go_of (s := { s with heap := h' }) e c d (by decide) ⟨x, H, I1, ru, ⟨rfl, fun ys hy => by rw [I.list_inj hy hq]; exact hx⟩, st', fun b hb => (hf b hb).1⟩⟩
  done := by
    intro X hP hw hK hc i pins s σ H E I hf st hg
    subst hP hw hK
    obtain ⟨xs, hq, hx⟩ := hg
    obtain ⟨its, rv, p, hz⟩ := I.list hq
    obtain ⟨f0, f1, f2, f3, f4, f5⟩ := hf it (by simp)
    have hl := rv.length
    exact wpAny_pyNext_list_end (I.ok.hd hc) st p.isList (by simp; omega) fun h' eb => ⟨rfl, I.turned (t' := s.toks) (fun b o hb e => eb b o hb e) f0 f1 f3 f4 f5⟩
  self := fun _ _ _ _ _ st h => wpAny_pyIter_listiter st h
theorem turn_range {P : Program} {w : World} {K : PySem.W.Frag} {tg : Expr} (it : Addr) (lo : Int) (n : Nat) : Turn P w K tg (Itr lo n) [it] it (fun i h => IsRangeIter h it (lo + (i : Nat) * 1) ((n : Int) - (i : Nat)) 1) where
  mem := by simp
  obj := fun i h st b hb => by
    have e : b = it := by simpa using hb
    subst e
    exact ⟨_, st, fun v z => by
      have z' : Data.fields _ = Data.cell v := z
      cases z'⟩
  keep := fun i h h' st k => k it (by simp) _ st
  item := by
    intro X hP hw hK hc i pins s σ H E I hf st hg
    subst hP hw hK
    obtain ⟨f0, f1, f2, f3, f4, f5⟩ := hf it (by simp)
    have W := Walks.range (prog := X.prog) (w := X.w) (I.ok.hd hc) it lo 1 n
    refine W.item i s _ _ hg st fun v h' tk hv st' kk => ?_
    obtain ⟨t, rfl⟩ := hv
    have I1 : Inv X pins σ H { s with heap := h', toks := tk } := I.turned (fun b o hb e => kk b o (by simpa using hb) e) f0 f1 f3 f4 f5
    refine ⟨_, rfl, go_of (s := { s with heap := h', toks := tk }) (n := "range_iterator") st' rfl rfl (by decide) ⟨.int (lo + i), H, I1, ⟨t, ?_⟩, ⟨rfl, rfl⟩, st', fun b hb => (hf b hb).1⟩⟩
    rw [Int.mul_one]
  done := by
    intro X hP hw hK hc i pins s σ H E I hf st hg
    subst hP hw hK
    obtain ⟨f0, f1, f2, f3, f4, f5⟩ := hf it (by simp)
    exact wpAny_pyNext_range_end (I.ok.hd hc) st (by have : n ≤ i := hg; omega) fun h' eb => ⟨rfl, I.turned (t' := s.toks) (fun b o hb e => eb b o hb e) f0 f1 f3 f4 f5⟩
  self := fun _ _ _ _ _ st h => wpAny_pyIter_rangeiter st h
end L2

namespace L2
open PySem PySem.Spec PyProof.Rows
variable {q0 : Bool}
section
variable {X : Cx} {tg : Expr}
def iList (K : PySem.W.Frag) (tl : TE) : TI := fun σ H R => tl σ H fun x H1 => ∃ a, x = .ref a ∧ (∃ xs, SqL K H1 a xs) ∧ R (Itl K a) H1
theorem pi_list {l : Expr} {tl : TE} (hl : PE X l tl) : PI X tg l (iList X.K tl) := by
  intro pins s σ H R I h
  refine thn (hl pins s σ H _ I h) fun v s1 ⟨x, H1, I1, r1, q1⟩ => ?_
  obtain ⟨a, e, ⟨xs, hq⟩, q⟩ := q1
  subst e
  cases r1
  obtain ⟨its, rv, p, hz⟩ := I1.list hq
  refine wpAny_pyIter_list p.isList ?_
  refine ⟨s1.heap.objs.size, [s1.heap.objs.size], _, _, H1, rfl, I1.kept (t' := s1.toks) fun b o e => Heap.get?_push_of_some _ e, turn_list a _, ⟨_, Heap.get?_push_size _ rfl, rfl, rfl⟩, fun b hb => ?_, q⟩
  have e : b = s1.heap.objs.size := by simpa using hb
  subst e
  exact I1.fpOk (Nat.le_refl _) (I1.hok.fresh (Nat.le_refl _))
/-- a range object just made, walked -/
theorem range_it {pins : List (Addr × Obj)} {σ : St} {H : Hp} {s : Shared} {R : It → Hp → Prop} {E : Value → Shared → Prop} {lo hi : Int} {t u v : Tok} {tk : Nat} (I : Inv X pins σ H s) (h1 : -(2 ^ 62) ≤ lo) (h2 : lo < 2 ^ 62) (h3 : -(2 ^ 62) ≤ hi) (h4 : hi < 2 ^ 62)
    (q : R (Itr lo (hi - lo).toNat) H) : wpAny (model X.prog X.w) X.A (pyIter (.ref s.heap.objs.size)) (PIE X pins σ tg R) E { s with heap := s.heap.push { cls := .type "range", data := .fields #[.int lo t, .int hi u, .int 1 v] }, toks := tk } := by
  refine wpAny_pyIter_range (IsRange.new ..) (small_one h1 h2 h3 h4) ?_
  have I1 : Inv X pins σ H { s with heap := s.heap.push { cls := .type "range", data := .fields #[.int lo t, .int hi u, .int 1 v] }, toks := tk } := I.kept fun b o e => Heap.get?_push_of_some _ e
  refine ⟨(s.heap.push { cls := .type "range", data := .fields #[.int lo t, .int hi u, .int 1 v] }).objs.size, [(s.heap.push { cls := .type "range", data := .fields #[.int lo t, .int hi u, .int 1 v] }).objs.size], _, _, H, rfl,
    I1.kept (t' := tk) fun b o e => Heap.get?_push_of_some _ e, turn_range _ lo (hi - lo).toNat, ?_, fun b hb => ?_, q⟩
  · have e1 : lo + ((0 : Nat) : Int) * 1 = lo := by simp
    have e2 : (((hi - lo).toNat : Nat) : Int) - ((0 : Nat) : Int) = Builtin.Range.rangeSize lo hi 1 := by rw [rangeSize_one]; split <;> omega
    show IsRangeIter _ _ (lo + ((0 : Nat) : Int) * 1) ((((hi - lo).toNat : Nat) : Int) - ((0 : Nat) : Int)) 1
    rw [e1, e2]
    exact Heap.get?_push_size _ rfl
  · have e : b = (s.heap.push { cls := .type "range", data := .fields #[.int lo t, .int hi u, .int 1 v] }).objs.size := by simpa using hb
    subst e
    exact I1.fpOk (Nat.le_refl _) (I1.hok.fresh (Nat.le_refl _))
def iRng1 (ta : TA) : TI := fun σ H R => ta σ H fun vs H1 => ∃ j : Int, vs = [.int j] ∧ -(2 ^ 62) ≤ j ∧ j < 2 ^ 62 ∧ R (Itr 0 j.toNat) H1
def iRng2 (ta : TA) : TI := fun σ H R => ta σ H fun vs H1 => ∃ i j : Int, vs = [.int i, .int j] ∧ (-(2 ^ 62) ≤ i ∧ i < 2 ^ 62 ∧ -(2 ^ 62) ≤ j ∧ j < 2 ^ 62) ∧ R (Itr i (j - i).toNat) H1
theorem pi_range1 {a : Expr} {ta : TA} {p pos : Pos} (hg : Gl X "range") (hm : X.mg "range" = none) (ha : PA X [a] ta) (hs : starEach [a] X.env = [(false, eval a X.env)] := by rfl) : PI X tg (.Call (.Name "range" p) [a] [] pos) (iRng1 ta) := by
  intro pins s σ H R I h
  refine Call_ (ld_blt I hg hm boot_range (PyProof.Rows.callWith_type1 (thn (ha pos pins s σ H _ I h) fun us s1 ⟨vs, H1, I1, r1, q1⟩ => ?_) hs rfl))
  obtain ⟨j, e, q1, q2, q⟩ := q1
  subst e
  cases r1 with
  | cons r rr =>
    cases rr
    obtain ⟨t, rfl⟩ := r
    exact call_range_1 (range_it I1 (by omega) (by omega) q1 q2 (by simpa using q))
theorem pi_range2 {a b : Expr} {ta : TA} {p pos : Pos} (hg : Gl X "range") (hm : X.mg "range" = none) (ha : PA X [a, b] ta) (hs : starEach [a, b] X.env = [(false, eval a X.env), (false, eval b X.env)] := by rfl) (hs2 : starEach [b] X.env = [(false, eval b X.env)] := by rfl) :
    PI X tg (.Call (.Name "range" p) [a, b] [] pos) (iRng2 ta) := by
  intro pins s σ H R I h
  refine Call_ (ld_blt I hg hm boot_range (PyProof.Rows.callWith_type1 (thn (ha pos pins s σ H _ I h) fun us s1 ⟨vs, H1, I1, r1, q1⟩ => ?_) (by rw [hs, hs2]) (by rw [hs2]; rfl)))
  obtain ⟨i, j, e, ⟨q1, q2, q3, q4⟩, q⟩ := q1
  subst e
  cases r1 with
  | cons r rr =>
    cases rr with
    | cons r' rr =>
      cases rr
      obtain ⟨t, rfl⟩ := r
      obtain ⟨t', rfl⟩ := r'
      exact call_range_2 (range_it I1 q1 q2 q3 q4 q)

/-! ### for -/
/-- W: the invariant by the turn and a measure; N: what the body is to reach -/
def tFor (wi : TI) (g : TG) (tb : TS) : TS := fun D σ H => wi σ H fun J H1 => ∃ W : Nat → Nat → St → Hp → Prop, (∃ m, W 0 m σ H1) ∧ ∀ i m σ H, W i m σ H →
  (J.stop i H ∧ D.nx σ H) ∨ (J.go i H ∧ ∃ N : St → Hp → Prop, (∀ σ' H', N σ' H' → ∃ m', m' < m ∧ W (i + 1) m' σ' H') ∧ ∀ x H', J.yld i H x H' → g x σ H' fun σ2 H2 => tb { D with nx := N, ct := N, bk := D.nx } σ2 H2)
/-- the records at fp as they stand -/
def pinsAt (fp : List Addr) (h : Heap) : List (Addr × Obj) := fp.filterMap fun b => (h.get? b).map fun o => (b, o)
theorem mem_pinsAt {fp : List Addr} {h : Heap} {b : Addr} {o : Obj} (hb : b ∈ fp) (e : h.get? b = some o) : (b, o) ∈ pinsAt fp h := List.mem_filterMap.mpr ⟨b, hb, by rw [e]; rfl⟩
theorem of_pinsAt {fp : List Addr} {h : Heap} {p : Addr × Obj} (hp : p ∈ pinsAt fp h) : p.1 ∈ fp ∧ h.get? p.1 = some p.2 := by
  obtain ⟨b, hb, e⟩ := List.mem_filterMap.mp hp
  cases q : h.get? b with
  | none => rw [q] at e; cases e
  | some o =>
    rw [q] at e
    have e' : (b, o) = p := Option.some.inj e
    subst e'
    exact ⟨hb, q⟩
theorem Inv.pinned {pins : List (Addr × Obj)} {σ : St} {H : Hp} {s : Shared} {fp : List Addr} (I : Inv X pins σ H s) (hf : ∀ b ∈ fp, FpOk X pins H b) (ho : ∀ b ∈ fp, ∃ o, s.heap.get? b = some o ∧ ∀ v, o.data ≠ .cell v) : Inv X (pins ++ pinsAt fp s.heap) σ H s :=
  I.pins_of fun p hp => (List.mem_append.mp hp).elim (fun z => I.pin p (List.mem_append_right _ z)) fun z => by
    obtain ⟨hb, e⟩ := of_pinsAt z
    obtain ⟨f0, f1, f2, _⟩ := hf p.1 hb
    obtain ⟨o, e', d⟩ := ho p.1 hb
    rw [e] at e'; cases e'
    exact ⟨e, f0, f1, f2, d⟩
theorem Inv.unpinned {pins pl : List (Addr × Obj)} {σ : St} {H : Hp} {s : Shared} (I : Inv X (pins ++ pl) σ H s) : Inv X pins σ H s := I.pins_of fun p hp => I.pin p (List.mem_append_right _ (List.mem_append_left _ hp))
theorem ps_for {iter : Expr} {body : List Stmt} {wi : TI} {g : TG} {tb : TS} {pos : Pos} (hp : PassesOwn (model X.prog X.w) X.A X.env X.xe) (hc : X.calm = true) (hi : PI X tg iter wi) (hg : PG X tg g) (hb : PSs X body tb)
    (hs : ∀ x, foldedSetIterable iter X.env x = pure x := by intro _; rfl) : PS X (.For tg iter body [] pos) (tFor wi g tb) := by
  intro pins s σ H D I h
  refine wpAny_For (thn (hi pins s σ H _ I h) fun v s1 h1 => thn h1 fun itv s2 h2 => ?_) hs
  obtain ⟨it, fp, tn, J, H2, e, I2, T, st2, f2, W, ⟨m0, w0⟩, turn⟩ := h2
  subst e
  -- what stays true of the iterator's objects through the loop
  have stat : ∀ {H' : Hp}, (∀ b ∈ fp, H' b = none) → ∀ b ∈ fp, FpOk X pins H' b := fun hn b hb => ⟨hn b hb, (f2 b hb).2⟩
  refine codeAny_forLoop_any (fun n s' => ∃ i σ' H', Inv X pins σ' H' s' ∧ tn i s'.heap ∧ (∀ b ∈ fp, H' b = none) ∧ W i n σ' H') ?_ m0 ⟨0, σ, H2, I2, st2, fun b hb => (f2 b hb).1, w0⟩
  rintro n s3 ⟨i, σ3, H3, I3, st3, fr3, w3⟩
  rcases turn i n σ3 H3 w3 with ⟨stop, qn⟩ | ⟨go, N, hN, step⟩
  · refine wpAny_passesOwn hp (thn (T.done X rfl rfl rfl hc i pins s3 σ3 H3 X.xe I3 (stat fr3) st3 stop) fun r s4 ⟨hr, I4⟩ => ?_)
    subst hr
    exact wpAny_execs_nil ⟨σ3, H3, I4, qn⟩
  · refine wpAny_passesOwn hp (thn (T.item X rfl rfl rfl hc i pins s3 σ3 H3 X.xe I3 (stat fr3) st3 go) fun r s4 ⟨u, hr, h4⟩ => ?_)
    subst hr
    refine wpAny_passesOwn hp (thn h4 fun _ s5 ⟨x, H5, I5, r5, y5, st5, fr5⟩ => ?_)
    have I5' := I5.pinned (stat fr5) (T.obj _ _ st5)
    refine wpAny_passesOwn hp (thn (hg _ s5 σ3 H5 x u _ I5' r5 (step x H5 y5)) fun _ s6 ⟨σ6, H6, I6, q6⟩ => ?_)
    refine wpAny_passesOwn hp (thn (hb _ s6 σ6 H6 _ I6 q6) fun f s7 q7 => ?_)
    have again : ∀ {σ7 : St} {H7 : Hp}, Inv X (pins ++ pinsAt fp s5.heap) σ7 H7 s7 → N σ7 H7 → ∃ m, m < n ∧ ∃ i σ' H', Inv X pins σ' H' s7 ∧ tn i s7.heap ∧ (∀ b ∈ fp, H' b = none) ∧ W i m σ' H' := fun {σ7 H7} I7 n7 => by
      obtain ⟨m', hm, w7⟩ := hN σ7 H7 n7
      refine ⟨m', hm, i + 1, σ7, H7, I7.unpinned, T.keep _ _ _ st5 fun b hb o e => (I7.pin (b, o) (List.mem_append_right _ (List.mem_append_right _ (mem_pinsAt hb e)))).1, fun b hb => ?_, w7⟩
      obtain ⟨o, e, d⟩ := T.obj _ _ st5 b hb
      exact (I7.pin (b, o) (List.mem_append_right _ (List.mem_append_right _ (mem_pinsAt hb e)))).2.1
    cases f with
    | next => obtain ⟨σ7, H7, I7, n7⟩ := q7; exact again I7 n7
    | cont => obtain ⟨σ7, H7, I7, n7⟩ := q7; exact again I7 n7
    | brk => obtain ⟨σ7, H7, I7, q7⟩ := q7; exact ⟨σ7, H7, I7.unpinned, q7⟩
    | ret v => obtain ⟨x7, σ7, H7, I7, r7, q7⟩ := q7; exact ⟨x7, σ7, H7, I7.unpinned, r7, q7⟩
end

/-! ### the forms one uses -/
/-- over a list that the body leaves as it is -/
theorem for_list {K : PySem.W.Frag} {a : Addr} {xs : List V} {g : TG} {tb : TS} {D : Ends} {σ : St} {H : Hp} (Pv : Nat → St → Hp → Prop) (h0 : Pv 0 σ H) (hl : ∀ i σ H, i ≤ xs.length → Pv i σ H → SqL K H a xs)
    (hs : ∀ i x σ H, xs[i]? = some x → Pv i σ H → g x σ H fun σ2 H2 => tb { D with nx := Pv (i + 1), ct := Pv (i + 1), bk := D.nx } σ2 H2) (hd : ∀ σ H, Pv xs.length σ H → D.nx σ H) :
    ∃ W : Nat → Nat → St → Hp → Prop, (∃ m, W 0 m σ H) ∧ ∀ i m σ H, W i m σ H →
      ((Itl K a).stop i H ∧ D.nx σ H) ∨ ((Itl K a).go i H ∧ ∃ N : St → Hp → Prop, (∀ σ' H', N σ' H' → ∃ m', m' < m ∧ W (i + 1) m' σ' H') ∧ ∀ x H', (Itl K a).yld i H x H' → g x σ H' fun σ2 H2 => tb { D with nx := N, ct := N, bk := D.nx } σ2 H2) := by
  refine ⟨fun i m σ H => m = xs.length - i ∧ i ≤ xs.length ∧ Pv i σ H, ⟨xs.length, by simp, Nat.zero_le _, h0⟩, ?_⟩
  rintro i m σ H ⟨rfl, hi, p⟩
  have q := hl i σ H hi p
  by_cases hlt : i < xs.length
  · refine .inr ⟨⟨xs, xs[i], q, by simp [hlt]⟩, Pv (i + 1), fun σ' H' p' => ⟨xs.length - (i + 1), by omega, rfl, hlt, p'⟩, fun x H' y => ?_⟩
    obtain ⟨e, y⟩ := y
    subst e
    exact hs i x σ _ (y xs q) p
  · have e : i = xs.length := by omega
    subst e
    exact .inl ⟨⟨xs, q, Nat.le_refl _⟩, hd σ H p⟩
theorem for_range {lo : Int} {n : Nat} {g : TG} {tb : TS} {D : Ends} {σ : St} {H : Hp} (Pv : Nat → St → Hp → Prop) (h0 : Pv 0 σ H)
    (hs : ∀ i σ H, i < n → Pv i σ H → g (.int (lo + i)) σ H fun σ2 H2 => tb { D with nx := Pv (i + 1), ct := Pv (i + 1), bk := D.nx } σ2 H2) (hd : ∀ σ H, Pv n σ H → D.nx σ H) :
    ∃ W : Nat → Nat → St → Hp → Prop, (∃ m, W 0 m σ H) ∧ ∀ i m σ H, W i m σ H →
      ((Itr lo n).stop i H ∧ D.nx σ H) ∨ ((Itr lo n).go i H ∧ ∃ N : St → Hp → Prop, (∀ σ' H', N σ' H' → ∃ m', m' < m ∧ W (i + 1) m' σ' H') ∧ ∀ x H', (Itr lo n).yld i H x H' → g x σ H' fun σ2 H2 => tb { D with nx := N, ct := N, bk := D.nx } σ2 H2) := by
  refine ⟨fun i m σ H => m = n - i ∧ i ≤ n ∧ Pv i σ H, ⟨n, by simp, Nat.zero_le _, h0⟩, ?_⟩
  rintro i m σ H ⟨rfl, hi, p⟩
  by_cases hlt : i < n
  · refine .inr ⟨hlt, Pv (i + 1), fun σ' H' p' => ⟨n - (i + 1), by omega, rfl, hlt, p'⟩, fun x H' y => ?_⟩
    obtain ⟨e, y⟩ := y
    subst e y
    exact hs i σ _ hlt p
  · have e : i = n := by omega
    subst e
    exact .inl ⟨Nat.le_refl _, hd σ H p⟩
end L2

namespace L2
open PySem PySem.Spec PyProof.Rows
variable {q0 : Bool}

abbrev R2 := V → V → Hp → VK → Prop
/-- a two-place operation on values: f is binaryOp op, inplaceOp op or compareOp op -/
def OpR (X : Cx) (f : Value → Value → Sem Value) (r : R2) : Prop :=
  ∀ (pins : List (Addr × Obj)) (s : Shared) (σ : St) (H : Hp) (x y : V) (v u : Value) (Q : VK), Inv X pins σ H s → RelV x v → RelV y u → r x y H Q →
    wpAny (model X.prog X.w) X.A (f v u) (EP X pins σ Q) X.xe s
/-- a one-place operation -/
def UnR (X : Cx) (f : Value → Sem Value) (r : V → Hp → VK → Prop) : Prop :=
  ∀ (pins : List (Addr × Obj)) (s : Shared) (σ : St) (H : Hp) (x : V) (v : Value) (Q : VK), Inv X pins σ H s → RelV x v → r x H Q →
    wpAny (model X.prog X.w) X.A (f v) (EP X pins σ Q) X.xe s
/-- a call of a value that is known (a builtin, a type) with values -/
def CallR (X : Cx) (f : Value) (r : List V → Hp → VK → Prop) : Prop :=
  ∀ (pins : List (Addr × Obj)) (s : Shared) (σ : St) (H : Hp) (xs : List V) (us : List Value) (Q : VK), Inv X pins σ H s → Vals xs us → r xs H Q →
    wpAny (model X.prog X.w) X.A (call f us) (EP X pins σ Q) X.xe s
def tOp (r : R2) (ta tb : TE) : TE := fun σ H Q => ta σ H fun x H1 => tb σ H1 fun y H2 => r x y H2 Q
def tUn (r : V → Hp → VK → Prop) (ta : TE) : TE := fun σ H Q => ta σ H fun x H1 => r x H1 Q
/-- ints in, under C, and a value out -/
def rI (C : Int → Int → Prop) (g : Int → Int → V) : R2 := fun x y H Q => ∃ i j, x = .int i ∧ y = .int j ∧ C i j ∧ Q (g i j) H
def rI0 (g : Int → Int → V) : R2 := fun x y H Q => ∃ i j, x = .int i ∧ y = .int j ∧ Q (g i j) H
def rU (g : Int → V) : V → Hp → VK → Prop := fun x H Q => ∃ i, x = .int i ∧ Q (g i) H

section
variable {X : Cx} {a b c : Expr} {ta tb tc : TE} {pos : Pos}

theorem binT (ha : PE X a ta) (hb : PE X b tb) {pins : List (Addr × Obj)} {s : Shared} {σ : St} {H : Hp} {R : V → V → Hp → Prop} (I : Inv X pins σ H s)
    (h : ta σ H fun x H1 => tb σ H1 fun y H2 => R x y H2) {Q : Value → Shared → Prop} {f : Value → Value → Sem Value}
    (hf : ∀ v u s2 x y H2, Inv X pins σ H2 s2 → RelV x v → RelV y u → R x y H2 → wpAny (model X.prog X.w) X.A (f v u) Q X.xe s2) :
    wpAny (model X.prog X.w) X.A (eval a X.env) (fun v s₁ => wpAny (model X.prog X.w) X.A (eval b X.env) (fun u s₂ => wpAny (model X.prog X.w) X.A (f v u) Q X.xe s₂) X.xe s₁) X.xe s := by
  refine thn (ha pins s σ H _ I h) fun v s1 ⟨x, H1, I1, r1, q1⟩ => ?_
  refine thn (hb pins s1 σ H1 _ I1 q1) fun u s2 ⟨y, H2, I2, r2, q2⟩ => ?_
  exact hf v u s2 x y H2 I2 r1 r2 q2

theorem pe_op {op : Operator} {r : R2} (ho : OpR X (binaryOp op) r) (ha : PE X a ta) (hb : PE X b tb) : PE X (.BinOp a op b pos) (tOp r ta tb) := by
  intro pins s σ H Q I h
  exact wpAny_BinOp (binT ha hb I h fun v u s2 x y H2 I2 rx ry q => ho pins s2 σ H2 x y v u Q I2 rx ry q)
theorem pe_un {op : UnaryOp} {r : V → Hp → VK → Prop} (ho : UnR X (unaryOp op) r) (ha : PE X a ta) : PE X (.UnaryOp op a pos) (tUn r ta) := by
  intro pins s σ H Q I h
  exact UnaryOp_ (thn (ha pins s σ H _ I h) fun v s1 ⟨x, H1, I1, r1, q1⟩ => ho pins s1 σ H1 x v Q I1 r1 q1)
/-! ### ints -/
theorem opI {f : Value → Value → Sem Value} {C : Int → Int → Prop} {g : Int → Int → Int}
    (rule : ∀ (i j : Int) (t u : Tok) (s : Shared) (Q : Value → Shared → Prop) (E : Value → Shared → Prop), C i j → Q (.int (g i j) s.toks) { s with toks := s.toks + 1 } → wpAny (model X.prog X.w) X.A (f (.int i t) (.int j u)) Q E s) :
    OpR X f (rI C fun i j => .int (g i j)) := by
  intro pins s σ H x y v u Q I rx ry h
  obtain ⟨i, j, rfl, rfl, hc, q⟩ := h
  obtain ⟨t, rfl⟩ := rx
  obtain ⟨t', rfl⟩ := ry
  exact rule i j t t' s _ _ hc ⟨.int (g i j), H, I.tok _, ⟨_, rfl⟩, q⟩
theorem opI0 {f : Value → Value → Sem Value} {g : Int → Int → Int}
    (rule : ∀ (i j : Int) (t u : Tok) (s : Shared) (Q : Value → Shared → Prop) (E : Value → Shared → Prop), Q (.int (g i j) s.toks) { s with toks := s.toks + 1 } → wpAny (model X.prog X.w) X.A (f (.int i t) (.int j u)) Q E s) :
    OpR X f (rI0 fun i j => .int (g i j)) := by
  intro pins s σ H x y v u Q I rx ry h
  obtain ⟨i, j, rfl, rfl, q⟩ := h
  obtain ⟨t, rfl⟩ := rx
  obtain ⟨t', rfl⟩ := ry
  exact rule i j t t' s _ _ ⟨.int (g i j), H, I.tok _, ⟨_, rfl⟩, q⟩
theorem opB0 {f : Value → Value → Sem Value} {g : Int → Int → Bool}
    (rule : ∀ (i j : Int) (t u : Tok) (s : Shared) (Q : Value → Shared → Prop) (E : Value → Shared → Prop), Q (.bool (g i j)) s → wpAny (model X.prog X.w) X.A (f (.int i t) (.int j u)) Q E s) :
    OpR X f (rI0 fun i j => .bl (g i j)) := by
  intro pins s σ H x y v u Q I rx ry h
  obtain ⟨i, j, rfl, rfl, q⟩ := h
  obtain ⟨t, rfl⟩ := rx
  obtain ⟨t', rfl⟩ := ry
  exact rule i j t t' s _ _ ⟨.bl (g i j), H, I, rfl, q⟩

def CDiv (i j : Int) : Prop := 0 < j ∧ j < 1073741824
def CMul (i j : Int) : Prop := (-(2 ^ 64) < i ∧ i < 2 ^ 64) ∨ (-(2 ^ 64) < j ∧ j < 2 ^ 64)
theorem CMul.ok {i j : Int} (h : CMul i j) : IntMulOk i j := by
  rcases h with ⟨h1, h2⟩ | ⟨h1, h2⟩
  · exact .of_left (intBits_le_64 h1 h2)
  · exact .of_right (intBits_le_64 h1 h2)
theorem op_add : OpR X (binaryOp .Add) (rI0 fun i j => .int (i + j)) := opI0 fun _ _ _ _ _ _ _ q => add_int q
theorem op_sub : OpR X (binaryOp .Sub) (rI0 fun i j => .int (i - j)) := opI0 fun _ _ _ _ _ _ _ q => sub_int q
theorem op_mul : OpR X (binaryOp .Mult) (rI CMul fun i j => .int (i * j)) := opI fun _ _ _ _ _ _ _ hc q => mul_int q hc.ok
/-- // by a positive divisor -/
theorem op_fdiv : OpR X (binaryOp .FloorDiv) (rI CDiv fun i j => .int (i / j)) := opI fun i j _ _ _ _ _ hc q => by
  have h1 : (0 : Int) < j := hc.1
  have h2 : j < 1073741824 := hc.2
  exact floordiv_int (by omega) (by rw [Int.fdiv_eq_ediv_of_nonneg i (by omega)]; exact q) (.inl (PyProof.noPylong_small (by omega)))
/-- % by a positive divisor of any size -/
theorem op_mod : OpR X (binaryOp .Mod) (rI (fun _ j => 0 < j) fun i j => .int (i % j)) := opI fun i j _ _ _ _ _ hc q => by
  have h1 : (0 : Int) < j := hc
  exact mod_int' (by omega) (by rw [Int.fmod_eq_emod_of_nonneg i (by omega)]; exact q)
theorem unI {f : Value → Sem Value} {g : Int → Int}
    (rule : ∀ (i : Int) (t : Tok) (s : Shared) (Q : Value → Shared → Prop) (E : Value → Shared → Prop), Q (.int (g i) s.toks) { s with toks := s.toks + 1 } → wpAny (model X.prog X.w) X.A (f (.int i t)) Q E s) :
    UnR X f (rU fun i => .int (g i)) := by
  intro pins s σ H x v Q I rx h
  obtain ⟨i, rfl, q⟩ := h
  obtain ⟨t, rfl⟩ := rx
  exact rule i t s _ _ ⟨.int (g i), H, I.tok _, ⟨_, rfl⟩, q⟩
theorem un_neg : UnR X (unaryOp .USub) (rU fun i => .int (-i)) := unI fun _ _ _ _ _ q => neg_int q
end

/-! ### comparisons -/
/-- the scalars that == tells apart as data does -/
def scal : V → V → Bool
  | .non, .non => true | .non, .int _ => true | .int _, .non => true | .non, .bl _ => true | .bl _, .non => true | .non, .str _ => true | .str _, .non => true
  | .int _, .int _ => true | .bl _, .bl _ => true | .str _, .str _ => true | .byt _, .byt _ => true
  | .int _, .str _ => true | .str _, .int _ => true | .bl _, .str _ => true | .str _, .bl _ => true
  | _, _ => false
def rEq : R2 := fun x y H Q => scal x y = true ∧ Q (.bl (decide (x = y))) H
def rNe : R2 := fun x y H Q => scal x y = true ∧ Q (.bl (!decide (x = y))) H

theorem dec_int {i j : Int} : decide (V.int i = V.int j) = (i == j) := by
  rw [Bool.eq_iff_iff]
  simp
theorem dec_bl {i j : Bool} : decide (V.bl i = V.bl j) = (i == j) := by
  rw [Bool.eq_iff_iff]
  simp
theorem dec_str {i j : Str} : decide (V.str i = V.str j) = (i == j) := by
  rw [Bool.eq_iff_iff]
  simp
theorem dec_byt {i j : Array UInt8} : decide (V.byt i = V.byt j) = (i.toList == j.toList) := by
  rw [Bool.eq_iff_iff]
  cases i
  cases j
  simp

section
variable {X : Cx} {a b c : Expr} {ta tb tc : TE} {pos : Pos}
theorem fin_bl {pins : List (Addr × Obj)} {σ : St} {H : Hp} {s : Shared} {Q : VK} {k k' : Bool} (I : Inv X pins σ H s) (q : Q (.bl k) H) (e : k = k') : EP X pins σ Q (.bool k') s := by
  subst e
  exact ⟨.bl k, H, I, rfl, q⟩
theorem op_eq : OpR X (compareOp .Eq) rEq := by
  intro pins s σ H x y v u Q I rx ry h
  obtain ⟨hs, q⟩ := h
  cases x with
  | non =>
    cases rx
    cases y with
    | non => cases ry; exact PySem.EqNone.eq_none_none (fin_bl I q (by simp))
    | bl j => cases ry; exact PySem.EqNone.eq_none_bool (fin_bl I q (by simp))
    | int j => obtain ⟨t', rfl⟩ := ry; exact PySem.EqNone.eq_none_int (fin_bl I q (by simp))
    | str j => obtain ⟨t', rfl⟩ := ry; exact PySem.EqNone.eq_none_str (fin_bl I q (by simp))
    | _ => exact absurd (show false = true from hs) Bool.false_ne_true
  | bl i =>
    cases rx
    cases y with
    | non => cases ry; exact PySem.EqNone.eq_bool_none (fin_bl I q (by simp))
    | bl j => cases ry; exact eq_bool (fin_bl I q dec_bl)
    | str j => obtain ⟨t', rfl⟩ := ry; exact PySem.EqMixed.eq_bool_str (fin_bl I q (by simp))
    | _ => exact absurd (show false = true from hs) Bool.false_ne_true
  | int i =>
    obtain ⟨t, rfl⟩ := rx
    cases y with
    | non => cases ry; exact PySem.EqNone.eq_int_none (fin_bl I q (by simp))
    | int j => obtain ⟨t', rfl⟩ := ry; exact eq_int (fin_bl I q dec_int)
    | str j => obtain ⟨t', rfl⟩ := ry; exact PySem.EqMixed.eq_int_str (fin_bl I q (by simp))
    | _ => exact absurd (show false = true from hs) Bool.false_ne_true
  | str i =>
    obtain ⟨t, rfl⟩ := rx
    cases y with
    | non => cases ry; exact PySem.EqNone.eq_str_none (fin_bl I q (by simp))
    | bl j => cases ry; exact PySem.EqMixed.eq_str_bool (fin_bl I q (by simp))
    | int j => obtain ⟨t', rfl⟩ := ry; exact PySem.EqMixed.eq_str_int (fin_bl I q (by simp))
    | str j => obtain ⟨t', rfl⟩ := ry; exact eq_str (fin_bl I q dec_str)
    | _ => exact absurd (show false = true from hs) Bool.false_ne_true
  | byt i =>
    obtain ⟨t, rfl⟩ := rx
    cases y with
    | byt j => obtain ⟨t', rfl⟩ := ry; exact PySem.W.eq_bytes (fin_bl I q dec_byt)
    | _ => exact absurd (show false = true from hs) Bool.false_ne_true
  | _ => cases y <;> exact absurd (show false = true from hs) Bool.false_ne_true
theorem op_ne : OpR X (compareOp .NotEq) rNe := by
  intro pins s σ H x y v u Q I rx ry h
  obtain ⟨hs, q⟩ := h
  cases x with
  | non =>
    cases rx
    cases y with
    | non => cases ry; exact PySem.EqNone.ne_none_none (fin_bl I q (by simp))
    | bl j => cases ry; exact PySem.EqNone.ne_none_bool (fin_bl I q (by simp))
    | int j => obtain ⟨t', rfl⟩ := ry; exact PySem.EqNone.ne_none_int (fin_bl I q (by simp))
    | str j => obtain ⟨t', rfl⟩ := ry; exact PySem.EqNone.ne_none_str (fin_bl I q (by simp))
    | _ => exact absurd (show false = true from hs) Bool.false_ne_true
  | bl i =>
    cases rx
    cases y with
    | non => cases ry; exact PySem.EqNone.ne_bool_none (fin_bl I q (by simp))
    | bl j => cases ry; exact ne_bool (fin_bl I q (congrArg not dec_bl))
    | str j => obtain ⟨t', rfl⟩ := ry; exact PySem.EqMixed.ne_bool_str (fin_bl I q (by simp))
    | _ => exact absurd (show false = true from hs) Bool.false_ne_true
  | int i =>
    obtain ⟨t, rfl⟩ := rx
    cases y with
    | non => cases ry; exact PySem.EqNone.ne_int_none (fin_bl I q (by simp))
    | int j => obtain ⟨t', rfl⟩ := ry; exact ne_int (fin_bl I q (congrArg not dec_int))
    | str j => obtain ⟨t', rfl⟩ := ry; exact PySem.EqMixed.ne_int_str (fin_bl I q (by simp))
    | _ => exact absurd (show false = true from hs) Bool.false_ne_true
  | str i =>
    obtain ⟨t, rfl⟩ := rx
    cases y with
    | non => cases ry; exact PySem.EqNone.ne_str_none (fin_bl I q (by simp))
    | bl j => cases ry; exact PySem.EqMixed.ne_str_bool (fin_bl I q (by simp))
    | int j => obtain ⟨t', rfl⟩ := ry; exact PySem.EqMixed.ne_str_int (fin_bl I q (by simp))
    | str j => obtain ⟨t', rfl⟩ := ry; exact ne_str (fin_bl I q (congrArg not dec_str))
    | _ => exact absurd (show false = true from hs) Bool.false_ne_true
  | byt i =>
    obtain ⟨t, rfl⟩ := rx
    cases y with
    | byt j => obtain ⟨t', rfl⟩ := ry; exact PySem.W.ne_bytes (fin_bl I q (congrArg not dec_byt))
    | _ => exact absurd (show false = true from hs) Bool.false_ne_true
  | _ => cases y <;> exact absurd (show false = true from hs) Bool.false_ne_true

theorem op_lt : OpR X (compareOp .Lt) (rI0 fun i j => .bl (decide (i < j))) := opB0 fun _ _ _ _ _ _ _ q => lt_int q
theorem op_le : OpR X (compareOp .LtE) (rI0 fun i j => .bl (decide (i ≤ j))) := opB0 fun _ _ _ _ _ _ _ q => le_int q
theorem op_ge : OpR X (compareOp .GtE) (rI0 fun i j => .bl (decide (j ≤ i))) := opB0 fun _ _ _ _ _ _ _ q => ge_int q
/-- is None, is not None: the right side a value none -/
theorem op_isN : OpR X (compareOp .Is) (fun x y H Q => y = .non ∧ Q (.bl (decide (x = .non))) H) := by
  intro pins s σ H x y v u Q I rx ry h
  obtain ⟨rfl, q⟩ := h
  cases ry
  refine is_none_gen (fin_bl I q ?_)
  cases x <;> first
    | (cases rx; rfl)
    | (obtain ⟨t, rfl⟩ := rx; rfl)
/-- is, is not of two objects that are tracked lists or instances -/
def isObj : HO → Bool
  | .lst _ => true
  | .ins _ _ _ => true
  | _ => false
/-- two rules for one operation: by cases -/
theorem OpR.or {f : Value → Value → Sem Value} {r r' : R2} (h : OpR X f r) (h' : OpR X f r') : OpR X f (fun x y H Q => r x y H Q ∨ r' x y H Q) := by
  intro pins s σ H x y v u Q I rx ry q
  rcases q with q | q
  · exact h pins s σ H x y v u Q I rx ry q
  · exact h' pins s σ H x y v u Q I rx ry q

theorem nomark (b : Expr) {op : CmpOp} (h : op ≠ .In := by decide) (h2 : op ≠ .NotIn := by decide) : behindInMarks op b = false := by
  have e1 : (op == CmpOp.In) = false := by cases op <;> first | rfl | exact absurd rfl h
  have e2 : (op == CmpOp.NotIn) = false := by cases op <;> first | rfl | exact absurd rfl h2
  cases b <;> simp [behindInMarks, e1, e2]
/-- a comparison as a value; hm: nomark b, or (for in, not in) by with_unfolding_all rfl -/
theorem pe_cmpR {op : CmpOp} {r : R2} (ho : OpR X (compareOp op) r) (ha : PE X a ta) (hb : PE X b tb) (hm : behindInMarks op b = false) : PE X (.Compare a [op] [b] pos) (tOp r ta tb) := by
  intro pins s σ H Q I h
  exact wpAny_Compare1 (binT ha hb I h fun v u s2 x y H2 I2 rx ry q => ho pins s2 σ H2 x y v u Q I2 rx ry q) hm
/-- a reading of a value as a test -/
def tTest (t : TE) : TT := fun σ H Q => t σ H fun x H' => ∃ k, x = .bl k ∧ Q k H'
theorem pt_cmpR {op : CmpOp} {r : R2} (ho : OpR X (compareOp op) r) (ha : PE X a ta) (hb : PE X b tb) (hm : behindInMarks op b = false) : PT X (.Compare a [op] [b] pos) (tTest (tOp r ta tb)) := by
  intro pins s σ H Q I h
  refine wpAny_isTrue_Compare1 (thn (ha pins s σ H _ I h) fun v s1 ⟨x, H1, I1, r1, q1⟩ => thn (hb pins s1 σ H1 _ I1 q1) fun u s2 ⟨y, H2, I2, r2, q2⟩ =>
    thn (ho pins s2 σ H2 x y v u _ I2 r1 r2 q2) fun c s3 ⟨z, H3, I3, r3, k, e, q3⟩ => ?_) hm
  subst e
  cases r3
  exact wpAny_truthy_bool ⟨H3, I3, q3⟩
/-- a op1 b op2 c -/
def tChain (r r' : R2) (ta tb tc : TE) : TE := fun σ H Q => ta σ H fun x H1 => tb σ H1 fun y H2 => r x y H2 fun z H3 => ∃ k, z = .bl k ∧
  (if k = true then tc σ H3 fun w' H4 => r' y w' H4 Q else Q (.bl false) H3)
theorem pe_chain {op op' : CmpOp} {r r' : R2} (ho : OpR X (compareOp op) r) (ho' : OpR X (compareOp op') r') (ha : PE X a ta) (hb : PE X b tb) (hc : PE X c tc)
    (hm : lastMarks [op, op'] [b, c] = false := by with_unfolding_all rfl) : PE X (.Compare a [op, op'] [b, c] pos) (tChain r r' ta tb tc) := by
  intro pins s σ H Q I h
  refine Compare_chain (thn (ha pins s σ H _ I h) fun v s1 ⟨x, H1, I1, r1, q1⟩ => chain_link (thn (hb pins s1 σ H1 _ I1 q1) fun u s2 ⟨y, H2, I2, r2, q2⟩ =>
    thn (ho pins s2 σ H2 x y v u _ I2 r1 r2 q2) fun d s3 ⟨z, H3, I3, r3, k, e, q3⟩ => ?_)) hm
  subst e
  cases r3
  refine wpAny_truthy_bool ?_
  cases k with
  | false => exact ite_ff ⟨.bl false, H3, I3, rfl, q3⟩
  | true => exact ite_tt (chain_last (thn (hc pins s3 σ H3 _ I3 q3) fun w' s4 ⟨z', H4, I4, r4, q4⟩ => ho' pins s4 σ H4 y z' u w' Q I4 r2 r4 q4))
theorem line63 : (sizeLine : Nat) < 2 ^ 63 := by rw [sizeLine_eq]; decide
/-! ### scalar builtins, by CallR -/
theorem vals1 {x : V} {us : List Value} (r : Vals [x] us) : ∃ u, us = [u] ∧ RelV x u := by
  cases r with
  | cons r1 r2 => cases r2; exact ⟨_, rfl, r1⟩
theorem vals2 {x y : V} {us : List Value} (r : Vals [x, y] us) : ∃ u w', us = [u, w'] ∧ RelV x u ∧ RelV y w' := by
  cases r with
  | cons r1 r2 =>
    cases r2 with
    | cons r3 r4 => cases r4; exact ⟨_, _, rfl, r1, r3⟩
theorem call_abs : CallR X (.builtin "abs") (fun xs H Q => ∃ i, xs = [.int i] ∧ Q (.int (if i < 0 then -i else i)) H) := by
  intro pins s σ H xs us Q I r h
  obtain ⟨i, rfl, q⟩ := h
  obtain ⟨u, rfl, t, rfl⟩ := vals1 r
  exact call_abs_int fun u tk => ⟨.int (if i < 0 then -i else i), H, I.tok _, ⟨_, rfl⟩, q⟩
theorem call_int1 : CallR X (.type "int") (fun xs H Q => (∃ i, xs = [.int i] ∧ Q (.int i) H) ∨ ∃ k, xs = [.bl k] ∧ Q (.int (if k then 1 else 0)) H) := by
  intro pins s σ H xs us Q I r h
  rcases h with ⟨i, rfl, q⟩ | ⟨k, rfl, q⟩
  · obtain ⟨u, rfl, t, rfl⟩ := vals1 r
    exact call_int_int ⟨.int i, H, I, ⟨_, rfl⟩, q⟩
  · obtain ⟨u, rfl, r1⟩ := vals1 r
    cases r1
    exact call_int_bool ⟨.int (if k then 1 else 0), H, I.tok _, ⟨_, rfl⟩, q⟩
end
end L2

namespace L2
open PySem PySem.Spec PyProof.Rows
variable {q0 : Bool}

/-! ### an instance, its attributes a map -/
structure ObjM (h : Heap) (x dx C : Addr) (mA : Str → Option Value) : Prop where
  obj : h.get? x = some (PySem.W.instObj C dx)
  ns : h.Ns1 dx mA
  ne : dx ≠ x

theorem lookIn_ns {h : Heap} {dx : Addr} {mA : Str → Option Value} (n : h.Ns1 dx mA) : ∃ od, h.get? dx = some od ∧ ∀ name, PySem.W.lookIn name od = some (mA name) := by
  obtain ⟨o, es, ep, ho, hd, hk, _, hm⟩ := n
  refine ⟨o, ho, fun name => ?_⟩
  have e := hm name
  unfold nsFind findBy at e
  rw [← Array.find?_toList] at e
  unfold PySem.W.lookIn
  rw [hd]
  dsimp only
  split
  · rename_i y q
    rw [q] at e
    exact congrArg some e
  · rename_i q
    rw [q] at e
    have a : es.toList.any (·.refKey) = false := by
      rw [List.any_eq_false]
      intro y hy
      obtain ⟨z, t, hkey⟩ := hk y (Array.mem_toList_iff.mp hy)
      simp [DictEntry.refKey, hkey]
    have a' : ¬ es.toList.any (·.refKey) = true := by rw [a]; exact Bool.false_ne_true
    rw [if_neg a']
    exact congrArg some e

theorem ObjM.look {h : Heap} {x dx C : Addr} {mA : Str → Option Value} (I : ObjM h x dx C mA) : ∃ od, PySem.W.InstAt h x (PySem.W.instObj C dx) C (some od) ∧ ∀ name, PySem.W.lookIn name od = some (mA name) :=
  let ⟨od, ho, hl⟩ := lookIn_ns I.ns
  ⟨od, ⟨I.obj, rfl, rfl, ho⟩, hl⟩

section
variable {prog : Program} {w : World} {A : Around} {E : Value → Shared → Prop} {s : Shared} {K : PySem.W.Frag} {x dx C f : Addr} {mA : Str → Option Value} {name : Str} {v : Value}

theorem get_map {expr : Bool} {Q : Value → Shared → Prop} (X : K.In s.heap) (I : ObjM s.heap x dx C mA) (hg : PySem.W.plainGet K C name = true) (hh : PySem.W.hasDictIn K C = true)
    (ha : PySem.W.findIn K (.ref C) name = some none) (hv : mA name = some v) (hv' : PySem.W.handedIn v = true) (h : Q v { s with toks := s.toks + 1 }) :
    wpAny (model prog w) A (getAttr (.ref x) name expr) Q E s := by
  obtain ⟨od, J, hl⟩ := I.look
  exact PySem.W.get_value X J (PySem.W.plainGet_of hg).1 (PySem.W.findObj_own hh ha rfl (by rw [hl, hv])) hv' h

theorem get_meth {pl : Sem Bool} {Q : Value × List Value → Shared → Prop} (X : K.In s.heap) (I : ObjM s.heap x dx C mA) (hg : PySem.W.plainGet K C name = true)
    (hf : PySem.W.findIn K (.ref C) name = some (some (.ref f))) (ht : PySem.W.isFn K (.ref f) = true) (hv : mA name = none) (h : Q (.ref f, [.ref x]) s) :
    wpAny (model prog w) A (getMethod (.ref x) name pl) Q E s := by
  obtain ⟨od, J, hl⟩ := I.look
  exact PySem.W.method_fn X J (PySem.W.plainGet_of hg).1 (PySem.W.plainGet_of hg).2 hf (beq_iff_eq.mp ht) (by show (PySem.W.lookIn name od).map (·.isSome) = some false; rw [hl, hv]; rfl) h

theorem set_map {ns : List Str} {Q : Unit → Shared → Prop} (X : K.In s.heap) (I : ObjM s.heap x dx C mA)
    (hs : PySem.W.findIn K (.ref C) "__setattr__" = some (some (.builtin "object.__setattr__"))) (hp : PySem.W.plainOver K C = true) (ht : PySem.W.takerIn K C name = some none) (hh : PySem.W.hasDictIn K C = true)
    (hw : PySem.Within mA ns) (hsz : ns.length ≤ sizeLine)
    (h : ∀ h', ObjM h' x dx C (fun y => if y = name then some v else mA y) → Heap.SameBut dx s.heap h' → Q () { s with heap := h', toks := s.toks + 2 }) :
    wpAny (model prog w) A (setAttr (.ref x) name v) Q E s := by
  obtain ⟨od, J, hl⟩ := I.look
  refine PySem.W.set_plain X J hs (PySem.W.osa_open (s := { s with toks := s.toks + 1 }) (r := none) X J hp ht fun b => ?_)
  obtain ⟨cd, hc, hd'⟩ := PySem.W.any_some hh
  have hx : s.heap.get? x = some ⟨.ref C, some dx, .plain, #[]⟩ := I.obj
  refine wpAny_bind (wpAny_pure (wpAny_bind (wpAny_bind (wpAny_loadPart hx (wpAny_bind (PySem.W.Looks.here (s := { s with toks := s.toks + 1 }) (PySem.W.looks_clsIn X hc) ?_))))))
  rw [hd']
  refine wpAny_pure (a := some dx) (wpAny_bind (wpAny_pure (wpAny_bind ?_)))
  refine wpAny_nsSet1 (s := { s with toks := s.toks + 1 }) I.ns fun h' hn2 hs2 => ?_
  obtain ⟨oD, esD, epD, hoD, hdD, hcD⟩ := hn2.count (PySem.Within.cons name v hw)
  refine wpAny_bind (wpAny_lookBehind hoD (by rw [hdD]; exact pastItsLine_dict (Nat.le_trans hcD (by rw [List.length_cons]; omega))) ?_)
  exact wpAny_pure (h _ ⟨(hs2.2 _ (Ne.symm I.ne)).trans I.obj, hn2, I.ne⟩ hs2)

/-- C(..): the dict at the heap's end, the instance behind it; then its __init__ -/
theorem make_map {R : Result → Shared → Prop} {vs : List Value} {kw : List (Str × Value)} (X : K.In s.heap) (hm : PySem.W.makesIn K C = true)
    (hi : PySem.W.findIn K (.ref C) "__init__" = some (some (.ref f))) (hf : PySem.W.typeIn K (.ref f) = some (.type "function"))
    (h : codeAny (model prog w) (A.under (.builtin "type.__call__" ⟨.ref C :: vs, kw⟩)) (.call (.ref f) ⟨.ref (s.heap.objs.size + 1) :: vs, kw⟩) (PySem.W.InitBack (s.heap.objs.size + 1) R)
      { s with heap := (s.heap.push PySem.W.emptyDict).push (PySem.W.instObj C s.heap.objs.size) }) :
    codeAny (model prog w) A (.call (.ref C) ⟨vs, kw⟩) R s := by
  obtain ⟨hh, g, d, t, os⟩ := s
  exact PySem.W.make_core (PySem.W.makes_of X hm) (PySem.W.looks_findIn X hi) (fun self => PySem.W.bind_fn X self hf) (.inl rfl) h
end

/-! ### the attributes as a list of pairs -/
def putF (f : Str) (v : V) : List (Str × V) → List (Str × V)
  | [] => [(f, v)]
  | (g, x) :: r => if g = f then (g, v) :: r else (g, x) :: putF f v r
theorem lookup_putF (f g : Str) (v : V) : ∀ fs : List (Str × V), (putF f v fs).lookup g = if g = f then some v else fs.lookup g
  | [] => by
    show List.lookup g [(f, v)] = _
    by_cases h : g = f
    · have hb : (g == f) = true := beq_iff_eq.mpr h
      simp only [List.lookup, hb, if_pos h]
    · have hb : (g == f) = false := beq_eq_false_iff_ne.mpr h
      simp only [List.lookup, hb, if_neg h]
  | (k, x) :: r => by
    have ih := lookup_putF f g v r
    rw [show putF f v ((k, x) :: r) = (if k = f then (k, v) :: r else (k, x) :: putF f v r) from rfl]
    by_cases hk : k = f
    · rw [if_pos hk]
      by_cases h : g = k
      · have hb : (g == k) = true := beq_iff_eq.mpr h
        simp only [List.lookup, hb, if_pos (h.trans hk)]
      · have hb : (g == k) = false := beq_eq_false_iff_ne.mpr h
        simp only [List.lookup, hb, if_neg (fun e : g = f => h (e.trans hk.symm))]
    · rw [if_neg hk]
      by_cases h : g = k
      · have hb : (g == k) = true := beq_iff_eq.mpr h
        simp only [List.lookup, hb, if_neg (fun e : g = f => hk (h.symm.trans e))]
      · have hb : (g == k) = false := beq_eq_false_iff_ne.mpr h
        simp only [List.lookup, hb]
        exact ih
theorem keys_putF (f : Str) (v : V) : ∀ fs : List (Str × V), f ∈ (putF f v fs).map (·.1) ∧ ∀ g, g ∈ fs.map (·.1) → g ∈ (putF f v fs).map (·.1)
  | [] => ⟨by simp [putF], fun g h => by simp at h⟩
  | (k, x) :: r => by
    obtain ⟨i1, i2⟩ := keys_putF f v r
    rw [show putF f v ((k, x) :: r) = (if k = f then (k, v) :: r else (k, x) :: putF f v r) from rfl]
    by_cases hk : k = f
    · rw [if_pos hk]
      subst hk
      exact ⟨by simp, fun g h => by simpa using h⟩
    · rw [if_neg hk]
      refine ⟨?_, fun g h => ?_⟩
      · rw [List.map_cons]
        exact List.mem_cons_of_mem _ i1
      · rw [List.map_cons] at h ⊢
        rcases List.mem_cons.mp h with e | e
        · exact List.mem_cons.mpr (.inl e)
        · exact List.mem_cons_of_mem _ (i2 g e)
theorem length_putF (f : Str) (v : V) : ∀ fs : List (Str × V), (putF f v fs).length ≤ fs.length + 1
  | [] => by simp [putF]
  | (k, x) :: r => by
    have ih := length_putF f v r
    rw [show putF f v ((k, x) :: r) = (if k = f then (k, v) :: r else (k, x) :: putF f v r) from rfl]
    by_cases hk : k = f
    · rw [if_pos hk, List.length_cons, List.length_cons]; omega
    · rw [if_neg hk, List.length_cons, List.length_cons]; omega

theorem RelO.some_of {v : V} {o : Option Value} (r : RelO (some v) o) : ∃ u, o = some u ∧ RelV v u := by
  cases o with
  | none => exact (show False from r).elim
  | some u => exact ⟨u, rfl, r⟩
theorem RelO.none_of {o : Option Value} (r : RelO none o) : o = none := by
  cases o with
  | none => rfl
  | some u => exact (show False from r).elim
theorem handed_of {v : V} {u : Value} (r : RelV v u) : PySem.W.handedIn u = true := by
  cases v with
  | non => cases (show u = Value.none from r); rfl
  | bl b => cases (show u = Value.bool b from r); rfl
  | int i => obtain ⟨t, e⟩ := (show ∃ t, u = Value.int i t from r); cases e; rfl
  | str x => obtain ⟨t, e⟩ := (show ∃ t, u = Value.str x t from r); cases e; rfl
  | byt b => obtain ⟨t, e⟩ := (show ∃ t, u = Value.bytes b t from r); cases e; rfl
  | flt b => obtain ⟨t, e⟩ := (show ∃ t, u = Value.float b t from r); cases e; rfl
  | ref a => cases (show u = Value.ref a from r); rfl
  | ty n => cases (show u = Value.type n from r); rfl

section
variable {P : Program} {w : World} {H H' : Hp} {h h' : Heap} {a C dx : Addr} {fs fs' : List (Str × V)}
theorem ins_get (hok : HOk P w H h) (e : H a = some (.ins C dx fs)) : ∃ mA, ObjM h a dx C mA ∧ (∀ f, RelO (fs.lookup f) (mA f)) ∧ PySem.Within mA (fs.map (·.1)) ∧ fs.length ≤ 1000 ∧ H dx = some (.own a) := by
  obtain ⟨d, z, ne, ob, mA, n, r, q⟩ := (show ObjOk P w H h a (.ins C dx fs) from hok a _ e)
  exact ⟨mA, ⟨ob, n, ne⟩, r, q, z, d⟩
end

/-! ### what of the text a class must have -/
structure Cls (K : PySem.W.Frag) (C : Addr) : Prop where
  pg : PySem.W.plainGet K C Str.empty = true
  hd : PySem.W.hasDictIn K C = true
  po : PySem.W.plainOver K C = true
  sa : PySem.W.findIn K (.ref C) "__setattr__" = some (some (.builtin "object.__setattr__"))
theorem Cls.get {K : PySem.W.Frag} {C : Addr} (c : Cls K C) (f : Str) : PySem.W.plainGet K C f = true := c.pg
/-- no class of it has the name -/
def NoAttr (K : PySem.W.Frag) (C : Addr) (f : Str) : Prop := PySem.W.findIn K (.ref C) f = some none
theorem NoAttr.taker {K : PySem.W.Frag} {C : Addr} {f : Str} (n : NoAttr K C f) : PySem.W.takerIn K C f = some none := by
  unfold PySem.W.takerIn
  rw [show PySem.W.findIn K (.ref C) f = some none from n]
  rfl
/-- a method: a plain def of the class or of one above it -/
structure Meth (K : PySem.W.Frag) (C : Addr) (m : Str) (f : Addr) : Prop where
  at_ : PySem.W.findIn K (.ref C) m = some (some (.ref f))
  fn : PySem.W.isFn K (.ref f) = true
  kp : PySem.W.keepIn K (.ref f) = true

section
variable {X : Cx} {pins : List (Addr × Obj)} {σ : St} {H : Hp} {s : Shared} {a C dx : Addr} {fs : List (Str × V)} {f : Str} {v : V} {A : Around} {E : Value → Shared → Prop}

theorem getattr_ok {b : Bool} {Q : Value → Shared → Prop} (I : Inv X pins σ H s) (e : H a = some (.ins C dx fs)) (c : Cls X.K C) (n : NoAttr X.K C f) (l : fs.lookup f = some v)
    (h : ∀ u s', Inv X pins σ H s' → RelV v u → Q u s') : wpAny (model X.prog X.w) A (getAttr (.ref a) f b) Q E s := by
  obtain ⟨mA, O, r, _, _, _⟩ := ins_get I.hok e
  obtain ⟨u, hu, ru⟩ := RelO.some_of (v := v) (o := mA f) (by rw [← l]; exact r f)
  exact get_map I.kIn O (c.get f) c.hd n hu (handed_of ru) (h u _ (I.tok _) ru)

theorem getmeth_ok {m : Str} {g : Addr} {pl : Sem Bool} {Q : Value × List Value → Shared → Prop} (I : Inv X pins σ H s) (e : H a = some (.ins C dx fs)) (c : Cls X.K C) (k : Meth X.K C m g) (l : fs.lookup m = none)
    (h : Q (.ref g, [.ref a]) s) : wpAny (model X.prog X.w) A (getMethod (.ref a) m pl) Q E s := by
  obtain ⟨mA, O, r, _, _, _⟩ := ins_get I.hok e
  have hn : mA m = none := RelO.none_of (by rw [← l]; exact r m)
  exact get_meth I.kIn O (c.get m) k.at_ k.fn hn h

theorem setattr_ok {y : V} {u : Value} {Q : Unit → Shared → Prop} (I : Inv X pins σ H s) (e : H a = some (.ins C dx fs)) (c : Cls X.K C) (n : NoAttr X.K C f) (hl : fs.length < 1000) (ry : RelV y u)
    (h : ∀ s', Inv X pins σ (upd H a (.ins C dx (putF f y fs))) s' → Q () s') : wpAny (model X.prog X.w) A (setAttr (.ref a) f u) Q E s := by
  obtain ⟨mA, O, r, wi, _, ho⟩ := ins_get I.hok e
  have hz : (fs.map (·.1)).length ≤ sizeLine := by rw [List.length_map, sizeLine_eq]; omega
  refine set_map I.kIn O c.sa c.po n.taker c.hd wi hz fun h' O' sb => h _ ?_
  have hd : ∃ o, h'.get? dx = some o := let ⟨o, _, _, e', _⟩ := O'.ns; ⟨o, e'⟩
  refine I.write (x := a) (e := dx) (by rw [e]; exact True.intro) (.inr ho) (fun b q hb z => (sb.2 b hb).trans z) hd ?_
  refine ⟨by rw [upd_ne O.ne]; exact ho, ?_, O.ne, O'.obj, _, O'.ns, fun g => ?_, fun g hg => ?_⟩
  · have := length_putF f y fs; omega
  · show RelO ((putF f y fs).lookup g) (if g = f then some u else mA g)
    rw [lookup_putF]
    by_cases q : g = f
    · rw [if_pos q, if_pos q]; exact ry
    · rw [if_neg q, if_neg q]; exact r g
  · by_cases q : g = f
    · rw [q]; exact (keys_putF f y fs).1
    · refine (keys_putF f y fs).2 g (wi g fun z => hg ?_)
      show (if g = f then some u else mA g) = none
      rw [if_neg q]; exact z

/-- a new instance, tracked, without attributes -/
theorem Inv.made (I : Inv X pins σ H s) : Inv X pins σ (upd (upd H s.heap.objs.size (.own (s.heap.objs.size + 1))) (s.heap.objs.size + 1) (.ins C s.heap.objs.size []))
    { s with heap := (s.heap.push PySem.W.emptyDict).push (PySem.W.instObj C s.heap.objs.size) } := by
  have e1 : (s.heap.push PySem.W.emptyDict).get? s.heap.objs.size = some PySem.W.emptyDict := Heap.get?_push_size s.heap rfl
  have e2 : ((s.heap.push PySem.W.emptyDict).push (PySem.W.instObj C s.heap.objs.size)).get? (s.heap.objs.size + 1) = some (PySem.W.instObj C s.heap.objs.size) := by
    have := Heap.get?_push_size (s.heap.push PySem.W.emptyDict) (o := PySem.W.instObj C s.heap.objs.size) rfl
    rwa [Heap.size_push] at this
  have e3 : (s.heap.push PySem.W.emptyDict).Ns s.heap.objs.size (fun _ => none) := ⟨PySem.W.emptyDict, #[], _, e1, rfl, (fun e he => absurd he (by simp)), fun _ => rfl⟩
  have I1 := I.laid (a := s.heap.objs.size) (o := .own (s.heap.objs.size + 1)) (h' := s.heap.push PySem.W.emptyDict) (t' := s.toks) (fun b u q => Heap.get?_push_of_some _ q) (Nat.le_refl _) ⟨_, e1⟩
  refine I1.laid (a := s.heap.objs.size + 1) (o := .ins C s.heap.objs.size []) (t' := s.toks) (fun b u q => Heap.get?_push_of_some _ q) (Nat.le_of_eq (Heap.size_push _ _)) ?_
  have ne : s.heap.objs.size ≠ s.heap.objs.size + 1 := Nat.ne_of_lt (Nat.lt_succ_self _)
  refine ⟨by rw [upd_ne ne, upd_same], Nat.zero_le _, ne, e2, fun _ => none, (Heap.Ns1.of_empty e3).at fun o q => Heap.get?_push_of_some _ q, fun _ => True.intro, fun y hy => absurd rfl hy⟩

/-- e.f where nothing but the object is asked: through attributeBase (super) and the last hold -/
theorem attr_of {prog : Program} {w : World} {env : Env} {e : Expr} {f : Str} {pos : Pos} {s : Shared} {Q : Value → Shared → Prop} (hb : attributeBase e f env (eval e env) = eval e env)
    (h : wpAny (model prog w) A (eval e env) (fun o s₁ => wpAny (model prog w) A (getAttr o f true) Q E s₁) E s) : wpAny (model prog w) A (eval (.Attribute e f pos) env) Q E s :=
  Attribute_any_ h (by rw [arm_eval_Attribute, hb])
end

/-! ### readings and rules -/
/-- e.f, an attribute of the instance -/
def tFld (K : PySem.W.Frag) (ta : TE) (f : Str) : TE := fun σ H Q => ta σ H fun x H1 => ∃ a C dx fs v, x = .ref a ∧ H1 a = some (.ins C dx fs) ∧ Cls K C ∧ NoAttr K C f ∧ fs.lookup f = some v ∧ Q v H1
/-- e.f = value -/
def sFld (K : PySem.W.Frag) (ta tv : TE) (f : Str) : TS := fun D σ H => tv σ H fun y H1 => ta σ H1 fun x H2 => ∃ a C dx fs, x = .ref a ∧ H2 a = some (.ins C dx fs) ∧ Cls K C ∧ NoAttr K C f ∧ fs.length < 1000 ∧
  D.nx σ (upd H2 a (.ins C dx (putF f y fs)))
section
variable {X : Cx} {o e value : Expr} {f : Str} {pos pos' tpos : Pos} {ta tv : TE}
theorem pe_fld (he : PE X e ta) (hb : attributeBase e f X.env (eval e X.env) = eval e X.env) : PE X (.Attribute e f pos) (tFld X.K ta f) := by
  intro pins s σ H Q I h
  refine attr_of hb (thn (he pins s σ H _ I h) fun u s1 ⟨x, H1, I1, rx, a, C, dx, fs, v, ex, ea, c, n, l, q⟩ => ?_)
  subst ex
  obtain rfl : u = Value.ref a := rx
  exact getattr_ok I1 ea c n l fun u' s2 I2 ru => ⟨v, H1, I2, ru, q⟩
theorem ps_fld (ha : PE X o ta) (hv : PE X value tv) (hs : swapsWith value (some (.Attribute o f pos')) pos.line X.env = pure false) : PS X (.Assign [.Attribute o f pos'] value pos) (sFld X.K ta tv f) := by
  intro pins s σ H D I h
  refine plainObj_wpAny_Assign_Attribute (thn (hv pins s σ H _ I h) fun u s1 ⟨y, H1, I1, ry, q⟩ => thn (ha pins s1 σ H1 _ I1 q) fun ov s2 ⟨x, H2, I2, rx, a, C, dx, fs, ex, ea, c, n, l, q2⟩ => ?_) hs
  subst ex
  obtain rfl : ov = Value.ref a := rx
  exact setattr_ok I2 ea c n l ry fun s3 I3 => ⟨σ, _, I3, q2⟩
end

/-! ### isinstance -/
section
variable {X : Cx} {pins : List (Addr × Obj)} {σ : St} {H : Hp} {s : Shared} {A : Around} {E : Value → Shared → Prop} {Q : Value → Shared → Prop} {c : Value} {b : Bool}
/-- the type of a value, as the fragment's deciders take it; for an instance its class -/
inductive TyOf (K : PySem.W.Frag) (H : Hp) : V → Value → Prop where
  | non : TyOf K H .non (.type "NoneType")
  | bl (x : Bool) : TyOf K H (.bl x) (.type "bool")
  | int (i : Int) : TyOf K H (.int i) (.type "int")
  | str (x : Str) : TyOf K H (.str x) (.type "str")
  | flt (x : UInt64) : TyOf K H (.flt x) (.type "float")
  | lst {a : Addr} {xs : List V} (e : H a = some (.lst xs)) : TyOf K H (.ref a) (.type "list")
  | frz {a : Addr} {o : Obj} {xs : List V} (e : H a = some (.frz o (.lst xs))) : TyOf K H (.ref a) (.type "list")
  | tup {a : Addr} {xs : List V} (e : H a = some (.tup xs)) : TyOf K H (.ref a) (.type "tuple")
  | dK {a : Addr} {kvs : List (Key × V)} (e : H a = some (.dK kvs)) : TyOf K H (.ref a) (.type "dict")
  | dT {a : Addr} {kvs : List (List Key × V)} (e : H a = some (.dT kvs)) : TyOf K H (.ref a) (.type "dict")
  | ins {a C dx : Addr} {fs : List (Str × V)} (e : H a = some (.ins C dx fs)) (cl : Cls K C) (ha : PySem.W.findIn K (.ref C) "__class__" = some (some (.builtin "object.__class__")))
      (hn : PySem.W.specialIn K (.builtin "object.__class__") "__get__" = some (some (.builtin "getset_descriptor.__get__"))) (htk : PySem.W.takesIn K (.builtin "object.__class__") = some true)
      (hm : PySem.W.mroIn K C (.type "object") = some true) : TyOf K H (.ref a) (.ref C)
/-- isinstance(x, c) for one class c, a built-in or an own one: kitOne's answer -/
theorem isinst_ok {x : V} {u t : Value} (I : Inv X pins σ H s) (rx : RelV x u) (ty : TyOf X.K H x t) (e : PySem.W.kitOne X.K t c = some b) (h : ∀ tk, Q (.bool b) { s with toks := tk }) :
    wpAny (model X.prog X.w) A (call (.builtin "isinstance") [u, c]) Q E s := by
  cases ty with
  | non => cases (show u = Value.none from rx); exact PySem.W.kia_one PySem.W.kitx_none I.kIn True.intro e (fun z => nomatch z) h
  | bl y => cases (show u = Value.bool y from rx); exact PySem.W.kia_one PySem.W.kitx_bool I.kIn True.intro e (fun z => nomatch z) h
  | int i => obtain ⟨t, q⟩ := (show ∃ t, u = Value.int i t from rx); cases q; exact PySem.W.kia_one PySem.W.kitx_int I.kIn True.intro e (fun z => nomatch z) h
  | str y => obtain ⟨t, q⟩ := (show ∃ t, u = Value.str y t from rx); cases q; exact PySem.W.kia_one PySem.W.kitx_str I.kIn True.intro e (fun z => nomatch z) h
  | flt y => obtain ⟨t, q⟩ := (show ∃ t, u = Value.float y t from rx); cases q; exact PySem.W.kia_one PySem.W.kitx_float I.kIn True.intro e (fun z => nomatch z) h
  | @lst a xs ea =>
    cases (show u = Value.ref a from rx)
    obtain ⟨_, _, n, _, h1⟩ := (show ObjOk X.prog X.w H s.heap a (.lst xs) from I.hok a _ ea)
    exact PySem.W.kia_one PySem.W.kitx_list I.kIn ⟨_, h1, rfl⟩ e (fun z => nomatch z) h
  | @frz a ob xs ea =>
    cases (show u = Value.ref a from rx)
    obtain ⟨_, _, _, n, _, h1⟩ := (show ObjOk X.prog X.w H s.heap a (.frz ob (.lst xs)) from I.hok a _ ea)
    exact PySem.W.kia_one PySem.W.kitx_list I.kIn ⟨_, h1, rfl⟩ e (fun z => nomatch z) h
  | @tup a xs ea =>
    cases (show u = Value.ref a from rx)
    obtain ⟨_, _, _, p⟩ := (show ObjOk X.prog X.w H s.heap a (.tup xs) from I.hok a _ ea)
    obtain ⟨o, h1, h2, _⟩ := p
    exact PySem.W.kia_one PySem.W.kitx_tuple I.kIn ⟨o, h1, h2⟩ e (fun z => nomatch z) h
  | @dK a kvs ea =>
    cases (show u = Value.ref a from rx)
    obtain ⟨_, _, vs, _, p⟩ := (show ObjOk X.prog X.w H s.heap a (.dK kvs) from I.hok a _ ea)
    obtain ⟨o, es, ep, h1, h2, _⟩ := p
    exact PySem.W.kia_one PySem.W.kitx_dict I.kIn ⟨o, h1, h2.1⟩ e (fun z => nomatch z) h
  | @dT a kvs ea =>
    cases (show u = Value.ref a from rx)
    obtain ⟨_, _, xs, _, o, es, ep, h1, h2, _⟩ := (show ObjOk X.prog X.w H s.heap a (.dT kvs) from I.hok a _ ea)
    exact PySem.W.kia_one PySem.W.kitx_dict I.kIn ⟨o, h1, h2.1⟩ e (fun z => nomatch z) h
  | @ins a C dx fs ea cl ha hn htk hm =>
    cases (show u = Value.ref a from rx)
    obtain ⟨mA, O, _⟩ := ins_get I.hok ea
    obtain ⟨od, J, _⟩ := O.look
    exact PySem.W.kia_one (PySem.W.kitx_own (cl.get _) cl.hd ha hn htk hm) I.kIn J e (fun z => nomatch z) h
end
end L2

namespace L2
open PySem PySem.Spec PyProof.Rows
variable {q0 : Bool}

/-! ### room -/
structure Room (q0 : Bool) (k : Nat) (A : Around) : Prop where
  hd : q0 = true → A.handled = none
  dp : A.depth + 3 * k + 5 < recursionLimit
  un : A.units + 16 * k + 200 < cLine
theorem Room.mono {j k : Nat} {A : Around} (r : Room q0 k A) (h : j ≤ k) : Room q0 j A := ⟨r.hd, by have := r.dp; omega, by have := r.un; omega⟩
theorem Room.deeper {k : Nat} {A : Around} (r : Room q0 (k + 1) A) (env : Env) : Room q0 k (A.deeper env) :=
  ⟨r.hd, by have := r.dp; show A.depth + 1 + 3 * k + 5 < _; omega, by have := r.un; show A.units + 3 + 16 * k + 200 < _; omega⟩
theorem Room.in1 {k : Nat} {A : Around} (r : Room q0 (k + 1) A) : Room q0 k A.in1 :=
  ⟨r.hd, by have := r.dp; show A.depth + 3 * k + 5 < _; omega, by have := r.un; show A.units + 1 + 16 * k + 200 < _; omega⟩
theorem make_depth {A : Around} {C : Addr} {us : List Value} {kw : List (Str × Value)} : (A.under (.builtin "type.__call__" ⟨.ref C :: us, kw⟩)).depth = A.depth + 1 := by
  first | rfl | simp [Around.under, Code.weight, Code.isCreation, Code.isGuard, Code.isCaller, Code.frames, Code.isFrame, guardIds]
theorem make_units {A : Around} {C : Addr} {us : List Value} {kw : List (Str × Value)} : (A.under (.builtin "type.__call__" ⟨.ref C :: us, kw⟩)).units = A.units + 1 := by
  first | rfl | simp [Around.under, Code.cUnits, Code.frames, Code.isFrame]
theorem Room.make {k : Nat} {A : Around} (r : Room q0 (k + 1) A) (C : Addr) (us : List Value) (kw : List (Str × Value)) : Room q0 k (A.under (.builtin "type.__call__" ⟨.ref C :: us, kw⟩)) :=
  ⟨r.hd, by have := r.dp; rw [make_depth]; omega, by have := r.un; rw [make_units]; omega⟩
theorem Room.depth {k : Nat} {A : Around} (r : Room q0 k A) : A.depth < recursionLimit := by have := r.dp; omega
theorem Room.units {k : Nat} {A : Around} (r : Room q0 k A) : A.units + 64 < cLine := by have := r.un; omega
theorem Room.units0 {k : Nat} {A : Around} (r : Room q0 k A) : A.units < cLine := by have := r.un; omega

/-! ### argument lists and displays -/
def tNil : TA := fun _ H Q => Q [] H
def tCons (ta : TE) (tr : TA) : TA := fun σ H Q => ta σ H fun x H1 => tr σ H1 fun xs H2 => Q (x :: xs) H2
section
variable {X : Cx} {e : Expr} {es : List Expr} {te : TE} {t : TA} {pos : Pos}
theorem pa_nil : PA X [] tNil := fun _ _ _ _ H Q I h => Calls.spliced_nil ⟨[], H, I, .nil, h⟩
theorem pa_cons (ha : PE X e te) (hr : PA X es t) (hs : starEach (e :: es) X.env = (false, eval e X.env) :: starEach es X.env := by rfl) : PA X (e :: es) (tCons te t) := by
  intro pos pins s σ H Q I h
  rw [hs]
  show wpAny _ _ (spliced ((false, eval e X.env) :: backTo pos (starEach es X.env))) _ _ s
  refine Calls.spliced_cons (thn (ha pins s σ H _ I h) fun u s1 ⟨x, H1, I1, r1, q1⟩ => ?_)
  exact thn (hr pos pins s1 σ H1 _ I1 q1) fun us s2 ⟨xs, H2, I2, r2, q2⟩ => ⟨x :: xs, H2, I2, .cons r1 r2, q2⟩

/-- a tuple, a list of written items -/
def tTup (t : TA) : TE := fun σ H Q => t σ H fun xs H1 => xs.length ≤ sizeLine ∧ ∀ p, H1 p = none → Q (.ref p) (upd H1 p (.tup xs))
def tLst (t : TA) : TE := fun σ H Q => t σ H fun xs H1 => xs.length ≤ sizeLine ∧ ∀ p, H1 p = none → Q (.ref p) (upd H1 p (.lst xs))
theorem pe_tup {x1} (h : PA X es t) : PE X (.Tuple es x1 pos) (tTup t) := by
  intro pins s σ H Q I hq
  refine wpAny_Tuple_spliced (thn (h pos pins s σ H _ I hq) fun us s1 ⟨xs, H1, I1, r, z, q⟩ => ⟨by rw [← r.length]; exact z, ?_⟩)
  have hf : H1 s1.heap.objs.size = none := I1.hok.fresh (Nat.le_refl _)
  refine ⟨.ref s1.heap.objs.size, upd H1 s1.heap.objs.size (.tup xs), I1.laid (t' := s1.toks) (fun b u e => Heap.get?_push_of_some _ e) (Nat.le_refl _) ?_, rfl, q _ hf⟩
  exact ⟨z, us, r, ⟨_, Heap.get?_push_size _ rfl, rfl, _, rfl⟩⟩
theorem pe_lst (h : PA X es t) : PE X (.List es pos) (tLst t) := by
  intro pins s σ H Q I hq
  refine wpAny_List_spliced (thn (h pos pins s σ H _ I hq) fun us s1 ⟨xs, H1, I1, r, z, q⟩ => ⟨by rw [← r.length]; exact z, ?_⟩)
  have hf : H1 s1.heap.objs.size = none := I1.hok.fresh (Nat.le_refl _)
  refine ⟨.ref s1.heap.objs.size, upd H1 s1.heap.objs.size (.lst xs), I1.laid (t' := s1.toks) (fun b u e => Heap.get?_push_of_some _ e) (Nat.le_refl _) ?_, rfl, q _ hf⟩
  exact ⟨z, us, 0, r, Heap.get?_push_size _ rfl⟩
end

/-! ### what a def promises -/
/-- a def's promise: the bound arguments in the parameters' order, the heap, the wanted end, the wanted exception -/
abbrev Sp := List V → Hp → VK → XK → Prop
/-- how an exception lies behind a call (file 08 gives it): the callers' frames, abstract heap and state ahead of the call, the wish, the exception, the state -/
abbrev CXT := List Env → Hp → Shared → XK → Value → Shared → Prop

/-- the state at a call -/
structure Env0 (P : Program) (w : World) (K : PySem.W.Frag) (mg : Str → Option Value) (base : Heap) (A : Around) (outer : List Env) (s : Shared) (H : Hp) : Prop where
  frames : A.frames = some outer
  mod : Mod K mg base
  bs : ∀ b o, base.get? b = some o → s.heap.get? b = some o ∧ H b = none
  bsz : base.objs.size ≤ s.heap.objs.size
  funs : s.heap.FunFrames base outer
  frf : ∀ b ∈ frs outer, H b = none
  hok : HOk P w H s.heap
  bare : AllBare s.gens
/-- a call's end -/
def CE (outer : List Env) (P : Program) (w : World) (H : Hp) (s : Shared) (Q : VK) (u : Value) (s' : Shared) : Prop :=
  ∃ v H', s'.os = s.os ∧ AllBare s'.gens ∧ Un (frs outer) [] H H' s.heap s'.heap ∧ HOk P w H' s'.heap ∧ RelV v u ∧ Q v H'
def CR (CX : CXT) (outer : List Env) (P : Program) (w : World) (H : Hp) (s : Shared) (Q : VK) (E : XK) (r : Result) (s' : Shared) : Prop :=
  match r with
  | .ok (.ret u) => CE outer P w H s Q u s'
  | .ok _ => False
  | .error e => CX outer H s E e s'
structure FnOk (q0 : Bool) (P : Program) (w : World) (K : PySem.W.Frag) (mg : Str → Option Value) (base : Heap) (CX : CXT) (k : Nat) (f : Addr) (fd : FuncData) (ps : List Str) (sp : Sp) : Prop where
  len : ∀ vs H Q E, sp vs H Q E → vs.length = ps.length
  run : ∀ (A : Around) (outer : List Env) (s : Shared) (H : Hp) (args : Args) (us : List Value) (vs : List V) (Q : VK) (E : XK), Room q0 k A → Env0 P w K mg base A outer s H → BindsTo s fd args (ps.zip us) → Vals vs us → sp vs H Q E →
    codeAny (model P w) A (.call (.ref f) args) (CR CX outer P w H s Q E) s
theorem FnOk.mono {P : Program} {w : World} {K : PySem.W.Frag} {mg : Str → Option Value} {base : Heap} {CX : CXT} {j k : Nat} {f : Addr} {fd : FuncData} {ps : List Str} {sp : Sp} (F : FnOk q0 P w K mg base CX j f fd ps sp) (h : j ≤ k) :
    FnOk q0 P w K mg base CX k f fd ps sp := ⟨F.len, fun A outer s H args us vs Q E hr => F.run A outer s H args us vs Q E (hr.mono h)⟩
theorem FnOk.any {P : Program} {w : World} {K : PySem.W.Frag} {mg : Str → Option Value} {base : Heap} {CX : CXT} {k : Nat} {f : Addr} {fd : FuncData} {ps : List Str} {sp : Sp} (F : FnOk false P w K mg base CX k f fd ps sp) :
    FnOk q0 P w K mg base CX k f fd ps sp := ⟨F.len, fun A outer s H args us vs Q E hr => F.run A outer s H args us vs Q E ⟨fun z => (nomatch z), hr.dp, hr.un⟩⟩
theorem Env0.make {P : Program} {w : World} {K : PySem.W.Frag} {mg : Str → Option Value} {base : Heap} {A : Around} {outer : List Env} {s : Shared} {H : Hp} (e : Env0 P w K mg base A outer s H) (C : Addr) (us : List Value) (kw : List (Str × Value)) :
    Env0 P w K mg base (A.under (.builtin "type.__call__" ⟨.ref C :: us, kw⟩)) outer s H := ⟨by first | exact e.frames | (simpa [Around.under, Code.envs, Code.isFrame, pushEnvs] using e.frames), e.mod, e.bs, e.bsz, e.funs, e.frf, e.hok, e.bare⟩
theorem Env0.in1 {P : Program} {w : World} {K : PySem.W.Frag} {mg : Str → Option Value} {base : Heap} {A : Around} {outer : List Env} {s : Shared} {H : Hp} (e : Env0 P w K mg base A outer s H) :
    Env0 P w K mg base A.in1 outer s H := ⟨e.frames, e.mod, e.bs, e.bsz, e.funs, e.frf, e.hok, e.bare⟩

section
variable {X : Cx} {pins : List (Addr × Obj)} {σ : St} {H : Hp} {s s' : Shared}
/-- from a body: what a callee wants -/
theorem Inv.env0 (I : Inv X pins σ H s) : Env0 X.prog X.w X.K X.mg X.base X.A X.stack s H :=
  ⟨I.ok.frames, I.ok.mod, I.bs, Nat.le_trans I.ok.bsz I.sz, I.stack, I.stkFree, I.hok, I.bare⟩
/-- behind a call -/
theorem Inv.after {Q : VK} {u : Value} (I : Inv X pins σ H s) (h : CE X.stack X.prog X.w H s Q u s') : EP X pins σ Q u s' := by
  obtain ⟨v, H', os, bare, un, hok, r, q⟩ := h
  obtain ⟨hh, g, d, t, os'⟩ := s'
  obtain rfl : os' = s.os := os
  exact ⟨v, H', I.call (h' := hh) (g' := g) (d' := d) (t' := t) (ch := []) un hok bare (fun b z => absurd z (by simp)), r, q⟩
end

/-! ### calls -/
/-- f(..): the written arguments, then the defaults dvs; E: what is wanted of an exception -/
def tCall (sp : Sp) (dvs : List V) (E : St → XK) (t : TA) : TE := fun σ H Q => t σ H fun vs H1 => sp (vs ++ dvs) H1 Q (E σ)
/-- o.m(..) of an instance of the class at C -/
def tMeth (C : Addr) (m : Str) (sp : Sp) (dvs : List V) (E : St → XK) (ta : TE) (t : TA) : TE := fun σ H Q => ta σ H fun x H1 => ∃ a dx fs, x = .ref a ∧ H1 a = some (.ins C dx fs) ∧ fs.lookup m = none ∧
  t σ H1 fun vs H2 => sp (x :: (vs ++ dvs)) H2 Q (E σ)
/-- C(..): a new instance and its dict, then __init__ -/
def tMake (C : Addr) (sp : Sp) (dvs : List V) (E : St → XK) (t : TA) : TE := fun σ H Q => t σ H fun vs H1 => ∀ x dx, H1 x = none → H1 dx = none → dx ≠ x →
  sp (.ref x :: (vs ++ dvs)) (upd (upd H1 dx (.own x)) x (.ins C dx [])) (fun v H2 => v = .non ∧ Q (.ref x) H2) (E σ)

/-- how the parameters are bound: us the positional arguments, kw the keywords' values by name, ds the defaults that fill up -/
def Binds (K : PySem.W.Frag) (fd : FuncData) (ps : List Str) (ds : List Value) : Prop :=
  ∀ (s : Shared) (us : List Value), K.In s.heap → (us ++ ds).length = ps.length → BindsTo s fd ⟨us, []⟩ (ps.zip (us ++ ds))
/-- every parameter is given -/
theorem Binds.all {K : PySem.W.Frag} {fd : FuncData} {ps : List Str} (h : ∀ us : List Value, us.length = ps.length → bindArgs fd ⟨us, []⟩ = pure (ps.zip us)) : Binds K fd ps [] := fun s us _ hl => by
  rw [List.append_nil] at hl ⊢
  exact .of_eq (h us hl)

/-- an exception of a callee reaches what this body wants of exceptions -/
def Passes (CX : CXT) (X : Cx) (E : St → XK) : Prop := ∀ (pins : List (Addr × Obj)) (σ : St) (H : Hp) (s : Shared) (e : Value) (s' : Shared), Inv X pins σ H s → CX X.stack H s (E σ) e s' → X.xe e s'

section
variable {X : Cx} {CX : CXT} {k : Nat} {f C : Addr} {fd : FuncData} {ps : List Str} {sp : Sp} {dvs : List V} {ds : List Value} {E : St → XK} {x m : Str} {p pos apos : Pos} {e o : Expr} {es : List Expr} {ta : TE} {t : TA}

/-- the callee runs -/
theorem run_fn {pins : List (Addr × Obj)} {σ : St} {H : Hp} {s : Shared} {Q : VK} {us : List Value} {vs : List V} (F : FnOk q0 X.prog X.w X.K X.mg X.base CX k f fd ps sp) (hr : Room q0 k X.A) (hb : Binds X.K fd ps ds) (hd : Vals dvs ds) (hx : Passes CX X E)
    (I : Inv X pins σ H s) (r : Vals vs us) (h : sp (vs ++ dvs) H Q (E σ)) : wpAny (model X.prog X.w) X.A (call (.ref f) us) (EP X pins σ Q) X.xe s := by
  have r2 : Vals (vs ++ dvs) (us ++ ds) := r.append hd
  have hl : (us ++ ds).length = ps.length := by rw [← r2.length]; exact F.len _ _ _ _ h
  refine wpAny_call (codeAny_mono (F.run X.A X.stack s H ⟨us, []⟩ (us ++ ds) (vs ++ dvs) Q (E σ) hr I.env0 (hb s us I.kIn hl) r2 h) fun r s' hq => ?_)
  cases r with
  | error e => exact hx pins σ H s e s' I hq
  | ok fl =>
    cases fl with
    | ret u => exact I.after hq
    | next => exact False.elim hq
    | brk => exact False.elim hq
    | cont => exact False.elim hq

theorem pe_call (F : FnOk q0 X.prog X.w X.K X.mg X.base CX k f fd ps sp) (hr : Room q0 k X.A) (hg : Gl X x) (hm : X.mg x = some (.ref f)) (hk : PySem.W.keepIn X.K (.ref f) = true) (hb : Binds X.K fd ps ds) (hd : Vals dvs ds) (hx : Passes CX X E)
    (ha : PA X (e :: es) t) (hdb : (x == ("__debug__" : Str)) = false := by decide) (he : starEach (e :: es) X.env = (false, eval e X.env) :: starEach es X.env := by rfl) (hpl : (backTo pos (starEach es X.env)).any (·.1) = false := by rfl) :
    PE X (.Call (.Name x p) (e :: es) [] pos) (tCall sp dvs E t) := by
  intro pins s σ H Q I h
  refine wpAny_Call_Name_kw (ld_glob I hg hm ?_ hdb)
  refine PySem.W.callWith_K (h₀ := X.base) I.ok.mod.kin hk (thn (ha pos pins s σ H _ I h) fun us s1 ⟨vs, H1, I1, r, q⟩ => ⟨I1.kIn, ?_⟩) he hpl
  exact run_fn F hr hb hd hx I1 r q
/-- o.m(e, ..) -/
theorem pe_meth {pl : Sem Bool} (he : PE X o ta) (c : Cls X.K C) (hm : Meth X.K C m f) (F : FnOk q0 X.prog X.w X.K X.mg X.base CX k f fd ps sp) (hr : Room q0 k X.A) (hb : Binds X.K fd ps ds) (hd : Vals dvs ds) (hx : Passes CX X E) (ha : PA X (e :: es) t)
    (hst : starEach (e :: es) X.env = (false, eval e X.env) :: starEach es X.env := by rfl) (hpl : (backTo pos (starEach es X.env)).any (·.1) = false := by rfl)
    (ht : eval (.Call (.Attribute o m apos) (e :: es) [] pos) X.env = (do
      let ov ← eval o X.env
      standAt apos.atName
      let (f, first) ← holding [ov] (getMethod ov m pl)
      callWith pos f first (backTo pos (starEach (e :: es) X.env)) (backToKw pos (keywordEach [] X.env))) := by rfl) :
    PE X (.Call (.Attribute o m apos) (e :: es) [] pos) (tMeth C m sp dvs E ta t) := by
  intro pins s σ H Q I h
  refine PySem.W.methodCall_KW (pl := pl) (thn (he pins s σ H _ I h) fun u s1 ⟨x, H1, I1, rx, a, dx, fs, ex, ea, l, q⟩ => ?_) ht
  subst ex
  obtain rfl : u = Value.ref a := rx
  refine getmeth_ok I1 ea c hm l ?_
  refine PySem.W.callWith_K (first := [.ref a]) (h₀ := X.base) I.ok.mod.kin hm.kp (thn (ha pos pins s1 σ H1 _ I1 q) fun us s2 ⟨vs, H2, I2, r, q2⟩ => ⟨I2.kIn, ?_⟩) hst hpl
  exact run_fn (us := .ref a :: us) (vs := .ref a :: vs) F hr hb hd hx I2 (.cons rfl r) q2
/-- o.m() -/
theorem pe_meth0 {pl : Sem Bool} (he : PE X o ta) (c : Cls X.K C) (hm : Meth X.K C m f) (F : FnOk q0 X.prog X.w X.K X.mg X.base CX k f fd ps sp) (hr : Room q0 k X.A) (hb : Binds X.K fd ps ds) (hd : Vals dvs ds) (hx : Passes CX X E)
    (ht : eval (.Call (.Attribute o m apos) [] [] pos) X.env = (do
      let ov ← eval o X.env
      standAt apos.atName
      let (f, first) ← holding [ov] (getMethod ov m pl)
      callWith pos f first (backTo pos (starEach [] X.env)) (backToKw pos (keywordEach [] X.env))) := by rfl) :
    PE X (.Call (.Attribute o m apos) [] [] pos) (tMeth C m sp dvs E ta tNil) := by
  intro pins s σ H Q I h
  refine PySem.W.methodCall_KW (pl := pl) (thn (he pins s σ H _ I h) fun u s1 ⟨x, H1, I1, rx, a, dx, fs, ex, ea, l, q⟩ => ?_) ht
  subst ex
  obtain rfl : u = Value.ref a := rx
  refine getmeth_ok I1 ea c hm l ?_
  exact PySem.W.callWith_K0 (first := [.ref a]) I1.kIn hm.kp (run_fn (us := [.ref a]) (vs := [.ref a]) F hr hb hd hx I1 (.cons rfl .nil) q)

/-- what a class must have to be made -/
structure Mk (K : PySem.W.Frag) (C f : Addr) : Prop where
  makes : PySem.W.makesIn K C = true
  init : PySem.W.findIn K (.ref C) "__init__" = some (some (.ref f))
  fn : PySem.W.isFn K (.ref f) = true
  kp : PySem.W.keepIn K (.ref C) = true

theorem run_make {pins : List (Addr × Obj)} {σ : St} {H : Hp} {s : Shared} {Q : VK} {us : List Value} {vs : List V} (M : Mk X.K C f) (F : FnOk q0 X.prog X.w X.K X.mg X.base CX k f fd ps sp) (hr : Room q0 (k + 1) X.A) (hb : Binds X.K fd ps ds) (hd : Vals dvs ds)
    (hx : Passes CX X E) (I : Inv X pins σ H s) (r : Vals vs us)
    (h : ∀ x dx, H x = none → H dx = none → dx ≠ x → sp (.ref x :: (vs ++ dvs)) (upd (upd H dx (.own x)) x (.ins C dx [])) (fun v H2 => v = .non ∧ Q (.ref x) H2) (E σ)) :
    wpAny (model X.prog X.w) X.A (call (.ref C) us) (EP X pins σ Q) X.xe s := by
  have hq := h (s.heap.objs.size + 1) s.heap.objs.size (I.hok.fresh (Nat.le_succ _)) (I.hok.fresh (Nat.le_refl _)) (Nat.ne_of_lt (Nat.lt_succ_self _))
  have I2 := Inv.made (C := C) I
  have r2 : Vals (V.ref (s.heap.objs.size + 1) :: (vs ++ dvs)) (Value.ref (s.heap.objs.size + 1) :: (us ++ ds)) := .cons rfl (r.append hd)
  have hl : (Value.ref (s.heap.objs.size + 1) :: us ++ ds).length = ps.length := by
    have e := r2.length
    rw [F.len _ _ _ _ hq] at e
    exact e.symm
  refine wpAny_call (make_map (f := f) I.kIn M.makes M.init (beq_iff_eq.mp M.fn) (codeAny_mono (F.run _ X.stack _ _ ⟨Value.ref (s.heap.objs.size + 1) :: us, []⟩ (Value.ref (s.heap.objs.size + 1) :: (us ++ ds)) _ _ (E σ) (hr.make C us [])
    (I2.env0.make C us []) (hb _ (Value.ref (s.heap.objs.size + 1) :: us) I2.kIn hl) r2 hq) fun r s' hq' => ?_))
  cases r with
  | error e => exact hx pins σ _ _ e s' I2 hq'
  | ok fl =>
    cases fl with
    | ret u =>
      obtain ⟨v, H', I3, rv, ev, q3⟩ := I2.after hq'
      subst ev
      exact ⟨rv, ⟨V.ref (s.heap.objs.size + 1), H', I3, rfl, q3⟩⟩
    | next => exact False.elim hq'
    | brk => exact False.elim hq'
    | cont => exact False.elim hq'
theorem pe_make (M : Mk X.K C f) (F : FnOk q0 X.prog X.w X.K X.mg X.base CX k f fd ps sp) (hr : Room q0 (k + 1) X.A) (hg : Gl X x) (hm : X.mg x = some (.ref C)) (hb : Binds X.K fd ps ds) (hd : Vals dvs ds) (hx : Passes CX X E)
    (ha : PA X (e :: es) t) (hdb : (x == ("__debug__" : Str)) = false := by decide) (he : starEach (e :: es) X.env = (false, eval e X.env) :: starEach es X.env := by rfl) (hpl : (backTo pos (starEach es X.env)).any (·.1) = false := by rfl) :
    PE X (.Call (.Name x p) (e :: es) [] pos) (tMake C sp dvs E t) := by
  intro pins s σ H Q I h
  refine wpAny_Call_Name_kw (ld_glob I hg hm ?_ hdb)
  refine PySem.W.callWith_K (h₀ := X.base) I.ok.mod.kin M.kp (thn (ha pos pins s σ H _ I h) fun us s1 ⟨vs, H1, I1, r, q⟩ => ⟨I1.kIn, ?_⟩) he hpl
  exact run_make M F hr hb hd hx I1 r q
end

section
variable {X : Cx} {CX : CXT} {k : Nat} {f C : Addr} {fd : FuncData} {ps ks : List Str} {sp : Sp} {E : St → XK} {x m : Str} {p pos apos kpos : Pos} {e o : Expr} {es : List Expr} {kws : List Keyword} {te ta : TE} {t tk : TA} {nm : Option Str}
variable {g : List Value → List Value → List Value} {gV : List V → List V → List V}
end

/-! ### a def's body keeps its promise -/
/-- names: the parameters first -/
structure FnScope (N P : List Str) (sc : Scope) : Prop where
  kind : sc.kind = .function
  co : sc.isCoroutine = false
  gen : sc.isGenerator = false
  nd : N.Nodup
  pre : N.take P.length = P
  par : ∀ x ∈ P, sc.names.lookup x = some .local ∨ sc.names.lookup x = some .cell
  nofree : ∀ y ∈ sc.names, y.2 ≠ .free

theorem bindL_out {kindOf : Str → Option NameKind} {x : Str} : ∀ {binds : List (Str × Value)} {m : Str → Option Value}, (∀ v, (x, v) ∉ binds) → bindL kindOf binds m x = m x
  | [], _, _ => rfl
  | (n, v) :: r, m, h => by
    unfold bindL
    rw [bindL_out fun w hw => h w (List.mem_cons_of_mem _ hw)]
    split
    · have : x ≠ n := by rintro rfl; exact h v List.mem_cons_self
      simp [this]
    · rfl
theorem bindC_out {kindOf : Str → Option NameKind} {x : Str} : ∀ {binds : List (Str × Value)} {m : Str → Option Value}, (∀ v, (x, v) ∉ binds) → bindC kindOf binds m x = m x
  | [], _, _ => rfl
  | (n, v) :: r, m, h => by
    unfold bindC
    rw [bindC_out fun w hw => h w (List.mem_cons_of_mem _ hw)]
    split
    · rfl
    · have : x ≠ n := by rintro rfl; exact h v List.mem_cons_self
      simp [this]
theorem bindL_get {kindOf : Str → Option NameKind} {x : Str} {v : Value} : ∀ {P : List Str} {vs : List Value} {i : Nat} {m : Str → Option Value}, P.Nodup → P[i]? = some x → vs[i]? = some v → kindOf x = some .local →
    bindL kindOf (P.zip vs) m x = some v
  | [], _, _, _, _, h, _, _ => by simp at h
  | _ :: _, [], _, _, _, _, h, _ => by simp at h
  | p :: P, w :: vs, 0, m, nd, h1, h2, hk => by
    simp at h1 h2; subst h1; subst h2
    show bindL kindOf ((p, w) :: P.zip vs) m p = _
    unfold bindL
    rw [bindL_out fun v hv => (List.nodup_cons.mp nd).1 (List.of_mem_zip hv).1, if_pos hk]
    simp
  | p :: P, w :: vs, i + 1, m, nd, h1, h2, hk => by
    show bindL kindOf ((p, w) :: P.zip vs) m x = _
    unfold bindL
    exact bindL_get (i := i) (List.nodup_cons.mp nd).2 (by simpa using h1) (by simpa using h2) hk
theorem bindC_get {kindOf : Str → Option NameKind} {x : Str} {v : Value} : ∀ {P : List Str} {vs : List Value} {i : Nat} {m : Str → Option Value}, P.Nodup → P[i]? = some x → vs[i]? = some v → kindOf x ≠ some .local →
    bindC kindOf (P.zip vs) m x = some v
  | [], _, _, _, _, h, _, _ => by simp at h
  | _ :: _, [], _, _, _, _, h, _ => by simp at h
  | p :: P, w :: vs, 0, m, nd, h1, h2, hk => by
    simp at h1 h2; subst h1; subst h2
    show bindC kindOf ((p, w) :: P.zip vs) m p = _
    unfold bindC
    rw [bindC_out fun v hv => (List.nodup_cons.mp nd).1 (List.of_mem_zip hv).1, if_neg hk]
    simp
  | p :: P, w :: vs, i + 1, m, nd, h1, h2, hk => by
    show bindC kindOf ((p, w) :: P.zip vs) m x = _
    unfold bindC
    exact bindC_get (i := i) (List.nodup_cons.mp nd).2 (by simpa using h1) (by simpa using h2) hk

/-- the names' values at the entry -/
def start (N : List Str) (vs : List V) : St := vs.map some ++ List.replicate (N.length - vs.length) none

/-- the context of a def's body, at its entry; an exception leaves the frame, then lies as CX says -/
def cxOf (q0 : Bool) (CX : CXT) (P : Program) (w : World) (K : PySem.W.Frag) (mg : Str → Option Value) (base : Heap) (N : List Str) (qual : Str) (scope : Scope) (f : Addr) (cd : Value) (A : Around) (outer : List Env) (s : Shared) (H : Hp) (E : XK) : Cx where
  prog := P
  w := w
  K := K
  mg := mg
  base := base
  A := A.deeper (envOfC qual scope s.heap.objs.size f cd)
  N := N
  s₀ := s
  H₀ := H
  env := envOfC qual scope s.heap.objs.size f cd
  outer := outer
  stack := envOfC qual scope s.heap.objs.size f cd :: outer
  ex := []
  calm := q0
  fn := fun _ => true
  pn := []
  xe := fun e s' => wpAny (model P w) (A.deeper (envOfC qual scope s.heap.objs.size f cd)) (leaving (envOfC qual scope s.heap.objs.size f cd) e) (fun _ s'' => CX outer H s E e s'') (fun e' s'' => CX outer H s E e' s'') s'

theorem cell_has {sc : Scope} {n : Nat} {x : Str} (h : sc.names.lookup x = some .cell) : ∃ c, (cellsFrom n sc.names []).lookup x = some c := by
  have q := PySem.W.cellsFrom_some sc.names n [] (.inl h)
  exact Option.isSome_iff_exists.mp q

theorem inv_start {CX : CXT} {P : Program} {w : World} {K : PySem.W.Frag} {mg : Str → Option Value} {base : Heap} {N ps : List Str} {qual : Str} {scope : Scope} {f : Addr} {cd : Value} {A : Around} {outer : List Env} {s s1 : Shared} {H : Hp} {E : XK} {us : List Value} {vs : List V}
    (S : FnScope N ps scope) (hd : q0 = true → A.handled = none) (e0 : Env0 P w K mg base A outer s H) (hl : vs.length = ps.length) (r : Vals vs us)
    (x : InCallC s s.heap.objs.size (bindL (envOfC qual scope s.heap.objs.size f cd).kindOf (ps.zip us) fun _ => none) (cellsFrom (s.heap.objs.size + 1) scope.names []) (bindC (envOfC qual scope s.heap.objs.size f cd).kindOf (ps.zip us) fun _ => none) s1) :
    Inv (cxOf q0 CX P w K mg base N qual scope f cd A outer s H E) [] (start N vs) H s1 := by
  have hpl : ps.length ≤ N.length := by have := congrArg List.length S.pre; rw [List.length_take] at this; omega
  obtain ⟨h1, tk, rfl, hk⟩ := x.done
  have noA : ∀ b : Addr, b ∉ (cxOf q0 CX P w K mg base N qual scope f cd A outer s H E).ex := fun b z => absurd (show b ∈ ([] : List Addr) from z) (by simp)
  refine ⟨⟨e0.mod, S.kind, rfl, rfl, Nat.le_refl _, fun y z c h1 h2 => ?_, fun y hy => ?_, fun y c _ h => ?_, hd, Around.frames_deeper e0.frames, .inr ⟨rfl, rfl⟩, fun b z => absurd z (noA b), e0.bs, e0.bsz, fun b _ _ => noA b, fun b z => absurd z (noA b), e0.funs, e0.frf⟩,
    rfl, e0.bare, Un.kept hk, ⟨_, x.toInCall.ns, fun i y v h1 h2 h3 => ?_⟩, fun y c h => ⟨_, x.cell y c h⟩, e0.hok.fresh (Nat.le_refl _), fun y c h => ?_, fun p hp => absurd (show p ∈ ([] : List (Addr × Obj)) from hp) (by simp), e0.hok.kept hk, ?_⟩
  · exact name_of_addr x.apart (PySem.mem_of_lookup h1) (PySem.mem_of_lookup h2)
  · have hy : scope.names.lookup y = some .cell ∨ scope.names.lookup y = some .free := hy
    rcases hy with hy | hy
    · exact cell_has hy
    · exact absurd rfl (S.nofree _ (PySem.mem_of_lookup hy))
  · exact Nat.le_of_lt (x.above y c (PySem.mem_of_lookup h))
  · have hi : i < vs.length := by
      unfold start at h2
      by_cases hi : i < vs.length
      · exact hi
      · rw [List.getElem?_append_right (by simpa using hi)] at h2
        rw [List.getElem?_replicate] at h2
        split at h2 <;> cases h2
    have ha : vs[i]? = some v := by
      unfold start at h2
      rw [List.getElem?_append_left (by simpa using hi), List.getElem?_map] at h2
      cases e : vs[i]? with
      | none => rw [e] at h2; cases h2
      | some a => rw [e] at h2; cases h2; rfl
    obtain ⟨u, hu, rv⟩ := r.get ha
    have hp : ps[i]? = some y := by
      rw [← S.pre, List.getElem?_take_of_lt (by omega)]; exact h1
    have ndP : ps.Nodup := by rw [← S.pre]; exact S.nd.sublist (List.take_sublist _ _)
    refine ⟨u, rv, ?_⟩
    rcases S.par y (List.mem_of_getElem? hp) with k | k
    · exact .inl ⟨k, bindL_get ndP hp hu k⟩
    · obtain ⟨c, e⟩ := cell_has (n := s.heap.objs.size + 1) k
      refine .inr ⟨.inl k, c, e, ?_⟩
      have q := x.cell y c e
      rw [bindC_get ndP hp hu (by show scope.names.lookup y ≠ _; rw [k]; decide)] at q
      exact q
  · exact e0.hok.fresh (Nat.le_of_lt (x.above y c (PySem.mem_of_lookup h)))
  · unfold start
    show _ = N.length
    rw [List.length_append, List.length_map, List.length_replicate]
    omega

/-- THE RULE: a def (or a method) of the text, by its body. The body's reading t is chosen for each entry; it is run at the parameters' values -/
theorem fn_of {CX : CXT} {P : Program} {w : World} {K : PySem.W.Frag} {mg : Str → Option Value} {base : Heap} {k : Nat} {f : Addr} {name qual : Str} {params : Arguments} {body : List Stmt} {scope : Scope} {dV kV doc pm cdv ct oc : Value} {an od : Option Addr}
    {osl : Array (Option Value)} {N ps : List Str} {sp : Sp} (lk : K.lookup f = some ⟨oc, od, .func (PySem.W.fnOf name qual params body scope dV kV doc pm an cdv ct), osl⟩) (hcd : PySem.W.codeIn K cdv qual = true) (S : FnScope N ps scope)
    (len : ∀ vs H Q E, sp vs H Q E → vs.length = ps.length)
    (hbody : ∀ (A : Around) (outer : List Env) (s : Shared) (H : Hp) (vs : List V) (Q : VK) (E : XK), Room q0 k (A.deeper (envOfC qual scope s.heap.objs.size f cdv)) → sp vs H Q E →
      ∃ t, PSs (cxOf q0 CX P w K mg base N qual scope f cdv A outer s H E) body t ∧ t { nx := fun _ H' => Q .non H', rt := Q } (start N vs) H) :
    FnOk q0 P w K mg base CX (k + 1) f (PySem.W.fnOf name qual params body scope dV kV doc pm an cdv ct) ps sp := by
  refine ⟨len, fun A outer s H args us vs Q E hr e0 hb r hsp => ?_⟩
  have hl := len _ _ _ _ hsp
  have KX : K.In s.heap := e0.mod.kin.keeps fun b o e => (e0.bs b o e).1
  have lim : s.heap.NoLimit := e0.mod.nolimit.keeps fun b o e => (e0.bs b o e).1
  have hkind : ∀ y ∈ ps.zip us, scope.names.lookup y.1 = some .local ∨ (scope.names.lookup y.1 = some .cell ∧ ((cellsFrom (s.heap.objs.size + 1) scope.names []).lookup y.1).isSome = true) := fun ⟨n, v⟩ hy => by
    rcases S.par n (List.of_mem_zip hy).1 with q | q
    · exact .inl q
    · exact .inr ⟨q, PySem.W.cellsFrom_some _ _ _ (.inl q)⟩
  refine codeAny_call_function hr.depth (KX _ _ lk) rfl S.co S.gen rfl (PySem.W.codeRec_of KX hcd) (hb _ _ _ _ ?_)
  refine wpAny_newFunctionEnv_cells S.kind hkind fun env he s1 x => ?_
  subst he
  refine ⟨lim.keeps x.toInCall.keep, codeAny_func ?_⟩
  obtain ⟨t, ht, hq⟩ := hbody A outer s H vs Q E (hr.deeper _) hsp
  have I : Inv (cxOf q0 CX P w K mg base N qual scope f cdv A outer s H E) [] (start N vs) H s1 := inv_start S hr.hd e0 hl r x
  refine wpAny_mono (ht [] s1 (start N vs) H _ I hq) (fun fl s' hs => ?_) fun e s' hs => hs
  have fin : ∀ {σ' : St} {H' : Hp} {v : V} {u : Value}, Inv (cxOf q0 CX P w K mg base N qual scope f cdv A outer s H E) [] σ' H' s' → RelV v u → Q v H' → CE outer P w H s Q u s' :=
    fun {σ' H' v u} J rv q => ⟨v, H', J.os, J.bare, J.base, J.hok, rv, q⟩
  cases fl with
  | ret u =>
    obtain ⟨v, σ', H', J, rv, q⟩ := hs
    exact fin J rv q
  | next =>
    obtain ⟨σ', H', J, q⟩ := hs
    exact fin (v := V.non) (u := Value.none) J rfl q
  | brk =>
    obtain ⟨_, _, _, q⟩ := hs
    exact False.elim q
  | cont =>
    obtain ⟨_, _, _, q⟩ := hs
    exact False.elim q
end L2

namespace L2
open PySem PySem.Spec PyProof.Rows
variable {q0 : Bool}
section
variable {X : Cx} {x : Str} {p pos : Pos} {e : Expr} {es : List Expr} {t : TA} {id T : String} {r : List V → Hp → VK → Prop}

def tCB (r : List V → Hp → VK → Prop) (t : TA) : TE := fun σ H Q => t σ H fun vs H1 => r vs H1 Q
/-- f(e, ..), f a built-in function -/
theorem pe_callB (hc : CallR X (.builtin id) r) (hg : Gl X x) (hm : X.mg x = none) (hv : bootBuiltins x = some (.builtin id)) (ha : PA X (e :: es) t) (hn : x ≠ "__name__" := by decide) (hdb : (x == ("__debug__" : Str)) = false := by decide)
    (he : starEach (e :: es) X.env = (false, eval e X.env) :: starEach es X.env := by rfl) (hpl : (backTo pos (starEach es X.env)).any (·.1) = false := by rfl) : PE X (.Call (.Name x p) (e :: es) [] pos) (tCB r t) := by
  intro pins s σ H Q I h
  refine wpAny_Call_Name_kw (ld_blt I hg hm hv ?_ hn hdb)
  exact PyProof.Rows.callWith_builtin1 (thn (ha pos pins s σ H _ I h) fun us s1 ⟨vs, H1, I1, r1, q1⟩ => hc pins s1 σ H1 vs us Q I1 r1 q1) he hpl
/-- T(e, ..), T a built-in type -/
theorem pe_callTy (hc : CallR X (.type T) r) (hg : Gl X x) (hm : X.mg x = none) (hv : bootBuiltins x = some (.type T)) (ha : PA X (e :: es) t) (hn : x ≠ "__name__" := by decide) (hdb : (x == ("__debug__" : Str)) = false := by decide)
    (he : starEach (e :: es) X.env = (false, eval e X.env) :: starEach es X.env := by rfl) (hpl : (backTo pos (starEach es X.env)).any (·.1) = false := by rfl) : PE X (.Call (.Name x p) (e :: es) [] pos) (tCB r t) := by
  intro pins s σ H Q I h
  refine wpAny_Call_Name_kw (ld_blt I hg hm hv ?_ hn hdb)
  exact PyProof.Rows.callWith_type1 (thn (ha pos pins s σ H _ I h) fun us s1 ⟨vs, H1, I1, r1, q1⟩ => hc pins s1 σ H1 vs us Q I1 r1 q1) he hpl
end
end L2

namespace HT
open PySem PyProof.Rows

section
open PySem.SeqAt
open PySem.AutoSeq1 (wpAny_loadPart')
open PySem.MeetsSeq PySem.MeetsSeq2 PySem.MeetsSeq3

end

section
variable {prog : Program} {w : World} {A : Around} {E : Value → Shared → Prop} {s : Shared}

/-- t + u, t not empty -/
theorem cat_tup {t b : Addr} {vs ws : List Value} {Q : Value → Shared → Prop} (ht : IsTup s.heap t vs.toArray) (hb : IsTup s.heap b ws.toArray) (hv : vs ≠ [])
    (h1 : ws = [] → Q (.ref t) s) (h2 : ws ≠ [] → Q (.ref s.heap.objs.size) { s with heap := s.heap.push { cls := .type "tuple", data := .seq (vs ++ ws).toArray } })
    (hsz : vs.length + ws.length ≤ sizeLine) : wpAny (model prog w) A (binaryOp .Add (.ref t) (.ref b)) Q E s := by
  obtain ⟨⟨cls, dd, data, sl⟩, ho, hc, n, hd⟩ := id ht
  obtain ⟨⟨cls2, dd2, data2, sl2⟩, ho2, hc2, n2, hd2⟩ := id hb
  simp only at hc hd hc2 hd2
  subst hc hd hc2 hd2
  have e : vs.toArray ++ ws.toArray = (vs ++ ws).toArray := by simp
  by_cases hw : ws = []
  · exact concat_meets ⟨_, ho, rfl⟩ ⟨_, ho2, rfl⟩ noFill_tuple_add seq_tuple_add PySem.F.slot_tuple_add PySem.F.entry_tuple_add (PySem.F.args_tuple_add_2 _ _)
      (tuple_addW1 t b vs.toArray ws.toArray n n2 dd dd2 sl sl2 (by simpa using hv) (by simp [hw])) ⟨ho, ho2, h1 hw⟩
  · refine concat_meets ⟨_, ho, rfl⟩ ⟨_, ho2, rfl⟩ noFill_tuple_add seq_tuple_add PySem.F.slot_tuple_add PySem.F.entry_tuple_add (PySem.F.args_tuple_add_2 _ _)
      (tuple_addW2 t b vs.toArray ws.toArray n n2 dd dd2 sl sl2 (by simpa using hv) (by simpa using hw) (by rw [List.size_toArray, List.size_toArray]; exact hsz)) ⟨ho, ho2, ?_⟩
    rw [e]
    exact h2 hw

/-! ### t[a:b], not the whole -/
/-- a slice's bound as a place among n (d where it is left out) -/
def sIx (n d : Nat) : Option Int → Nat
  | none => d
  | some v => if v < 0 then (v + (n : Int)).toNat else min v.toNat n
theorem sIx_le (n d : Nat) (hd : d ≤ n) (o : Option Int) : sIx n d o ≤ n := by
  cases o with
  | none => exact hd
  | some v =>
    show (if v < 0 then (v + (n : Int)).toNat else min v.toNat n) ≤ n
    by_cases hv : v < 0
    · rw [if_pos hv]; omega
    · rw [if_neg hv]; exact Nat.min_le_right _ _
theorem clip_eq (v : Int) (n d : Nat) : (if v < 0 then max (v + (n : Int)) 0 else min v (n : Int)) = ((sIx n d (some v) : Nat) : Int) := by
  show (if v < 0 then max (v + (n : Int)) 0 else min v (n : Int)) = (((if v < 0 then (v + (n : Int)).toNat else min v.toNat n) : Nat) : Int)
  by_cases hv : v < 0
  · simp only [if_pos hv]; omega
  · simp only [if_neg hv]; omega
theorem adjust_gen (lo hi : Option Int) (n : Nat) : Builtin.Slice.sliceAdjust lo hi 1 (n : Int) = (((sIx n 0 lo : Nat) : Int), ((sIx n n hi : Nat) : Int)) := by
  have h1 : ¬ ((1 : Int) < 0) := by omega
  unfold Builtin.Slice.sliceAdjust
  simp only [h1, if_false]
  refine Prod.ext ?_ ?_
  · cases lo with
    | none => rfl
    | some v => exact clip_eq v n 0
  · cases hi with
    | none => rfl
    | some v => exact clip_eq v n n
theorem places_gen (i j : Nat) : Builtin.Slice.slicePlaces (i : Int) (j : Int) 1 = j - i := by
  unfold Builtin.Slice.slicePlaces
  have h1 : (1 : Int) > 0 := by omega
  simp only [h1, if_true, Int.ediv_one]
  split <;> omega
theorem slicePart_ {v : Value} {o : Option Int} {Q : Option Int → Shared → Prop} (p : IsPart v o) (h : Q o s) : wpAny (model prog w) A (Builtin.Slice.slicePartIndex v) Q E s := by
  cases p with
  | none => exact slicePart_none h
  | int i t => exact slicePart_int h
theorem sliceApplied_gen {sl : Addr} {vl vu : Value} {lo hi : Option Int} {n : Nat} {Q : Int × Int × Nat → Shared → Prop} (hs : s.heap.IsSliceOf sl vl vu .none) (pl : IsPart vl lo) (pu : IsPart vu hi)
    (h : Q (((sIx n 0 lo : Nat) : Int), 1, sIx n n hi - sIx n 0 lo) s) : wpAny (model prog w) A (Builtin.Slice.sliceApplied (.ref sl) (pure (n : Int))) Q E s := by
  obtain ⟨os, hos, hcs, hds⟩ := id hs
  unfold Builtin.Slice.sliceApplied Builtin.Slice.sliceFields
  refine wpAny_bind (wpAny_bind (wpAny_field hos hds (x := vl) rfl (wpAny_bind (wpAny_field hos hds (x := vu) rfl (wpAny_bind (wpAny_field hos hds (x := .none) rfl (wpAny_pure ?_)))))))
  refine wpAny_bind (slicePart_none ?_)
  show wpAny _ _ (if ((1 : Int) == 0) = true then _ else _) _ _ s
  rw [if_neg (by decide)]
  refine wpAny_bind (slicePart_ pl (wpAny_bind (slicePart_ pu (wpAny_bind (wpAny_pure ?_)))))
  show wpAny _ _ (match Builtin.Slice.sliceAdjust lo hi 1 (n : Int) with | (lo, hi) => pure (lo, (1 : Int), Builtin.Slice.slicePlaces lo hi 1)) _ _ s
  rw [adjust_gen lo hi n]
  show wpAny _ _ (pure (((sIx n 0 lo : Nat) : Int), (1 : Int), Builtin.Slice.slicePlaces ((sIx n 0 lo : Nat) : Int) ((sIx n n hi : Nat) : Int) 1)) _ _ s
  rw [places_gen]
  exact wpAny_pure h
theorem pick_gen (xs : Array Value) (i k : Nat) : ((List.range k).filterMap fun (m : Nat) => xs[((i : Int) + (m : Int) * 1).toNat]?).toArray = ((xs.toList.drop i).take k).toArray := by
  have e : (fun (m : Nat) => xs[((i : Int) + (m : Int) * 1).toNat]?) = fun m => xs[i + m]? := by
    funext m
    have : ((i : Int) + (m : Int) * 1).toNat = i + m := by omega
    rw [this]
  rw [e]
  have := pick_run xs i k
  rw [List.filterMap_map] at this
  have e2 : ((fun x => xs[x]?) ∘ fun x => i + x) = fun m => xs[i + m]? := rfl
  rw [e2] at this
  rw [this]

theorem getItem_tuple_cut {t sl : Addr} {items : Array Value} {vl vu : Value} {lo hi : Option Int} {Q : Value → Shared → Prop} (ht : IsTup s.heap t items) (hs : s.heap.IsSliceOf sl vl vu .none) (pl : IsPart vl lo) (pu : IsPart vu hi)
    (hw : ¬ (sIx items.size 0 lo = 0 ∧ sIx items.size items.size hi = items.size))
    (h : Q (.ref s.heap.objs.size) { s with heap := s.heap.push { cls := .type "tuple", data := .seq ((items.toList.drop (sIx items.size 0 lo)).take (sIx items.size items.size hi - sIx items.size 0 lo)).toArray } })
    (hsz : items.size ≤ sizeLine) : wpAny (model prog w) A (getItem (.ref t) (.ref sl)) Q E s := by
  have htake : sizeOk (.seq ((items.toList.drop (sIx items.size 0 lo)).take (sIx items.size items.size hi - sIx items.size 0 lo)).toArray) := by
    show ((items.toList.drop (sIx items.size 0 lo)).take (sIx items.size items.size hi - sIx items.size 0 lo)).toArray.size ≤ sizeLine
    rw [List.size_toArray, List.length_take, List.length_drop, Array.length_toList]
    omega
  have hj : sIx items.size items.size hi ≤ items.size := sIx_le _ _ (Nat.le_refl _) hi
  obtain ⟨os, hos, hcs, hds⟩ := id hs
  have hTs : s.TypeIs (.ref sl) "slice" := ⟨os, hos, hcs⟩
  unfold getItem
  try with_reducible refine wpAny_holding ?_
  first | refine wpAny_bind (wpAny_pure ?_) | skip
  refine wpAny_bind (wpAny_sequenceKey ht.typeIs (by decide) ?_)
  refine wpAny_bind (wpAny_callSpecial?_slot (name := Str.ofString "__getitem__") ht.typeIs PyProof.Rows.slot_tuple_getitem
    (wpAny_call_entry PyProof.Rows.slot_tuple_getitem ht.typeIs entry_tuple_getitem ?_ (args_tuple_getitem _ _)))
  show wpAny _ _ (Builtin.Tuple.tupleItemsOf (.ref t) >>= _) _ _ s
  refine wpAny_bind (tupleItemsOf_ ht ?_)
  refine wpAny_bind (wpAny_typeOf hTs ?_)
  rw [if_pos (by decide)]
  refine wpAny_bind (sliceApplied_gen hs pl pu ?_)
  have hno : ¬ ((((sIx items.size 0 lo : Nat) : Int) == 0 && (1 : Int) == 1 && (sIx items.size items.size hi - sIx items.size 0 lo) == items.size) = true) := by
    intro q
    rw [Bool.and_eq_true, Bool.and_eq_true] at q
    have q1 : ((sIx items.size 0 lo : Nat) : Int) = 0 := eq_of_beq q.1.1
    have q2 : sIx items.size items.size hi - sIx items.size 0 lo = items.size := eq_of_beq q.2
    exact hw ⟨by omega, by omega⟩
  show wpAny _ _ (if (((sIx items.size 0 lo : Nat) : Int) == 0 && (1 : Int) == 1 && (sIx items.size items.size hi - sIx items.size 0 lo) == items.size) = true then _ else _) _ _ s
  rw [if_neg hno, pick_gen]
  first
    | exact wpAny_bind (m := Builtin.Tuple.tupleExact _) (wpAny_newObj_type (wpAny_pure ⟨_, rfl, wpAny_pure h⟩) htake)
    | exact wpAny_bind (m := Builtin.Tuple.tupleExact _) (wpAny_newObj_type (wpAny_bind (wpAny_pure (wpAny_pure ⟨_, rfl, wpAny_pure h⟩))) htake)
    | exact wpAny_bind (wpAny_bind (m := Builtin.Tuple.tupleExact _) (wpAny_newObj_type (wpAny_pure (wpAny_pure ⟨_, rfl, wpAny_pure h⟩)) htake))
    | exact wpAny_bind (wpAny_bind (m := Builtin.Tuple.tupleExact _) (wpAny_newObj_type (wpAny_pure ⟨_, rfl, wpAny_pure h⟩) htake))
end
end HT

namespace L2
open PySem PySem.Spec PyProof.Rows
variable {q0 : Bool}

/-! ### the parts of a slice -/
abbrev TO := St → Hp → (Option Int → Hp → Prop) → Prop
/-- a slice's part (left out, or an int) -/
def PO (X : Cx) (e : Option Expr) (t : TO) : Prop :=
  ∀ (pins : List (Addr × Obj)) (s : Shared) (σ : St) (H : Hp) (Q : Option Int → Hp → Prop), Inv X pins σ H s → t σ H Q →
    wpAny (model X.prog X.w) X.A (evalPart e X.env) (fun u s' => ∃ o H', Inv X pins σ H' s' ∧ IsPart u o ∧ Q o H') X.xe s
def tNoPart : TO := fun _ H Q => Q none H
def tPart (t : TE) : TO := fun σ H Q => t σ H fun x H1 => ∃ i, x = .int i ∧ Q (some i) H1

section
variable {X : Cx} {e : Expr} {te : TE} {lo hi : Option Expr} {tl th : TO} {pos p2 : Pos}

theorem po_none : PO X none tNoPart := by
  intro pins s σ H Q I h
  rw [evalPart_none]
  exact wpAny_pure ⟨none, H, I, .none, h⟩
theorem po_some (h : PE X e te) : PO X (some e) (tPart te) := by
  intro pins s σ H Q I hw
  rw [evalPart_some]
  refine thn (h pins s σ H _ I hw) fun u s1 ⟨x, H1, I1, r1, q1⟩ => ?_
  obtain ⟨i, rfl, q⟩ := q1
  obtain ⟨t, rfl⟩ := r1
  exact ⟨some i, H1, I1, .int i t, q⟩

/-- what a slice of a value is, by values: the slice object stands at sl -/
def SlR (X : Cx) (r : V → Option Int → Option Int → Hp → VK → Prop) : Prop :=
  ∀ (pins : List (Addr × Obj)) (s : Shared) (σ : St) (H : Hp) (x : V) (v vl vu : Value) (lo hi : Option Int) (sl : Addr) (Q : VK), Inv X pins σ H s → RelV x v → s.heap.IsSliceOf sl vl vu .none → IsPart vl lo → IsPart vu hi → r x lo hi H Q →
    ∃ T id, typeLookup (.type T) "__getitem__" = pure (some (.builtin id)) ∧ s.TypeIs v T ∧ wpAny (model X.prog X.w) X.A (getItem v (.ref sl)) (EP X pins σ Q) X.xe s
theorem SlR.or {r r' : V → Option Int → Option Int → Hp → VK → Prop} (h : SlR X r) (h' : SlR X r') : SlR X (fun x lo hi H Q => r x lo hi H Q ∨ r' x lo hi H Q) := by
  intro pins s σ H x v vl vu lo hi sl Q I rx hs pl pu q
  rcases q with q | q
  · exact h pins s σ H x v vl vu lo hi sl Q I rx hs pl pu q
  · exact h' pins s σ H x v vl vu lo hi sl Q I rx hs pl pu q
def tSl (r : V → Option Int → Option Int → Hp → VK → Prop) (te : TE) (tl th : TO) : TE := fun σ H Q => te σ H fun x H1 => tl σ H1 fun l H2 => th σ H2 fun u H3 => r x l u H3 Q
/-- a[lo:hi], any a -/
theorem pe_slice {r : V → Option Int → Option Int → Hp → VK → Prop} (hr : SlR X r) (he : PE X e te) (hl : PO X lo tl) (hu : PO X hi th) : PE X (.Subscript e (.Slice lo hi none p2) pos) (tSl r te tl th) := by
  intro pins s σ H Q I h
  refine Subscript_ (thn (he pins s σ H _ I h) fun v s1 ⟨x, H1, I1, r1, q1⟩ => ?_)
  refine wpAny_Slice (thn (hl pins s1 σ H1 _ I1 q1) fun vl s2 ⟨l, H2, I2, pl, q2⟩ => thn (hu pins s2 σ H2 _ I2 q2) fun vu s3 ⟨u, H3, I3, pu, q3⟩ => ?_)
  rw [evalPart_none]
  refine wpAny_pure ?_
  have I4 : Inv X pins σ H3 { s3 with heap := s3.heap.push { cls := .type "slice", data := .fields #[vl, vu, .none] } } := I3.kept (t' := s3.toks) fun b ob q => Heap.get?_push_of_some _ q
  obtain ⟨T, id, hT, ht, hg⟩ := hr pins { s3 with heap := s3.heap.push { cls := .type "slice", data := .fields #[vl, vu, .none] } } σ H3 x v vl vu l u s3.heap.objs.size Q I4 r1 (Heap.IsSliceOf.new ..) pl pu q3
  show wpAny (model X.prog X.w) X.A (subscriptTail e (.Slice lo hi none p2) v (.ref s3.heap.objs.size)) (EP X pins σ Q) X.xe { s3 with heap := s3.heap.push { cls := .type "slice", data := .fields #[vl, vu, .none] } }
  exact tail_any (ops := [.ref s3.heap.objs.size, v]) ht hT hg (by with_unfolding_all rfl)

/-- the items of xs[lo:hi] -/
def cutV (xs : List V) (lo hi : Option Int) : List V := (xs.drop (HT.sIx xs.length 0 lo)).take (HT.sIx xs.length xs.length hi - HT.sIx xs.length 0 lo)
theorem cutV_length (xs : List V) (lo hi : Option Int) : (cutV xs lo hi).length ≤ xs.length := by
  unfold cutV
  rw [List.length_take, List.length_drop]
  omega
/-- t[lo:hi], not the whole of it (the whole would be t itself) -/
def rSlT (K : PySem.W.Frag) : V → Option Int → Option Int → Hp → VK → Prop := fun x lo hi H Q => ∃ a xs, x = .ref a ∧ SqT K H a xs ∧
  ¬ (HT.sIx xs.length 0 lo = 0 ∧ HT.sIx xs.length xs.length hi = xs.length) ∧ ∀ p, H p = none → Q (.ref p) (upd H p (.tup (cutV xs lo hi)))
theorem sl_tup : SlR X (rSlT X.K) := by
  intro pins s σ H x v vl vu lo hi sl Q I rx hs pl pu h
  obtain ⟨a, xs, rfl, hx, hw, q⟩ := h
  cases rx
  obtain ⟨its, r, ht, hz⟩ := I.tuple hx
  have hlen : its.toArray.size = xs.length := by rw [List.size_toArray]; exact r.length.symm
  refine ⟨"tuple", _, PyProof.Rows.slot_tuple_getitem.lookup, ht.typeIs, ?_⟩
  refine HT.getItem_tuple_cut ht hs pl pu (by rw [hlen]; exact hw) ?_ (by rw [hlen]; exact hz)
  rw [hlen]
  refine ⟨.ref s.heap.objs.size, _, I.laid (t' := s.toks) (o := .tup (cutV xs lo hi)) (fun b ob q => Heap.get?_push_of_some _ q) (Nat.le_refl _) ?_, rfl, q _ (I.hok.fresh (Nat.le_refl _))⟩
  exact ⟨Nat.le_trans (cutV_length xs lo hi) hz, _, (r.drop (HT.sIx xs.length 0 lo)).take (HT.sIx xs.length xs.length hi - HT.sIx xs.length 0 lo), IsTup.new _ _⟩

/-- t + u, t not empty: u empty gives t itself -/
def rCatT (K : PySem.W.Frag) : R2 := fun x y H Q => ∃ a b xs ys, x = .ref a ∧ y = .ref b ∧ SqT K H a xs ∧ SqT K H b ys ∧ xs ≠ [] ∧ xs.length + ys.length ≤ sizeLine ∧
  (ys = [] → Q (.ref a) H) ∧ (ys ≠ [] → ∀ p, H p = none → Q (.ref p) (upd H p (.tup (xs ++ ys))))
theorem Vals.nil_iff {xs : List V} {us : List Value} (r : Vals xs us) : us = [] ↔ xs = [] := by
  cases r with
  | nil => simp
  | cons _ _ => simp
theorem op_catT : OpR X (binaryOp .Add) (rCatT X.K) := by
  intro pins s σ H x y v u Q I rx ry h
  obtain ⟨a, b, xs, ys, rfl, rfl, ha, hb, hx, hz, q1, q2⟩ := h
  cases rx
  cases ry
  obtain ⟨its, r1, p1, _⟩ := I.tuple ha
  obtain ⟨its2, r2, p2, _⟩ := I.tuple hb
  refine HT.cat_tup p1 p2 (fun z => hx (r1.nil_iff.mp z)) (fun z => ⟨.ref a, H, I, rfl, q1 (r2.nil_iff.mp z)⟩) (fun z => ?_) (by rw [← r1.length, ← r2.length]; exact hz)
  refine ⟨.ref s.heap.objs.size, _, I.laid (t' := s.toks) (o := .tup (xs ++ ys)) (fun b ob q => Heap.get?_push_of_some _ q) (Nat.le_refl _) ?_, rfl, q2 (fun w => z (r2.nil_iff.mpr w)) _ (I.hok.fresh (Nat.le_refl _))⟩
  exact ⟨by rw [List.length_append]; exact hz, _, r1.append r2, IsTup.new _ _⟩
end
end L2

namespace L2
open PySem PySem.Spec PyProof.Rows
variable {q0 : Bool}

/-! ### places -/
/-- the place that an index of any sign means -/
def ixN (n : Nat) (i : Int) : Option Nat := if 0 ≤ i then (if i < n then some i.toNat else none) else if -(n : Int) ≤ i then some (i + n).toNat else none
def atI {α : Type} (xs : List α) (i : Int) : Option α := (ixN xs.length i).bind fun j => xs[j]?
theorem ixN_seq {n : Nat} {i : Int} {j : Nat} (h : ixN n i = some j) : seqIndex? i n = some j ∧ j < n ∧ -(n : Int) ≤ i ∧ i < n := by
  unfold ixN at h
  by_cases h0 : 0 ≤ i
  · rw [if_pos h0] at h
    by_cases h1 : i < n
    · rw [if_pos h1] at h
      have e : i.toNat = j := Option.some.inj h
      exact ⟨by rw [seqIndex_of h0 h1, e], by omega, by omega, h1⟩
    · rw [if_neg h1] at h; cases h
  · rw [if_neg h0] at h
    by_cases h1 : -(n : Int) ≤ i
    · rw [if_pos h1] at h
      have e : (i + n).toNat = j := Option.some.inj h
      exact ⟨by rw [seqIndex_neg (by omega) h1, e], by omega, h1, by omega⟩
    · rw [if_neg h1] at h; cases h
theorem atI_get {α : Type} {xs : List α} {i : Int} {v : α} (h : atI xs i = some v) : ∃ j, seqIndex? i xs.length = some j ∧ xs[j]? = some v ∧ j < xs.length ∧ -(xs.length : Int) ≤ i ∧ i < xs.length := by
  unfold atI at h
  cases e : ixN xs.length i with
  | none => rw [e] at h; cases h
  | some j =>
    rw [e] at h
    obtain ⟨h1, h2, h3, h4⟩ := ixN_seq e
    exact ⟨j, h1, h, h2, h3, h4⟩
theorem atI_nat {α : Type} {xs : List α} {j : Nat} {v : α} (h : xs[j]? = some v) : atI xs (j : Int) = some v := by
  have hj : j < xs.length := (List.getElem?_eq_some_iff.mp h).1
  have e : ixN xs.length (j : Int) = some j := by
    unfold ixN
    rw [if_pos (by omega), if_pos (by omega)]; simp
  unfold atI; rw [e]; exact h
theorem atI_last {α : Type} (xs : List α) (v : α) : atI (xs ++ [v]) (-1) = some v := by
  have hl : (xs ++ [v]).length = xs.length + 1 := by simp
  have e : ixN (xs ++ [v]).length (-1) = some xs.length := by
    unfold ixN
    rw [hl, if_neg (by decide), if_pos (by omega)]
    congr 1
    omega
  unfold atI
  rw [e]
  show (xs ++ [v])[xs.length]? = some v
  simp

/-! ### what may be subscripted -/
/-- what stands as an index of a plain subscript -/
def PlainIx (b : Expr) : Prop := ∀ o i, subscripted b false o i = operate [o, i] (getItem o i)
/-- a subscript by values -/
def IxR (X : Cx) (r : R2) : Prop :=
  ∀ (value slice : Expr) (pins : List (Addr × Obj)) (s : Shared) (σ : St) (H : Hp) (x y : V) (v u : Value) (Q : VK), Inv X pins σ H s → RelV x v → RelV y u → r x y H Q →
    subscripted slice false v u = operate [v, u] (getItem v u) → wpAny (model X.prog X.w) X.A (subscriptTail value slice v u) (EP X pins σ Q) X.xe s
/-- a call of a builtin's method by values: the receiver, the arguments -/
def MtR (X : Cx) (id : String) (r : V → List V → Hp → VK → Prop) : Prop :=
  ∀ (pins : List (Addr × Obj)) (s : Shared) (σ : St) (H : Hp) (x : V) (xs : List V) (v : Value) (us : List Value) (Q : VK), Inv X pins σ H s → RelV x v → Vals xs us → r x xs H Q →
    wpAny (model X.prog X.w) X.A (call (.builtin id) (v :: us)) (EP X pins σ Q) X.xe s
section
variable {X : Cx} {a b : Expr} {ta tb : TE} {pos : Pos}
theorem IxR.or {r r' : R2} (h : IxR X r) (h' : IxR X r') : IxR X (fun x y H Q => r x y H Q ∨ r' x y H Q) := by
  intro value slice pins s σ H x y v u Q I rx ry q hs
  rcases q with q | q
  · exact h value slice pins s σ H x y v u Q I rx ry q hs
  · exact h' value slice pins s σ H x y v u Q I rx ry q hs
theorem MtR.or {id : String} {r r' : V → List V → Hp → VK → Prop} (h : MtR X id r) (h' : MtR X id r') : MtR X id (fun x xs H Q => r x xs H Q ∨ r' x xs H Q) := by
  intro pins s σ H x xs v us Q I rx rs q
  rcases q with q | q
  · exact h pins s σ H x xs v us Q I rx rs q
  · exact h' pins s σ H x xs v us Q I rx rs q
/-- a[b] -/
theorem pe_ix {r : R2} (hr : IxR X r) (ha : PE X a ta) (hb : PE X b tb) (hs : PlainIx b) : PE X (.Subscript a b pos) (tOp r ta tb) := by
  intro pins s σ H Q I h
  exact Subscript_ (binT ha hb I h fun v u s2 x y H2 I2 rx ry q => hr a b pins s2 σ H2 x y v u Q I2 rx ry q (hs _ _))

def rIxL (K : PySem.W.Frag) : R2 := fun x y H Q => ∃ p xs i v, x = .ref p ∧ y = .int i ∧ SqL K H p xs ∧ atI xs i = some v ∧ Q v H
def rIxT (K : PySem.W.Frag) : R2 := fun x y H Q => ∃ p xs i v, x = .ref p ∧ y = .int i ∧ SqT K H p xs ∧ atI xs i = some v ∧ Q v H
def rIxS : R2 := fun x y H Q => ∃ z i c, x = .str z ∧ y = .int i ∧ z.length ≤ sizeLine ∧ atI z.cps.toList i = some c ∧ Q (.str ⟨#[c]⟩) H
theorem ix_list : IxR X (rIxL X.K) := by
  intro value slice pins s σ H x y v u Q I rx ry h hs
  obtain ⟨p, xs, i, z, rfl, rfl, hq, he, q⟩ := h
  cases rx
  obtain ⟨t, rfl⟩ := ry
  obtain ⟨its, r, pl, hz⟩ := I.list hq
  obtain ⟨j, h1, h2, h3, h4, h5⟩ := atI_get he
  obtain ⟨w, ew, rw'⟩ := r.get h2
  have hl := r.length
  have hn := line63
  have fin : EP X pins σ Q w s := ⟨z, H, I, rw', q⟩
  by_cases h0 : 0 ≤ i
  · have hj : i.toNat = j := by
      rw [seqIndex_of h0 h5] at h1
      exact Option.some.inj h1
    exact item_listR pl.isList h0 (by omega) (by rw [hj]; simpa using ew) fin hs
  · have hj : (i + (its.toArray.size : Int)).toNat = j := by
      rw [seqIndex_neg (by omega) h4] at h1
      rw [List.size_toArray, ← hl]
      exact Option.some.inj h1
    exact subscriptTail_builtinR (x := w) pl.isList.typeIs slot_list_getitem.lookup
      (wpAny_getItem_list_neg (Q := fun r s' => r = w ∧ EP X pins σ Q r s') pl.isList (by omega) (by rw [List.size_toArray] <;> omega) (by omega) (by rw [hj]; simpa using ew) ⟨rfl, fin⟩) hs
theorem ix_tup : IxR X (rIxT X.K) := by
  intro value slice pins s σ H x y v u Q I rx ry h hs
  obtain ⟨p, xs, i, z, rfl, rfl, hq, he, q⟩ := h
  cases rx
  obtain ⟨t, rfl⟩ := ry
  obtain ⟨its, r, pl, hz⟩ := I.tuple hq
  obtain ⟨j, h1, h2, h3, h4, h5⟩ := atI_get he
  obtain ⟨w, ew, rw'⟩ := r.get h2
  have hl := r.length
  have hn := line63
  have fin : EP X pins σ Q w s := ⟨z, H, I, rw', q⟩
  exact subscriptTail_builtinR (x := w) pl.typeIs slot_tuple_getitem.lookup
    (getItem_tuple (j := j) (Q := fun r s' => r = w ∧ EP X pins σ Q r s') pl (by omega) (by omega) (by rw [List.size_toArray, ← hl]; exact h1) (by simpa using ew) ⟨rfl, fin⟩) hs
theorem ix_str : IxR X rIxS := by
  intro value slice pins s σ H x y v u Q I rx ry h hs
  obtain ⟨z, i, c, rfl, rfl, hz, he, q⟩ := h
  obtain ⟨t, rfl⟩ := rx
  obtain ⟨t', rfl⟩ := ry
  obtain ⟨j, h1, h2, h3, h4, h5⟩ := atI_get he
  have hl : z.cps.toList.length = z.length := by simp [Str.length]
  rw [hl] at h1 h4 h5
  have hn := line63
  exact tail_any (typeIs_str s z t) slot_str_getitem.lookup (getItem_str (c := c) (by
    have e1 : decide (i < -(2 ^ 63 : Int)) = false := decide_eq_false (by omega)
    have e2 : decide (i ≥ 2 ^ 63) = false := decide_eq_false (by omega)
    rw [e1, e2, Bool.or_false]) (by rw [h1]; simpa using h2) ⟨.str ⟨#[c]⟩, H, I.tok _, ⟨_, rfl⟩, q⟩) hs
theorem Inv.lst {pins : List (Addr × Obj)} {σ : St} {H : Hp} {s : Shared} {p : Addr} {xs : List V} (I : Inv X pins σ H s) (h : H p = some (.lst xs)) :
    ∃ (its : List Value) (n : Nat), Vals xs its ∧ s.heap.get? p = some { cls := .type "list", data := .seq its.toArray n } ∧ xs.length ≤ sizeLine := by
  obtain ⟨z, its, n, r, e⟩ := I.hok p _ h
  exact ⟨its, n, r, e, z⟩
/-! ### slices -/
theorem slice_bounds (lo hi : Option Int) (n : Nat) : (sliceBounds lo hi none n).1 = ((HT.sIx n 0 lo : Nat) : Int) ∧ (sliceBounds lo hi none n).2.1 = ((HT.sIx n n hi : Nat) : Int) ∧ (sliceBounds lo hi none n).2.2 = 1 := by
  refine ⟨?_, ?_, rfl⟩
  · cases lo with
    | none => simp [sliceBounds, HT.sIx]
    | some i =>
      simp only [sliceBounds, HT.sIx, Option.getD_none, show (1 : Int) > 0 by decide, if_true]
      by_cases h : i < 0
      · simp only [h, if_true] <;> omega
      · simp only [h, if_false] <;> omega
  · cases hi with
    | none => simp [sliceBounds, HT.sIx]
    | some i =>
      simp only [sliceBounds, HT.sIx, Option.getD_none, show (1 : Int) > 0 by decide, if_true]
      by_cases h : i < 0
      · simp only [h, if_true] <;> omega
      · simp only [h, if_false] <;> omega
theorem slicePick_cut (its : List Value) (lo hi : Option Int) : slicePick its.toArray lo hi none = ((its.drop (HT.sIx its.length 0 lo)).take (HT.sIx its.length its.length hi - HT.sIx its.length 0 lo)).toArray := by
  obtain ⟨h1, h2, h3⟩ := slice_bounds lo hi its.toArray.size
  unfold slicePick
  rw [h1, h2, h3]
  simp only [sliceRange_one, pick_run, List.size_toArray] <;> rfl
/-- xs[lo:hi] of a list: a new list -/
def rSlL (K : PySem.W.Frag) : V → Option Int → Option Int → Hp → VK → Prop := fun x lo hi H Q => ∃ a xs, x = .ref a ∧ SqL K H a xs ∧ ∀ p, H p = none → Q (.ref p) (upd H p (.lst (cutV xs lo hi)))
theorem sl_list : SlR X (rSlL X.K) := by
  intro pins s σ H x v vl vu lo hi sl Q I rx hs pl pu h
  obtain ⟨a, xs, rfl, hx, q⟩ := h
  cases rx
  obtain ⟨its, r, ht, hz⟩ := I.list hx
  have hlen := r.length
  refine ⟨"list", _, slot_list_getitem.lookup, ht.isList.typeIs, ?_⟩
  refine wpAny_getItem_list_slice ht.isList hs pl pu .none (by simp) ?_ (by rw [List.size_toArray] <;> omega)
  rw [slicePick_cut, ← hlen]
  refine ⟨.ref s.heap.objs.size, _, I.laid (t' := s.toks) (o := .lst (cutV xs lo hi)) (fun b ob q => Heap.get?_push_of_some _ q) (Nat.le_refl _) ?_, rfl, q _ (I.hok.fresh (Nat.le_refl _))⟩
  exact ⟨Nat.le_trans (cutV_length xs lo hi) hz, _, 0, (r.drop (HT.sIx xs.length 0 lo)).take (HT.sIx xs.length xs.length hi - HT.sIx xs.length 0 lo), Heap.get?_push_size _ rfl⟩

/-! ### len, list(x), tuple(x) of any list or tuple that is read -/
theorem call_len_seq : CallR X (.builtin "len") (fun xs H Q => ∃ p ys, xs = [.ref p] ∧ (SqL X.K H p ys ∨ SqT X.K H p ys) ∧ Q (.int ys.length) H) := by
  intro pins s σ H xs us Q I r h
  obtain ⟨p, ys, rfl, hq, q⟩ := h
  obtain ⟨u, rfl, rx⟩ := vals1 r
  cases rx
  have hn := line63
  rcases hq with hq | hq
  · obtain ⟨its, r', pl, hz⟩ := I.list hq
    have hlen := r'.length
    exact Calls.call_len_list pl.isList (by simp only [List.size_toArray] <;> omega) ⟨.int ys.length, H, I.tok _, ⟨s.toks + 1, by rw [List.size_toArray, hlen]⟩, q⟩
  · obtain ⟨its, r', pl, hz⟩ := I.tuple hq
    have hlen := r'.length
    exact len_tuple pl (by simp only [List.size_toArray] <;> omega) ⟨.int ys.length, H, I.tok _, ⟨s.toks + 1, by rw [List.size_toArray, hlen]⟩, q⟩
theorem call_len_str : CallR X (.builtin "len") (fun xs H Q => ∃ z, xs = [.str z] ∧ z.length ≤ sizeLine ∧ Q (.int z.length) H) := by
  intro pins s σ H xs us Q I r h
  obtain ⟨z, rfl, hz, q⟩ := h
  obtain ⟨u, rfl, t, rfl⟩ := vals1 r
  have hn := line63
  exact len_str (by omega) ⟨.int z.length, H, I.tok _, ⟨_, rfl⟩, q⟩
theorem CallR.or {f : Value} {r r' : List V → Hp → VK → Prop} (h : CallR X f r) (h' : CallR X f r') : CallR X f (fun xs H Q => r xs H Q ∨ r' xs H Q) := by
  intro pins s σ H xs us Q I rs q
  rcases q with q | q
  · exact h pins s σ H xs us Q I rs q
  · exact h' pins s σ H xs us Q I rs q
/-! ### the call of a builtin's method: o.m(..) -/
/-- the value is of that builtin type -/
def tyV (K : PySem.W.Frag) (T : String) (x : V) (H : Hp) : Prop := match x with
  | .str _ => T = "str"
  | .int _ => T = "int"
  | .ref p => (T = "list" ∧ ∃ xs, SqL K H p xs) ∨ (T = "tuple" ∧ ∃ o, K.lookup p = some o ∧ o.cls = .type "tuple" ∧ o.dict = none) ∨
      (T = "dict" ∧ ((∃ kvs, H p = some (.dK kvs)) ∨ ∃ kvs, H p = some (.dT kvs))) ∨ (T = "set" ∧ ∃ S n, H p = some (.set S n))
  | _ => False
theorem tyV_is {pins : List (Addr × Obj)} {σ : St} {H : Hp} {s : Shared} {T : String} {x : V} {v : Value} (I : Inv X pins σ H s) (r : RelV x v) (ty : tyV X.K T x H) :
    s.TypeIs v T ∧ ∀ a, v = .ref a → ∃ ob, s.heap.get? a = some ob ∧ ob.dict = none := by
  cases x with
  | str z =>
    obtain ⟨t, rfl⟩ := r
    cases (show T = "str" from ty)
    exact ⟨typeIs_str s z t, fun _ e => nomatch e⟩
  | int i =>
    obtain ⟨t, rfl⟩ := r
    cases (show T = "int" from ty)
    exact ⟨typeIs_int s i t, fun _ e => nomatch e⟩
  | ref p =>
    cases r
    rcases ty with ⟨rfl, xs, hq⟩ | ⟨rfl, o, hk, hc, hd⟩ | ⟨rfl, hk⟩ | ⟨rfl, S, n, hk⟩
    · obtain ⟨its, _, pl, _⟩ := I.list hq
      refine ⟨pl.isList.typeIs, fun a e => ?_⟩
      cases e
      obtain ⟨o, n, e, c, hd, _⟩ := pl
      exact ⟨o, e, hd⟩
    · refine ⟨⟨o, I.kIn p o hk, hc⟩, fun a e => ?_⟩
      cases e
      exact ⟨o, I.kIn _ o hk, hd⟩
    · have z : ∃ o, s.heap.get? p = some o ∧ o.ExactDict := by
        rcases hk with ⟨kvs, hk⟩ | ⟨kvs, hk⟩
        · obtain ⟨_, _, _, _, o, _, _, e, ex, _⟩ := I.hok p _ hk
          exact ⟨o, e, ex⟩
        · obtain ⟨_, _, _, _, o, _, _, e, ex, _⟩ := I.hok p _ hk
          exact ⟨o, e, ex⟩
      obtain ⟨o, e, ex⟩ := z
      refine ⟨⟨o, e, ex.1⟩, fun a e2 => ?_⟩
      cases e2
      exact ⟨o, e, ex.2.1⟩
    · obtain ⟨o, _, _, _, e, ex, _⟩ := I.hok p _ hk
      refine ⟨⟨o, e, ex.1⟩, fun a e2 => ?_⟩
      cases e2
      exact ⟨o, e, ex.2.1⟩
  | _ => exact False.elim ty
def tBM0 (K : PySem.W.Frag) (T : String) (r : V → List V → Hp → VK → Prop) (to : TE) : TE := fun σ H Q => to σ H fun x H1 => tyV K T x H1 ∧ r x [] H1 Q
def tBM (K : PySem.W.Frag) (T : String) (r : V → List V → Hp → VK → Prop) (to : TE) (t : TA) : TE := fun σ H Q => to σ H fun x H1 => tyV K T x H1 ∧ t σ H1 fun xs H2 => r x xs H2 Q
variable {o e : Expr} {es : List Expr} {to : TE} {t : TA} {name : Str} {apos cpos : Pos} {T id : String} {r : V → List V → Hp → VK → Prop}
theorem pe_bm0 (pa : PlainAttrs T) (slot : Slot T name id) (hty : typeOf (.builtin id) = pure (.type "method_descriptor")) (hm : MtR X id r) (ho : PE X o to)
    (hbase : attributeBase o name X.env (eval o X.env) = eval o X.env := by rfl) (hline : (apos.endLine == cpos.line) = true := by rfl) : PE X (.Call (.Attribute o name apos) [] [] cpos) (tBM0 X.K T r to) := by
  intro pins s σ H Q I h
  refine wpAny_Call_method0_late hbase hline (thn (ho pins s σ H _ I h) fun v s1 ⟨x, H1, I1, r1, ty, q1⟩ => ?_)
  obtain ⟨h1, h2⟩ := tyV_is I1 r1 ty
  exact ⟨T, id, pa, slot, hty, h1, h2, Calls.callWith_builtin rfl (PySem.evalArgs_none (hm pins s1 σ H1 x [] v [] Q I1 r1 .nil q1))⟩
theorem pe_bm (pa : PlainAttrs T) (slot : Slot T name id) (hty : typeOf (.builtin id) = pure (.type "method_descriptor")) (hm : MtR X id r) (ho : PE X o to) (ha : PA X (e :: es) t)
    (hbase : attributeBase o name X.env (eval o X.env) = eval o X.env := by rfl)
    (hfew : ((backTo cpos (starEach (e :: es) X.env)).all (fun x => !x.1) && (backToKw cpos (keywordEach [] X.env)).all (fun x => x.1.isSome)
      && decide ((e :: es).length + ([] : List Keyword).length + (if ([] : List Keyword).isEmpty then 0 else 1) < 30)) = true := by rfl)
    (hline : (apos.endLine == cpos.line) = true := by rfl) (hs : starEach (e :: es) X.env = (false, eval e X.env) :: starEach es X.env := by rfl) (hplain : (backTo cpos (starEach es X.env)).any (·.1) = false := by rfl) :
    PE X (.Call (.Attribute o name apos) (e :: es) [] cpos) (tBM X.K T r to t) := by
  intro pins s σ H Q I h
  refine wpAny_Call_method_late hbase hfew hline rfl (thn (ho pins s σ H _ I h) fun v s1 ⟨x, H1, I1, r1, ty, q1⟩ => ?_)
  obtain ⟨h1, h2⟩ := tyV_is I1 r1 ty
  refine ⟨T, id, pa, slot, hty, h1, h2, ?_⟩
  have hA := ha cpos pins s1 σ H1 _ I1 q1
  rw [hs] at hA ⊢
  refine Calls.callWith_builtin (by show (false || (backTo cpos (starEach es X.env)).any (·.1)) = false; rw [hplain] <;> rfl) (Calls.evalArgs_plain ?_)
  exact thn hA fun us s2 ⟨vs, H2, I2, r2, q2⟩ => hm pins s2 σ H2 x vs v us Q I2 r1 r2 q2
/- xs.append(e), list.index on a module's tuple .. are MtR facts of 06m -/
end
end L2

namespace L2
open PySem PySem.Spec PyProof.Rows
variable {q0 : Bool}

def MtM (X : Cx) (id : String) (r : V → List V → Hp → VK → Prop) : Prop :=
  ∀ (pins : List (Addr × Obj)) (s : Shared) (σ : St) (H : Hp) (x : V) (xs : List V) (v : Value) (us : List Value) (Q : VK), Inv X pins σ H s → RelV x v → Vals xs us → r x xs H Q →
    wpAny (model X.prog X.w) X.A (call (.builtin id) (v :: us)) (EP X pins σ Q) X.xe s

/-! ### lists of values -/
theorem Vals.one : ∀ {x : V} {us : List Value}, Vals [x] us → ∃ u, us = [u] ∧ RelV x u
  | _, _, .cons r .nil => ⟨_, rfl, r⟩
theorem Vals.two : ∀ {x y : V} {us : List Value}, Vals [x, y] us → ∃ u v, us = [u, v] ∧ RelV x u ∧ RelV y v
  | _, _, _, .cons r (.cons q .nil) => ⟨_, _, rfl, r, q⟩
theorem Vals.zero : ∀ {us : List Value}, Vals [] us → us = []
  | _, .nil => rfl
theorem Vals.eraseIdx : ∀ {xs : List V} {us : List Value} (i : Nat), Vals xs us → Vals (xs.eraseIdx i) (us.eraseIdx i)
  | _, _, _, .nil => .nil
  | _, _, 0, .cons _ t => t
  | _, _, i + 1, .cons r t => .cons r (Vals.eraseIdx i t)
theorem Vals.reverse {xs : List V} {us : List Value} (h : Vals xs us) : Vals xs.reverse us.reverse := by
  induction h with
  | nil => exact .nil
  | cons r t ih => rw [List.reverse_cons, List.reverse_cons]; exact Vals.append ih (.cons r .nil)
theorem len_erase {α : Type} : ∀ (l : List α) (i : Nat), (l.eraseIdx i).length ≤ l.length
  | [], _ => Nat.le_refl _
  | _ :: _, 0 => Nat.le_succ _
  | _ :: r, i + 1 => Nat.succ_le_succ (len_erase r i)
section
variable {X : Cx} {pins : List (Addr × Obj)} {σ : St} {H : Hp} {s : Shared} {l b : Addr} {xs ys zs : List V}

/-! ### the two steps: a tracked list is rewritten, a new list is laid -/
theorem Inv.lset {its its' : List Value} {n : Nat} {f : Array Value → Array Value} {t' : Nat} (I : Inv X pins σ H s) (hH : H l = some (.lst xs))
    (e : s.heap.get? l = some { cls := .type "list", data := .seq its.toArray n }) (hf : f its.toArray = its'.toArray) (hv : Vals ys its') (hz : ys.length ≤ sizeLine) :
    Inv X pins σ (upd H l (.lst ys)) { s with heap := s.heap.update l (Obj.mapSeq f), toks := t' } := by
  have q := PySem.IsL.update e f
  rw [hf] at q
  refine I.write (x := l) (e := l) (by rw [hH]; exact trivial) (.inl rfl) (fun b' u hb hu => (Heap.get?_update_other s.heap (Obj.mapSeq f) (Ne.symm hb)).trans hu) ⟨_, q⟩ ?_
  exact ⟨hz, its', _, hv, q⟩
theorem Inv.lnew {its : List Value} {t' : Nat} (I : Inv X pins σ H s) (hv : Vals ys its) (hz : ys.length ≤ sizeLine) :
    Inv X pins σ (upd H s.heap.objs.size (.lst ys)) { s with heap := s.heap.push { cls := .type "list", data := .seq its.toArray }, toks := t' } :=
  I.laid (fun _ _ q => Heap.get?_push_of_some _ q) (Nat.le_refl _) ⟨hz, its, 0, hv, Heap.get?_push_size _ rfl⟩
theorem Inv.fresh (I : Inv X pins σ H s) : H s.heap.objs.size = none := I.hok.fresh (Nat.le_refl _)
theorem Inv.lstM (I : Inv X pins σ H s) (hH : H l = some (.lst xs)) : xs.length ≤ sizeLine ∧ ∃ (its : List Value) (n : Nat), Vals xs its ∧ xs.length = its.length ∧ s.heap.get? l = some { cls := .type "list", data := .seq its.toArray n } := by
  obtain ⟨z, its, n, r, e⟩ := I.hok l _ hH
  exact ⟨z, its, n, r, r.length, e⟩

end

section
variable {X : Cx}

/-! ### methods -/
def rAppend : V → List V → Hp → VK → Prop := fun x vs H Q => ∃ l xs y, x = .ref l ∧ vs = [y] ∧ H l = some (.lst xs) ∧ xs.length < sizeLine ∧ Q .non (upd H l (.lst (xs ++ [y])))
theorem mt_append : MtM X "list.append" rAppend := by
  intro pins s σ H x vs v us Q I rx rv h
  obtain ⟨l, xs, y, rfl, rfl, hH, hz, q⟩ := h
  cases rx
  obtain ⟨u, rfl, ru⟩ := rv.one
  obtain ⟨z, its, n, r, hl, e⟩ := I.lstM hH
  refine call_meets F.slot_list_append ⟨_, e, rfl⟩ F.entry_list_append (F.args_list_append_2 _ _) (PySem.list_append l its.toArray n u (by rw [List.size_toArray]; omega)) ⟨e, ?_⟩
  refine ⟨.non, _, I.lset (its' := its ++ [u]) hH e (by simp) (r.append (.cons ru .nil)) ?_, rfl, q⟩
  rw [List.length_append, List.length_singleton]
  omega

def rPopAt : V → List V → Hp → VK → Prop := fun x vs H Q => ∃ l xs i k y, x = .ref l ∧ vs = [.int i] ∧ H l = some (.lst xs) ∧ -(2 ^ 63) ≤ i ∧ i < 2 ^ 63 ∧ seqIndex? i xs.length = some k ∧ xs[k]? = some y ∧ Q y (upd H l (.lst (xs.eraseIdx k)))
theorem mt_popAt : MtM X "list.pop" rPopAt := by
  intro pins s σ H x vs v us Q I rx rv h
  obtain ⟨l, xs, i, k, y, rfl, rfl, hH, h1, h2, hk, hy, q⟩ := h
  cases rx
  obtain ⟨u, rfl, ru⟩ := rv.one
  obtain ⟨t, rfl⟩ := ru
  obtain ⟨z, its, n, r, hl, e⟩ := I.lstM hH
  obtain ⟨w, hw, rw'⟩ := r.get hy
  refine call_meets F.slot_list_pop ⟨_, e, rfl⟩ F.entry_list_pop (F.args_list_pop_2 _ _)
    (MeetsSeq.list_pop_at l its.toArray n i t k w (fitsIndex_both h1 h2) (by rw [List.size_toArray, ← hl]; exact hk) (by rw [← Array.getElem?_toList]; exact hw) (by rw [List.size_toArray]; omega)) ⟨e, ?_⟩
  refine ⟨y, _, I.lset (its' := its.eraseIdx k) hH e ?_ (r.eraseIdx k) ?_, rw', q⟩
  · show its.toArray.eraseIdxIfInBounds k = (its.eraseIdx k).toArray
    rw [List.eraseIdxIfInBounds_toArray]
  · have := len_erase xs k
    omega

def rClear : V → List V → Hp → VK → Prop := fun x vs H Q => ∃ l xs, x = .ref l ∧ vs = [] ∧ H l = some (.lst xs) ∧ Q .non (upd H l (.lst []))
theorem mt_clear : MtM X "list.clear" rClear := by
  intro pins s σ H x vs v us Q I rx rv h
  obtain ⟨l, xs, rfl, rfl, hH, q⟩ := h
  cases rx
  have hus := rv.zero
  subst hus
  obtain ⟨z, its, n, r, hl, e⟩ := I.lstM hH
  refine call_meets F.slot_list_clear ⟨_, e, rfl⟩ F.entry_list_clear (F.args_list_clear_1 _) (AutoSeq1.list_clear_list_0 l its.toArray n (by rw [List.size_toArray]; omega)) ⟨e, ?_⟩
  exact ⟨.non, _, I.lset (its' := []) (ys := []) hH e rfl .nil (Nat.zero_le _), rfl, q⟩

/-! ### list + list, list += list, list * int -/
def rCat : R2 := fun x y H Q => ∃ l b xs zs, x = .ref l ∧ y = .ref b ∧ H l = some (.lst xs) ∧ H b = some (.lst zs) ∧ xs.length + zs.length ≤ sizeLine ∧ ∀ p, H p = none → Q (.ref p) (upd H p (.lst (xs ++ zs)))
theorem op_cat : OpR X (binaryOp .Add) rCat := by
  intro pins s σ H x y v u Q I rx ry h
  obtain ⟨l, b, xs, zs, rfl, rfl, hH, hB, hz, q⟩ := h
  cases rx
  cases ry
  obtain ⟨z, its, n, r, hl, e⟩ := I.lstM hH
  obtain ⟨z2, its2, n2, r2, hl2, e2⟩ := I.lstM hB
  refine PySem.P.add_list e e2 ?_ (by rw [List.size_toArray, List.size_toArray]; omega)
  have ea : its.toArray ++ its2.toArray = (its ++ its2).toArray := by simp
  rw [ea]
  exact ⟨.ref _, _, I.lnew (t' := s.toks) (r.append r2) (by rw [List.length_append]; omega), rfl, q _ I.fresh⟩
end

/-! ### xs[a:b] = ys -/
section
variable {prog : Program} {w : World} {A : Around} {E : Value → Shared → Prop} {s : Shared}
end

section
variable {X : Cx}
end
end L2

namespace L2
open PySem PySem.Spec PyProof.Rows
variable {q0 : Bool}

/-! ### lists of pairs as tables -/
section
variable {κ : Type} [DecidableEq κ]
def valV (kvs : List (κ × V)) (k : κ) : Option V := (kvs.find? fun kv => decide (kv.1 = k)).map (·.2)
/-- in its place, or at the end -/
def putK (kvs : List (κ × V)) (k : κ) (v : V) : List (κ × V) :=
  if (kvs.any fun kv => decide (kv.1 = k)) = true then kvs.map (fun kv => if kv.1 = k then (kv.1, v) else kv) else kvs ++ [(k, v)]
def dropK (kvs : List (κ × V)) (k : κ) : List (κ × V) := kvs.filter fun kv => decide (kv.1 ≠ k)

theorem valV_pos {p : κ × V} {r : List (κ × V)} {k : κ} (e : p.1 = k) : valV (p :: r) k = some p.2 := by simp [valV, List.find?_cons, e]
theorem valV_neg {p : κ × V} {r : List (κ × V)} {k : κ} (e : ¬ p.1 = k) : valV (p :: r) k = valV r k := by simp [valV, List.find?_cons, e]
theorem valV_any (k : κ) : ∀ kvs : List (κ × V), (kvs.any fun kv => decide (kv.1 = k)) = (valV kvs k).isSome
  | [] => rfl
  | p :: r => by
    rw [List.any_cons]
    by_cases e : p.1 = k
    · simp only [valV_pos e, decide_eq_true e, Bool.true_or, Option.isSome_some]
    · rw [valV_neg e, decide_eq_false e, Bool.false_or]; exact valV_any k r
theorem length_putK (kvs : List (κ × V)) (k : κ) (v : V) : (putK kvs k v).length ≤ kvs.length + 1 := by
  unfold putK
  split
  · rw [List.length_map]; omega
  · rw [List.length_append, List.length_cons, List.length_nil]; omega
theorem putK_new {kvs : List (κ × V)} {k : κ} (v : V) (h : valV kvs k = none) : putK kvs k v = kvs ++ [(k, v)] := by
  unfold putK
  rw [valV_any, h]
  exact if_neg (by decide)

theorem RelO.isSome_eq {o : Option V} {u : Option Value} (r : RelO o u) : o.isSome = u.isSome := by
  cases o with
  | none => cases u with
    | none => rfl
    | some _ => exact (show False from r).elim
  | some _ => cases u with
    | none => exact (show False from r).elim
    | some _ => rfl
theorem RelO.getD {o : Option V} {u : Option Value} {d : V} {d' : Value} (r : RelO o u) (rd : RelV d d') : RelV (o.getD d) (u.getD d') := by
  cases o with
  | none => cases u with
    | none => exact rd
    | some _ => exact (show False from r).elim
  | some _ => cases u with
    | none => exact (show False from r).elim
    | some _ => exact r

/-- raw tables of the same keys -/
theorem KV.val {kvs : List (κ × V)} {vs : List (κ × Value)} (r : KV kvs vs) (k : κ) : RelO (valV kvs k) (valueAt vs k) := by
  unfold KV at r
  induction r with
  | nil => exact True.intro
  | @cons p q ps qs h t ih =>
    obtain ⟨h1, h2⟩ := h
    by_cases e : p.1 = k
    · have e' : q.1 = k := h1.symm.trans e
      have b : valueAt (q :: qs) k = some q.2 := by simp [valueAt, List.find?_cons, e']
      rw [valV_pos e, b]; exact h2
    · have e' : ¬ q.1 = k := fun z => e (h1.trans z)
      have b : valueAt (q :: qs) k = valueAt qs k := by simp [valueAt, List.find?_cons, e']
      rw [valV_neg e, b]; exact ih
theorem KV.any {kvs : List (κ × V)} {vs : List (κ × Value)} (r : KV kvs vs) (k : κ) : (kvs.any fun kv => decide (kv.1 = k)) = vs.any fun kv => decide (kv.1 = k) := by
  unfold KV at r
  induction r with
  | nil => rfl
  | cons h t ih => rw [List.any_cons, List.any_cons, ih, h.1]
theorem KV.repl {kvs : List (κ × V)} {vs : List (κ × Value)} (r : KV kvs vs) (k : κ) {y : V} {u : Value} (ry : RelV y u) :
    KV (kvs.map fun kv => if kv.1 = k then (kv.1, y) else kv) (vs.map fun kv => if kv.1 = k then (kv.1, u) else kv) := by
  unfold KV at r ⊢
  induction r with
  | nil => exact .nil
  | @cons p q ps qs h t ih =>
    rw [List.map_cons, List.map_cons]
    refine .cons ?_ ih
    obtain ⟨h1, h2⟩ := h
    by_cases e : p.1 = k
    · rw [if_pos e, if_pos (h1.symm.trans e)]; exact ⟨h1, ry⟩
    · rw [if_neg e, if_neg (fun z => e (h1.trans z))]; exact ⟨h1, h2⟩
theorem KV.put {kvs : List (κ × V)} {vs : List (κ × Value)} (r : KV kvs vs) (k : κ) {y : V} {u : Value} (ry : RelV y u) : KV (putK kvs k y) (stored vs k u) := by
  unfold putK stored
  rw [r.any k]
  by_cases e : (vs.any fun kv => decide (kv.1 = k)) = true
  · rw [if_pos e, if_pos e]; exact r.repl k ry
  · rw [if_neg e, if_neg e]; exact Paired.snoc r ⟨rfl, ry⟩
theorem KV.drop {kvs : List (κ × V)} {vs : List (κ × Value)} (r : KV kvs vs) (k : κ) : KV (dropK kvs k) (without vs k) := by
  unfold KV at r ⊢
  unfold dropK without
  induction r with
  | nil => exact .nil
  | @cons p q ps qs h t ih =>
    obtain ⟨h1, h2⟩ := h
    rw [List.filter_cons, List.filter_cons]
    by_cases e : p.1 = k
    · have a : ¬ decide (p.1 ≠ k) = true := by simp [e]
      have b : ¬ decide (q.1 ≠ k) = true := by simp [h1.symm.trans e]
      rw [if_neg a, if_neg b]; exact ih
    · have e' : ¬ q.1 = k := fun z => e (h1.trans z)
      have a : decide (p.1 ≠ k) = true := by simp [e]
      have b : decide (q.1 ≠ k) = true := by simp [e']
      rw [if_pos a, if_pos b]; exact .cons ⟨h1, h2⟩ ih
theorem KV.keys {kvs : List (κ × V)} {vs : List (κ × Value)} (r : KV kvs vs) : kvs.map (·.1) = vs.map (·.1) := by
  unfold KV at r
  induction r with
  | nil => rfl
  | cons h t ih => rw [List.map_cons, List.map_cons, ih, h.1]
theorem KV.length {kvs : List (κ × V)} {vs : List (κ × Value)} (r : KV kvs vs) : kvs.length = vs.length := Paired.length r
end


/-! ### a tracked dict, its keys ints and texts or tuples of these -/
theorem kV_is {P : Program} {w : World} {k : Key} {u : Value} (r : RelV (kV k) u) : (mixKind P w).is k u = true := by
  cases k with
  | inl i => obtain ⟨t, e⟩ := (show ∃ t, u = Value.int i t from r); subst e; exact mixKind_int P w i t
  | inr x => obtain ⟨t, e⟩ := (show ∃ t, u = Value.str x t from r); subst e; exact mixKind_str P w x t
theorem items_are {P : Program} {w : World} : ∀ {ks : List Key} {us : List Value}, Vals (ks.map kV) us → ItemsAre (mixKind P w) ks us
  | [], _, r => by rw [List.map_nil] at r; cases r; exact .nil
  | k :: ks, _, r => by
    rw [List.map_cons] at r
    cases r with
    | cons h t => exact .cons (kV_is h) (items_are t)

/-- raw entries of a dict with tuple keys -/
abbrev KT (H : Hp) : List (List Key × V) → List (List Key × Addr × Value) → Prop := Paired fun p q => p.1 = q.1 ∧ H q.2.1 = some (.tup (p.1.map kV)) ∧ RelV p.2 q.2.2
theorem KT.val {H : Hp} {kvs : List (List Key × V)} {xs : List (List Key × Addr × Value)} (r : KT H kvs xs) (k : List Key) : RelO (valV kvs k) ((atKey xs k).map (·.2)) := by
  induction r with
  | nil => exact True.intro
  | @cons p q ps qs h t ih =>
    obtain ⟨h1, _, h2⟩ := h
    by_cases e : p.1 = k
    · have e' : q.1 = k := h1.symm.trans e
      have b : atKey (q :: qs) k = some q.2 := by simp [atKey, List.find?_cons, e']
      rw [valV_pos e, b]; exact h2
    · have e' : ¬ q.1 = k := fun z => e (h1.trans z)
      have b : atKey (q :: qs) k = atKey qs k := by simp [atKey, List.find?_cons, e']
      rw [valV_neg e, b]; exact ih
theorem KT.repl {H : Hp} {kvs : List (List Key × V)} {xs : List (List Key × Addr × Value)} (r : KT H kvs xs) (k : List Key) {y : V} {u : Value} (ry : RelV y u) :
    KT H (kvs.map fun kv => if kv.1 = k then (kv.1, y) else kv) (xs.map (putAt k u)) := by
  induction r with
  | nil => exact .nil
  | @cons p q ps qs h t ih =>
    rw [List.map_cons, List.map_cons]
    refine .cons ?_ ih
    obtain ⟨h1, h2, h3⟩ := h
    unfold putAt
    by_cases e : p.1 = k
    · rw [if_pos e, if_pos (h1.symm.trans e)]; exact ⟨h1, h2, ry⟩
    · rw [if_neg e, if_neg (fun z => e (h1.trans z))]; exact ⟨h1, h2, h3⟩
theorem KT.put {H : Hp} {kvs : List (List Key × V)} {xs : List (List Key × Addr × Value)} (r : KT H kvs xs) (k : List Key) {b : Addr} {y : V} {u : Value} (hb : H b = some (.tup (k.map kV))) (ry : RelV y u) :
    KT H (putK kvs k y) (storedH xs k b u) := by
  have e : (kvs.any fun kv => decide (kv.1 = k)) = (atKey xs k).isSome := by
    rw [valV_any, (r.val k).isSome_eq, Option.isSome_map]
  unfold putK storedH
  rw [e]
  by_cases q : (atKey xs k).isSome = true
  · rw [if_pos q, if_pos q]; exact r.repl k ry
  · rw [if_neg q, if_neg q]; exact Paired.snoc r ⟨rfl, hb, ry⟩
theorem KT.keeps {H H' : Hp} {kvs : List (List Key × V)} {xs : List (List Key × Addr × Value)} (r : KT H kvs xs) (ht : ∀ b ys, H b = some (.tup ys) → H' b = some (.tup ys)) : KT H' kvs xs :=
  Paired.mapP r fun _ _ z => ⟨z.1, ht _ _ z.2.1, z.2.2⟩

section
variable {P : Program} {w : World} {H : Hp} {h : Heap} {a : Addr}
theorem rd_of {u : HO} (ok : HOk P w H h) (e : Rd H a u) : ObjOk P w H h a u := e.ok ok
theorem dk_rd {kvs : List (Key × V)} (ok : HOk P w H h) (e : Rd H a (.dK kvs)) : kvs.length ≤ sizeLine ∧ (a == sysModules) = false ∧ ∃ vs, KV kvs vs ∧ h.DictOf (mixKind P w) a vs :=
  show ObjOk P w H h a (.dK kvs) from rd_of ok e
theorem dk_of {kvs : List (Key × V)} (ok : HOk P w H h) (e : H a = some (.dK kvs)) : kvs.length ≤ sizeLine ∧ (a == sysModules) = false ∧ ∃ vs, KV kvs vs ∧ h.DictOf (mixKind P w) a vs := dk_rd ok (.inl e)
/-- a tracked tuple of ints and texts is a key -/
theorem key_of {ks : List Key} (ok : HOk P w H h) (e : H a = some (.tup (ks.map kV))) : (tupleKind (mixKind P w)).is h ks a := by
  obtain ⟨_, its, r, o, h1, h2, n, h3⟩ := (show ObjOk P w H h a (.tup (ks.map kV)) from ok a _ e)
  exact ⟨o, its.toArray, n, h1, h2, h3, by simpa using items_are r⟩
theorem dt_rd {kvs : List (List Key × V)} (ok : HOk P w H h) (e : Rd H a (.dT kvs)) : kvs.length ≤ sizeLine ∧ (a == sysModules) = false ∧
    ∃ xs, KT H kvs xs ∧ h.DictOfH (tupleKind (mixKind P w)) a xs := by
  obtain ⟨z, y, xs, r, o, es, ep, h1, h2, h3, h4, h5⟩ := (show ObjOk P w H h a (.dT kvs) from rd_of ok e)
  refine ⟨z, y, xs, r, o, es, ep, h1, h2, h3, h4, fun x hx => ?_, h5⟩
  have all : ∀ {l : List (List Key × V)} {m : List (List Key × Addr × Value)}, KT H l m → ∀ x ∈ m, (tupleKind (mixKind P w)).is h x.1 x.2.1 := by
    intro l m q
    induction q with
    | nil => intro x hx; exact nomatch hx
    | @cons p q ps qs hq t ih =>
      intro x hx
      rcases List.mem_cons.mp hx with e | hx
      · subst e
        exact key_of ok (by rw [← hq.1]; exact hq.2.1)
      · exact ih x hx
  exact all r x hx
theorem dt_of {kvs : List (List Key × V)} (ok : HOk P w H h) (e : H a = some (.dT kvs)) : kvs.length ≤ sizeLine ∧ (a == sysModules) = false ∧
    ∃ xs, KT H kvs xs ∧ h.DictOfH (tupleKind (mixKind P w)) a xs := dt_rd ok (.inl e)
end

/-- what the dict at a holds at the key y -/
def DGet (H : Hp) (a : Addr) (y : V) (r : Option V) : Prop :=
  (∃ kvs k, Rd H a (.dK kvs) ∧ y = kV k ∧ r = valV kvs k) ∨ ∃ kvs k b, Rd H a (.dT kvs) ∧ y = .ref b ∧ H b = some (.tup (k.map kV)) ∧ r = valV kvs k
/-- the heap behind a[y] = v -/
def DPut (H : Hp) (a : Addr) (y v : V) (H' : Hp) : Prop :=
  (∃ kvs k, H a = some (.dK kvs) ∧ y = kV k ∧ kvs.length < sizeLine ∧ H' = upd H a (.dK (putK kvs k v))) ∨
  ∃ kvs k b, H a = some (.dT kvs) ∧ y = .ref b ∧ H b = some (.tup (k.map kV)) ∧ kvs.length < sizeLine ∧ H' = upd H a (.dT (putK kvs k v))
theorem DGet.k {H : Hp} {a : Addr} {kvs : List (Key × V)} {k : Key} (e : H a = some (.dK kvs)) : DGet H a (kV k) (valV kvs k) := .inl ⟨kvs, k, .inl e, rfl, rfl⟩
theorem DGet.t {H : Hp} {a b : Addr} {kvs : List (List Key × V)} {k : List Key} (e : H a = some (.dT kvs)) (eb : H b = some (.tup (k.map kV))) : DGet H a (.ref b) (valV kvs k) := .inr ⟨kvs, k, b, .inl e, rfl, eb, rfl⟩
theorem DPut.k {H : Hp} {a : Addr} {kvs : List (Key × V)} {k : Key} {v : V} (e : H a = some (.dK kvs)) (hl : kvs.length < sizeLine) : DPut H a (kV k) v (upd H a (.dK (putK kvs k v))) := .inl ⟨kvs, k, e, rfl, hl, rfl⟩
theorem DPut.t {H : Hp} {a b : Addr} {kvs : List (List Key × V)} {k : List Key} {v : V} (e : H a = some (.dT kvs)) (eb : H b = some (.tup (k.map kV))) (hl : kvs.length < sizeLine) :
    DPut H a (.ref b) v (upd H a (.dT (putK kvs k v))) := .inr ⟨kvs, k, b, e, rfl, eb, hl, rfl⟩


section
variable {X : Cx} {pins : List (Addr × Obj)} {σ : St} {H : Hp} {s : Shared} {a : Addr} {y v : V} {u r : Value} {o : Option V} {A : Around} {E : Value → Shared → Prop}

theorem Inv.big (I : Inv X pins σ H s) : sysModules < s.heap.objs.size := by
  have h : mainGlobals < s.heap.objs.size := (I.mod.glob.keeps I.bk).lt
  exact Nat.lt_trans (by decide) h

/-- d[y], there -/
theorem d_getItem {Q : Value → Shared → Prop} (hu : A.units + 1 < cLine) (I : Inv X pins σ H s) (g : DGet H a y (some v)) (ry : RelV y u) (h : ∀ w' s', Inv X pins σ H s' → RelV v w' → Q w' s') :
    wpAny (model X.prog X.w) A (getItem (.ref a) u) Q E s := by
  rcases g with ⟨kvs, k, e, ey, l⟩ | ⟨kvs, k, b, e, ey, eb, l⟩
  · subst ey
    obtain ⟨z, hd, vs, rel, dd⟩ := dk_rd I.hok e
    obtain ⟨w', hw, rw'⟩ := RelO.some_of (v := v) (o := valueAt vs k) (by rw [l]; exact rel.val k)
    exact wpAny_getItem_of (kV_is ry) dd.mapOf hw (h w' _ (I.tok _) rw')
  · subst ey
    cases (show u = Value.ref b from ry)
    obtain ⟨z, hd, xs, rel, dd⟩ := dt_rd I.hok e
    obtain ⟨w', hw, rw'⟩ := RelO.some_of (v := v) (o := (atKey xs k).map (·.2)) (by rw [l]; exact rel.val k)
    obtain ⟨p, hp, hp2⟩ := Option.map_eq_some_iff.mp hw
    refine wpAny_getItem_heap (tupleKind_room_in1 hu) (key_of I.hok eb) dd hp ?_
    rw [hp2]
    exact h w' _ (I.tok _) rw'
/-- y in d -/
theorem d_in {Q : Value → Shared → Prop} (hu : A.units + 1 < cLine) (I : Inv X pins σ H s) (g : DGet H a y o) (ry : RelV y u) (h : ∀ s', Inv X pins σ H s' → Q (.bool o.isSome) s') :
    wpAny (model X.prog X.w) A (compareOp .In u (.ref a)) Q E s := by
  rcases g with ⟨kvs, k, e, ey, l⟩ | ⟨kvs, k, b, e, ey, eb, l⟩
  · subst ey
    obtain ⟨z, hd, vs, rel, dd⟩ := dk_rd I.hok e
    refine wpAny_in_of (kV_is ry) hd dd.mapOf ?_
    rw [← (rel.val k).isSome_eq, ← l]
    exact h _ (I.tok _)
  · subst ey
    cases (show u = Value.ref b from ry)
    obtain ⟨z, hd, xs, rel, dd⟩ := dt_rd I.hok e
    refine wpAny_in_heap (tupleKind_room_in1 hu) (key_of I.hok eb) hd dd ?_
    have q := (rel.val k).isSome_eq
    rw [Option.isSome_map] at q
    rw [← q, ← l]
    exact h _ (I.tok _)
theorem d_notIn {Q : Value → Shared → Prop} (hu : A.units + 1 < cLine) (I : Inv X pins σ H s) (g : DGet H a y o) (ry : RelV y u) (h : ∀ s', Inv X pins σ H s' → Q (.bool (!o.isSome)) s') :
    wpAny (model X.prog X.w) A (compareOp .NotIn u (.ref a)) Q E s := by
  rcases g with ⟨kvs, k, e, ey, l⟩ | ⟨kvs, k, b, e, ey, eb, l⟩
  · subst ey
    obtain ⟨z, hd, vs, rel, dd⟩ := dk_rd I.hok e
    refine wpAny_notIn_of (kV_is ry) hd dd.mapOf ?_
    rw [← (rel.val k).isSome_eq, ← l]
    exact h _ (I.tok _)
  · subst ey
    cases (show u = Value.ref b from ry)
    obtain ⟨z, hd, xs, rel, dd⟩ := dt_rd I.hok e
    refine wpAny_notIn_heap (tupleKind_room_in1 hu) (key_of I.hok eb) hd dd ?_
    have q := (rel.val k).isSome_eq
    rw [Option.isSome_map] at q
    rw [← q, ← l]
    exact h _ (I.tok _)
/-- a dict's object is replaced -/
theorem d_write {h' : Heap} {t' : Nat} {ob : HO} (I : Inv X pins σ H s) (mu : Mut (H a)) (hs : Heap.SameBut a s.heap h') (he : ∃ q, h'.get? a = some q) (new : ObjOk X.prog X.w (upd H a ob) h' a ob) :
    Inv X pins σ (upd H a ob) { s with heap := h', toks := t' } :=
  I.write (x := a) (e := a) mu (.inl rfl) (fun b q hb z => (hs.2 b hb).trans z) he new
theorem dk_new {P : Program} {w : World} {H' : Hp} {h' : Heap} {kvs : List (Key × V)} {vs : List (Key × Value)} (z : kvs.length ≤ sizeLine) (hd : (a == sysModules) = false) (rel : KV kvs vs) (dd : h'.DictOf (mixKind P w) a vs) :
    ObjOk P w H' h' a (.dK kvs) := ⟨z, hd, vs, rel, dd⟩
/-- d[y] = v -/
theorem d_setItem {H' : Hp} {Q : Unit → Shared → Prop} (hu : A.units + 1 < cLine) (I : Inv X pins σ H s) (g : DPut H a y v H') (ry : RelV y u) (rv : RelV v r) (h : ∀ s', Inv X pins σ H' s' → Q () s') :
    wpAny (model X.prog X.w) A (setItem (.ref a) u r) Q E s := by
  rcases g with ⟨kvs, k, e, ey, l, eH⟩ | ⟨kvs, k, b, e, ey, eb, l, eH⟩
  · subst ey eH
    obtain ⟨z, hd, vs, rel, dd⟩ := dk_of I.hok e
    have hz : vs.length ≤ sizeLine := by rw [← rel.length]; exact z
    have hl : (putK kvs k v).length ≤ sizeLine := by have := length_putK kvs k v; omega
    refine wpAny_setItem_pairs (hsz := hz) (kV_is ry) dd fun h' dd' hs => h _ ?_
    have he : ∃ q, h'.get? a = some q := let ⟨q, _, _, hq, _⟩ := dd'; ⟨q, hq⟩
    exact d_write I (by rw [e]; exact True.intro) hs he (dk_new hl hd (rel.put k rv) dd')
  · subst ey eH
    cases (show u = Value.ref b from ry)
    obtain ⟨z, hd, xs, rel, dd⟩ := dt_of I.hok e
    have hz : xs.length ≤ sizeLine := by rw [← Paired.length rel]; exact z
    have hl : (putK kvs k v).length ≤ sizeLine := by have := length_putK kvs k v; omega
    refine wpAny_setItem_heap (hsz := hz) (tupleKind_room_in1 hu) (key_of I.hok eb) dd fun h' dd' hs => h _ ?_
    obtain ⟨q, es, ep, hq, h2, h3, h4, _, h5⟩ := dd'
    refine d_write I (by rw [e]; exact True.intro) hs ⟨q, hq⟩ ⟨hl, hd, _, (rel.put k eb rv).keeps fun c ys ec => ?_, q, es, ep, hq, h2, h3, h4, h5⟩
    rw [upd_ne (ne_of ec e (fun z => nomatch z))]
    exact ec
end

section
variable {X : Cx} {pins : List (Addr × Obj)} {σ : St} {H : Hp} {s : Shared} {a : Addr} {kvs : List (Key × V)} {k : Key} {u : Value} {A : Around} {E : Value → Shared → Prop}
/-- len(d) -/
theorem d_len {Q : Value → Shared → Prop} (I : Inv X pins σ H s) (e : Rd H a (.dK kvs)) (h : ∀ t s', Inv X pins σ H s' → Q (.int kvs.length t) s') : wpAny (model X.prog X.w) A (call (.builtin "len") [.ref a]) Q E s := by
  obtain ⟨z, hd, vs, rel, dd⟩ := dk_rd I.hok e
  refine call_len_dict hd dd (by rw [← rel.length]; rw [sizeLine_eq] at z; omega) ?_
  rw [← rel.length]
  exact h _ _ (I.tok _)
end


/-! ### readings and rules -/
/-- the element of a subscription, not a slice -/
def NoSl (i : Expr) : Prop := ∀ ov iv, subscripted i false ov iv = operate [ov, iv] (getItem ov iv)
theorem subD_of {prog : Program} {w : World} {A : Around} {E : Value → Shared → Prop} {s : Shared} {env : Env} {value slice : Expr} {pos : Pos} {T id : String} {Q : Value → Shared → Prop}
    (hl : typeLookup (.type T) "__getitem__" = pure (some (.builtin id))) (hs : NoSl slice)
    (h : wpAny (model prog w) A (eval value env) (fun o s₁ => wpAny (model prog w) A (eval slice env) (fun i s₂ => s₂.TypeIs o T ∧ wpAny (model prog w) A (getItem o i) Q E s₂) E s₁) E s) :
    wpAny (model prog w) A (eval (.Subscript value slice pos) env) Q E s := by
  refine Subscript_ (wpAny_mono h (fun o s₁ h₁ => wpAny_mono h₁ (fun i s₂ h₂ => ?_) fun _ _ x => x) fun _ _ x => x)
  obtain ⟨hT, h₂⟩ := h₂
  unfold subscriptTail
  refine wpAny_bind ?_
  rw [getitemInPython_of_ne hT.not_modules]
  refine wpAny_bind (wpAny_specialOf hT hl ?_)
  have fin : wpAny (model prog w) A (subscripted slice false o i) (fun r s₃ => wpAny (model prog w) A (letTemporaryGo value o r >>= fun _ => pure r) Q E s₃) E s₂ := by
    rw [hs o i]
    exact wpAny_operating (wpAny_mono h₂ (fun r s₃ h₃ => wpAny_bind (wpAny_letTemporaryGo (wpAny_pure h₃))) fun _ _ x => x)
  first
    | exact wpAny_pure (wpAny_bind fin)
    | exact wpAny_bind (wpAny_pure (wpAny_bind fin))
    | exact wpAny_bind fin

theorem dict_typeIs {X : Cx} {pins : List (Addr × Obj)} {σ : St} {H : Hp} {s : Shared} {a : Addr} {y : V} {o : Option V} (I : Inv X pins σ H s) (g : DGet H a y o) : s.TypeIs (.ref a) "dict" := by
  rcases g with ⟨kvs, k, e, _, _⟩ | ⟨kvs, k, b, e, _, _, _⟩
  · obtain ⟨_, _, vs, _, dd⟩ := dk_rd I.hok e
    exact dd.typeIs
  · obtain ⟨_, _, xs, _, dd⟩ := dt_rd I.hok e
    exact dd.typeIs
/-- d[y] -/
def tDGet (td ty : TE) : TE := fun σ H Q => td σ H fun x H1 => ty σ H1 fun y H2 => ∃ a v, x = .ref a ∧ DGet H2 a y (some v) ∧ Q v H2
/-- y in d, y not in d -/
def tDIn (ty td : TE) : TE := fun σ H Q => ty σ H fun y H1 => td σ H1 fun x H2 => ∃ a o, x = .ref a ∧ DGet H2 a y o ∧ Q (.bl o.isSome) H2
def tDNotIn (ty td : TE) : TE := fun σ H Q => ty σ H fun y H1 => td σ H1 fun x H2 => ∃ a o, x = .ref a ∧ DGet H2 a y o ∧ Q (.bl (!o.isSome)) H2
/-- d[y] = v -/
def sDPut (td ty tv : TE) : TS := fun D σ H => tv σ H fun v H1 => td σ H1 fun x H2 => ty σ H2 fun y H3 => ∃ a H4, x = .ref a ∧ DPut H3 a y v H4 ∧ D.nx σ H4
section
variable {X : Cx} {o i e value : Expr} {pos pos' tpos : Pos} {td ty tv : TE}
theorem pe_dget (hu : X.A.units + 1 < cLine) (ho : PE X o td) (hi : PE X i ty) (hs : NoSl i) : PE X (.Subscript o i pos) (tDGet td ty) := by
  intro pins s σ H Q I h
  refine subD_of PySem.F.slot_dict_getitem.lookup hs (thn (ho pins s σ H _ I h) fun u s1 ⟨x, H1, I1, rx, q1⟩ => thn (hi pins s1 σ H1 _ I1 q1) fun iv s2 ⟨y, H2, I2, ry, a, v, ex, g, q2⟩ => ?_)
  subst ex
  obtain rfl : u = Value.ref a := rx
  exact ⟨dict_typeIs I2 g, d_getItem hu I2 g ry fun w' s3 I3 rw' => ⟨v, H2, I3, rw', q2⟩⟩
theorem pc_din (hu : X.A.units + 1 < cLine) (hi : PE X i ty) (ho : PE X o td) : PC X .In i o (tDIn ty td) := by
  intro pins s σ H Q I h
  refine thn (hi pins s σ H _ I h) fun iv s1 ⟨y, H1, I1, ry, q1⟩ => thn (ho pins s1 σ H1 _ I1 q1) fun u s2 ⟨x, H2, I2, rx, a, ov, ex, g, q2⟩ => ?_
  subst ex
  obtain rfl : u = Value.ref a := rx
  exact d_in hu I2 g ry fun s3 I3 => ⟨.bl ov.isSome, H2, I3, rfl, q2⟩
theorem pc_dnotin (hu : X.A.units + 1 < cLine) (hi : PE X i ty) (ho : PE X o td) : PC X .NotIn i o (tDNotIn ty td) := by
  intro pins s σ H Q I h
  refine thn (hi pins s σ H _ I h) fun iv s1 ⟨y, H1, I1, ry, q1⟩ => thn (ho pins s1 σ H1 _ I1 q1) fun u s2 ⟨x, H2, I2, rx, a, ov, ex, g, q2⟩ => ?_
  subst ex
  obtain rfl : u = Value.ref a := rx
  exact d_notIn hu I2 g ry fun s3 I3 => ⟨.bl (!ov.isSome), H2, I3, rfl, q2⟩
theorem ps_dput (hu : X.A.units + 1 < cLine) (ho : PE X o td) (hi : PE X i ty) (hv : PE X value tv) (hs : swapsWith value (some (.Subscript o i pos')) pos.line X.env = pure false) :
    PS X (.Assign [.Subscript o i pos'] value pos) (sDPut td ty tv) := by
  intro pins s σ H D I h
  refine wpAny_Assign_Subscript (thn (hv pins s σ H _ I h) fun r s1 ⟨v, H1, I1, rv, q1⟩ => thn (ho pins s1 σ H1 _ I1 q1) fun u s2 ⟨x, H2, I2, rx, q2⟩ => thn (hi pins s2 σ H2 _ I2 q2) fun iv s3 ⟨y, H3, I3, ry, a, H4, ex, g, q3⟩ => ?_) hs
  subst ex
  obtain rfl : u = Value.ref a := rx
  exact d_setItem hu I3 g ry rv fun s4 I4 => ⟨σ, H4, I4, q3⟩
end


/-! ### displays -/
theorem dk_empty {P : Program} {w : World} {H : Hp} (h : Heap) (hb : sysModules < h.objs.size) : ObjOk P w H (h.push { cls := .type "dict", data := .dict #[] }) h.objs.size (.dK []) :=
  ⟨Nat.zero_le _, beq_eq_false_iff_ne.mpr (Ne.symm (Nat.ne_of_lt hb)), [], .nil, Heap.DictOf.new h⟩
theorem dt_empty {P : Program} {w : World} {H : Hp} (h : Heap) (hb : sysModules < h.objs.size) : ObjOk P w H (h.push { cls := .type "dict", data := .dict #[] }) h.objs.size (.dT []) :=
  ⟨Nat.zero_le _, beq_eq_false_iff_ne.mpr (Ne.symm (Nat.ne_of_lt hb)), [], .nil, _, #[], 0, Heap.get?_push_size _ rfl, ⟨rfl, rfl, rfl⟩, rfl, rfl, List.nodup_nil⟩
/-- {}, to be a dict of the kind that is wanted -/
def tDNewK : TE := fun _ H Q => ∀ p, H p = none → Q (.ref p) (upd H p (.dK []))
def tDNewT : TE := fun _ H Q => ∀ p, H p = none → Q (.ref p) (upd H p (.dT []))
section
variable {X : Cx} {pos : Pos}
theorem pe_dnewK : PE X (.Dict [] [] pos) tDNewK := fun pins s σ H Q I h =>
  wpAny_Dict_empty ⟨.ref s.heap.objs.size, _, I.laid (a := s.heap.objs.size) (o := .dK []) (t' := s.toks) (fun _ _ q => Heap.get?_push_of_some _ q) (Nat.le_refl _) (dk_empty s.heap I.big), rfl, h _ (I.hok.fresh (Nat.le_refl _))⟩
theorem pe_dnewT : PE X (.Dict [] [] pos) tDNewT := fun pins s σ H Q I h =>
  wpAny_Dict_empty ⟨.ref s.heap.objs.size, _, I.laid (a := s.heap.objs.size) (o := .dT []) (t' := s.toks) (fun _ _ q => Heap.get?_push_of_some _ q) (Nat.le_refl _) (dt_empty s.heap I.big), rfl, h _ (I.hok.fresh (Nat.le_refl _))⟩
end

section
variable {X : Cx} {pins : List (Addr × Obj)} {σ : St} {H : Hp} {s : Shared} {a : Addr} {y d : V} {u r : Value} {o : Option V} {A : Around} {E : Value → Shared → Prop}
end

section
variable {X : Cx} {o e f : Expr} {apos cpos : Pos} {td ty tx : TE}
end

/-! ### dict(d): a copy -/
section
variable {X : Cx} {pins : List (Addr × Obj)} {σ : St} {H : Hp} {s : Shared} {a : Addr} {kvs : List (Key × V)} {A : Around} {E : Value → Shared → Prop}
end


section
variable {X : Cx} {pins : List (Addr × Obj)} {σ : St} {H : Hp} {s : Shared} {a : Addr} {y : V} {u : Value} {A : Around} {E : Value → Shared → Prop}
end
end L2

namespace Att
open PySem PySem.W PySem.Calls PyProof.Rows

/-! ### the script -/
theorem ints_of_wellAll {P : Params} {h : Heap} : ∀ (ns : List Int) (vs : List Value), WellAll P h vs (ns.map WData.int) → IntsAre vs ns := by
  intro ns
  induction ns with
  | nil =>
    intro vs w
    rw [List.map_nil] at w
    cases w
    exact .nil
  | cons n ns ih =>
    intro vs w
    rw [List.map_cons] at w
    cases w with
    | cons a b =>
      cases a
      exact .cons _ _ (ih _ b)

theorem script_of {l : OpenLaw} {n : Nat} (hn : l.most = some n) {P : Params} {h : Heap} {args : List WData} {vals : List Value}
    (hpre : l.row.toRowW.claim.pre args = true) (hwl : WellAll P h vals args) :
    ∃ a vs ns, vals = [Value.ref a] ∧ args = [WData.list (ns.map WData.int)] ∧ h.get? a = some { cls := .type "list", data := .seq vs.toArray } ∧ IntsAre vs ns ∧ ns.length ≤ n := by
  have hsh : WShape.hasAll [] args [.list .int] = true := (pre_splitW hpre).1
  have hc : l.pre.holds [] { args := args } = true := (pre_splitW hpre).2
  obtain ⟨d, r, rfl, h1, h2⟩ := hasAllW_cons hsh
  obtain rfl := hasAllW_nil h2
  obtain ⟨xs, rfl, h3⟩ := hasW_list h1
  obtain ⟨ns, rfl⟩ := items_int h3
  have hlen : ns.length ≤ n := by
    unfold OpenLaw.pre at hc
    have h4 : (WTm.not (.lt (.lit (.int (n : Int))) (.len (.arg 0)))).holds [] { args := [.list (ns.map .int)] } = true := by
      have h4 := (holds_andW hc).1
      rw [hn] at h4
      exact h4
    have h5 := condW_of h4 (w_not (w_lt w_lit (w_len_list (w_arg rfl))))
    rw [List.length_map] at h5
    refine Nat.le_of_not_lt fun q => ?_
    have q' : (n : Int) < ((ns.length : Nat) : Int) := by omega
    first
      | (rw [decide_eq_true q'] at h5; exact absurd h5 (by decide))
      | (simp at h5; omega)
  cases hwl with
  | cons w1 w2 =>
    cases w2
    cases w1 with
    | list ho hall => exact ⟨_, _, ns, rfl, rfl, ho, ints_of_wellAll ns _ hall, hlen⟩

theorem post_true (l : OpenLaw) (args : List WData) : l.row.toRowW.claim.post args (.bool true) args = true :=
  postW_of (r := l.row.toRowW) (X := (true == true))
    (show WShape.has [] (.bool true) .bool = true by first | rfl | decide | simp [WShape.has, WShape.arms, WShape.armsAll])
    (show (WTm.eq .res (.lit (.bool true))).value [] { args := args, res := some (.bool true), after := args } = some (.bool (true == true)) from w_eq_bool (w_res rfl) w_lit) rfl

/-- the same from a codeAny of the CALL (for a layer whose function contracts speak of calls) -/
theorem attach_call {l : OpenLaw} {n : Nat} {q : Program} {loose : List Str} {XP : (Str → Option Value) → Heap → Prop} {YP : World → Heap → Prop} {d : DefRec}
    (hn : l.most = some n) (hdf : d.params.defaults = [])
    (call : ∀ (w : World) (s₀ s₁ : Shared) (mg mb : Str → Option Value) (fa : Addr) (o : Obj) (pm cd doc : Value) (a : Addr) (vs : List Value) (ns : List Int),
      Ground q loose [] XP w s₀ mg mb s₁.heap → YP w s₁.heap →
      s₁.heap.get? fa = some o → o.data = .func (docDef d.name d.params d.body d.scope pm cd doc) → s₁.heap.CodeRec cd d.name → mg d.name = some (.ref fa) →
      s₁.heap.get? a = some { cls := .type "list", data := .seq vs.toArray } → IntsAre vs ns → ns.length ≤ n → s₁.gens = #[] →
      codeAny (model l.prog w) callerA (.call (.ref fa) ⟨[.ref a], []⟩) (fun r s' => r = .ok (.ret (.bool true)) ∧ OldK s₁.heap s'.heap ∧ s'.os = s₁.os ∧ AllBare s'.gens) s₁) :
    WalkO q loose XP YP l.row.toRowW d [] (fun f vs => PySem.call f vs) := by
  intro w s₀ s₁ mg mb G Y fa o pm cd doc dV kV ho hd hcd hD hmg hg args vals as hpre hlay hrd hwl hlo
  obtain rfl : dV = .none := Dflts.none hD hdf
  obtain rfl : kV = .none := Dflts.noKw hD
  obtain ⟨a, vs, ns, rfl, rfl, hobj, hints, hlen⟩ := script_of hn hpre hwl
  refine enter_call (codeAny_mono (call w s₀ s₁ mg mb fa o pm cd doc a vs ns G Y ho (fd_plain hd) hcd hmg hobj hints hlen hg) fun r s' hq => ?_)
  obtain ⟨rfl, h2, h3, h4⟩ := hq
  exact ⟨.inl ⟨.bool true, .bool true, [], rfl, fun _ => rfl, .bool true, post_true l _, fun _ => ⟨List.Pairwise.nil, fun _ hm => (nomatch hm)⟩⟩, h2, h3, h4⟩

/-! ### rules over ANY heap (no ledger) from facts about the written part K: the library's own take a ledger (News) for what they write -/
section
variable {prog : Program} {w : World} {A : Around} {E : Value → Shared → Prop} {s : Shared} {K : Frag}

def ledger (h : Heap) (L d : Addr) : List (Addr × Obj) := (List.range h.objs.size).filterMap fun a => if a = L ∨ a = d then none else (h.get? a).map fun o => (a, o)
end
end Att

namespace L2
open PySem PySem.Spec PyProof.Rows
variable {q0 : Bool}

theorem vals_ints : ∀ {vs : List Value} {ns : List Int}, IntsAre vs ns → Vals (ns.map V.int) vs
  | _, _, .nil => .nil
  | _, _, .cons n t h => .cons ⟨t, rfl⟩ (vals_ints h)

/-- nothing is tracked but the script, known to the object (or it is an object of the module) -/
def Only (H : Hp) : Prop := ∀ b, H b = none ∨ ∃ o xs, H b = some (.frz o (.lst xs))

/-- THE HEAD: the law's promise, at the heap behind the top. F, the promise of the law's def, may use that base is part of the heap (so K.In base, base.Ns mainGlobals mg stand in Mod) -/
theorem law_call {P : Program} {w : World} {K : PySem.W.Frag} {mg mb : Str → Option Value} {CX : CXT} {k : Nat} {fa a : Addr} {fd : FuncData} {x : Str} {sp : Sp} {s₁ : Shared} {vs : List Value} {ns : List Int}
    (KX : K.In s₁.heap) (hns : s₁.heap.Ns mainGlobals mg) (hb : s₁.heap.Ns builtinsNs mb) (hbb : ∀ x : Str, x ≠ "__name__" → mb x = bootBuiltins x) (hlim : s₁.heap.NoLimit) (hg : s₁.gens = #[])
    (ha : s₁.heap.get? a = some { cls := .type "list", data := .seq vs.toArray }) (hi : IntsAre vs ns) (hl : ns.length ≤ sizeLine) (hr : Room q0 k callerA)
    (F : ∀ base : Heap, K.In base → base.Ns mainGlobals mg → FnOk q0 P w K mg base CX k fa fd [x] sp) (hbind : ∀ (s : Shared) (u : Value), BindsTo s fd ⟨[u], []⟩ [(x, u)])
    (hsp : ∀ H : Hp, Only H → SqL K H a (ns.map V.int) → sp [.ref a] H (fun v _ => v = .bl true) fun _ _ _ => False)
    (hCX : ∀ H e s', CX [] H s₁ (fun _ _ _ => False) e s' → False) :
    codeAny (model P w) callerA (.call (.ref fa) ⟨[.ref a], []⟩) (fun r s' => r = .ok (.ret (.bool true)) ∧ OldK s₁.heap s'.heap ∧ s'.os = s₁.os ∧ AllBare s'.gens) s₁ := by
  have rv := vals_ints hi
  have lenV := hi.length
  -- from an abstract heap in which nothing but the script may be tracked
  have core : ∀ H : Hp, Only H → SqL K H a (ns.map V.int) → HOk P w H s₁.heap → (∀ b, H b ≠ none → b = a) → (H a ≠ none → K.lookup a = none) →
      codeAny (model P w) callerA (.call (.ref fa) ⟨[.ref a], []⟩) (fun r s' => r = .ok (.ret (.bool true)) ∧ OldK s₁.heap s'.heap ∧ s'.os = s₁.os ∧ AllBare s'.gens) s₁ := by
    intro H hO hS hok hA hK
    have base_of : ∀ {b : Addr} {o : Obj}, s₁.heap.get? b = some o → H b = none → (hidT s₁.heap H).get? b = some o := fun e n => hidT_get e n
    have noA : ∀ {b : Addr} {o : Obj} {es : Array DictEntry} {ep : Nat}, s₁.heap.get? b = some o → o.data = .dict es ep → H b = none := fun {b o es ep} e d => by
      cases q : H b with
      | none => rfl
      | some u =>
        have e' : b = a := hA b (by rw [q]; simp)
        subst e'
        rw [ha] at e; cases e
        have d' : Data.seq vs.toArray _ = Data.dict es ep := d
        cases d'
    have nsK : ∀ {b : Addr} {m : Str → Option Value}, s₁.heap.Ns b m → (hidT s₁.heap H).Ns b m := fun {b m} ⟨o, es, ep, e, d, r⟩ => ⟨o, es, ep, base_of e (noA e d), d, r⟩
    have hKb : K.In (hidT s₁.heap H) := fun b o e => base_of (KX b o e) (by
      cases q : H b with
      | none => rfl
      | some u =>
        have e' : b = a := hA b (by rw [q]; simp)
        subst e'
        rw [hK (by rw [q]; simp)] at e; cases e)
    have hM : Mod K mg (hidT s₁.heap H) := ⟨hKb, nsK hns, ⟨mb, nsK hb, hbb⟩, let ⟨mc, h1, h2⟩ := hlim; ⟨mc, nsK h1, h2⟩⟩
    have e0 : Env0 P w K mg (hidT s₁.heap H) callerA [] s₁ H := ⟨rfl, hM, fun b o e => of_hidT e, Nat.le_of_eq (hidT_size _ _), trivial, fun b hb => absurd (show b ∈ ([] : List Addr) from hb) (by simp), hok, .of_eq hg⟩
    refine codeAny_mono ((F _ hKb (nsK hns)).run callerA [] s₁ H ⟨[.ref a], []⟩ [.ref a] [.ref a] _ _ hr e0 (hbind s₁ (.ref a)) (.cons rfl .nil) (hsp H hO hS)) fun r s' h => ?_
    cases r with
    | error e => exact (hCX H e s' h).elim
    | ok fl =>
      cases fl with
      | next => exact False.elim h
      | brk => exact False.elim h
      | cont => exact False.elim h
      | ret u =>
        obtain ⟨v, H', os, bare, un, hok', r', q⟩ := h
        have q' : v = .bl true := q
        subst q'
        obtain rfl : u = Value.bool true := r'
        refine ⟨rfl, OldK.of_keep fun b o e => ?_, os, bare⟩
        cases q : H b with
        | none => exact un.keep b o e q (by intro z; exact absurd (show b ∈ ([] : List Addr) from z) (by simp)) (by simp)
        | some u =>
          rcases hO b with z | ⟨ob, xs, z⟩
          · rw [q] at z; cases z
          · have z2 := un.frzs b ob _ z
            obtain ⟨e1, _⟩ := hok b _ z
            obtain ⟨e2, _⟩ := hok' b _ z2
            rw [e] at e1; cases e1
            exact e2
  cases hk : K.lookup a with
  | some o =>
    -- the script is one of the module's own objects
    have e := KX a o hk
    rw [ha] at e
    cases e
    refine core (fun _ => none) (fun _ => .inl rfl) (.inr ⟨_, vs.toArray, _, hk, rfl, rfl, rfl, by rw [List.size_toArray, lenV]; exact hl, by simpa using rv⟩) (fun b u z => by have z' : (none : Option HO) = some u := z; cases z') (fun b z => absurd rfl z) fun z => absurd rfl z
  | none =>
    refine core (fun b => if b = a then some (.frz { cls := .type "list", data := .seq vs.toArray } (.lst (ns.map V.int))) else none) (fun b => ?_) (.inl (.inr ⟨{ cls := .type "list", data := .seq vs.toArray }, if_pos rfl⟩)) (fun b u z => ?_) (fun b z => ?_) fun _ => hk
    · by_cases hb : b = a
      · exact .inr ⟨_, _, if_pos hb⟩
      · exact .inl (if_neg hb)
    · by_cases hb : b = a
      · have z' := (if_pos hb).symm.trans z
        cases z'
        subst hb
        exact ⟨ha, by rw [List.length_map]; exact hl, vs, _, rv, ha⟩
      · have z' := (if_neg hb).symm.trans z
        cases z'
    · by_cases hb : b = a
      · exact hb
      · exact absurd (if_neg hb) z
end L2

namespace L2
open PySem PySem.Spec PyProof.Rows
variable {q0 : Bool}

abbrev KOf {K : PySem.W.Frag} {h : Heap} (_ : K.In h) : PySem.W.Frag := K

/-- the goal that k_head leaves (case hc), from the law's promise. F gives the function object fd (K's own) once, then the promise over every base -/
theorem walk_of {l : PySem.W.OpenLaw} {n k : Nat} {q : Program} {loose : List Str} {XP : (Str → Option Value) → Heap → Prop} {YP : World → Heap → Prop} {d : DefRec} {K : Params → PySem.W.Frag} {CX : World → CXT} {sp : World → Sp} {x : Str}
    (hn : l.most = some n) (hn2 : n ≤ sizeLine) (hdf : d.params.defaults = []) (hr : Room q0 k callerA)
    (hY : ∀ (w : World) (h : Heap), YP w h → (K w.params).In h)
    (F : ∀ (w : World) (mg : Str → Option Value) (fa : Addr) (h : Heap), (K w.params).In h → h.Ns mainGlobals mg → mg d.name = some (.ref fa) →
      ∃ fd : FuncData, (∀ (s : Shared) (u : Value), BindsTo s fd ⟨[u], []⟩ [(x, u)]) ∧
        ∀ base : Heap, (K w.params).In base → base.Ns mainGlobals mg → FnOk q0 l.prog w (K w.params) mg base (CX w) k fa fd [x] (sp w))
    (hsp : ∀ (w : World) (H : Hp) (a : Addr) (ns : List Int), ns.length ≤ n → Only H → SqL (K w.params) H a (ns.map V.int) → sp w [.ref a] H (fun v _ => v = .bl true) fun _ _ _ => False)
    (hCX : ∀ (w : World) (H : Hp) (s : Shared) (e : Value) (s' : Shared), CX w [] H s (fun _ _ _ => False) e s' → False) :
    PySem.W.WalkO q loose XP YP l.row.toRowW d [] (fun f vs => PySem.call f vs) := by
  refine Att.attach_call hn hdf fun w s₀ s₁ mg mb fa o pm cd doc a vs ns G Y ho hd hcd hmg hobj hints hlen hg => ?_
  have KX := hY w _ Y
  obtain ⟨fd, hb, hF⟩ := F w mg fa _ KX G.T.g hmg
  exact law_call KX G.T.g G.T.b G.T.builtins G.T.nolimit hg hobj hints (Nat.le_trans hlen hn2) hr hF hb (fun H hO hS => hsp w H a ns hlen hO hS) fun H e s' => hCX w H s₁ e s'
end L2

/- THE LAST THEOREM (shape; LID, My.* are yours):
   My.Adr: a structure of the addresses that your layer names (classes, functions); My.Txt K t: a structure (Prop) of the equations over K;
   My.txt_mk : {K} {implicit addresses ..} (e1 : nsIn K mainGlobals "law" = some (some (.ref f))) (e2 : K.lookup f = some ⟨oc, od, .func (fnOf "law" "law" params body scope dV kV doc pm an cdv ct), sl⟩) (e3 : codeIn K cdv "law" = true) .. : ∃ t, My.Txt K t

set_option maxRecDepth 100000 in
set_option maxHeartbeats 0 in
theorem PySem.Challenge.cw_LID_holds : PySem.Challenge.rw_LID.Holds := by
  w_on; o_law; k_head; (case hw => w_witness2)
  k_fill
  refine L2.walk_of (l := PySem.Challenge.rw_LID) (n := 63) (k := 40) (x := "script") (CX := fun w => ..) (sp := fun _ => My.sp_law) rfl (by decide) rfl ⟨rfl, by decide, by decide⟩ (fun w h Y => PySem.W.kIn_of Y) ?F ?S ?C
  case F =>
    intro w mg fa h KX G hmg
    have T : ∃ t, My.Txt (L2.KOf KX) t := by
      dsimp only [L2.KOf]                          -- K must stand as «<heap const> w.params» for k_is
      refine' My.txt_mk ?e1 ?e2 ?e3 ..
      (case e1 => PySem.W.k_is)                    -- in the order: a name -> its address -> its object -> its parts
      (case e2 => PySem.W.k_is)
      ..
    obtain ⟨t, T⟩ := T
    have e0 := hmg.symm.trans (PySem.W.mg_of KX G T.law)
    cases e0                                       -- fa is the law's own address
    exact ⟨_, fun s u => .of_eq rfl, fun base kb nb => My.law_fn T kb nb⟩     -- if «.of_eq rfl» comes too early: refine' ⟨_, ?b, fun base kb nb => My.law_fn T kb nb⟩; exact fun s u => .of_eq rfl
  case S => exact fun w H a ns hl hO hS => ..
  case C => exact ..
(the tactic k_is has no namespace: write k_is) -/

/-! SHORT WORDS over the layer: a def of the text, its body, what a loop and a test want. -/
namespace L2
open PySem PySem.Spec PyProof.Rows
variable {q0 : Bool}

/-! ### the text by places -/
/-- the j-th statement of a class's body -/
def inClass (s : Stmt) (j : Nat) : Stmt := match s with
  | .ClassDef _ _ _ body _ _ _ _ _ _ _ => body.getD j (.Pass ⟨0, 0, 0, 0⟩)
  | _ => .Pass ⟨0, 0, 0, 0⟩
def defArgs (s : Stmt) : Arguments := match s with
  | .FunctionDef _ a _ _ _ _ _ _ _ _ => a
  | _ => { posonlyargs := [], args := [], vararg := none, kwonlyargs := [], kw_defaults := [], kwarg := none, defaults := [] }
def defBody (s : Stmt) : List Stmt := match s with
  | .FunctionDef _ _ b _ _ _ _ _ _ _ => b
  | _ => []
def defScope (s : Stmt) : Scope := match s with
  | .FunctionDef _ _ _ _ _ _ sc _ _ _ => sc
  | _ => { kind := .function, names := [], isGenerator := false, isCoroutine := false }

/-! ### no exception leaves a def -/
abbrev CX0 : CXT := fun _ _ _ _ _ _ => False
/-! ### a def (or method) of the text as it stands behind the top -/
structure Fun (K : PySem.W.Frag) (x qual : Str) (st : Stmt) (f : Addr) (fd : FuncData) : Prop where
  ex : ∃ (oc : Value) (od : Option Addr) (kV doc pm : Value) (an : Option Addr) (cdv ct : Value) (osl : Array (Option Value)),
    fd = PySem.W.fnOf x qual (defArgs st) (defBody st) (defScope st) .none kV doc pm an cdv ct ∧ K.lookup f = some ⟨oc, od, .func fd, osl⟩ ∧ PySem.W.codeIn K cdv qual = true
  kp : PySem.W.keepIn K (.ref f) = true
section
variable {P : Program} {w : World} {K : PySem.W.Frag} {mg : Str → Option Value} {base : Heap}
/-- THE RULE for a def: its body as a term of rules, and the reading of that term -/
theorem Fun.ok {x qual : Str} {st : Stmt} {f : Addr} {fd : FuncData} {N ps : List Str} {k : Nat} {sp : Sp} (F : Fun K x qual st f fd) (S : FnScope N ps (defScope st)) (len : ∀ vs H Q E, sp vs H Q E → vs.length = ps.length)
    (hbody : ∀ (cdv : Value) (A : Around) (outer : List Env) (s : Shared) (H : Hp) (vs : List V) (Q : VK) (E : XK), Room q0 k (A.deeper (envOfC qual (defScope st) s.heap.objs.size f cdv)) → sp vs H Q E →
      ∃ t, PSs (cxOf q0 CX0 P w K mg base N qual (defScope st) f cdv A outer s H E).nox (defBody st) t ∧ t { nx := fun _ H' => Q .non H', rt := Q } (start N vs) H) : FnOk q0 P w K mg base CX0 (k + 1) f fd ps sp := by
  obtain ⟨oc, od, kV, doc, pm, an, cdv, ct, osl, rfl, lk, hcd⟩ := F.ex
  refine fn_of lk hcd S len fun A outer s H vs Q E hr hsp => ?_
  obtain ⟨t, h, q⟩ := hbody cdv A outer s H vs Q E hr hsp
  exact ⟨t, h.nox, q⟩
/-- how its arguments bind (no defaults): h is «fun _ _ _ _ _ _ us hl => match us, hl with | [_, _], _ => rfl», one _ a parameter -/
theorem Fun.binds {x qual : Str} {st : Stmt} {f : Addr} {fd : FuncData} {ps : List Str} (F : Fun K x qual st f fd)
    (h : ∀ (kV doc pm : Value) (an : Option Addr) (cdv ct : Value) (us : List Value), us.length = ps.length → bindArgs (PySem.W.fnOf x qual (defArgs st) (defBody st) (defScope st) .none kV doc pm an cdv ct) ⟨us, []⟩ = pure (ps.zip us)) : Binds K fd ps [] := by
  obtain ⟨oc, od, kV, doc, pm, an, cdv, ct, osl, rfl, lk, hcd⟩ := F.ex
  exact .all (h kV doc pm an cdv ct)
theorem fun_mk {x qual : Str} {st : Stmt} {f : Addr} {oc : Value} {od an : Option Addr} {osl : Array (Option Value)} {kV doc pm cdv ct : Value} (l : K.lookup f = some ⟨oc, od, .func (PySem.W.fnOf x qual (defArgs st) (defBody st) (defScope st) .none kV doc pm an cdv ct), osl⟩)
    (c : PySem.W.codeIn K cdv qual = true) (k : PySem.W.keepIn K (.ref f) = true) : Fun K x qual st f (PySem.W.fnOf x qual (defArgs st) (defBody st) (defScope st) .none kV doc pm an cdv ct) := ⟨⟨oc, od, kV, doc, pm, an, cdv, ct, osl, rfl, l, c⟩, k⟩
end
theorem hu_of {A : Around} {k : Nat} (hr : Room q0 k A) : A.units + 1 < cLine := Nat.lt_of_le_of_lt (Nat.add_le_add_left (by decide : 1 ≤ 64) _) hr.units
/-! ### expressions in short: the name that stands in the i-th slot -/
section
variable {X : Cx}
theorem pv (i : Nat) {x : Str} {pos : Pos} (hN : X.N[i]? = some x := by rfl) (hv : Vis X.env.scope x := by first | exact Or.inl rfl | exact Or.inr (Or.inl rfl) | exact Or.inr (Or.inr rfl)) (hd : (x == ("__debug__" : Str)) = false := by decide)
    (hcd : (x == ("__classdict__" : Str)) = false := by decide) : PE X (.Name x pos) (tVar i) := pe_var hN hv hd hcd
end

/-! ### tests -/
theorem iteF {A B : Prop} (h : B) : if false = true then A else B := by
  rw [if_neg Bool.false_ne_true]
  exact h
theorem iteT {A B : Prop} (h : A) : if true = true then A else B := by
  rw [if_pos rfl]
  exact h
theorem ite2 {c A B : Prop} [Decidable c] (h1 : c → A) (h2 : ¬ c → B) : if c then A else B := by
  by_cases h : c
  · rw [if_pos h]
    exact h1 h
  · rw [if_neg h]
    exact h2 h
/-! ### heaps -/
/-- all that was tracked is as it was -/
def Same (H H' : Hp) : Prop := ∀ b o, H b = some o → H' b = some o
theorem Same.refl (H : Hp) : Same H H := fun _ _ h => h
theorem Same.trans {H H1 H2 : Hp} (a : Same H H1) (b : Same H1 H2) : Same H H2 := fun c o h => b c o (a c o h)
theorem Same.free {H H' : Hp} (e : Same H H') {l : Addr} (h : H' l = Option.none) : H l = Option.none := by
  cases q : H l with
  | none => rfl
  | some o =>
    rw [e l o q] at h
    cases h
theorem Same.seq {K : PySem.W.Frag} {H H' : Hp} {a : Addr} {xs : List V} (e : Same H H') (h : SqL K H a xs) : SqL K H' a xs := by
  rcases h with (h | ⟨o, h⟩) | h
  · exact .inl (.inl (e _ _ h))
  · exact .inl (.inr ⟨o, e _ _ h⟩)
  · exact .inr h

end L2

set_option maxRecDepth 100000
namespace XL
open PySem

/-- an exception in the heap: its class, its dict, its newest traceback entry (not in flight) -/
def Xat (h : Heap) (e : Addr) (cls : Value) (od tb : Option Addr) : Prop :=
  ∃ oe vs, h.get? e = some oe ∧ oe.cls = cls ∧ oe.dict = od ∧ oe.data = .fields vs ∧ 1 < vs.size ∧
    ((tb = none ∧ vs[1]? = some Value.none) ∨ ∃ T oT ts, tb = some T ∧ vs[1]? = some (.ref T) ∧ T ≠ e ∧ h.get? T = some oT ∧ oT.data = .fields ts ∧ ts[3]? = some Value.none)

/-- what a passing exception changes: itself, its entry, the frames' slots -/
structure Stp (fs : List Addr) (e : Addr) (tb : Option Addr) (h h' : Heap) : Prop where
  keep : ∀ b o, h.get? b = some o → b ≠ e → tb ≠ some b → b ∉ fs → h'.get? b = some o
  slot : ∀ b o, h.get? b = some o → b ∈ fs → ∃ sl, h'.get? b = some { o with slots := sl }

abbrev frsOf (l : List Env) : List Addr := l.filterMap (·.frame)

theorem dict_mapF (o : Obj) (f : Array Value → Array Value) : (o.mapFields f).dict = o.dict := by
  obtain ⟨c, d, dt, sl⟩ := o
  cases dt <;> rfl

section
variable {M : Model} {A : Around} {E : Value → Shared → Prop} {s : Shared}

theorem entry_x {base : Heap} {env : Env} {outer : List Env} {L e : Addr} {oe : Obj} {vs : Array Value} {hd : Value} {nx : Bool} {cls : Value} {od tb : Option Addr} {g : Heap} {Q : Unit → Shared → Prop}
    (fr : A.frames = some (env :: outer)) (ff : s.heap.FunFrames base (env :: outer)) (fL : env.frame = some L)
    (ge : s.heap.get? e = some oe) (de : oe.data = .fields vs) (se : 1 < vs.size) (ce : oe.cls = cls) (oo : oe.dict = od)
    (st : Stp (frsOf (env :: outer)) e tb g s.heap) (sz : g.objs.size ≤ s.heap.objs.size)
    (k : ∀ h' T, Stp (frsOf (env :: outer)) e tb g h' → g.objs.size ≤ T → Xat h' e cls od (some T) → Q () { s with heap := h' }) :
    wpAny M A (do let a ← frameOf env; let pl ← entryPlaceOf L nx; let b ← EntryCells.newEntry hd a .none (rawInt L) .none pl; setField (.ref e) 1 b) (fun _ s' => wpAny M A (setFlight (.ref e) none) Q E s') E s := by
  have nef : e ∉ frsOf (env :: outer) := fun hm => by
    obtain ⟨_, o, ho, hnf⟩ := ff.mem hm
    have z := ge.symm.trans ho
    cases z
    exact hnf vs de
  refine wpAny_bind (wpAny_frameOf_fun fr ff fL fun h1 so => ?_)
  refine wpAny_bind (wpAny_entryPlaceOf fun pl ip => ?_)
  unfold EntryCells.newEntry newFields
  refine wpAny_bind (wpAny_newObj_type ?_ (ip.sizeOk5 _ _ _ _ _))
  have e1 : h1.get? e = some oe := (so.2.1 e nef).trans ge
  generalize eT : ({ cls := .type "traceback", dict := none, data := .fields ([hd, .ref L, .none, rawInt L, .none] ++ (if pl.isEmpty then List.replicate 6 Value.none else pl)).toArray } : Obj) = oT
  have dT : oT.data = .fields ([hd, .ref L, .none, rawInt L, .none] ++ (if pl.isEmpty then List.replicate 6 Value.none else pl)).toArray := by rw [← eT]
  have fT : oT.isFreed = false := by rw [← eT]; rfl
  have e2 : (h1.push oT).get? e = some oe := Heap.get?_push_of_some oT e1
  refine wpAny_setField e2 de se ?_
  have nTe : h1.objs.size ≠ e := Nat.ne_of_gt (Heap.lt_size e1)
  have d3 := Obj.data_mapFields de (·.setIfInBounds 1 (Value.ref h1.objs.size))
  have e3 := Heap.get?_update_self (Obj.mapFields (·.setIfInBounds 1 (Value.ref h1.objs.size))) e2 (Obj.isFreed_of_fields d3)
  have T3 : ((h1.push oT).update e (Obj.mapFields (·.setIfInBounds 1 (Value.ref h1.objs.size)))).get? h1.objs.size = some oT :=
    (Heap.get?_update_other (h1.push oT) _ (Ne.symm nTe)).trans (Heap.get?_push_size h1 fT)
  unfold setFlight
  refine wpAny_bind (wpAny_field e3 d3 (x := .ref h1.objs.size) (by simp [se]) ?_)
  rw [if_pos (show (Value.ref h1.objs.size != Value.none) = true from by simp)]
  refine wpAny_setField T3 dT (by simp only [List.size_toArray, List.length_append, List.length_cons, List.length_nil] <;> omega) (k _ h1.objs.size ?_ ?_ ?_)
  · have go : ∀ b o, b ≠ e → h1.get? b = some o → (((h1.push oT).update e (Obj.mapFields (·.setIfInBounds 1 (Value.ref h1.objs.size)))).update h1.objs.size
        (Obj.mapFields (·.setIfInBounds 3 ((none : Option Addr).elim Value.none fun f => rawInt f)))).get? b = some o := fun b o be hb => by
      have bT : h1.objs.size ≠ b := Nat.ne_of_gt (Heap.lt_size hb)
      rw [Heap.get?_update_other _ _ bT, Heap.get?_update_other _ _ (Ne.symm be)]
      exact Heap.get?_push_of_some oT hb
    refine ⟨fun b o hb be bt bf => go b o be ((so.2.1 b bf).trans (st.keep b o hb be bt bf)), fun b o hb bf => ?_⟩
    obtain ⟨sl, h2⟩ := st.slot b o hb bf
    obtain ⟨sl2, h3⟩ := so.2.2 b _ h2
    exact ⟨sl2, go b _ (fun z => nef (z ▸ bf)) h3⟩
  · rw [so.1]; exact sz
  · refine ⟨_, _, ?_, (Obj.cls_mapFields _ _).trans ce, (dict_mapF _ _).trans oo, d3, by simp [se], .inr ⟨h1.objs.size, _, _, rfl, by simp [se], nTe, Heap.get?_update_self _ T3 (Obj.isFreed_of_fields (Obj.data_mapFields dT _)), Obj.data_mapFields dT _, ?_⟩⟩
    · rw [Heap.get?_update_other _ _ nTe]
      exact e3
    · first | (simp; done) | (rcases ip with rfl | ⟨_, _, _, _, _, _, _, rfl⟩ <;> simp)

/-- an exception is noted at a frame, and put down -/
theorem note_x {base : Heap} {env : Env} {outer : List Env} {L e : Addr} {cls : Value} {od tb : Option Addr} {Q : Unit → Shared → Prop}
    (fr : A.frames = some (env :: outer)) (ff : s.heap.FunFrames base (env :: outer)) (fL : env.frame = some L) (x : Xat s.heap e cls od tb)
    (k : ∀ h' T, Stp (frsOf (env :: outer)) e tb s.heap h' → s.heap.objs.size ≤ T → Xat h' e cls od (some T) → Q () { s with heap := h' }) :
    wpAny M A (noteFrame (.ref e) env) (fun _ s' => wpAny M A (setFlight (.ref e) none) Q E s') E s := by
  obtain ⟨oe, vs, ge, ce, oo, de, se, y⟩ := x
  unfold noteFrame
  simp only [fL]
  rcases y with ⟨rfl, h1⟩ | ⟨T, oT, ts, rfl, h1, nTe, gT, dT, h3⟩
  · refine wpAny_bind (wpAny_field ge de h1 ?_)
    rw [if_neg (by decide)]
    exact entry_x fr ff fL ge de se ce oo ⟨fun b o hb _ _ _ => hb, fun b o hb _ => ⟨o.slots, hb⟩⟩ (Nat.le_refl _) k
  · refine wpAny_bind (wpAny_field ge de h1 ?_)
    rw [if_pos (show (Value.ref T != Value.none) = true from by simp)]
    refine wpAny_bind (wpAny_field gT dT h3 ?_)
    rw [if_neg (show ¬ ((Value.none == rawInt L) = true) from by simp [rawInt])]
    refine wpAny_bind (wpAny_setField gT dT (Array.getElem?_eq_some_iff.mp h3).1 ?_)
    have ot : ∀ b, b ≠ T → (s.heap.update T (Obj.mapFields (·.setIfInBounds 3 Value.none))).get? b = s.heap.get? b := fun b hb => Heap.get?_update_other _ _ (Ne.symm hb)
    have nr : ∀ b o, s.heap.get? b = some o → (∀ vs, o.data ≠ .fields vs) → b ≠ T := fun b o hb hn q => by
      rw [q] at hb
      have z := gT.symm.trans hb
      cases z
      exact hn ts dT
    refine entry_x (g := s.heap) fr (ff.of_keeps fun b o hb hn => ⟨o, (ot b (nr b o hb hn)).trans hb, rfl⟩) fL ((ot e (Ne.symm nTe)).trans ge) de se ce oo
      ⟨fun b o hb _ bt _ => (ot b fun z => bt (congrArg some z.symm)).trans hb, fun b o hb bf => ⟨o.slots, ?_⟩⟩ (Nat.le_of_eq (Heap.size_after_update ..).symm) k
    · obtain ⟨_, o', ho', hn⟩ := ff.mem bf
      have z := hb.symm.trans ho'
      cases z
      exact (ot b (nr b _ hb hn)).trans hb
end
end XL

set_option maxRecDepth 100000
namespace XL
open PySem

section
variable {prog : Program} {w : World} {A : Around} {E : Value → Shared → Prop} {h : Heap} {g : Array GenState} {d : Drawn} {t : Nat} {os : OsState}
variable {nm qn : Str} {C N : Addr} {bs bm bmB : List Value} {hz : Bool} {sn : List Str} {sub : List Value} {ab : Bool} {col : Option Bool} {dd : Option Addr} {k0 k1 k2 k3 k5 : Option Value} {B ni ii : String}

theorem tcall_xinit (F : ExcBaseFacts B ni ii bmB) (T : OwnTail h bmB bm) {us : List Value} {fI : Addr} {oI : Obj} {Q : Fin → Shared → Prop}
    (gC : h.get? C = some (excClassObj nm qn C N bs bm hz sn sub ab col dd k0 k1 k2 k3 k5 ni))
    (hi : ∀ (A' : Around) (Q' : Option Value → Shared → Prop) (E' : Value → Shared → Prop) (s' : Shared), (∀ b o, h.get? b = some o → s'.heap.get? b = some o) → Q' (some (.ref fI)) s' → wpAny (model prog w) A' (typeLookup (.ref C) "__init__") Q' E' s')
    (gI : h.get? fI = some oI) (cI : oI.cls = .type "function") (lu : us.length ≤ sizeLine)
    (k : ∀ h' e, Heap.MadeExcOf h h' e (.ref C) us → h.objs.size ≤ e →
      wpAny (model prog w) A (call (.ref fI) (.ref e :: us)) (fun r s' => r = .none ∧ Q (.done (.ret (.ref e))) s') E ⟨h', g, d, t, os⟩) :
    wpAny (model prog w) A (Builtin.«type.__call__» ⟨.ref C :: us, []⟩) Q E ⟨h, g, d, t, os⟩ := by
  repeat (first | with_reducible refine wpAny_loadPart_at gC ?_ | with_reducible refine wpAny_madeBy_exc gC ?_ | wp_step)
  refine codeAny_call_builtin_code (Code.quiet_builtin _ F.quiet) (wpAny_check_new_subT F T gC ?_)
  refine codeAny_exc_new_subT F T gC ?_ lu
  show wpAny _ _ _ _ _ _
  generalize e1 : ({ cls := .type "tuple", data := .seq us.toArray } : Obj) = oT
  have fT : oT.isFreed = false := by rw [← e1]; rfl
  generalize e2 : ({ cls := .ref C, data := .fields #[.ref h.objs.size, .none, .none, .none, .bool false, .none] } : Obj) = oE
  have fE : oE.isFreed = false := by rw [← e2]; rfl
  have up : ∀ b o, h.get? b = some o → ((h.push oT).push oE).get? b = some o := fun b o q => Heap.get?_push_of_some oE (Heap.get?_push_of_some oT q)
  have gC' := up _ _ gC
  have gI' := up _ _ gI
  have gE : ((h.push oT).push oE).get? (h.objs.size + 1) = some oE := by
    have z := Heap.get?_push_size (h.push oT) fE
    rwa [Heap.size_push] at z
  have cE : oE.cls = .ref C := by rw [← e2]
  have me : (Value.ref C :: bm).contains (.ref C) = true := by simp
  unfold isInstance
  repeat (first | (with_reducible refine wpAny_loadPart_at gE ?_; rw [cE]) | (with_reducible refine wpAny_isSubtype_exc gC' ?_; rw [me]) | wp_step)
  show wpAny _ _ (typeLookup (.ref C) _) _ _ _
  refine hi _ _ _ _ up ?_
  refine wpAny_holding (wpAny_bind ?_)
  unfold bindSpecial
  refine wpAny_bind (wpAny_typeOf (T := "function") ⟨_, gI', cI⟩ ?_)
  rw [if_pos (by decide)]
  refine wpAny_pure (wpAny_bind (wpAny_mono (k _ (h.objs.size + 1) ⟨up, Heap.get?_none_of_le (Nat.le_succ _), h.objs.size, ?_, Heap.get?_none_of_le (Nat.le_refl _), ?_⟩ (Nat.le_succ _)) (fun r s' z => ?_) fun _ _ x => x))
  · rw [e2]; exact gE
  · rw [e1]; exact Heap.get?_push_of_some oE (Heap.get?_push_size h fT)
  · obtain ⟨rfl, z⟩ := z
    wp_walk
    exact z

theorem call_xinit (F : ExcBaseFacts B ni ii bmB) (T : OwnTail h bmB bm) {us : List Value} {fI : Addr} {oI : Obj} {Q : Value → Shared → Prop}
    (gC : h.get? C = some (excClassObj nm qn C N bs bm hz sn sub ab col dd k0 k1 k2 k3 k5 ni))
    (hi : ∀ (A' : Around) (Q' : Option Value → Shared → Prop) (E' : Value → Shared → Prop) (s' : Shared), (∀ b o, h.get? b = some o → s'.heap.get? b = some o) → Q' (some (.ref fI)) s' → wpAny (model prog w) A' (typeLookup (.ref C) "__init__") Q' E' s')
    (gI : h.get? fI = some oI) (cI : oI.cls = .type "function") (lu : us.length ≤ sizeLine)
    (k : ∀ h' e, Heap.MadeExcOf h h' e (.ref C) us → h.objs.size ≤ e →
      wpAny (model prog w) (A.under (.builtin "type.__call__" ⟨.ref C :: us, []⟩)) (call (.ref fI) (.ref e :: us)) (fun r s' => r = .none ∧ Q (.ref e) s') E ⟨h', g, d, t, os⟩) :
    wpAny (model prog w) A (call (.ref C) us) Q E ⟨h, g, d, t, os⟩ := by
  have a1 := tc_lookup
  have a2 := tc_bind (.ref C)
  have ty : (⟨h, g, d, t, os⟩ : Shared).TypeIs (.ref C) "type" := ⟨_, gC, rfl⟩
  refine wpAny_call (codeAny_of_tree ?_)
  show wpAny _ _ (callAny (.ref C) _) _ _ _
  repeat (any_goals (first | assumption | with_reducible refine wpAny_loadPart_at gC ?_ | wp_step))
  refine ⟨rfl, ?_⟩
  refine codeAny_call_builtin_at (Code.quiet_builtin _ (by decide +kernel)) entry_typeCall (wpAny_check_type_call_sub gC (tcall_xinit F T gC hi gI cI lu fun h' e hm hs => ?_))
  exact k h' e hm hs

/-- raising what was just made, its attributes stored -/
theorem raise_x {M : Model} {s : Shared} {env : Env} {x : Sem Value} {Q : Flow → Shared → Prop} (hh : A.handled = none)
    (k : wpAny M A x (fun v s1 => ∃ e od C nm qn N bs bm hz sn sub ab col dd k0 k1 k2 k3 k5 ni, v = .ref e ∧ bm.contains (.type "BaseException") = true ∧ s1.heap.get? C = some (excClassObj nm qn C N bs bm hz sn sub ab col dd k0 k1 k2 k3 k5 ni) ∧ Xat s1.heap e (.ref C) od none ∧ E (.ref e) s1) E s) :
    wpAny M A (raiseStmt env (some x) none) Q E s := by
  unfold raiseStmt
  refine wpAny_bind (wpAny_mono k (fun v s1 z => ?_) fun _ _ x => x)
  obtain ⟨e, od, C, nm, qn, N, bs, bm, hz, sn, sub, ab, col, dd, k0, k1, k2, k3, k5, ni, rfl, bB, gC, ⟨oe, vs, ge, ce, oo, de, se, y⟩, zE⟩ := z
  have me : (Value.ref C :: bm).contains (.type "BaseException") = true := by rw [List.contains_cons, bB, Bool.or_true]
  obtain ⟨hp, g, d, tk, os⟩ := s1
  rcases y with ⟨_, y1⟩ | ⟨T, _, _, z, _⟩
  · repeat (first | (with_reducible refine wpAny_loadPart_at ge ?_; rw [ce]) | with_reducible refine wpAny_loadPart_at gC ?_ | (with_reducible refine wpAny_isSubtype_exc gC ?_; rw [me]) | wp_step)
    rw [de]
    refine wpAny_pure ?_
    rw [y1]
    refine wpAny_pure ?_
    rw [if_neg (by decide)]
    exact wpAny_pure (wpAny_raiseNew_none hh zE)
  · cases z
end
end XL

set_option maxRecDepth 100000
namespace XL
open PySem PySem.W PySem.Calls PyProof.Rows Builtin Builtin.ObjectAttr

/-- the line of ValueError -/
def vErr : List Value := [.type "ValueError", .type "Exception", .type "BaseException", .type "object"]
/-- own classes, then ValueError's own line -/
def excLine : List Value → Bool
  | [] => false
  | .ref c :: r => excLine r || ((.ref c :: r : List Value) == vErr)
  | v :: r => (v :: r) == vErr
def excOver (K : Frag) (C : Addr) : Bool := (clsIn K C).any fun cd => excLine cd.mro
theorem line_pass (self : Value) : ∀ {l : List Value}, excLine l = true → refuseLoop self "__setattr__" l = pure ()
  | [], e => by cases e
  | v :: r, e => by
    have last : ((v :: r : List Value) == vErr) = true → refuseLoop self "__setattr__" (v :: r) = pure () := fun z => by
      rw [eq_of_beq z]
      exact PySem.F.store_ValueError.passes self
    cases v with
    | ref c =>
      rcases Bool.or_eq_true_iff.mp e with z | z
      · rw [refuseLoop_ref]
        exact line_pass self z
      · exact last z
    | _ => exact last e
theorem line_has : ∀ {l : List Value}, excLine l = true → l.contains (.type "object") = true ∧ l.contains (.type "BaseException") = true ∧ l.isEmpty = false
  | [], e => by cases e
  | v :: r, e => by
    have last : ((v :: r : List Value) == vErr) = true → (v :: r).contains (.type "object") = true ∧ (v :: r).contains (.type "BaseException") = true ∧ (v :: r).isEmpty = false := fun z => by
      rw [eq_of_beq z]
      exact ⟨by decide +kernel, by decide +kernel, rfl⟩
    cases v with
    | ref c =>
      rcases Bool.or_eq_true_iff.mp e with z | z
      · obtain ⟨a, b, _⟩ := line_has z
        exact ⟨by rw [List.contains_cons, a, Bool.or_true], by rw [List.contains_cons, b, Bool.or_true], rfl⟩
      · exact last z
    | _ => exact last e

/-- what is asked of an own error class under ValueError -/
structure XC (K : Frag) (C : Addr) : Prop where
  over : excOver K C = true
  hd : hasDictIn K C = true
  sa : findIn K (.ref C) "__setattr__" = some (some (.builtin "object.__setattr__"))
  ga : findIn K (.ref C) "__getattribute__" = some (some (.builtin "BaseException.__getattribute__"))
  gh : findIn K (.ref C) "__getattr__" = some none
  ca : findIn K (.ref C) "__class__" = some (some (.builtin "object.__class__"))
  cg : specialIn K (.builtin "object.__class__") "__get__" = some (some (.builtin "getset_descriptor.__get__"))
  ct : takesIn K (.builtin "object.__class__") = some true

section
variable {prog : Program} {w : World} {A : Around} {E : Value → Shared → Prop} {s : Shared} {K : Frag} {x C dx : Addr} {ox : Obj} {od : Option Obj} {name : Str} {v : Value} {R : Result → Shared → Prop}

theorem XC.mro (c : XC K C) : ∃ cd, clsIn K C = some cd ∧ excLine cd.mro = true ∧ cd.hasDict = true := by
  obtain ⟨cd, h1, h2⟩ := any_some c.over
  obtain ⟨cd', h3, h4⟩ := any_some c.hd
  rw [h1] at h3
  cases h3
  exact ⟨cd, h1, h2, h4⟩
theorem XC.isObj (c : XC K C) : mroIn K C (.type "object") = some true := by
  obtain ⟨cd, h1, h2, _⟩ := c.mro
  obtain ⟨a, _, b⟩ := line_has h2
  unfold mroIn
  rw [h1, Option.bind_some, if_neg (by rw [b]; decide), a]
theorem XC.isExc (c : XC K C) : mroIn K C (.type "BaseException") = some true := by
  obtain ⟨cd, h1, h2, _⟩ := c.mro
  obtain ⟨_, a, b⟩ := line_has h2
  unfold mroIn
  rw [h1, Option.bind_some, if_neg (by rw [b]; decide), a]

theorem osa_x {tk : Tok} (X : K.In s.heap) (c : XC K C) (I : InstAt s.heap x ox C od) (ha : findIn K (.ref C) name = some none)
    (h : wpAny (model prog w) A.in1 (storeInOwnDict (.ref x) (.ref C) (.str name tk) name v false)
      (fun fin s' => match fin with | .done f => R (.ok f) s' | .again c' => c'.quiet = true ∧ codeAny (model prog w) A c' R s') (fun e s' => R (.error e) s') s) :
    codeAny (model prog w) A (.call (.builtin "object.__setattr__") ⟨[.ref x, .str name tk, v], []⟩) R s := by
  have SF := PySem.F.store_object
  obtain ⟨cd, hc, hl, _⟩ := c.mro
  have sub : Looks (model prog w) s.heap (isInstance (.ref x) (.type "object")) true := I.type.andThen (looks_mroIn X c.isObj)
  refine codeAny_call_builtin SF.slot.plain SF.entry (@check_slot (model prog w) _ _ s "object.__setattr__" "object" "__setattr__" (.ref x) [.str name tk, v] [] _ SF.kind SF.split sub (SF.args (.ref x) (.str name tk) v) ?_)
  have hm : Looks (model prog w) s.heap (mroOf (.ref C)) cd.mro := (looks_clsIn X hc).andThen .now
  rw [osa_eq, refuse_eq]
  refine wpAny_bind (wpAny_bind (I.type.here (wpAny_bind (hm.here ?_))))
  rw [line_pass _ hl]
  refine wpAny_pure (wpAny_bind (I.type.here (wpAny_bind ((looks_findIn X ha).here (wpAny_bind ((Looks.now (a := (none : Option Value))).here ?_))))))
  exact h

theorem own_x (X : K.In s.heap) (c : XC K C) (hx : s.heap.get? x = some ox) (hc : ox.cls = .ref C) (ho : ox.dict = some dx) {Q : Option Addr → Shared → Prop} (h : Q (some dx) s) :
    wpAny (model prog w) A (ownDictForStores (.ref x)) Q E s := by
  obtain ⟨cd, h1, _, h2⟩ := c.mro
  unfold ownDictForStores instanceDict
  refine wpAny_bind (wpAny_loadPart hx ?_)
  rw [hc]
  refine wpAny_bind ((looks_clsIn X h1).here ?_)
  rw [h2, ho]
  exact wpAny_pure h

theorem set_x1 {ns : List Str} {mA : Str → Option Value} {Q : Unit → Shared → Prop} (X : K.In s.heap) (c : XC K C) (hx : s.heap.get? x = some ox) (hc : ox.cls = .ref C) (hn : notCls ox = true) (ho : ox.dict = some dx) (hm : s.heap.Ns1 dx mA)
    (ha : findIn K (.ref C) name = some none) (hw : PySem.Within mA ns) (hz : ns.length ≤ sizeLine)
    (h : ∀ h', h'.Ns1 dx (fun y => if y = name then some v else mA y) → Heap.SameBut dx s.heap h' → Q () { s with heap := h', toks := s.toks + 2 }) :
    wpAny (model prog w) A (setAttr (.ref x) name v) Q E s := by
  obtain ⟨o1, _, _, g1, _⟩ := id hm
  have I : InstAt s.heap x ox C (some o1) := ⟨hx, hc, hn, by rw [ho]; exact g1⟩
  refine set_plain X I c.sa (osa_x (s := { s with toks := s.toks + 1 }) X c I ha ?_)
  refine wpAny_bind (wpAny_pure (wpAny_bind (own_x (s := { s with toks := s.toks + 1 }) X c hx hc ho ?_)))
  refine wpAny_bind (wpAny_pure (wpAny_bind ?_))
  refine wpAny_nsSet1 (s := { s with toks := s.toks + 1 }) hm fun h' n2 s2 => ?_
  obtain ⟨oD, eD, pD, gD, dD, cD⟩ := n2.count (PySem.Within.cons name v hw)
  refine wpAny_bind (wpAny_lookBehind gD (by rw [dD]; exact pastItsLine_dict (Nat.le_trans cD (by rw [List.length_cons]; omega))) ?_)
  exact wpAny_pure (h _ n2 s2)

theorem set_x0 {Q : Unit → Shared → Prop} (X : K.In s.heap) (c : XC K C) (hx : s.heap.get? x = some ox) (hc : ox.cls = .ref C) (hn : notCls ox = true) (ho : ox.dict = none) (hf : ox.isFreed = false)
    (ha : findIn K (.ref C) name = some none)
    (h : ∀ h', h'.get? x = some { ox with dict := some s.heap.objs.size } → h'.Ns1 s.heap.objs.size (fun y => if y = name then some v else none) →
      (∀ b o, b ≠ x → s.heap.get? b = some o → h'.get? b = some o) → s.heap.objs.size ≤ h'.objs.size → Q () { s with heap := h', toks := s.toks + 2 }) :
    wpAny (model prog w) A (setAttr (.ref x) name v) Q E s := by
  obtain ⟨cd, h1, _, h2⟩ := c.mro
  have I : InstAt s.heap x ox C none := ⟨hx, hc, hn, by rw [ho]; trivial⟩
  refine set_plain X I c.sa (osa_x (s := { s with toks := s.toks + 1 }) X c I ha ?_)
  refine wpAny_bind (wpAny_pure (wpAny_bind ?_))
  unfold ownDictForStores instanceDict
  refine wpAny_bind (wpAny_loadPart (s := { s with toks := s.toks + 1 }) hx ?_)
  rw [hc]
  refine wpAny_bind ((looks_clsIn X h1).here (s := { s with toks := s.toks + 1 }) ?_)
  rw [h2, ho, if_neg (by simp)]
  obtain ⟨oc, odi, oda, osl⟩ := ox
  dsimp only at hc ho
  subst hc ho
  have hx1 : (s.heap.push { cls := .type "dict", data := .dict #[] }).get? x = some ⟨.ref C, none, oda, osl⟩ := Heap.get?_push_of_some _ hx
  have nx : x ≠ s.heap.objs.size := Nat.ne_of_lt (Heap.lt_size hx)
  have key : wpAny (model prog w) A.in1 (do let d ← alloc { cls := .type "dict", data := .dict #[] }; update x (fun o => { o with dict := some d }); dictMade (.ref C) x d)
      (fun a s' => wpAny (model prog w) A.in1 (match a with | some d => storeInDict d (.str name s.toks) name v | none => noDictFor (.ref x) (.ref C) name false)
        (fun fin s' => match fin with
          | .done f => (match (Except.ok f : Result) with | .ok (.ret _) => Q () s' | .ok _ => False | .error e => E e s')
          | .again c' => c'.quiet = true ∧ codeAny (model prog w) A c' (fun r s' => match r with | .ok (.ret _) => Q () s' | .ok _ => False | .error e => E e s') s')
        (fun e s' => E e s') s') (fun e s' => E e s') { s with toks := s.toks + 1 } := by
    refine wpAny_bind (wpAny_alloc' ?_)
    refine wpAny_bind (wpAny_update' hx1 ?_)
    refine wpAny_pure ?_
    dsimp only
    have g2 : ((s.heap.push { cls := .type "dict", data := .dict #[] }).update x fun o => { o with dict := some s.heap.objs.size }).get? s.heap.objs.size = some { cls := .type "dict", data := .dict #[] } :=
      (Heap.get?_update_ne _ _ _ _ nx.symm).trans (Heap.get?_push_at rfl rfl)
    have n2 : ((s.heap.push { cls := .type "dict", data := .dict #[] }).update x fun o => { o with dict := some s.heap.objs.size }).Ns s.heap.objs.size (fun _ => none) :=
      ⟨_, #[], _, g2, rfl, fun e he => absurd he (by simp), fun _ => rfl⟩
    unfold storeInDict newKeyGuard
    refine wpAny_bind (wpAny_pure (wpAny_bind (wpAny_nsSet1 (Heap.Ns1.of_empty n2) fun h' n3 s3 => ?_)))
    obtain ⟨oD, eD, pD, gD, dD, cD⟩ := n3.count (Within.cons name v Within.nil)
    refine wpAny_bind (wpAny_lookBehind gD (by rw [dD]; exact pastItsLine_dict (Nat.le_trans cD (by rw [List.length_cons, List.length_nil, sizeLine_eq]; omega))) ?_)
    refine wpAny_pure (h h' ?_ n3 (fun b o bx hb => ?_) ?_)
    · refine (s3.2 x nx).trans (Heap.get?_update_self _ hx1 ?_)
      cases oda <;> first | rfl | exact hf
    · exact (s3.2 b (Nat.ne_of_lt (Heap.lt_size hb))).trans ((Heap.get?_update_ne _ _ _ _ bx).trans (Heap.get?_push_of_some _ hb))
    · rw [s3.1, Heap.size_after_update, Heap.size_push]
      exact Nat.le_succ _
  cases oda <;> first | exact key | cases hn

/-! reading an attribute -/
theorem ga_bind (v : Value) : bindSpecial (.builtin "BaseException.__getattribute__") v = pure (.builtin "BaseException.__getattribute__", [v]) := by
  have f := PySem.F.attr_ValueError.ga.bind v
  exact f
theorem ga_plain : plainId "BaseException.__getattribute__" = true := PySem.F.attr_ValueError.ga.plain

theorem get_xo {Q : Value → Shared → Prop} {expr fill : Bool} {tk : Tok} (X : K.In s.heap) (c : XC K C) (I : InstAt s.heap x ox C od)
    (h : wpAny (model prog w) A.in1 (Builtin.«object.__getattribute__» ⟨[.ref x, .str name tk], []⟩)
      (fun fin s' => match fin with | .done (.ret v) => wpAny (model prog w) A (handedOut v) Q E s' | _ => False) (fun _ _ => False) s) :
    wpAny (model prog w) A (getAttrBy (.ref x) (.str name tk) fill expr) Q E s := by
  obtain ⟨hh, g, d, t, os⟩ := s
  have L0 := I.type (M := model prog w)
  have L1 := looks_findIn (M := model prog w) X c.ga
  have L2 := looks_findIn (M := model prog w) X c.gh
  have sub : Looks (model prog w) hh (isInstance (.ref x) (.type "BaseException")) true := I.type.andThen (looks_mroIn X c.isExc)
  have f2 : (onTheHeap (Value.ref C) && Value.builtin "BaseException.__getattribute__" == Value.builtin "object.__getattribute__") = false := by
    rw [show (Value.builtin "BaseException.__getattribute__" == Value.builtin "object.__getattribute__") = false from by decide +kernel]; rfl
  have f3 : (expr && onTheHeap (Value.builtin "BaseException.__getattribute__")) = false := by cases expr <;> rfl
  unfold getAttrBy
  refine wpAny_holding (wpAny_bind (L0.at (wpAny_bind (L1.at ?_))))
  dsimp only
  rw [f2]
  simp only [Bool.false_eq_true, if_false]
  unfold getAttrByItsOwn hookBefore
  refine wpAny_bind (L2.at (wpAny_bind (wpAny_attempt (wpAny_holding ?_))))
  unfold callGetattribute
  rw [f3]
  simp only [Bool.false_eq_true, if_false]
  unfold boundAndCalled
  rw [ga_bind]
  refine wpAny_bind (wpAny_pure (wpAny_call (codeAny_call_builtin ga_plain PySem.F.entry_bexc_ga
    (@check_slot (model prog w) _ _ ⟨hh, g, d, t, os⟩ "BaseException.__getattribute__" "BaseException" "__getattribute__" (.ref x) [.str name tk] [] _ (by decide +kernel) (by decide +kernel) sub (PySem.F.args_bexc_ga _ _) ?_))))
  refine wpAny_mono h (fun fin s' z => ?_) fun e s' z => z.elim
  rcases fin with (_ | _ | _ | _) | _ <;> first | exact z | exact z.elim

theorem get_x {Q : Value → Shared → Prop} {expr : Bool} (X : K.In s.heap) (c : XC K C) (hx : s.heap.get? x = some ox) (hc : ox.cls = .ref C) (hn : notCls ox = true) (ho : ox.dict = some dx) {o1 : Obj} (g1 : s.heap.get? dx = some o1) (hl : lookIn name o1 = some (some v))
    (ha : findIn K (.ref C) name = some none) (hv : handedIn v = true) (h : Q v { s with toks := s.toks + 1 }) :
    wpAny (model prog w) A (getAttr (.ref x) name expr) Q E s := by
  have I : InstAt s.heap x ox C (some o1) := ⟨hx, hc, hn, by rw [ho]; exact g1⟩
  have hf : findObj K C (some o1) name = some (.value v) := findObj_own c.hd ha rfl hl
  unfold getAttr
  refine wpAny_bind (wpAny_mkText ?_)
  refine get_xo (s := { s with toks := s.toks + 1 }) X c I ?_
  have L0 := I.type (M := model prog w)
  have L1 := looks_find (M := model prog w) X I hf
  obtain ⟨hh, g, d, t, os⟩ := s
  refine wpAny_bind (wpAny_pure (wpAny_bind (wpAny_pure (wpAny_bind (L0.at (wpAny_bind (L1.at ?_)))))))
  refine wpAny_pure ?_
  show wpAny _ _ (handedOut v) _ _ _
  rw [handedOut_of hv]
  exact wpAny_pure h

theorem get_xcls {Q : Option Value → Shared → Prop} (X : K.In s.heap) (c : XC K C) (I : InstAt s.heap x ox C od) (h : Q (some (.ref C)) { s with toks := s.toks + 1 }) :
    wpAny (model prog w) A (getAttr? (.ref x) "__class__") Q E s := by
  obtain ⟨cd, h1, _, h2⟩ := c.mro
  have hf : findObj K C od "__class__" = some (.bind (.builtin "getset_descriptor.__get__") (.builtin "object.__class__")) := by
    unfold findObj
    rw [h1, Option.bind_some, c.ca, Option.bind_some]
    simp [c.cg, c.ct]
  unfold getAttr? getAttrBy?
  refine wpAny_bind (wpAny_mkText (wpAny_bind (wpAny_attempt ?_)))
  refine get_xo (s := { s with toks := s.toks + 1 }) X c I ?_
  have L0 := I.type (M := model prog w)
  have L1 := looks_find (M := model prog w) X I hf
  refine wpAny_bind (wpAny_pure (wpAny_bind (wpAny_pure (wpAny_bind (L0.here (s := { s with toks := s.toks + 1 }) (wpAny_bind (L1.here (s := { s with toks := s.toks + 1 }) ?_)))))))
  show wpAny _ _ (holding [_] (call _ [_, .ref x, .ref C]) >>= ret) _ _ _
  refine wpAny_bind (wpAny_holding (wpAny_call (class_get (s := { s with toks := s.toks + 1 }) (ox := ox) (od := od) X I c.isObj ?_)))
  refine wpAny_pure ?_
  show wpAny _ _ (handedOut (.ref C)) _ _ _
  exact wpAny_pure (wpAny_pure h)
end
end XL

set_option maxRecDepth 100000
namespace XL
open PySem

theorem isStr_ne {x y : Str} {v : Value} (hx : v.isStr x = true) (n : y ≠ x) : v.isStr y = false := by
  cases v <;> simp_all [Value.isStr]
  exact fun z => n z.symm
theorem find_erase {name y : Str} (n : y ≠ name) : ∀ (l : List DictEntry) (i : Nat), l.findIdx? (·.key.isStr name) = some i → (l.eraseIdx i).find? (·.key.isStr y) = l.find? (·.key.isStr y)
  | [], i, h => by simp at h
  | e :: r, i, h => by
    rw [List.findIdx?_cons] at h
    by_cases q : e.key.isStr name = true
    · rw [if_pos q] at h
      cases h
      have z := isStr_ne q n
      simp [z]
    · rw [if_neg q] at h
      cases hi : r.findIdx? (·.key.isStr name) with
      | none => rw [hi] at h; cases h
      | some j =>
        rw [hi] at h
        cases h
        have ih := find_erase n r j hi
        simp only [List.eraseIdx_cons_succ, List.find?_cons]
        split
        · rfl
        · exact ih

section
variable {M : Model} {A : Around} {E : Value → Shared → Prop} {s : Shared} {env : Env}

theorem nsDel_x {a : Addr} {m : Str → Option Value} {name : Str} {Q : Bool → Shared → Prop} (hn : s.heap.Ns a m)
    (k : ∀ h' m', h'.Ns a m' → (∀ y, y ≠ name → m' y = m y) → Heap.SameBut a s.heap h' → Q (m name).isSome { s with heap := h' }) : wpAny M A (nsDel a name) Q E s := by
  obtain ⟨o, es, ep, ho, hd, hk, hm⟩ := id hn
  have nor : es.any (·.refKey) = false := by
    rw [Array.any_eq_false']
    intro e he
    obtain ⟨n, t, h⟩ := hk e he
    simp [DictEntry.refKey, h]
  have some_eq : (m name).isSome = es.any (·.key.isStr name) := by
    rw [← hm name]
    simp only [nsFind, findBy, Option.isSome_map]
    rw [Bool.eq_iff_iff]
    simp only [Array.find?_isSome, Array.any_eq_true]
    constructor
    · rintro ⟨z, hz, hp⟩
      obtain ⟨i, hi, rfl⟩ := Array.mem_iff_getElem.mp hz
      exact ⟨i, hi, hp⟩
    · rintro ⟨i, hi, hp⟩
      exact ⟨_, Array.getElem_mem hi, hp⟩
  have has : nsHas name o = pure (es.any (·.key.isStr name)) := by
    rw [nsHas_eq]
    unfold nsHasByArray
    rw [hd]
    show (if (es.any fun z => z.key.isStr name) = true then _ else _) = _
    generalize (es.any fun z => z.key.isStr name) = b
    cases b <;> simp [nor]
  unfold nsDel
  refine wpAny_bind (wpAny_loadPart ho ?_)
  rw [has]
  refine wpAny_bind (wpAny_pure ?_)
  rw [← some_eq]
  cases q : (m name).isSome
  · have z := k s.heap m hn (fun _ _ => rfl) (.refl ..)
    rw [q] at z
    exact wpAny_pure z
  · refine wpAny_bind (wpAny_updatePart ho (wpAny_pure ?_))
    have key : ∃ m', (s.heap.update a (Obj.dropName name)).Ns a m' ∧ ∀ y, y ≠ name → m' y = m y := by
      obtain ⟨cl, d, dt, sl⟩ := o
      subst hd
      cases hi : es.findIdx? (·.key.isStr name) with
      | none =>
        exact ⟨m, ⟨_, _, ep, Heap.get?_update_self _ ho (by simp only [Obj.dropName_eq, Obj.dropNameByArray, hi] <;> rfl), (by simp only [Obj.dropName_eq, Obj.dropNameByArray, hi] <;> rfl), hk, hm⟩, fun _ _ => rfl⟩
      | some i =>
        refine ⟨_, ⟨_, _, ep + 1, Heap.get?_update_self _ ho (by simp only [Obj.dropName_eq, Obj.dropNameByArray, hi] <;> rfl), (by simp only [Obj.dropName_eq, Obj.dropNameByArray, hi] <;> rfl), hk.erase i, fun _ => rfl⟩, fun y hy => ?_⟩
        rw [← hm y]
        obtain ⟨l⟩ := es
        have hi' : l.findIdx? (·.key.isStr name) = some i := by simpa using hi
        have z := find_erase hy l i hi'
        simp only [nsFind, findBy]
        have il : i < l.length := by
          have := List.findIdx?_eq_some_iff_findIdx_eq.mp hi'
          exact this.1
        have e1 : (Array.mk l).eraseIdxIfInBounds i = Array.mk (l.eraseIdx i) := by
          simp [Array.eraseIdxIfInBounds, il]
        rw [e1]
        simp only [List.find?_toArray]
        rw [z]
    obtain ⟨m', n', e'⟩ := key
    have z := k _ m' n' e' (Heap.SameBut.update ..)
    rw [q] at z
    exact z

/-- behind an except suite: its name is bound to None and goes -/
theorem name_gone {n : Str} {pos : Pos} {m : Str → Option Value} {Q : Unit → Shared → Prop} (hl : env.kindOf n = some .local) (hn : s.heap.Ns env.locals m)
    (hp : (env.scope.kind == .class || (env.scope.kind == .module && env.locals != env.globals)) = false)
    (h : ∀ h' m', h'.Ns env.locals m' → (∀ y, y ≠ n → m' y = m y) → Heap.SameBut env.locals s.heap h' → Q () { s with heap := h', toks := s.toks + 1 }) :
    wpAny M A (do bindName env n .none; unbindBehindTheSuite env n pos) Q E s := by
  refine wpAny_bind (wpAny_bindName (wpAny_storeName_local hl hn (fun h1 n1 s1 => ?_) hp))
  unfold unbindBehindTheSuite
  refine wpAny_onRaise ?_
  unfold unbindName
  refine wpAny_bind (wpAny_point (wpAny_bind ?_))
  unfold deleteName
  simp only [hl, hp]
  rw [if_neg (by decide)]
  refine wpAny_bind (nsDel_x n1 fun h2 m2 n2 e2 s2 => ?_)
  simp only [if_true, Option.isSome_some, Bool.not_true, Bool.false_eq_true, if_false]
  refine wpAny_pure (wpAny_point (h h2 m2 n2 (fun y hy => ?_) (s1.trans s2)))
  rw [e2 y hy, if_neg hy]
end
end XL

set_option maxRecDepth 100000
namespace L2
open PySem PySem.Spec PyProof.Rows XL
variable {q0 : Bool}

/-- an error that was just made (its attributes may be stored), and one that flies or was caught -/
def XN (e C : Addr) (od : Option Addr) : HO := .ext fun h => Xat h e (.ref C) od none
def XO (e C : Addr) (od : Option Addr) : HO := .ext fun h => ∃ ox vs, h.get? e = some ox ∧ ox.cls = .ref C ∧ ox.dict = od ∧ ox.data = .fields vs
/-- an error's attributes -/
def XD (dx : Addr) (fs : List (Str × V)) : HO := .ext fun h => fs.length ≤ 1000 ∧ ∃ mA, h.Ns1 dx mA ∧ (∀ f, RelO (fs.lookup f) (mA f)) ∧ PySem.Within mA (fs.map (·.1))

section
variable {P : Program} {w : World} {H : Hp} {h : Heap} {e C dx : Addr} {od : Option Addr} {fs : List (Str × V)}
theorem xn_ok (x : Xat h e (.ref C) od none) : ObjOk P w H h e (XN e C od) := by
  refine ⟨x, ?_, fun h1 h2 z k => ?_⟩
  · obtain ⟨oe, _, g, _⟩ := x
    exact ⟨oe, g⟩
  · obtain ⟨oe, vs, g, c, o, d, sz, y⟩ := z
    rcases y with y | ⟨T, _, _, z, _⟩
    · exact ⟨oe, vs, k oe g, c, o, d, sz, .inl y⟩
    · cases z
theorem xo_ok (x : ∃ ox vs, h.get? e = some ox ∧ ox.cls = .ref C ∧ ox.dict = od ∧ ox.data = .fields vs) : ObjOk P w H h e (XO e C od) := by
  refine ⟨x, ?_, fun h1 h2 z k => ?_⟩
  · obtain ⟨oe, _, g, _⟩ := x
    exact ⟨oe, g⟩
  · obtain ⟨oe, vs, g, c, o, d⟩ := z
    exact ⟨oe, vs, k oe g, c, o, d⟩
theorem xat_xo {tb : Option Addr} (x : Xat h e (.ref C) od tb) : ∃ ox vs, h.get? e = some ox ∧ ox.cls = .ref C ∧ ox.dict = od ∧ ox.data = .fields vs := by
  obtain ⟨oe, vs, g, c, o, d, _⟩ := x
  exact ⟨oe, vs, g, c, o, d⟩
theorem ns1_at {h1 h2 : Heap} {m : Str → Option Value} (n : h1.Ns1 dx m) (k : ∀ o, h1.get? dx = some o → h2.get? dx = some o) : h2.Ns1 dx m := by
  obtain ⟨o, es, ep, g, r⟩ := n
  exact ⟨o, es, ep, k o g, r⟩
theorem xd_ok (hl : fs.length ≤ 1000) {mA : Str → Option Value} (n : h.Ns1 dx mA) (r : ∀ f, RelO (fs.lookup f) (mA f)) (wi : PySem.Within mA (fs.map (·.1))) : ObjOk P w H h dx (XD dx fs) := by
  refine ⟨⟨hl, mA, n, r, wi⟩, ?_, fun h1 h2 z k => ?_⟩
  · obtain ⟨o, es, ep, g, _⟩ := n
    exact ⟨o, g⟩
  · obtain ⟨hl, mA, n, r, wi⟩ := z
    exact ⟨hl, mA, ns1_at n k, r, wi⟩
end

/-- how an error lies behind a call -/
def CXo (P : Program) (w : World) : CXT := fun outer H s E u s' => ∃ e C od H' T, u = .ref e ∧ s'.os = s.os ∧ AllBare s'.gens ∧ Un (frs outer) [] H H' s.heap s'.heap ∧ HOk P w H' s'.heap ∧
  Xat s'.heap e (.ref C) od (some T) ∧ H' e = some (XO e C od) ∧ s.heap.objs.size ≤ T ∧ H' T = none ∧ E e C H'

/-- its newest entry is no object of ours -/
def Tbs (X : Cx) (pins : List (Addr × Obj)) (H : Hp) (tb : Option Addr) : Prop := ∀ T, tb = some T → X.s₀.heap.objs.size ≤ T ∧ H T = none ∧ T ≠ X.env.locals ∧ (∀ x c, X.env.cells.lookup x = some c → c ≠ T) ∧ ∀ p ∈ X.pn ++ pins, p.1 ≠ T

/-- what is wanted of an error that leaves the code holds wherever E does -/
def Takes (X : Cx) (E : St → XK) : Prop := ∀ (pins : List (Addr × Obj)) (σ : St) (H : Hp) (s : Shared) (e C : Addr) (od tb : Option Addr), Inv X pins σ H s → Xat s.heap e (.ref C) od tb → H e = some (XO e C od) →
  Tbs X pins H tb → E σ e C H → X.xe (.ref e) s

section
variable {X : Cx} {pins : List (Addr × Obj)} {σ : St} {H : Hp} {s : Shared} {e C : Addr} {od tb : Option Addr}

theorem Inv.size_lt (I : Inv X pins σ H s) {b : Addr} (h : s.heap.objs.size ≤ b) : H b = none ∧ b ≠ X.env.locals ∧ (∀ x c, X.env.cells.lookup x = some c → c ≠ b) ∧ ∀ p ∈ X.pn ++ pins, p.1 ≠ b := by
  refine ⟨I.hok.fresh h, fun z => ?_, fun x c hc z => ?_, fun p hp z => ?_⟩
  · rw [z] at h
    exact absurd I.lt (Nat.not_lt.mpr h)
  · obtain ⟨v, o, ho, _⟩ := I.cell x c hc
    rw [z] at ho
    exact absurd (Heap.lt_size ho) (Nat.not_lt.mpr h)
  · have g := (I.pin p hp).1
    rw [z] at g
    exact absurd (Heap.lt_size g) (Nat.not_lt.mpr h)

/-- an error noted at this frame: the invariant stays -/
theorem Inv.noted {h' : Heap} {T : Addr} (I : Inv X pins σ H s) (he : H e = some (XO e C od)) (tbs : Tbs X pins H tb) (st : Stp (frs X.stack) e tb s.heap h') (x : Xat h' e (.ref C) od (some T)) :
    Inv X pins σ H { s with heap := h' } := by
  have neE : ∀ b, H b = none → b ≠ e := fun b n z => by rw [z, he] at n; cases n
  have neT : ∀ b u, H b = some u → tb ≠ some b := fun b u hb z => by rw [(tbs b z).2.1] at hb; cases hb
  have nfr : ∀ b u, H b = some u → b ∉ frs X.stack := fun b u hb z => by rw [I.stkFree b z] at hb; cases hb
  have kp : ∀ b u o, H b = some u → b ≠ e → s.heap.get? b = some o → h'.get? b = some o := fun b u o hb ne g => st.keep b o g ne (neT b u hb) (nfr b u hb)
  have un : Un (frs X.stack) tb.toList H H s.heap h' := by
    refine ⟨fun b o g n hb hx => st.keep b o g (neE b n) (fun z => hx (by rw [z]; simp)) hb, fun b o g n hb hx => st.slot b o g hb, fun b o g n hx => n, fun b o g hx => ?_, fun b xs z => z, fun b o u z => z, fun b ps z => ⟨#[], by rw [z]; simp⟩⟩
    by_cases b1 : b = e
    · subst b1
      obtain ⟨oe, _, ge, _⟩ := x
      exact ⟨oe, ge⟩
    · by_cases b2 : b ∈ frs X.stack
      · obtain ⟨sl, q⟩ := st.slot b o g b2
        exact ⟨_, q⟩
      · exact ⟨o, st.keep b o g b1 (fun z => hx (by rw [z]; simp)) b2⟩
  have hok : HOk X.prog X.w H h' := fun b u hb => by
    by_cases b1 : b = e
    · subst b1
      rw [he] at hb
      cases hb
      exact xo_ok (xat_xo x)
    · refine (I.hok b u hb).stay (fun c v hc q => ?_) (fun c q => q) fun c xs q => q
      rcases hc with rfl | hc
      · exact kp c u v hb b1 q
      · exact kp c _ v hc (fun z => by rw [z, he] at hc; cases hc) q
  refine I.call (g' := s.gens) (d' := s.drawn) (t' := s.toks) (ch := tb.toList) un hok I.bare fun b hb => ?_
  have z : tb = some b := by
    cases tb with
    | none => simp at hb
    | some T' => simp at hb; rw [hb]
  obtain ⟨a1, _, a3, a4, a5⟩ := tbs b z
  exact ⟨.inr a1, a3, a4, a5⟩

/-- an error of a callee reaches what is wanted -/
theorem Takes.pass {E : St → XK} (t : Takes X E) : Passes (CXo X.prog X.w) X E := fun pins σ H s u s' I h => by
  obtain ⟨e, C, od, H', T, rfl, os, bare, un, hok, x, he, sT, hT, q⟩ := h
  have J : Inv X pins σ H' s' := I.call' os un hok bare (ch := []) fun b z => absurd z (by simp)
  refine t pins σ H' s' e C od (some T) J x he (fun T' z => ?_) q
  cases z
  obtain ⟨_, a, b, c⟩ := I.size_lt sT
  exact ⟨Nat.le_trans I.sz sT, hT, a, b, c⟩
theorem pass_none : Passes (CXo X.prog X.w) X (fun _ _ _ _ => False) := fun pins σ H s u s' I h => by
  obtain ⟨e, C, od, H', T, _, _, _, _, _, _, _, _, _, q⟩ := h
  exact q.elim

/-- an error leaves a def -/
theorem takes_def {P : Program} {w : World} {K : PySem.W.Frag} {mg : Str → Option Value} {base : Heap} {N : List Str} {qual : Str} {scope : Scope} {f : Addr} {cd : Value} {A : Around} {outer : List Env} {s₀ : Shared} {H₀ : Hp} {E : XK} :
    Takes (cxOf q0 (CXo P w) P w K mg base N qual scope f cd A outer s₀ H₀ E) (fun _ => E) := fun pins σ H s e C od tb I x he tbs q => by
  show wpAny (model P w) _ (leaving _ (.ref e)) _ _ s
  unfold leaving
  refine wpAny_bind (note_x (L := s₀.heap.objs.size) I.ok.frames I.stack rfl x fun h' T st sT x' => ?_)
  have J := I.noted he tbs st x'
  exact ⟨e, C, od, H, T, rfl, J.os, J.bare, J.base, J.hok, x', he, Nat.le_trans I.sz sT, I.hok.fresh sT, q⟩
end
end L2

set_option maxRecDepth 100000
namespace XL
open PySem PySem.W
def strKey (e : DictEntry) : Bool := match e.key with | .str _ _ => true | _ => false
def nsNoInit (K : Frag) (ns : Addr) : Bool := match K.lookup ns with
  | some ⟨_, _, .dict es _, _⟩ => es.toList.all strKey && !(es.toList.any (·.key.isStr "__init__"))
  | _ => false
def tailIn (K : Frag) : List Value → Bool
  | [] => false
  | .ref a :: r => (match K.lookup a with
      | some ⟨_, _, .cls cd, _⟩ => nsNoInit K cd.ns && tailIn K r
      | _ => false)
  | v :: r => (v :: r) == vErr
theorem ns_of {K : Frag} {h : Heap} {ns : Addr} (X : K.In h) (e : nsNoInit K ns = true) : ∃ mA, h.Ns ns mA ∧ mA "__init__" = none := by
  unfold nsNoInit at e
  split at e
  · rename_i es n sl ho
    obtain ⟨e1, e2⟩ := Bool.and_eq_true_iff.mp e
    refine ⟨_, ⟨_, es, _, X _ _ ho, rfl, fun z hz => ?_, fun _ => rfl⟩, ?_⟩
    · have q := List.all_eq_true.mp e1 z (Array.mem_toList_iff.mpr hz)
      unfold strKey at q
      split at q
      · rename_i a b c
        exact ⟨a, b, c⟩
      · cases q
    · unfold nsFind findBy
      rw [← Array.find?_toList]
      have z : es.toList.find? (fun e => e.key.isStr "__init__") = none := by
        rw [List.find?_eq_none]
        intro y hy q
        rw [Bool.not_eq_true', List.any_eq_false] at e2
        exact e2 y hy q
      rw [z]
      rfl
  · cases e
theorem tail_of {K : Frag} {h : Heap} (X : K.In h) : ∀ {l : List Value}, tailIn K l = true → OwnTail h vErr l
  | [], e => by cases e
  | v :: r, e => by
    have last : ((v :: r : List Value) == vErr) = true → OwnTail h vErr (v :: r) := fun z => by
      rw [eq_of_beq z]
      exact .base
    cases v with
    | ref a =>
      unfold tailIn at e
      split at e
      · rename_i c d cd sl ho
        obtain ⟨e1, e2⟩ := Bool.and_eq_true_iff.mp e
        obtain ⟨mA, n, z⟩ := ns_of X e1
        exact .own (X _ _ ho) n z (tail_of X e2)
      · cases e
    | _ => exact last e
/-- the class object of an own error -/
def xmkIn (K : Frag) (C : Addr) : Bool := match K.lookup C with
  | some ⟨.type "type", _, .cls cd, sl⟩ => (match cd.mro, sl.toList with
    | .ref C' :: bm, [_, _, _, _, some (.builtin i), _] => C' == C && !cd.hasDel && i == "ValueError.__new__" && tailIn K bm
    | _, _ => false)
  | _ => false
theorem xmk_of {K : Frag} {h : Heap} {C : Addr} (X : K.In h) (q : xmkIn K C = true) : ∃ nm qn N bs bm hz sn sub ab col dd k0 k1 k2 k3 k5,
    h.get? C = some (excClassObj nm qn C N bs bm hz sn sub ab col dd k0 k1 k2 k3 k5 "ValueError.__new__") ∧ OwnTail h vErr bm := by
  unfold xmkIn at q
  split at q
  · rename_i dd cd sl ho
    split at q
    · rename_i C' bm k0 k1 k2 k3 n k5 hm hs
      simp only [Bool.and_eq_true, beq_iff_eq, Bool.not_eq_true'] at q
      obtain ⟨⟨⟨rfl, hdel⟩, rfl⟩, ht⟩ := q
      obtain ⟨nm, bs, mro, ns, qn, hd, sn, sub, ab, col, del⟩ := cd
      dsimp only at hm hdel
      subst hm hdel
      have hsl : sl = #[k0, k1, k2, k3, some (.builtin "ValueError.__new__"), k5] := by
        obtain ⟨l⟩ := sl
        simp only at hs
        rw [hs]
      subst hsl
      exact ⟨nm, qn, ns, bs, bm, hd, sn, sub, ab, col, dd, k0, k1, k2, k3, k5, X _ _ ho, tail_of X ht⟩
    · cases q
  · cases q
end XL

namespace L2
open PySem PySem.Spec PyProof.Rows XL
variable {q0 : Bool}
section
variable {X : Cx} {pins : List (Addr × Obj)} {σ : St} {H : Hp} {s : Shared} {a C dx : Addr} {od : Option Addr} {fs : List (Str × V)} {f : Str} {v y : V} {u : Value} {A : Around} {E : Value → Shared → Prop}

theorem xn_at (I : Inv X pins σ H s) (e : H a = some (XN a C od)) : Xat s.heap a (.ref C) od none := (I.hok a _ e).1
theorem xo_at (I : Inv X pins σ H s) (e : H a = some (XO a C od)) : ∃ ox vs, s.heap.get? a = some ox ∧ ox.cls = .ref C ∧ ox.dict = od ∧ ox.data = .fields vs := (I.hok a _ e).1
theorem xd_at (I : Inv X pins σ H s) (e : H dx = some (XD dx fs)) : fs.length ≤ 1000 ∧ ∃ mA, s.heap.Ns1 dx mA ∧ (∀ f, RelO (fs.lookup f) (mA f)) ∧ PySem.Within mA (fs.map (·.1)) := (I.hok dx _ e).1
theorem notCls_f {o : Obj} {vs : Array Value} (d : o.data = .fields vs) : PySem.W.notCls o = true := by
  unfold PySem.W.notCls
  rw [d]

theorem xset0_ok {Q : Unit → Shared → Prop} (I : Inv X pins σ H s) (e : H a = some (XN a C none)) (c : XC X.K C) (n : PySem.W.findIn X.K (.ref C) f = some none) (ry : RelV y u)
    (h : ∀ dx s', H dx = none → Inv X pins σ (upd (upd H dx (XD dx [(f, y)])) a (XN a C (some dx))) s' → Q () s') : wpAny (model X.prog X.w) A (setAttr (.ref a) f u) Q E s := by
  obtain ⟨oe, vs, g, ce, oo, de, sz, tb⟩ := xn_at I e
  refine set_x0 I.kIn c g ce (notCls_f de) oo (Obj.isFreed_of_fields de) n fun h' g' n' k sz' => h s.heap.objs.size _ (I.hok.fresh (Nat.le_refl _)) ?_
  have hN : H s.heap.objs.size = none := I.hok.fresh (Nat.le_refl _)
  have nad : a ≠ s.heap.objs.size := fun z => by rw [z, hN] at e; cases e
  have na : ∀ b, H b = none → b ≠ a := fun b nb z => by rw [z, e] at nb; cases nb
  have nd : ∀ b o, s.heap.get? b = some o → b ≠ s.heap.objs.size := fun b o gb => Nat.ne_of_lt (Heap.lt_size gb)
  have nd' : ∀ b u, H b = some u → b ≠ s.heap.objs.size := fun b u hb z => by rw [z, hN] at hb; cases hb
  have at1 : ∀ b, b ≠ a → b ≠ s.heap.objs.size → upd (upd H s.heap.objs.size (XD s.heap.objs.size [(f, y)])) a (XN a C (some s.heap.objs.size)) b = H b := fun b b1 b2 => by rw [upd_ne b1, upd_ne b2]
  have xnew : Xat h' a (.ref C) (some s.heap.objs.size) none := ⟨_, vs, g', ce, rfl, de, sz, by
    rcases tb with t | ⟨T, _, _, z, _⟩
    · exact .inl t
    · cases z⟩
  have own1 : ∀ b c, H c = some (.own b) → c ≠ a := fun b c hc z => by rw [z, e] at hc; cases hc
  have tup1 : ∀ c xs, H c = some (.tup xs) → c ≠ a := fun c xs hc z => by rw [z, e] at hc; cases hc
  refine I.un ⟨fun b o gb nb _ _ => k b o (na b nb) gb, fun b o gb nb _ _ => ⟨o.slots, k b o (na b nb) gb⟩, fun b o gb nb _ => ?_, fun b o gb _ => ?_, fun b xs z => ?_, fun b o w z => ?_, fun b ps z => ⟨#[], ?_⟩⟩ fun b w hb => ?_
  · rw [at1 b (na b nb) (nd b o gb)]; exact nb
  · by_cases b1 : b = a
    · exact ⟨_, by rw [b1]; exact g'⟩
    · exact ⟨o, k b o b1 gb⟩
  · rw [at1 b (tup1 b xs z) (nd' b _ z)]; exact z
  · rw [at1 b (fun q => by rw [q, e] at z; cases z) (nd' b _ z)]; exact z
  · rw [at1 b (fun q => by rw [q, e] at z; cases z) (nd' b _ z), z]; simp
  · by_cases b1 : b = a
    · subst b1
      rw [upd_same] at hb
      cases hb
      exact xn_ok xnew
    · rw [upd_ne b1] at hb
      by_cases b2 : b = s.heap.objs.size
      · subst b2
        rw [upd_same] at hb
        cases hb
        refine xd_ok (by show 1 ≤ 1000; decide) n' (fun g => ?_) fun g hg => ?_
        · show RelO (List.lookup g [(f, y)]) (if g = f then some u else none)
          by_cases q : g = f
          · rw [if_pos q, q]
            simp only [List.lookup_cons, beq_self_eq_true]
            exact ry
          · rw [if_neg q]
            simp only [List.lookup_cons, beq_eq_false_iff_ne.mpr q]
            exact trivial
        · by_cases q : g = f
          · simp [q]
          · exact absurd (show (if g = f then some u else none) = none from if_neg q) hg
      · rw [upd_ne b2] at hb
        refine (I.hok b w hb).stay (fun c v hc q => ?_) (fun c q => ?_) fun c xs q => ?_
        · rcases hc with rfl | hc
          · exact k c v b1 q
          · exact k c v (own1 b c hc) q
        · rw [at1 c (own1 b c q) (nd' c _ q)]; exact q
        · rw [at1 c (tup1 c xs q) (nd' c _ q)]; exact q

theorem xset1_ok {Q : Unit → Shared → Prop} (I : Inv X pins σ H s) (e : H a = some (XN a C (some dx))) (ed : H dx = some (XD dx fs)) (hl : fs.length < 1000) (c : XC X.K C) (n : PySem.W.findIn X.K (.ref C) f = some none) (ry : RelV y u)
    (h : ∀ s', Inv X pins σ (upd H dx (XD dx (putF f y fs))) s' → Q () s') : wpAny (model X.prog X.w) A (setAttr (.ref a) f u) Q E s := by
  obtain ⟨oe, vs, g, ce, oo, de, sz, tb⟩ := xn_at I e
  obtain ⟨_, mA, nm, r, wi⟩ := xd_at I ed
  have hz : (fs.map (·.1)).length ≤ sizeLine := by rw [List.length_map, sizeLine_eq]; omega
  refine set_x1 I.kIn c g ce (notCls_f de) oo nm n wi hz fun h' n' sb => h _ ?_
  have hd : ∃ o, h'.get? dx = some o := let ⟨o, _, _, e', _⟩ := n'; ⟨o, e'⟩
  refine I.write (x := dx) (e := dx) (by rw [ed]; exact True.intro) (.inl rfl) (fun b q hb z => (sb.2 b hb).trans z) hd ?_
  refine xd_ok (Nat.le_trans (length_putF f y fs) hl) n' (fun g => ?_) fun g hg => ?_
  · show RelO ((putF f y fs).lookup g) (if g = f then some u else mA g)
    rw [lookup_putF]
    by_cases q : g = f
    · rw [if_pos q, if_pos q]; exact ry
    · rw [if_neg q, if_neg q]; exact r g
  · by_cases q : g = f
    · rw [q]; exact (keys_putF f y fs).1
    · refine (keys_putF f y fs).2 g (wi g fun z => hg ?_)
      show (if g = f then some u else mA g) = none
      rw [if_neg q]; exact z

theorem xget_ok {b : Bool} {Q : Value → Shared → Prop} (I : Inv X pins σ H s) (e : H a = some (XO a C (some dx))) (ed : H dx = some (XD dx fs)) (c : XC X.K C) (n : PySem.W.findIn X.K (.ref C) f = some none) (l : fs.lookup f = some v)
    (h : ∀ u s', Inv X pins σ H s' → RelV v u → Q u s') : wpAny (model X.prog X.w) A (getAttr (.ref a) f b) Q E s := by
  obtain ⟨ox, vs, g, ce, oo, de⟩ := xo_at I e
  obtain ⟨_, mA, nm, r, wi⟩ := xd_at I ed
  obtain ⟨u, hu, ru⟩ := RelO.some_of (v := v) (o := mA f) (by rw [← l]; exact r f)
  obtain ⟨o1, g1, hl⟩ := lookIn_ns nm
  exact get_x I.kIn c g ce (notCls_f de) oo g1 (by rw [hl, hu]) n (handed_of ru) (h u _ (I.tok _) ru)
end

/-- self.f = e in an error's __init__ -/
def sXF (K : PySem.W.Frag) (ta tv : TE) (f : Str) : TS := fun D σ H => tv σ H fun y H1 => ta σ H1 fun x H2 => ∃ a C, x = .ref a ∧ XC K C ∧ PySem.W.findIn K (.ref C) f = some none ∧
  ((H2 a = some (XN a C none) ∧ ∀ dx, H2 dx = none → D.nx σ (upd (upd H2 dx (XD dx [(f, y)])) a (XN a C (some dx)))) ∨
   ∃ dx fs, H2 a = some (XN a C (some dx)) ∧ H2 dx = some (XD dx fs) ∧ fs.length < 1000 ∧ D.nx σ (upd H2 dx (XD dx (putF f y fs))))
/-- e.f of an error -/
def tXF (K : PySem.W.Frag) (ta : TE) (f : Str) : TE := fun σ H Q => ta σ H fun x H1 => ∃ a C dx fs v, x = .ref a ∧ H1 a = some (XO a C (some dx)) ∧ H1 dx = some (XD dx fs) ∧ XC K C ∧ PySem.W.findIn K (.ref C) f = some none ∧ fs.lookup f = some v ∧ Q v H1

section
variable {X : Cx} {o e value : Expr} {f : Str} {pos pos' tpos : Pos} {ta tv te : TE}
theorem ps_xfld (ha : PE X o ta) (hv : PE X value tv) (hs : swapsWith value (some (.Attribute o f pos')) pos.line X.env = pure false) : PS X (.Assign [.Attribute o f pos'] value pos) (sXF X.K ta tv f) := by
  intro pins s σ H D I h
  refine plainObj_wpAny_Assign_Attribute (thn (hv pins s σ H _ I h) fun u s1 ⟨y, H1, I1, ry, q⟩ => thn (ha pins s1 σ H1 _ I1 q) fun ov s2 ⟨x, H2, I2, rx, a, C, ex, c, n, q2⟩ => ?_) hs
  subst ex
  obtain rfl : ov = Value.ref a := rx
  rcases q2 with ⟨ea, q2⟩ | ⟨dx, fs, ea, ed, hl, q2⟩
  · exact xset0_ok I2 ea c n ry fun dx s3 nd I3 => ⟨σ, _, I3, q2 dx nd⟩
  · exact xset1_ok I2 ea ed hl c n ry fun s3 I3 => ⟨σ, _, I3, q2⟩
theorem pe_xfld (he : PE X e te) (hb : attributeBase e f X.env (eval e X.env) = eval e X.env) : PE X (.Attribute e f pos) (tXF X.K te f) := by
  intro pins s σ H Q I h
  refine attr_of hb (thn (he pins s σ H _ I h) fun u s1 ⟨x, H1, I1, rx, a, C, dx, fs, v, ex, ea, ed, c, n, l, q⟩ => ?_)
  subst ex
  obtain rfl : u = Value.ref a := rx
  exact xget_ok I1 ea ed c n l fun u' s2 I2 ru => ⟨v, H1, I2, ru, q⟩
end

/-! ### making and raising -/
structure XMk (K : PySem.W.Frag) (C f : Addr) : Prop where
  makes : xmkIn K C = true
  init : PySem.W.findIn K (.ref C) "__init__" = some (some (.ref f))
  fn : PySem.W.isFn K (.ref f) = true
  kp : PySem.W.keepIn K (.ref C) = true
def tXMake (C : Addr) (sp : Sp) (dvs : List V) (t : TA) : TE := fun σ H Q => t σ H fun vs H1 => vs.length ≤ 1000 ∧ ∀ e, H1 e = none →
  sp (.ref e :: (vs ++ dvs)) (upd H1 e (XN e C none)) (fun v H2 => v = .non ∧ Q (.ref e) H2) (fun _ _ _ => False)
def tRaise (K : PySem.W.Frag) (te : TE) (E : St → XK) : TS := fun D σ H => te σ H fun v H1 => ∃ e C od, v = .ref e ∧ H1 e = some (XN e C od) ∧ xmkIn K C = true ∧ E σ e C (upd H1 e (XO e C od))

section
variable {X : Cx} {k : Nat} {f C : Addr} {fd : FuncData} {ps : List Str} {sp : Sp} {dvs : List V} {ds : List Value} {E : St → XK} {x m : Str} {p pos apos : Pos} {e o : Expr} {es : List Expr} {ta te : TE} {t : TA}

theorem run_xmake {pins : List (Addr × Obj)} {σ : St} {H : Hp} {s : Shared} {Q : VK} {us : List Value} {vs : List V} (M : XMk X.K C f) (F : FnOk q0 X.prog X.w X.K X.mg X.base (CXo X.prog X.w) k f fd ps sp) (hr : Room q0 (k + 1) X.A) (hb : Binds X.K fd ps ds) (hd : Vals dvs ds)
    (I : Inv X pins σ H s) (r : Vals vs us) (hl : vs.length ≤ 1000)
    (h : ∀ e, H e = none → sp (.ref e :: (vs ++ dvs)) (upd H e (XN e C none)) (fun v H2 => v = .non ∧ Q (.ref e) H2) (fun _ _ _ => False)) :
    wpAny (model X.prog X.w) X.A (call (.ref C) us) (EP X pins σ Q) X.xe s := by
  obtain ⟨nm, qn, N, bs, bm, hz, sn, sub, ab, col, dd, k0, k1, k2, k3, k5, gC, T⟩ := xmk_of I.kIn M.makes
  have ty : PySem.W.typeIn X.K (.ref f) = some (.type "function") := beq_iff_eq.mp M.fn
  obtain ⟨oI, gI, cI⟩ := Option.map_eq_some_iff.mp (show (X.K.lookup f).map (·.cls) = some (.type "function") from ty)
  have lu : us.length ≤ sizeLine := by
    have := r.length
    rw [← this, sizeLine_eq]
    omega
  obtain ⟨hh, gg, d, tk, os⟩ := s
  refine call_xinit PySem.F.excBase_ValueError T gC (fun A' Q' E' s' kk q => PySem.W.looks_findIn I.kIn M.init A' Q' E' s' kk q) (I.kIn _ _ gI) cI lu fun h' e hm se => ?_
  have hn : H e = none := I.hok.fresh se
  obtain ⟨t0, ge, _, _⟩ := hm.there
  have xa : Xat h' e (.ref C) none none := ⟨_, _, ge, rfl, rfl, rfl, by simp, .inl ⟨rfl, rfl⟩⟩
  have I2 : Inv X pins σ (upd H e (XN e C none)) ⟨h', gg, d, tk, os⟩ := I.laid (t' := tk) hm.keeps se (xn_ok xa)
  have hq := h e hn
  have r2 : Vals (V.ref e :: (vs ++ dvs)) (Value.ref e :: (us ++ ds)) := .cons rfl (r.append hd)
  have hl2 : (Value.ref e :: us ++ ds).length = ps.length := by
    have z := r2.length
    rw [F.len _ _ _ _ hq] at z
    exact z.symm
  refine wpAny_call (codeAny_mono (F.run _ X.stack _ _ ⟨Value.ref e :: us, []⟩ (Value.ref e :: (us ++ ds)) _ _ (fun _ _ _ => False) (hr.make C us [])
    (I2.env0.make C us []) (hb _ (Value.ref e :: us) I2.kIn hl2) r2 hq) fun r s' hq' => ?_)
  cases r with
  | error e' => exact (pass_none pins σ _ _ e' s' I2 hq')
  | ok fl =>
    cases fl with
    | ret u =>
      obtain ⟨v, H', I3, rv, ev, q3⟩ := I2.after hq'
      subst ev
      exact ⟨rv, ⟨V.ref e, H', I3, rfl, q3⟩⟩
    | next => exact False.elim hq'
    | brk => exact False.elim hq'
    | cont => exact False.elim hq'
theorem pe_xmake (M : XMk X.K C f) (F : FnOk q0 X.prog X.w X.K X.mg X.base (CXo X.prog X.w) k f fd ps sp) (hr : Room q0 (k + 1) X.A) (hg : Gl X x) (hm : X.mg x = some (.ref C)) (hb : Binds X.K fd ps ds) (hd : Vals dvs ds)
    (ha : PA X (e :: es) t) (hdb : (x == ("__debug__" : Str)) = false := by decide) (he : starEach (e :: es) X.env = (false, eval e X.env) :: starEach es X.env := by rfl) (hpl : (backTo pos (starEach es X.env)).any (·.1) = false := by rfl) :
    PE X (.Call (.Name x p) (e :: es) [] pos) (tXMake C sp dvs t) := by
  intro pins s σ H Q I h
  refine wpAny_Call_Name_kw (ld_glob I hg hm ?_ hdb)
  refine PySem.W.callWith_K (h₀ := X.base) I.ok.mod.kin M.kp (thn (ha pos pins s σ H _ I h) fun us s1 ⟨vs, H1, I1, r, hl, q⟩ => ⟨I1.kIn, ?_⟩) he hpl
  exact run_xmake M F hr hb hd I1 r hl q

theorem Inv.toXO {pins : List (Addr × Obj)} {σ : St} {H : Hp} {s : Shared} {e : Addr} {od : Option Addr} (I : Inv X pins σ H s) (h : H e = some (XN e C od)) : Inv X pins σ (upd H e (XO e C od)) s := by
  have x := xn_at I h
  obtain ⟨oe, _, ge, _⟩ := id x
  exact I.write (x := e) (e := e) (t' := s.toks) (by rw [h]; exact True.intro) (.inl rfl) (fun b u _ z => z) ⟨oe, ge⟩ (xo_ok (xat_xo x))

theorem tail_base {h : Heap} {bm : List Value} (T : OwnTail h vErr bm) : bm.contains (.type "BaseException") = true := T.hasType (by decide +kernel)
theorem ps_raise (hh : X.A.handled = none) (tk : Takes X E) (he : PE X e te) : PS X (.Raise (some e) none pos) (tRaise X.K te E) := by
  intro pins s σ H D I h
  rw [arm_exec_Raise]
  refine wpAny_bind (wpAny_standAt ?_)
  show wpAny _ _ (raiseStmt X.env (some (do let v ← eval e X.env; standAt pos; pure v)) none) _ _ s
  refine raise_x hh (wpAny_bind (thn (he pins s σ H _ I h) fun v s1 ⟨x, H1, I1, rx, a, C, od, ex, ea, mk, q⟩ => wpAny_bind (wpAny_standAt (wpAny_pure ?_))))
  subst ex
  obtain rfl : v = Value.ref a := rx
  obtain ⟨nm, qn, N, bs, bm, hz, sn, sub, ab, col, dd, k0, k1, k2, k3, k5, gC, T⟩ := xmk_of I1.kIn mk
  have x := xn_at I1 ea
  exact ⟨a, od, C, nm, qn, N, bs, bm, hz, sn, sub, ab, col, dd, k0, k1, k2, k3, k5, _, rfl, tail_base T, gC, x, tk pins σ _ s1 a C od none (I1.toXO ea) x upd_same (fun T' z => by cases z) q⟩
end
end L2

set_option maxRecDepth 100000
namespace XL
open PySem PySem.W
section
variable {M : Model} {A : Around} {E : Value → Shared → Prop} {s : Shared}
theorem flight_x {fs : List Addr} {e T : Addr} {cls : Value} {od : Option Addr} {Q : Unit → Shared → Prop} (x : Xat s.heap e cls od (some T)) (nf : ∀ b ∈ fs, b ≠ T)
    (k : ∀ h', Stp fs e (some T) s.heap h' → Xat h' e cls od (some T) → Q () { s with heap := h' }) : wpAny M A (setFlight (.ref e) none) Q E s := by
  obtain ⟨oe, vs, ge, ce, oo, de, se, y⟩ := x
  rcases y with ⟨z, _⟩ | ⟨T', oT, ts, z, h1, nTe, gT, dT, h3⟩
  · cases z
  · cases z
    unfold setFlight
    refine wpAny_bind (wpAny_field ge de h1 ?_)
    rw [if_pos (show (Value.ref T != Value.none) = true from by simp)]
    have z3 : 3 < ts.size := (Array.getElem?_eq_some_iff.mp h3).1
    have ot : ∀ b, b ≠ T → (s.heap.update T (Obj.mapFields (·.setIfInBounds 3 ((none : Option Addr).elim Value.none fun f => rawInt f)))).get? b = s.heap.get? b := fun b hb => Heap.get?_update_other _ _ (Ne.symm hb)
    refine wpAny_setField gT dT z3 (k _ ⟨fun b o hb _ bt _ => (ot b fun q => bt (congrArg some q.symm)).trans hb, fun b o hb bf => ⟨o.slots, (ot b (nf b bf)).trans hb⟩⟩ ?_)
    exact ⟨oe, vs, (ot e (Ne.symm nTe)).trans ge, ce, oo, de, se, .inr ⟨T, _, _, rfl, h1, nTe, Heap.get?_update_self _ gT (Obj.isFreed_of_fields (Obj.data_mapFields dT _)), Obj.data_mapFields dT _, by simp [z3]⟩⟩

variable {nm qn nm' qn' : Str} {C N C' N' : Addr} {bs bm bs' bm' : List Value} {hz hz' : Bool} {sn sn' : List Str} {sub sub' : List Value} {ab ab' : Bool} {col col' : Option Bool} {dd dd' : Option Addr} {k0 k1 k2 k3 k5 j0 j1 j2 j3 j5 : Option Value} {ni ni' : String}
theorem matches_own {h : Heap} {g : Array GenState} {d : Drawn} {t : Nat} {os : OsState} {e : Addr} {oe : Obj} {b : Bool} {Q : Bool → Shared → Prop}
    (gC : h.get? C = some (excClassObj nm qn C N bs bm hz sn sub ab col dd k0 k1 k2 k3 k5 ni)) (gC' : h.get? C' = some (excClassObj nm' qn' C' N' bs' bm' hz' sn' sub' ab' col' dd' j0 j1 j2 j3 j5 ni'))
    (ge : h.get? e = some oe) (ce : oe.cls = .ref C) (bB : bm'.contains (.type "BaseException") = true) (hm : (Value.ref C :: bm).contains (.ref C') = b)
    (k : Q b ⟨h, g, d, t, os⟩) : wpAny M A (excMatches (.ref e) (.ref C')) Q E ⟨h, g, d, t, os⟩ := by
  have mB : (Value.ref C' :: bm').contains (.type "BaseException") = true := by rw [List.contains_cons, bB, Bool.or_true]
  have nt := tc_notTuple
  unfold excMatches
  repeat (first | (with_reducible refine wpAny_loadPart_at ge ?_; rw [ce]) | with_reducible refine wpAny_loadPart_at gC' ?_ | (with_reducible refine wpAny_isSubtype_exc gC' ?_; rw [mB]) | (with_reducible refine wpAny_isSubtype_exc gC ?_; rw [hm]) | wp_step)
  cases b <;> (wp_walk; exact k)
end
end XL

namespace L2
open PySem PySem.Spec PyProof.Rows XL
variable {q0 : Bool}
/-- the context of a try's body: another wish about errors, what is pinned stays pinned -/
abbrev Cx.tryc (X : Cx) (pins : List (Addr × Obj)) (xe : Value → Shared → Prop) : Cx := { X with xe := xe, pn := X.pn ++ pins }
/-- .. of an except suite: the error is being handled; no error leaves it -/
abbrev Cx.hand (X : Cx) (e : Addr) : Cx := { X with A := X.A.mark (some (.ref e)), calm := false, xe := fun _ _ => False }

section
variable {X : Cx} {pins : List (Addr × Obj)} {σ : St} {H : Hp} {s : Shared}
theorem Cx.Ok.tryc (ok : X.Ok) (pins : List (Addr × Obj)) (xe : Value → Shared → Prop) : (X.tryc pins xe).Ok :=
  ⟨ok.mod, ok.kind, ok.glob, ok.blt, ok.above, ok.inj, ok.has, ok.cab, ok.hd, ok.frames, ok.stk, ok.exf, ok.bs, ok.bsz, ok.noex, ok.exfs, ok.funs, ok.frf⟩
theorem Cx.Ok.untryc {xe : Value → Shared → Prop} (ok : (X.tryc pins xe).Ok) : X.Ok :=
  ⟨ok.mod, ok.kind, ok.glob, ok.blt, ok.above, ok.inj, ok.has, ok.cab, ok.hd, ok.frames, ok.stk, ok.exf, ok.bs, ok.bsz, ok.noex, ok.exfs, ok.funs, ok.frf⟩
theorem Cx.Ok.hand (ok : X.Ok) (e : Addr) : (X.hand e).Ok :=
  ⟨ok.mod, ok.kind, ok.glob, ok.blt, ok.above, ok.inj, ok.has, ok.cab, (fun z => nomatch z), ok.frames, ok.stk, ok.exf, ok.bs, ok.bsz, ok.noex, ok.exfs, ok.funs, ok.frf⟩
theorem Inv.tryc (I : Inv X pins σ H s) (xe : Value → Shared → Prop) : Inv (X.tryc pins xe) [] σ H s :=
  ⟨I.ok.tryc pins xe, I.os, I.bare, I.base, I.loc, I.cell, I.free, I.freeC, fun p hp => I.pin p (by simpa using hp), I.hok, I.len⟩
theorem Inv.untryc {xe : Value → Shared → Prop} {pl : List (Addr × Obj)} (I : Inv (X.tryc pins xe) pl σ H s) : Inv X pins σ H s :=
  ⟨I.ok.untryc, I.os, I.bare, I.base, I.loc, I.cell, I.free, I.freeC, fun p hp => I.pin p (List.mem_append_left _ hp), I.hok, I.len⟩
theorem Inv.hand (I : Inv X pins σ H s) (e : Addr) : Inv (X.hand e) pins σ H s :=
  ⟨I.ok.hand e, I.os, I.bare, I.base, I.loc, I.cell, I.free, I.freeC, I.pin, I.hok, I.len⟩
theorem Inv.unhand {e : Addr} (ok : X.Ok) (I : Inv (X.hand e) pins σ H s) : Inv X pins σ H s :=
  ⟨ok, I.os, I.bare, I.base, I.loc, I.cell, I.free, I.freeC, I.pin, I.hok, I.len⟩

/-- a name of the frame is gone -/
theorem Inv.gone {h' : Heap} {m m' : Str → Option Value} {n : Str} {j t' : Nat} (I : Inv X pins σ H s) (hN : X.N.Nodup) (hj : X.N[j]? = some n) (hl : X.env.scope.names.lookup n = some .local)
    (hm : s.heap.Ns X.env.locals m) (hv : ∀ (i : Nat) (x : Str) (v : V), X.N[i]? = some x → σ[i]? = some (some v) → Vis X.env.scope x → ∃ u, RelV v u ∧ Look X.env s.heap m x u)
    (n' : h'.Ns X.env.locals m') (e' : ∀ y, y ≠ n → m' y = m y) (sb : Heap.SameBut X.env.locals s.heap h') : Inv X pins (σ.set j none) H { s with heap := h', toks := t' } := by
  have kp : ∀ b o, b ≠ X.env.locals → s.heap.get? b = some o → h'.get? b = some o := fun b o nb g => (sb.2 b nb).trans g
  have neL : ∀ b o, X.s₀.heap.get? b = some o → b ≠ X.env.locals := fun b o e => Nat.ne_of_lt (Nat.lt_of_lt_of_le (Heap.lt_size e) I.ok.above)
  have trk : ∀ b u, H b = some u → b ≠ X.env.locals := fun b u hb z => by rw [z, I.free] at hb; cases hb
  refine ⟨I.ok, I.os, I.bare, ⟨fun b o e n hb hx => kp b o (neL b o e) (I.base.keep b o e n hb hx), fun b o e n hb hx => ?_, fun b o e n hx => I.base.free b o e n hx, fun b o e hx => ?_, I.base.tups, I.base.frzs, I.base.tbls⟩,
    ⟨m', n', fun i x v e1 e2 e3 => ?_⟩, fun x c e => ?_, I.free, I.freeC, fun p hp => ?_, fun b u hb => ?_, by rw [List.length_set]; exact I.len⟩
  · obtain ⟨sl, q⟩ := I.base.slot b o e n hb hx
    exact ⟨sl, kp b _ (neL b o e) q⟩
  · obtain ⟨o', q⟩ := I.base.there b o e hx
    exact ⟨o', kp b o' (neL b o e) q⟩
  · have nij : i ≠ j := fun z => by
      subst z
      have hl2 : i < σ.length := by rw [I.len]; exact (List.getElem?_eq_some_iff.mp hj).1
      rw [List.getElem?_set_self hl2] at e2
      cases e2
    rw [List.getElem?_set_ne (Ne.symm nij)] at e2
    have nx : x ≠ n := fun z => nij (nodup_ix hN e1 (by rw [z]; exact hj))
    obtain ⟨u, r, l⟩ := hv i x v e1 e2 e3
    refine ⟨u, r, ?_⟩
    rcases l with ⟨k, z⟩ | ⟨k, c, e, o, ho, hd⟩
    · exact .inl ⟨k, by rw [e' x nx]; exact z⟩
    · exact .inr ⟨k, c, e, o, kp c o (I.cne x c e) ho, hd⟩
  · obtain ⟨v, o, ho, hd⟩ := I.cell x c e
    exact ⟨v, o, kp c o (I.cne x c e) ho, hd⟩
  · obtain ⟨e, a, ne, nf, d⟩ := I.pin p hp
    exact ⟨kp p.1 p.2 ne e, a, ne, nf, d⟩
  · refine (I.hok b u hb).stay (fun c v hc q => ?_) (fun c q => q) fun c xs q => q
    rcases hc with rfl | hc
    · exact kp c v (trk c u hb) q
    · exact kp c v (trk c _ hc) q
end

/-- try: body; except Cx0 as n: suite (slot j) -/
def endH (D : Ends) (j : Nat) : Ends := { nx := fun σ H => D.nx (σ.set j none) H, rt := D.rt, bk := fun σ H => D.bk (σ.set j none) H, ct := fun σ H => D.ct (σ.set j none) H }
section
variable {X : Cx} {pos np hpos : Pos} {body hbody : List Stmt} {b0 : Stmt} {cx n : Str} {C0 : Addr} {j : Nat} {E : St → XK} {tb th : TS}
end
end L2

set_option maxRecDepth 100000
namespace XL
open PySem PySem.W
theorem kitx_x {K : Frag} {x C : Addr} (c : XC K C) : KitX K (.ref x) (.ref C) (fun h => ∃ ox od, InstAt h x ox C od) where
  ty := fun _ _ _ ⟨_, _, I⟩ => I.type
  it := fun _ _ X _ => by
    obtain ⟨cd, hc, _, _⟩ := c.mro
    unfold clsIn at hc
    split at hc
    · rename_i c' d' cd' sl' ho
      intro A' Q' E' s' k q
      unfold isType loadHead
      exact wpAny_bind (wpAny_loadPart (k _ _ (X _ _ ho)) (wpAny_pure q))
    · cases hc
  ne := fun h tp dd its n sl X htp => by
    obtain ⟨cd, hc, _, _⟩ := c.mro
    refine Bool.eq_false_iff.mpr fun q => ?_
    have e : C = tp := Value.ref.inj (beq_iff_eq.mp q)
    subst e
    unfold clsIn at hc
    split at hc
    · rename_i c' d' cd' sl' ho
      have z := (X _ _ ho).symm.trans htp
      cases z
    · cases hc
  ca := fun X ⟨ox, od, I⟩ k => get_xcls X c I k
end XL

namespace L2
open PySem PySem.Spec PyProof.Rows XL
variable {q0 : Bool}
/-- a class as a value -/
def clsV : V → Option Value
  | .ty n => some (.type n)
  | .ref a => some (.ref a)
  | _ => none
theorem clsV_rel {c : V} {u cv : Value} (e : clsV c = some cv) (r : RelV c u) : u = cv := by
  cases c <;> first | (cases e; exact r) | cases e
def clsVs : List V → Option (List Value)
  | [] => some []
  | c :: r => (clsV c).bind fun a => (clsVs r).map (a :: ·)
theorem clsVs_rel : ∀ {cs : List V} {us cv : List Value}, clsVs cs = some cv → Vals cs us → us = cv
  | [], _, _, e, .nil => by cases e; rfl
  | c :: r, _, _, e, .cons rc rr => by
    obtain ⟨a, e1, e2⟩ := Option.bind_eq_some_iff.mp e
    obtain ⟨b, e3, rfl⟩ := Option.map_eq_some_iff.mp e2
    rw [clsV_rel e1 rc, clsVs_rel e3 rr]
section
variable {X : Cx} {pins : List (Addr × Obj)} {σ : St} {H : Hp} {s : Shared} {A : Around} {E : Value → Shared → Prop} {Q : Value → Shared → Prop}
theorem xo_inst {a C : Addr} {od : Option Addr} (I : Inv X pins σ H s) (h : H a = some (XO a C od)) (hd : ∀ d, od = some d → ∃ o, s.heap.get? d = some o) : ∃ ox odx, PySem.W.InstAt s.heap a ox C odx := by
  obtain ⟨ox, vs, g, ce, oo, de⟩ := xo_at I h
  cases e : od with
  | none => exact ⟨ox, none, g, ce, notCls_f de, by rw [oo, e]; trivial⟩
  | some d =>
    obtain ⟨o, go⟩ := hd d e
    exact ⟨ox, some o, g, ce, notCls_f de, by rw [oo, e]; exact go⟩
end

/-- isinstance(x, C), isinstance(x, (C, ..)) -/
def rIsin (K : PySem.W.Frag) : List V → Hp → VK → Prop := fun xs H Q => ∃ x c, xs = [x, c] ∧ ((∃ t cv b, TyOf K H x t ∧ clsV c = some cv ∧ PySem.W.kitOne K t cv = some b ∧ Q (.bl b) H) ∨
  (∃ a C od cv b, x = .ref a ∧ H a = some (XO a C od) ∧ (∀ d, od = some d → ∃ fs, H d = some (XD d fs)) ∧ XC K C ∧ clsV c = some cv ∧ PySem.W.kitOne K (.ref C) cv = some b ∧ Q (.bl b) H) ∨
  (∃ a C od p cs cv b, x = .ref a ∧ H a = some (XO a C od) ∧ (∀ d, od = some d → ∃ fs, H d = some (XD d fs)) ∧ XC K C ∧ c = .ref p ∧ SqT K H p cs ∧ clsVs cs = some cv ∧ PySem.W.kitAny K (.ref C) cv = some b ∧ Q (.bl b) H))
section
variable {X : Cx}
theorem call_isin : CallR X (.builtin "isinstance") (rIsin X.K) := by
  intro pins s σ H us xs Q I r h
  obtain ⟨x, c, rfl, h⟩ := h
  obtain ⟨u, v, rfl, ru, rv⟩ := vals2 r
  rcases h with ⟨t, cv, b, ty, ec, ek, q⟩ | ⟨a, C, od, cv, b, rfl, ha, hd, xc, ec, ek, q⟩ | ⟨a, C, od, p, cs, cv, b, rfl, ha, hd, xc, rfl, hp, ec, ek, q⟩
  · obtain rfl := clsV_rel ec rv
    exact isinst_ok I ru ty ek fun tk => ⟨.bl b, H, I.tok tk, rfl, q⟩
  · obtain rfl := clsV_rel ec rv
    obtain rfl : u = Value.ref a := ru
    refine PySem.W.kia_one (kitx_x xc) I.kIn (xo_inst I ha fun d e => ?_) ek (fun z => nomatch z) fun tk => ⟨.bl b, H, I.tok tk, rfl, q⟩
    obtain ⟨fs, hw⟩ := hd d e
    obtain ⟨_, _, ⟨o, _, _, go, _⟩, _⟩ := xd_at I hw
    exact ⟨o, go⟩
  · obtain rfl : u = Value.ref a := ru
    obtain rfl : v = Value.ref p := rv
    obtain ⟨its, vi, it, _⟩ := I.tuple hp
    obtain rfl := clsVs_rel ec vi
    obtain ⟨o, g, oc, n, od'⟩ := it
    obtain ⟨c1, d1, dt1, sl1⟩ := o
    dsimp only at oc od'
    subst oc od'
    refine PySem.W.kia_tup (kitx_x xc) I.kIn (xo_inst I ha fun d e => ?_) g ek (fun z => nomatch z) fun tk => ⟨.bl b, H, I.tok tk, rfl, q⟩
    obtain ⟨fs, hw⟩ := hd d e
    obtain ⟨_, _, ⟨o, _, _, go, _⟩, _⟩ := xd_at I hw
    exact ⟨o, go⟩
end
end L2

set_option maxRecDepth 100000
namespace L2
open PySem PySem.Spec PyProof.Rows XL
variable {q0 : Bool}
/-! ### list comprehensions: one clause, one name -/
def frees (scope : Scope) : List Str := (scope.names.filter fun x => x.2 == .free).map (·.1)
def Cx.clo (X : Cx) (scope : Scope) : List (Str × Addr) := (frees scope).reverse.map fun n => (n, (X.env.cells.lookup n).getD 0)
theorem closure_of {env : Env} {f : Str → Addr} : ∀ (l : List (Str × NameKind)) (acc : List (Str × Addr)), (∀ x ∈ l, x.2 = .free → env.cells.lookup x.1 = some (f x.1)) →
    (forIn l acc fun x cs => (if x.2 == .free then do let c ← cellOf env x.1; pure (ForInStep.yield ((x.1, c) :: cs)) else pure (ForInStep.yield cs) : Sem (ForInStep (List (Str × Addr))))) =
      pure ((((l.filter fun x => x.2 == .free).map (·.1)).reverse.map fun n => (n, f n)) ++ acc)
  | [], acc, _ => rfl
  | x :: r, acc, h => by
    have ih := fun a => closure_of r a fun y hy => h y (List.mem_cons_of_mem _ hy)
    rw [List.forIn_cons]
    by_cases q : x.2 = .free
    · have e := h x List.mem_cons_self q
      have qb : (x.2 == NameKind.free) = true := by rw [q]; rfl
      rw [if_pos qb, List.filter_cons, if_pos qb]
      have ec : cellOf env x.1 = pure (f x.1) := by unfold cellOf; rw [e]
      rw [ec]
      simp only [pure_bind]
      rw [ih]
      simp
    · have qb : (x.2 == NameKind.free) = false := by simpa using q
      rw [if_neg (by rw [qb]; decide), List.filter_cons, if_neg (by rw [qb]; decide)]
      simp only [pure_bind]
      rw [ih]
theorem clo_of {X : Cx} {scope : Scope} (h : ∀ n ∈ frees scope, ∃ c, X.env.cells.lookup n = some c) : closureFor scope X.env = pure (X.clo scope) := by
  unfold closureFor
  have z := closure_of (env := X.env) (f := fun n => (X.env.cells.lookup n).getD 0) scope.names [] fun x hx hf => by
    obtain ⟨c, e⟩ := h x.1 (List.mem_map.mpr ⟨x, List.mem_filter.mpr ⟨hx, by simp [hf]⟩, rfl⟩)
    rw [e]
    rfl
  rw [List.append_nil] at z
  refine (bind_pure (m := Sem) _).trans ?_
  exact z
theorem clo_mem {X : Cx} {scope : Scope} {n : Str} {c : Addr} (h : (X.clo scope).lookup n = some c) : n ∈ frees scope ∧ c = (X.env.cells.lookup n).getD 0 := by
  have z := PySem.mem_of_lookup h
  unfold Cx.clo at z
  obtain ⟨y, hy, e⟩ := List.mem_map.mp z
  injection e with e1 e2
  subst e1
  exact ⟨List.mem_reverse.mp hy, e2.symm⟩
theorem lookup_map_self {f : Str → Addr} {n : Str} : ∀ {l : List Str}, n ∈ l → (l.map fun y => (y, f y)).lookup n = some (f n)
  | [], h => by simp at h
  | y :: r, h => by
    rw [List.map_cons, List.lookup_cons]
    by_cases q : n = y
    · subst q
      simp
    · rw [show (n == y) = false from by simpa using q]
      exact lookup_map_self ((List.mem_cons.mp h).resolve_left q)
theorem clo_get {X : Cx} {scope : Scope} {n : Str} {c : Addr} (hn : n ∈ frees scope) (h : X.env.cells.lookup n = some c) : (X.clo scope).lookup n = some c := by
  have z := lookup_map_self (f := fun n => (X.env.cells.lookup n).getD 0) (List.mem_reverse.mpr hn)
  unfold Cx.clo
  rw [z, h]
  rfl

/-- what the block of a comprehension asks of the names, all by looking at the text: x its own name, ys names of the def that it reads, fr their slots -/
structure Blk (X : Cx) (scope : Scope) (x : Str) (ys : List Str) (fr : List Nat) : Prop where
  kind : scope.kind = .function
  own : scope.names.lookup x = some .local
  ncell : ∀ y ∈ scope.names, y.2 ≠ .cell
  names : ∀ y ∈ scope.names, y.2 = .local → scope.names.lookup y.1 = some .local
  free : ∀ n ∈ frees scope, X.env.scope.names.lookup n = some .cell
  has : ∀ n, ((relabel scope X.env).names.lookup n = some .cell ∨ (relabel scope X.env).names.lookup n = some .free) → n ∈ frees scope
  slots : fr.map (fun i => X.N[i]?) = ys.map some
  ysf : ∀ y ∈ ys, y ∈ frees scope
  ysc : ∀ y ∈ ys, (relabel scope X.env).names.lookup y = some .cell ∨ (relabel scope X.env).names.lookup y = some .free
  st : X.stack = X.env :: X.outer
  nd : X.N.Nodup
  ndb : (x :: ys).Nodup

section
variable {X : Cx} {pins : List (Addr × Obj)} {σ : St} {H : Hp} {s : Shared} {scope : Scope} {x : Str} {ys : List Str} {fr : List Nat} {fp : List Addr}
theorem Blk.cells (B : Blk X scope x ys fr) (I : Inv X pins σ H s) : ∀ n ∈ frees scope, ∃ c, X.env.cells.lookup n = some c := fun n hn => I.ok.has n (.inl (B.free n hn))
theorem Blk.sub (B : Blk X scope x ys fr) (I : Inv X pins σ H s) {n : Str} {c : Addr} (h : (X.clo scope).lookup n = some c) : X.env.cells.lookup n = some c := by
  obtain ⟨a, b⟩ := clo_mem h
  obtain ⟨d, e⟩ := B.cells I n a
  rw [e] at b
  rw [b, e]
  rfl
end

section
variable {X : Cx} {pins : List (Addr × Obj)} {σ : St} {H : Hp} {s : Shared} {scope : Scope} {x : Str} {ys : List Str} {fr : List Nat} {fp : List Addr}
end

def tTrue : TT := fun _ H Q => Q true H
/-- the tests of a comprehension -/
def PIf (X : Cx) (ifs : List Expr) (t : TT) : Prop :=
  ∀ (pins : List (Addr × Obj)) (s : Shared) (σ : St) (H : Hp) (Q : Bool → Hp → Prop), Inv X pins σ H s → t σ H Q →
    wpAny (model X.prog X.w) X.A (forIn ifs true fun c r => if r = true then do let ok ← isTrue c X.env (eval c X.env); pure (ForInStep.yield ok) else pure (ForInStep.yield r)) (TP X pins σ Q) X.xe s
theorem pif_nil {X : Cx} : PIf X [] tTrue := fun pins s σ H Q I h => wpAny_pure ⟨H, I, h⟩
theorem pif_one {X : Cx} {c : Expr} {t : TT} (hc : PT X c t) : PIf X [c] t := fun pins s σ H Q I h => by
  rw [List.forIn_cons]
  refine wpAny_bind ?_
  rw [if_pos rfl]
  refine wpAny_bind (wpAny_mono (hc pins s σ H Q I h) (fun b s1 q => wpAny_pure ?_) fun _ _ z => z)
  exact wpAny_pure q

section
variable {X : Cx} {scope : Scope} {x : Str} {ys : List Str} {fr : List Nat} {elt iter : Expr} {ifs : List Expr} {px pos : Pos} {wi : TI} {tc : TT} {te : TE}
end
end L2

set_option maxRecDepth 100000
namespace L2
open PySem PySem.Spec PyProof.Rows XL
variable {q0 : Bool}
theorem relab_has {env : Env} {scope : Scope} (nc : ∀ y ∈ scope.names, y.2 ≠ .cell) (n : Str) (h : (relabel scope env).names.lookup n = some .cell ∨ (relabel scope env).names.lookup n = some .free) : n ∈ frees scope := by
  have key : ∀ k, (relabel scope env).names.lookup n = some k → (k = .cell ∨ k = .free) → n ∈ frees scope := fun k e hk => by
    obtain ⟨y, hy, ey⟩ := List.mem_map.mp (PySem.mem_of_lookup e)
    obtain ⟨m, j⟩ := y
    dsimp only at ey
    split at ey
    · rename_i q
      injection ey with e1 e2
      subst e1
      have : j = .free := by
        simp only [Bool.and_eq_true, beq_iff_eq] at q
        exact q.1.1
      subst this
      exact List.mem_map.mpr ⟨_, List.mem_filter.mpr ⟨hy, by simp⟩, rfl⟩
    · injection ey with e1 e2
      subst e1 e2
      rcases hk with z | z
      · exact absurd z (nc _ hy)
      · subst z
        exact List.mem_map.mpr ⟨_, List.mem_filter.mpr ⟨hy, by simp⟩, rfl⟩
  rcases h with h | h
  · exact key _ h (.inl rfl)
  · exact key _ h (.inr rfl)
theorem relab_free {env : Env} {scope : Scope} {n : Str} (h : scope.names.lookup n = some .free) : (relabel scope env).names.lookup n = some .cell ∨ (relabel scope env).names.lookup n = some .free := by
  have key : ∀ (l : List (Str × NameKind)), l.lookup n = some .free → (l.map fun (m, k) => if (k == NameKind.free && env.scope.kind == .function && env.kindOf m == some .cell) then (m, NameKind.cell) else (m, k)).lookup n = some .cell ∨
      (l.map fun (m, k) => if (k == NameKind.free && env.scope.kind == .function && env.kindOf m == some .cell) then (m, NameKind.cell) else (m, k)).lookup n = some .free := fun l => by
    induction l with
    | nil => intro e; simp at e
    | cons y r ih =>
      intro e
      obtain ⟨m, k⟩ := y
      rw [List.map_cons]
      rw [List.lookup_cons] at e
      cases q : n == m with
      | true =>
        rw [q] at e
        cases e
        dsimp only
        split
        · left; rw [List.lookup_cons, q]
        · right; rw [List.lookup_cons, q]
      | false =>
        rw [q] at e
        have z := ih e
        dsimp only
        split <;> (rw [List.lookup_cons, q]; exact z)
  exact key _ h
/-! ### a def of the text, errors as CXo tells -/
section
variable {P : Program} {w : World} {K : PySem.W.Frag} {mg : Str → Option Value} {base : Heap}
/-- an error may leave it -/
theorem Fun.okx {x qual : Str} {st : Stmt} {f : Addr} {fd : FuncData} {N ps : List Str} {k : Nat} {sp : Sp} (F : Fun K x qual st f fd) (S : FnScope N ps (defScope st)) (len : ∀ vs H Q E, sp vs H Q E → vs.length = ps.length)
    (hbody : ∀ (cdv : Value) (A : Around) (outer : List Env) (s : Shared) (H : Hp) (vs : List V) (Q : VK) (E : XK), Room q0 k (A.deeper (envOfC qual (defScope st) s.heap.objs.size f cdv)) → sp vs H Q E →
      ∃ t, PSs (cxOf q0 (CXo P w) P w K mg base N qual (defScope st) f cdv A outer s H E) (defBody st) t ∧ t { nx := fun _ H' => Q .non H', rt := Q } (start N vs) H) : FnOk q0 P w K mg base (CXo P w) (k + 1) f fd ps sp := by
  obtain ⟨oc, od, kV, doc, pm, an, cdv, ct, osl, rfl, lk, hcd⟩ := F.ex
  exact fn_of lk hcd S len fun A outer s H vs Q E hr hsp => hbody cdv A outer s H vs Q E hr hsp
/-- none leaves it -/
theorem Fun.okn {x qual : Str} {st : Stmt} {f : Addr} {fd : FuncData} {N ps : List Str} {k : Nat} {sp : Sp} (F : Fun K x qual st f fd) (S : FnScope N ps (defScope st)) (len : ∀ vs H Q E, sp vs H Q E → vs.length = ps.length)
    (hbody : ∀ (cdv : Value) (A : Around) (outer : List Env) (s : Shared) (H : Hp) (vs : List V) (Q : VK) (E : XK), Room q0 k (A.deeper (envOfC qual (defScope st) s.heap.objs.size f cdv)) → sp vs H Q E →
      ∃ t, PSs (cxOf q0 (CXo P w) P w K mg base N qual (defScope st) f cdv A outer s H E).nox (defBody st) t ∧ t { nx := fun _ H' => Q .non H', rt := Q } (start N vs) H) : FnOk q0 P w K mg base (CXo P w) (k + 1) f fd ps sp := by
  obtain ⟨oc, od, kV, doc, pm, an, cdv, ct, osl, rfl, lk, hcd⟩ := F.ex
  refine fn_of lk hcd S len fun A outer s H vs Q E hr hsp => ?_
  obtain ⟨t, h, q⟩ := hbody cdv A outer s H vs Q E hr hsp
  exact ⟨t, h.nox, q⟩
end

/-! ### == of one object with itself -/
def rEqS (K : PySem.W.Frag) : R2 := fun x y H Q => ∃ p xs, x = .ref p ∧ y = .ref p ∧ (SqL K H p xs ∨ SqT K H p xs) ∧ Q (.bl true) H
theorem op_eqS {X : Cx} (hu : X.A.units < cLine) : OpR X (compareOp .Eq) (rEqS X.K) := by
  intro pins s σ H x y u v Q I rx ry h
  obtain ⟨p, xs, rfl, rfl, hs, q⟩ := h
  obtain rfl : u = Value.ref p := rx
  obtain rfl : v = Value.ref p := ry
  rcases hs with hs | hs
  · obtain ⟨its, _, ⟨o, n, g, c, _, d⟩, _⟩ := I.list hs
    have il : s.heap.IsList p its.toArray := ⟨o, g, c, n, d⟩
    refine SeqAt.eq_listAt (e := fun _ => true) il il rfl hu (fun j _ _ => SeqAt.EqAt.same _) ?_
    rw [show (List.range its.toArray.size).all (fun _ => true) = true from by simp]
    exact ⟨.bl true, H, I, rfl, q⟩
  · obtain ⟨its, _, ⟨o, g, c, n, d⟩, _⟩ := I.tuple hs
    have it : s.heap.IsTuple p its.toArray := ⟨o, g, c, n, d⟩
    refine SeqAt.eq_tupleAt (e := fun _ => true) it it hu (fun j _ _ => SeqAt.EqAt.same _) ?_
    rw [show ((List.range (min its.toArray.size its.toArray.size)).all (fun _ => true) && its.toArray.size == its.toArray.size) = true from by simp]
    exact ⟨.bl true, H, I, rfl, q⟩

end L2

set_option maxRecDepth 100000
namespace L2
open PySem PySem.Spec PyProof.Rows XL
theorem ifP {b : Bool} {A B : Prop} (h : b = true) (q : A) : if b = true then A else B := by
  rw [if_pos h]
  exact q
theorem ifN {b : Bool} {A B : Prop} (h : b = false) (q : B) : if b = true then A else B := by
  rw [if_neg (by rw [h]; decide)]
  exact q
end L2

set_option maxRecDepth 100000
namespace L2
open PySem PySem.Spec PyProof.Rows XL
section
variable {X : Cx}
theorem op_le_str : OpR X (compareOp .LtE) (fun x y H Q => ∃ i j, x = .str i ∧ y = .str j ∧ Q (.bl (!decide (j.cps.toList < i.cps.toList))) H) := by
  intro pins s σ H x y v u Q I rx ry h
  obtain ⟨i, j, rfl, rfl, q⟩ := h
  obtain ⟨t, rfl⟩ := rx
  obtain ⟨t', rfl⟩ := ry
  exact PySem.P.le_str (fin_bl I q rfl)
/-! ### range objects -/
theorem call_range2 : CallR X (.type "range") (fun xs H Q => ∃ i j, xs = [.int i, .int j] ∧ ∀ p, H p = none → Q (.ref p) (upd H p (.rng i j))) := by
  intro pins s σ H xs us Q I r h
  obtain ⟨i, j, rfl, q⟩ := h
  obtain ⟨u, w', rfl, ⟨t, rfl⟩, ⟨t', rfl⟩⟩ := vals2 r
  refine call_range_2 ⟨.ref s.heap.objs.size, _, I.laid (t' := s.toks + 1) (fun b o e => Heap.get?_push_of_some _ e) (Nat.le_refl _) (show ObjOk X.prog X.w _ _ _ (.rng i j) from ⟨_, _, _, Heap.get?_push_size _ rfl⟩), rfl, q _ (I.hok.fresh (Nat.le_refl _))⟩
end
end L2

set_option maxRecDepth 100000
namespace L2
open PySem PySem.Spec PyProof.Rows
variable {q0 : Bool}
section
variable {X : Cx}
theorem vals_of : ∀ {us : List Value} {ys : List V}, us.length = ys.length → (∀ (j : Nat) (y : V) (u : Value), ys[j]? = some y → us[j]? = some u → RelV y u) → Vals ys us
  | [], [], _, _ => .nil
  | u :: us, y :: ys, hl, h => .cons (h 0 y u rfl rfl) (vals_of (Nat.succ.inj hl) fun j y' u' e e' => h (j + 1) y' u' e e')
/-- the items of range(lo, hi) -/
def rngL (lo hi : Int) : List V := (List.range (hi - lo).toNat).map fun (i : Nat) => V.int (lo + (i : Int))
theorem call_list_rng (hc : X.calm = true) : CallR X (.type "list") (fun xs H Q => ∃ p lo hi, xs = [.ref p] ∧ H p = some (.rng lo hi) ∧ (-(2 ^ 62) ≤ lo ∧ lo < 2 ^ 62 ∧ -(2 ^ 62) ≤ hi ∧ hi < 2 ^ 62) ∧ (hi - lo).toNat ≤ 1000 ∧
    ∀ l, H l = none → Q (.ref l) (upd H l (.lst (rngL lo hi)))) := by
  intro pins s σ H xs us Q I r h
  obtain ⟨p, lo, hi, rfl, hp, ⟨h1, h2, h3, h4⟩, hn, q⟩ := h
  obtain ⟨u, rfl, rx⟩ := vals1 r
  cases rx
  obtain ⟨t1, t2, t3, g⟩ := (show ObjOk X.prog X.w H s.heap p (.rng lo hi) from I.hok p _ hp)
  refine call_list_range (I.ok.hd hc) g (small_one h1 h2 h3 h4) (n := (hi - lo).toNat) (by rw [rangeSize_one]; split <;> omega) (Nat.le_trans hn (by decide)) fun h' tk acc' c' kp e it => ?_
  have len : acc'.toList.length = (rngL lo hi).length := by rw [rngL, List.length_map, List.length_range]; exact it.1
  refine ⟨.ref s.heap.objs.size, _, I.laid (t' := tk) kp (Nat.le_refl _) (show ObjOk X.prog X.w _ h' _ (.lst (rngL lo hi)) from ⟨?_, acc'.toList, c', vals_of len fun j y u ey eu => ?_, by simpa using e⟩), rfl, q _ (I.hok.fresh (Nat.le_refl _))⟩
  · rw [rngL, List.length_map, List.length_range]
    exact Nat.le_trans hn (by decide)
  · have eu' : acc'[j]? = some u := by simpa using eu
    obtain ⟨t, e2⟩ := it.2 j u eu'
    have lt : j < (hi - lo).toNat := by
      have := (List.getElem?_eq_some_iff.mp ey).1
      simpa [rngL] using this
    rw [rngL, List.getElem?_map, List.getElem?_range lt] at ey
    cases ey
    exact ⟨t, by rw [e2, Int.mul_one]⟩
end
end L2

set_option maxRecDepth 100000
namespace L2
open PySem PySem.Spec PyProof.Rows
variable {q0 : Bool}
/-! ### a def (or method) with defaults: T is the tuple of them -/
structure FunD (K : PySem.W.Frag) (x qual : Str) (st : Stmt) (T f : Addr) (fd : FuncData) : Prop where
  ex : ∃ (oc : Value) (od : Option Addr) (kV doc pm : Value) (an : Option Addr) (cdv ct : Value) (osl : Array (Option Value)),
    fd = PySem.W.fnOf x qual (defArgs st) (defBody st) (defScope st) (.ref T) kV doc pm an cdv ct ∧ K.lookup f = some ⟨oc, od, .func fd, osl⟩ ∧ PySem.W.codeIn K cdv qual = true
  kp : PySem.W.keepIn K (.ref f) = true
section
variable {P : Program} {w : World} {K : PySem.W.Frag} {mg : Str → Option Value} {base : Heap}
theorem FunD.okx {x qual : Str} {st : Stmt} {T f : Addr} {fd : FuncData} {N ps : List Str} {k : Nat} {sp : Sp} (F : FunD K x qual st T f fd) (S : FnScope N ps (defScope st)) (len : ∀ vs H Q E, sp vs H Q E → vs.length = ps.length)
    (hbody : ∀ (cdv : Value) (A : Around) (outer : List Env) (s : Shared) (H : Hp) (vs : List V) (Q : VK) (E : XK), Room q0 k (A.deeper (envOfC qual (defScope st) s.heap.objs.size f cdv)) → sp vs H Q E →
      ∃ t, PSs (cxOf q0 (CXo P w) P w K mg base N qual (defScope st) f cdv A outer s H E) (defBody st) t ∧ t { nx := fun _ H' => Q .non H', rt := Q } (start N vs) H) : FnOk q0 P w K mg base (CXo P w) (k + 1) f fd ps sp := by
  obtain ⟨oc, od, kV, doc, pm, an, cdv, ct, osl, rfl, lk, hcd⟩ := F.ex
  exact fn_of lk hcd S len fun A outer s H vs Q E hr hsp => hbody cdv A outer s H vs Q E hr hsp
theorem FunD.okn {x qual : Str} {st : Stmt} {T f : Addr} {fd : FuncData} {N ps : List Str} {k : Nat} {sp : Sp} (F : FunD K x qual st T f fd) (S : FnScope N ps (defScope st)) (len : ∀ vs H Q E, sp vs H Q E → vs.length = ps.length)
    (hbody : ∀ (cdv : Value) (A : Around) (outer : List Env) (s : Shared) (H : Hp) (vs : List V) (Q : VK) (E : XK), Room q0 k (A.deeper (envOfC qual (defScope st) s.heap.objs.size f cdv)) → sp vs H Q E →
      ∃ t, PSs (cxOf q0 (CXo P w) P w K mg base N qual (defScope st) f cdv A outer s H E).nox (defBody st) t ∧ t { nx := fun _ H' => Q .non H', rt := Q } (start N vs) H) : FnOk q0 P w K mg base (CXo P w) (k + 1) f fd ps sp := by
  obtain ⟨oc, od, kV, doc, pm, an, cdv, ct, osl, rfl, lk, hcd⟩ := F.ex
  refine fn_of lk hcd S len fun A outer s H vs Q E hr hsp => ?_
  obtain ⟨t, h, q⟩ := hbody cdv A outer s H vs Q E hr hsp
  exact ⟨t, h.nox, q⟩
/-- how it binds, m arguments written, the last ones from the tuple: h is «fun _ _ _ _ _ _ us hl => match us, hl with | [_, _], _ => ⟨_, rfl, rfl⟩», one _ an argument that is written; ds := [] where all are -/
theorem FunD.binds {x qual : Str} {st : Stmt} {T f : Addr} {fd : FuncData} {ps : List Str} {o : Obj} {items : Array Value} {n : Nat} {ds : List Value} (F : FunD K x qual st T f fd) (ho : K.lookup T = some o) (hs : o.data = .seq items n) (m : Nat) (hm : m + ds.length = ps.length)
    (h : ∀ (kV doc pm : Value) (an : Option Addr) (cdv ct : Value) (us : List Value), us.length = m →
      ∃ k, bindArgs (PySem.W.fnOf x qual (defArgs st) (defBody st) (defScope st) (.ref T) kV doc pm an cdv ct) ⟨us, []⟩ = seqItems? (.ref T) >>= k ∧ k (some items) = pure (ps.zip (us ++ ds))) : Binds K fd ps ds := by
  obtain ⟨oc, od, kV, doc, pm, an, cdv, ct, osl, rfl, lk, hcd⟩ := F.ex
  intro s us hK hl
  rw [List.length_append] at hl
  obtain ⟨k, h1, h2⟩ := h kV doc pm an cdv ct us (by omega)
  exact BindsTo.of_defaults rfl (hK _ _ ho) hs h1 h2
theorem fund_mk {x qual : Str} {st : Stmt} {T f : Addr} {oc : Value} {od an : Option Addr} {osl : Array (Option Value)} {kV doc pm cdv ct : Value} (l : K.lookup f = some ⟨oc, od, .func (PySem.W.fnOf x qual (defArgs st) (defBody st) (defScope st) (.ref T) kV doc pm an cdv ct), osl⟩)
    (c : PySem.W.codeIn K cdv qual = true) (k : PySem.W.keepIn K (.ref f) = true) : FunD K x qual st T f (PySem.W.fnOf x qual (defArgs st) (defBody st) (defScope st) (.ref T) kV doc pm an cdv ct) := ⟨⟨oc, od, kV, doc, pm, an, cdv, ct, osl, rfl, l, c⟩, k⟩
end
end L2

set_option maxRecDepth 100000
namespace L2
open PySem PySem.Spec PyProof.Rows XL
variable {q0 : Bool}
/-! ### list comprehensions: one clause, any target of names -/
abbrev Cx.blkG (X : Cx) (scope : Scope) (zs : List Str) (ys : List Str) (C : Addr) (ex : List Addr) (s : Shared) (H : Hp) (pn : List (Addr × Obj)) : Cx where
  prog := X.prog
  w := X.w
  K := X.K
  mg := X.mg
  base := X.base
  A := X.A
  N := zs ++ ys
  s₀ := s
  H₀ := H
  env := compEnvC scope (X.clo scope) C X.env
  outer := X.stack
  stack := X.stack
  ex := ex
  fn := fun _ => false
  calm := X.calm
  pn := pn
  xe := fun _ _ => False

theorem compLoop_testsG {prog : Program} {w : World} {A : Around} {R : Result → Shared → Prop} {s : Shared} {elt target iter : Expr} {ifs : List Expr} {scope : Scope} {pos : Pos} {it acc : Value} {env : Env} (I : Nat → Shared → Prop)
    (turn : ∀ n s, I n s → wpAny (model prog w) A (pyNext it) (fun r s₁ => match r with
      | none => R (.ok .next) s₁
      | some v => wpAny (model prog w) A (letOwnedTupleGo target it v) (fun _ s₀ => wpAny (model prog w) A (assign target env v) (fun _ s₂ =>
          wpAny (model prog w) A (forIn ifs true fun c r => if r = true then do let ok ← isTrue c env (eval c env); pure (ForInStep.yield ok) else pure (ForInStep.yield r)) (fun ok s₃ =>
            if ok = true then wpAny (model prog w) A (eval elt env) (fun x s₄ =>
              wpAny (model prog w) A (call (.builtin "list.append") [acc, x]) (fun _ s₅ => ∃ m, m < n ∧ I m s₅) (notedBy (model prog w) A env fun e s' => R (.error e) s') s₄) (notedBy (model prog w) A env fun e s' => R (.error e) s') s₃
            else ∃ m, m < n ∧ I m s₃) (notedBy (model prog w) A env fun e s' => R (.error e) s') s₂) (notedBy (model prog w) A env fun e s' => R (.error e) s') s₀) (notedBy (model prog w) A env fun e s' => R (.error e) s') s₁) (notedBy (model prog w) A env fun e s' => R (.error e) s') s)
    (n : Nat) (h : I n s) : codeAny (model prog w) A (.compLoop (.ListComp elt [⟨target, iter, ifs, 0⟩] scope pos) 0 it acc env) R s := by
  refine codeAny_loop rfl I (fun n s hI => ?_) n h
  show wpAny _ A ((compTurn (.ListComp elt [⟨target, iter, ifs, 0⟩] scope pos) 0 it acc env).onRaise (fun x => do noteFrame x env; theTreesLotGoes x)) _ _ s
  refine wpAny_noted ?_
  rw [compTurn_list]
  refine wpAny_bind (wpAny_standAt (wpAny_bind (wpAny_mono (turn n s hI) (fun r s₁ h₁ => ?_) fun _ _ h' => h')))
  cases r with
  | none => exact wpAny_pure h₁
  | some v =>
    refine wpAny_bind (wpAny_mono h₁ (fun _ s₀ h₀ => wpAny_bind (wpAny_mono h₀ (fun _ s₂ h₂ => wpAny_bind (wpAny_mono h₂ (fun ok s₃ h₃ => ?_) fun _ _ h' => h')) fun _ _ h' => h')) fun _ _ h' => h')
    cases ok with
    | false => exact wpAny_pure ⟨rfl, h₃⟩
    | true =>
      exact wpAny_bind (wpAny_bind (wpAny_mono h₃ (fun x s₄ h₄ => wpAny_bind (wpAny_mono h₄ (fun _ s₅ h₅ => wpAny_pure (wpAny_pure ⟨rfl, h₅⟩)) fun _ _ h' => h')) fun _ _ h' => h'))

/-- what the block of a comprehension asks of the names, all by looking at the text: x its own name, ys names of the def that it reads, fr their slots -/
structure BlkG (X : Cx) (scope : Scope) (zs : List Str) (ys : List Str) (fr : List Nat) : Prop where
  kind : scope.kind = .function
  own : ∀ x ∈ zs, scope.names.lookup x = some .local
  ncell : ∀ y ∈ scope.names, y.2 ≠ .cell
  names : ∀ y ∈ scope.names, y.2 = .local → scope.names.lookup y.1 = some .local
  free : ∀ n ∈ frees scope, X.env.scope.names.lookup n = some .cell
  has : ∀ n, ((relabel scope X.env).names.lookup n = some .cell ∨ (relabel scope X.env).names.lookup n = some .free) → n ∈ frees scope
  slots : fr.map (fun i => X.N[i]?) = ys.map some
  ysf : ∀ y ∈ ys, y ∈ frees scope
  ysc : ∀ y ∈ ys, (relabel scope X.env).names.lookup y = some .cell ∨ (relabel scope X.env).names.lookup y = some .free
  st : X.stack = X.env :: X.outer
  nd : X.N.Nodup
  ndb : (zs ++ ys).Nodup

def blk0 (σ : St) (fr : List Nat) (n : Nat) : St := List.replicate n none ++ fr.map fun i => (σ[i]?).join

section
variable {X : Cx} {pins : List (Addr × Obj)} {σ : St} {H : Hp} {s : Shared} {scope : Scope} {zs : List Str} {ys : List Str} {fr : List Nat} {fp : List Addr}
theorem BlkG.cells (B : BlkG X scope zs ys fr) (I : Inv X pins σ H s) : ∀ n ∈ frees scope, ∃ c, X.env.cells.lookup n = some c := fun n hn => I.ok.has n (.inl (B.free n hn))
theorem BlkG.sub (B : BlkG X scope zs ys fr) (I : Inv X pins σ H s) {n : Str} {c : Addr} (h : (X.clo scope).lookup n = some c) : X.env.cells.lookup n = some c := by
  obtain ⟨a, b⟩ := clo_mem h
  obtain ⟨d, e⟩ := B.cells I n a
  rw [e] at b
  rw [b, e]
  rfl
theorem Inv.blkG {h1 : Heap} {m1 : Str → Option Value} {t' : Nat} (B : BlkG X scope zs ys fr) (I : Inv X pins σ H s) (hf : ∀ b ∈ fp, FpOk X pins H b) (hz : ∀ b ∈ fp, b < s.heap.objs.size) (n1 : h1.Ns s.heap.objs.size m1) (k1 : ∀ b o, s.heap.get? b = some o → h1.get? b = some o) :
    Inv (X.blkG scope zs ys s.heap.objs.size fp s H (X.pn ++ pins)) [] (blk0 σ fr zs.length) H { s with heap := h1, toks := t' } := by
  have sub : ∀ n c, (X.clo scope).lookup n = some c → X.env.cells.lookup n = some c := fun n c h => B.sub I h
  have cz : ∀ n c, X.env.cells.lookup n = some c → c < s.heap.objs.size := fun n c e => by
    obtain ⟨v, o, ho, _⟩ := I.cell n c e
    exact Heap.lt_size ho
  have nfs : ∀ b ∈ fp, b ∉ frs X.stack := fun b hb z => (List.mem_cons.mp (I.stkSub b z)).elim (hf b hb).2.1 (hf b hb).2.2.1
  have fz : ∀ b, b ∈ frs X.stack → b < s.heap.objs.size := fun b hb => by
    obtain ⟨_, o, ho, _⟩ := I.stack.mem hb
    exact Heap.lt_size ho
  refine ⟨⟨I.ok.mod, B.kind, I.ok.glob, I.ok.blt, Nat.le_refl _, fun y z c h1 h2 => I.ok.inj y z c (sub y c h1) (sub z c h2), fun y hy => ?_, (fun y c hy _ => nomatch hy), I.ok.hd, I.ok.frames, .inl rfl, fun b hb => ⟨?_, fun y c h => (hf b hb).2.2.2.2.1 y c (sub y c h)⟩,
      I.bs, Nat.le_trans I.ok.bsz I.sz, fun b o e hb => ?_, fun b hb => nfs b hb, I.stack, I.stkFree⟩,
    rfl, I.bare, Un.kept k1, ⟨m1, n1, fun i y v e1 e2 e3 => ?_⟩, fun y c h => ?_, I.hok.fresh (Nat.le_refl _), fun y c h => I.freeC y c (sub y c h), fun p hp => ?_, I.hok.kept k1, ?_⟩
  · obtain ⟨c, e⟩ := B.cells I y (B.has y hy)
    exact ⟨c, clo_get (B.has y hy) e⟩
  · exact Nat.ne_of_lt (hz b hb)
  · rcases (hf b hb).2.2.2.1 with z | z
    · exact I.ok.noex b o e z
    · exact absurd (Nat.lt_of_lt_of_le (Heap.lt_size (I.ok.bs b o e).1) z) (Nat.lt_irrefl _)
  · have ln : (List.replicate zs.length (none : Option V)).length = zs.length := List.length_replicate
    by_cases lt : i < zs.length
    · have e2' : (blk0 σ fr zs.length)[i]? = some (some v) := e2
      unfold blk0 at e2'
      rw [List.getElem?_append_left (by rw [ln]; exact lt), List.getElem?_replicate] at e2'
      split at e2' <;> cases e2'
    · obtain ⟨k, rfl⟩ : ∃ k, i = zs.length + k := ⟨i - zs.length, by omega⟩
      have e2' : (fr.map fun i => (σ[i]?).join)[k]? = some (some v) := by
        have z : (blk0 σ fr zs.length)[zs.length + k]? = some (some v) := e2
        unfold blk0 at z
        rw [List.getElem?_append_right (by rw [ln]; omega), ln] at z
        simpa using z
      have e1' : ys[k]? = some y := by
        have z : (zs ++ ys)[zs.length + k]? = some y := e1
        rw [List.getElem?_append_right (by omega)] at z
        simpa using z
      rw [List.getElem?_map] at e2'
      obtain ⟨j, hj, ej⟩ := Option.map_eq_some_iff.mp e2'
      have ev : σ[j]? = some (some v) := by
        cases q : σ[j]? with
        | none => rw [q] at ej; cases ej
        | some w => rw [q] at ej; exact congrArg some ej
      have eN : X.N[j]? = some y := by
        have z := congrArg (fun l => l[k]?) B.slots
        simp only [List.getElem?_map, hj, e1', Option.map_some] at z
        exact Option.some.inj z
      have my : y ∈ ys := List.mem_of_getElem? e1'
      obtain ⟨m, _, lk⟩ := I.loc
      obtain ⟨u, r, l⟩ := lk j y v eN ev (.inr (.inl (B.free y (B.ysf y my))))
      refine ⟨u, r, .inr ⟨B.ysc y my, ?_⟩⟩
      rcases l with ⟨kk, _⟩ | ⟨_, c, e, o, ho, hd⟩
      · have z := B.free y (B.ysf y my)
        rw [show X.env.scope.names.lookup y = some .local from kk] at z
        cases z
      · exact ⟨c, clo_get (B.ysf y my) e, o, k1 c o ho, hd⟩
  · obtain ⟨v, o, ho, hd⟩ := I.cell y c (sub y c h)
    exact ⟨v, o, k1 c o ho, hd⟩
  · have hp' : p ∈ X.pn ++ pins := by simpa using hp
    obtain ⟨a1, a2, a3, a4, a5⟩ := I.pin p hp'
    exact ⟨k1 _ _ a1, a2, Nat.ne_of_lt (Heap.lt_size a1), fun z => (List.mem_cons.mp (I.stkSub _ z)).elim a3 a4, a5⟩
  · have z := congrArg List.length B.slots
    simp only [List.length_map] at z
    simp [blk0, z]
end

section
variable {X : Cx} {pins : List (Addr × Obj)} {σ : St} {H : Hp} {s : Shared} {scope : Scope} {zs : List Str} {ys : List Str} {fr : List Nat} {fp : List Addr}
/-- back from the block -/
theorem Inv.unblkG {C : Addr} {s' : Shared} {h2 : Heap} {σ' : St} {H' : Hp} {pl : List (Addr × Obj)} (I : Inv X pins σ H s) (hf : ∀ b ∈ fp, FpOk X pins H b) (hC : s.heap.objs.size ≤ C) (J : Inv (X.blkG scope zs ys C fp s H (X.pn ++ pins)) pl σ' H' s') (sb : Heap.SameBut C s'.heap h2) :
    Inv X pins σ H' { s' with heap := h2 } := by
  have kp : ∀ b o, b ≠ C → s'.heap.get? b = some o → h2.get? b = some o := fun b o nb g => (sb.2 b nb).trans g
  have old : ∀ b o, s.heap.get? b = some o → b ≠ C := fun b o g => Nat.ne_of_lt (Nat.lt_of_lt_of_le (Heap.lt_size g) hC)
  have trk : ∀ b u, H' b = some u → b ≠ C := fun b u hb z => by
    have f : H' C = none := J.free
    rw [z, f] at hb
    cases hb
  refine I.call' (s' := { s' with heap := h2 }) J.os (ch := fp) ⟨fun b o e n hb hx => kp b o (old b o e) (J.base.keep b o e n hb hx), fun b o e n hb hx => ?_, fun b o e n hx => J.base.free b o e n hx, fun b o e hx => ?_, J.base.tups, J.base.frzs, J.base.tbls⟩ (fun b u hb => ?_) J.bare fun b hb => ?_
  · obtain ⟨sl, q⟩ := J.base.slot b o e n hb hx
    exact ⟨sl, kp b _ (old b o e) q⟩
  · obtain ⟨o', q⟩ := J.base.there b o e hx
    exact ⟨o', kp b o' (old b o e) q⟩
  · refine (J.hok b u hb).stay (fun c v hc q => ?_) (fun c q => q) fun c xs q => q
    rcases hc with rfl | hc
    · exact kp c v (trk c u hb) q
    · exact kp c v (trk c _ hc) q
  · obtain ⟨_, a1, _, a3, a4, a5⟩ := hf b hb
    exact ⟨a3, a1, a4, a5⟩
end

/-- a target changes its own n slots alone -/
def GOk (n : Nat) (g : TG) : Prop := ∀ v σ H Q, g v σ H Q → g v σ H (fun σ' H' => Q σ' H' ∧ σ'.length = σ.length ∧ ∀ i, n ≤ i → σ'[i]? = σ[i]?)
theorem gok_name {i n : Nat} (h : i < n) : GOk n (gName i) := fun v σ H Q q => ⟨q, by simp, fun j hj => by rw [List.getElem?_set_ne (by omega)]⟩
/-- [elt for .. in iter if c]: te, tc are read with the target's names ahead of the slots fr -/
def CompG (J : It) (n : Nat) (g : TG) (σ : St) (fr : List Nat) (tc : TT) (te : TE) (l : Addr) (H1 : Hp) (Q : VK) : Prop := ∃ W : Nat → Nat → List V → Hp → Prop, (∃ m, W 0 m [] (upd H1 l (.lst []))) ∧ ∀ i m xs H2, W i m xs H2 →
  (J.stop i H2 ∧ Q (.ref l) H2) ∨ (J.go i H2 ∧ ∀ v H3, J.yld i H2 v H3 → g v (blk0 σ fr n) H3 fun σ' H3' => tc σ' H3' fun b H4 => if b = true then
    (te σ' H4 fun y H5 => H5 l = some (.lst xs) ∧ xs.length < sizeLine ∧ ∃ m', m' < m ∧ W (i + 1) m' (xs ++ [y]) (upd H5 l (.lst (xs ++ [y])))) else ∃ m', m' < m ∧ W (i + 1) m' xs H4)
def tCompG (wi : TI) (n : Nat) (g : TG) (fr : List Nat) (tc : TT) (te : TE) : TE := fun σ H Q => wi σ H fun J H1 => ∀ l, H1 l = none → CompG J n g σ fr tc te l H1 Q
section
variable {X : Cx} {scope : Scope} {zs : List Str} {ys : List Str} {fr : List Nat} {elt iter tg : Expr} {g : TG} {ifs : List Expr} {px pos : Pos} {wi : TI} {tc : TT} {te : TE}
theorem comp_coreG {pins : List (Addr × Obj)} {s : Shared} {σ : St} {H : Hp} {Q : VK} {U : Option (Value → Sem Unit)} {R : Value → Shared → Prop} (hc : X.calm = true) (B : BlkG X scope zs ys fr) (hi : PI X tg iter wi) (hg : ∀ C ex s H pn, (∀ x ∈ zs, (relabel scope X.env).names.lookup x = some .local) → (zs ++ ys).Nodup → PG (X.blkG scope zs ys C ex s H pn) tg g) (gok : GOk zs.length g)
    (hif : ∀ C ex s H pn, PIf (X.blkG scope zs ys C ex s H pn) ifs tc) (he : ∀ C ex s H pn, PE (X.blkG scope zs ys C ex s H pn) elt te) (I : Inv X pins σ H s) (h : tCompG wi zs.length g fr tc te σ H Q)
    (fin : ∀ C l H' s' m, (X.s₀.heap.objs.size ≤ C ∧ C ≠ X.env.locals ∧ (∀ x c, X.env.cells.lookup x = some c → c ≠ C) ∧ ∀ p ∈ X.pn ++ pins, p.1 ≠ C) → H' C = none → s'.heap.Ns C m → (∀ h2, Heap.SameBut C s'.heap h2 → Inv X pins σ H' { s' with heap := h2 }) → Q (.ref l) H' → compPost (model X.prog X.w) X.A X.xe U R (.ref l) C (.ok .next) s') :
    wpAny (model X.prog X.w) X.A (eval iter X.env) (fun v s1 => wpAny (model X.prog X.w) X.A (pyIter v) (fun it s2 => wpAny (model X.prog X.w) X.A (newList []) (fun acc s3 =>
      wpAny (model X.prog X.w) X.A (newFunctionEnv scope X.env.globals (X.clo scope) [] X.env.qual none .none (some X.env)) (fun cenv s4 =>
        codeAny (model X.prog X.w) X.A (.compStart (.ListComp elt [⟨tg, iter, ifs, 0⟩] scope pos) 0 it acc { cenv with scope := relabel scope X.env }) (compPost (model X.prog X.w) X.A X.xe U R acc cenv.locals) s4) X.xe s3) X.xe s2) X.xe s1) X.xe s := by
  refine thn (hi pins s σ H _ I h) fun v s1 h1 => thn h1 fun itv s2 h2 => ?_
  obtain ⟨it, fp, tn, J, H2, rfl, I2, T, st2, f2, body⟩ := h2
  have hN : H2 s2.heap.objs.size = none := I2.hok.fresh (Nat.le_refl _)
  obtain ⟨W, ⟨m0, w0⟩, turn⟩ := body s2.heap.objs.size hN
  refine wpAny_newObj_type ?_
  generalize hs3 : ({ s2 with heap := s2.heap.push { cls := .type "list", data := .seq ([] : List Value).toArray } } : Shared) = s3
  have k3 : ∀ b o, s2.heap.get? b = some o → s3.heap.get? b = some o := fun b o g => by rw [← hs3]; exact Heap.get?_push_of_some _ g
  have I3 : Inv X pins σ (upd H2 s2.heap.objs.size (.lst [])) s3 := by
    rw [← hs3]
    exact I2.laid (t' := s2.toks) (fun b u e => Heap.get?_push_of_some _ e) (Nat.le_refl _) ⟨Nat.zero_le _, [], 0, .nil, Heap.get?_push_size _ rfl⟩
  have z2 : ∀ b ∈ fp, b < s2.heap.objs.size := fun b hb => by
    obtain ⟨o, g, _⟩ := T.obj 0 _ st2 b hb
    exact Heap.lt_size g
  have z3 : ∀ b ∈ fp, b < s3.heap.objs.size := fun b hb => by
    obtain ⟨o, g, _⟩ := T.obj 0 _ st2 b hb
    exact Heap.lt_size (k3 b o g)
  have f3 : ∀ b ∈ fp, FpOk X pins (upd H2 s2.heap.objs.size (.lst [])) b := fun b hb => ⟨by rw [upd_ne (Nat.ne_of_lt (z2 b hb))]; exact (f2 b hb).1, (f2 b hb).2⟩
  have st3 : tn 0 s3.heap := T.keep _ _ _ st2 fun b _ o g => k3 b o g
  refine wpAny_newFunctionEnv B.ncell (by intro y hy; simp at hy) (fun h1 n1 sb1 => ?_) B.kind
  have k4 : ∀ b o, s3.heap.get? b = some o → h1.get? b = some o := fun b o g => sb1.extBut b o (Nat.ne_of_lt (Heap.lt_size g)) (Heap.get?_push_of_some _ g)
  have I4 := I3.blkG (t' := s3.toks + ([] : List (Str × Value)).length) B f3 z3 n1 k4
  have st4 : tn 0 h1 := T.keep _ _ _ st3 fun b _ o g => k4 b o g
  have own' : ∀ x ∈ zs, (relabel scope X.env).names.lookup x = some .local := fun x hx => lookup_relabel_local (B.own x hx)
  -- the iterator's objects, through the loop
  have stat : ∀ {H' : Hp}, (∀ b ∈ fp, H' b = none) → ∀ b ∈ fp, FpOk (X.blkG scope zs ys s3.heap.objs.size fp s3 (upd H2 s2.heap.objs.size (.lst [])) (X.pn ++ pins)) [] H' b := fun hn b hb => by
    obtain ⟨_, a1, a2, a3, a4, a5⟩ := f3 b hb
    exact ⟨hn b hb, Nat.ne_of_lt (z3 b hb), fun z => (List.mem_cons.mp (I3.stkSub b z)).elim a1 a2, .inl hb, fun y c h => a4 y c (B.sub I3 h), fun p hp => a5 p (by simpa using hp)⟩
  have loop : ∀ s4 : Shared, s4 = { s3 with heap := h1, toks := s3.toks + ([] : List (Str × Value)).length } →
      codeAny (model X.prog X.w) X.A (.compLoop (.ListComp elt [⟨tg, iter, ifs, 0⟩] scope pos) 0 (.ref it) (.ref s2.heap.objs.size) (compEnvC scope (X.clo scope) s3.heap.objs.size X.env))
        (compPost (model X.prog X.w) X.A X.xe U R (.ref s2.heap.objs.size) s3.heap.objs.size) s4 := by
    rintro s4 rfl
    refine compLoop_testsG (fun n s' => ∃ i xs H', Inv (X.blkG scope zs ys s3.heap.objs.size fp s3 (upd H2 s2.heap.objs.size (.lst [])) (X.pn ++ pins)) [] (blk0 σ fr zs.length) H' s' ∧ tn i s'.heap ∧ (∀ b ∈ fp, H' b = none) ∧ W i n xs H') ?_ m0
      ⟨0, [], _, I4, st4, fun b hb => (f3 b hb).1, w0⟩
    rintro n s5 ⟨i, xs, H5, I5, st5, fr5, w5⟩
    rcases turn i n xs H5 w5 with ⟨stop, q⟩ | ⟨go, step⟩
    · refine wpAny_mono (T.done (X.blkG scope zs ys s3.heap.objs.size fp s3 (upd H2 s2.heap.objs.size (.lst [])) (X.pn ++ pins)) rfl rfl rfl hc i [] s5 _ H5 (fun _ _ => False) I5 (stat fr5) st5 stop) (fun r s6 ⟨hr, I6⟩ => ?_) fun _ _ z => z.elim
      subst hr
      obtain ⟨m, hm, _⟩ := I6.loc
      exact fin _ _ H5 s6 m ⟨I3.sz, (I3.size_lt (Nat.le_refl _)).2⟩ I6.free hm (fun h2 sb => I3.unblkG f3 (Nat.le_refl _) I6 sb) q
    · refine wpAny_mono (T.item (X.blkG scope zs ys s3.heap.objs.size fp s3 (upd H2 s2.heap.objs.size (.lst [])) (X.pn ++ pins)) rfl rfl rfl hc i [] s5 _ H5 (fun _ _ => False) I5 (stat fr5) st5 go) (fun r s6 ⟨u, hr, h6⟩ => ?_) fun _ _ z => z.elim
      subst hr
      refine wpAny_mono h6 (fun _ s7 ⟨y, H7, I7, r7, y7, st7, fr7⟩ => ?_) fun _ _ z => z.elim
      have I7' := I7.pinned (stat fr7) (T.obj _ _ st7)
      refine wpAny_mono (hg _ _ _ _ _ own' B.ndb _ s7 _ H7 y u _ I7' r7 (gok _ _ _ _ (step y H7 y7))) (fun _ s8 ⟨σ8, H8, I8, q8, l8, k8⟩ => ?_) fun _ _ z => z.elim
      have back : ∀ {s9 : Shared} {H9 : Hp} {xs' : List V}, Inv (X.blkG scope zs ys s3.heap.objs.size fp s3 (upd H2 s2.heap.objs.size (.lst [])) (X.pn ++ pins)) ([] ++ pinsAt fp s7.heap) σ8 H9 s9 → (∃ m', m' < n ∧ W (i + 1) m' xs' H9) →
          ∃ m, m < n ∧ ∃ i xs H', Inv (X.blkG scope zs ys s3.heap.objs.size fp s3 (upd H2 s2.heap.objs.size (.lst [])) (X.pn ++ pins)) [] (blk0 σ fr zs.length) H' s9 ∧ tn i s9.heap ∧ (∀ b ∈ fp, H' b = none) ∧ W i m xs H' := fun {s9 H9 xs'} I9 ⟨m', lt, w9⟩ => by
        refine ⟨m', lt, i + 1, xs', H9, I9.unpinned.weak l8.symm (fun j v e => ?_), T.keep _ _ _ st7 fun b hb o e => (I9.pin (b, o) (List.mem_append_right _ (List.mem_append_right _ (mem_pinsAt hb e)))).1, fun b hb => ?_, w9⟩
        · by_cases lj : j < zs.length
          · unfold blk0 at e
            rw [List.getElem?_append_left (by rw [List.length_replicate]; exact lj), List.getElem?_replicate] at e
            split at e <;> cases e
          · rw [k8 j (by omega)]
            exact e
        obtain ⟨o, e, d⟩ := T.obj _ _ st7 b hb
        exact (I9.pin (b, o) (List.mem_append_right _ (List.mem_append_right _ (mem_pinsAt hb e)))).2.1
      refine wpAny_mono (hif _ _ _ _ _ _ s8 _ H8 _ I8 q8) (fun ok s9 ⟨H9, I9, q9⟩ => ?_) fun _ _ z => z.elim
      cases ok with
      | false =>
        rw [if_neg (by decide)] at q9 ⊢
        exact back I9 q9
      | true =>
        rw [if_pos rfl] at q9 ⊢
        refine wpAny_mono (he _ _ _ _ _ _ s9 _ H9 _ I9 q9) (fun ev s10 ⟨yv, H10, I10, r10, hl, len, w10⟩ => ?_) fun _ _ z => z.elim
        refine wpAny_mono (mt_append (X := X.blkG scope zs ys s3.heap.objs.size fp s3 (upd H2 s2.heap.objs.size (.lst [])) (X.pn ++ pins)) _ s10 _ H10 (.ref s2.heap.objs.size) [yv] (.ref s2.heap.objs.size) [ev] (fun v H' => H' = upd H10 s2.heap.objs.size (.lst (xs ++ [yv]))) I10 rfl (.cons r10 .nil) ⟨_, xs, yv, rfl, rfl, hl, len, rfl⟩)
          (fun _ s11 ⟨_, H11, I11, _, e11⟩ => ?_) fun _ _ z => z.elim
        subst e11
        exact back I11 w10
  exact codeAny_compStart_list (loop _ rfl) (T.self _ 0 _ _ _ st4 (loop _ rfl))

theorem pe_compG (hc : X.calm = true) (B : BlkG X scope zs ys fr) (hi : PI X tg iter wi) (hg : ∀ C ex s H pn, (∀ x ∈ zs, (relabel scope X.env).names.lookup x = some .local) → (zs ++ ys).Nodup → PG (X.blkG scope zs ys C ex s H pn) tg g) (gok : GOk zs.length g) (hif : ∀ C ex s H pn, PIf (X.blkG scope zs ys C ex s H pn) ifs tc) (he : ∀ C ex s H pn, PE (X.blkG scope zs ys C ex s H pn) elt te)
    (hs : ∀ x, foldedSetIterable iter X.env x = pure x := by intro _; rfl) : PE X (.ListComp elt [⟨tg, iter, ifs, 0⟩] scope pos) (tCompG wi zs.length g fr tc te) := by
  intro pins s σ H Q I h
  rw [eval_ListComp]
  refine wpAny_comprehension_free (use := none) rfl hs (clo_of (B.cells I)) B.kind B.names (comp_coreG hc B hi hg gok hif he I h fun C l H' s' m _ _ hm iv q => ?_)
  exact ⟨m, hm, fun h2 sb => ⟨.ref l, H', iv h2 sb, rfl, q⟩⟩
/-- y = [elt for x in iter if c] -/
theorem ps_setcG {j : Nat} {y : Str} {py spos : Pos} (hc : X.calm = true) (B : BlkG X scope zs ys fr) (hi : PI X tg iter wi) (hg : ∀ C ex s H pn, (∀ x ∈ zs, (relabel scope X.env).names.lookup x = some .local) → (zs ++ ys).Nodup → PG (X.blkG scope zs ys C ex s H pn) tg g) (gok : GOk zs.length g) (hif : ∀ C ex s H pn, PIf (X.blkG scope zs ys C ex s H pn) ifs tc) (he : ∀ C ex s H pn, PE (X.blkG scope zs ys C ex s H pn) elt te)
    (hj : X.N[j]? = some y) (hy : Loc X.env.scope y) (hf : X.fn y = true ∨ X.env.scope.names.lookup y = some .local := by first | exact .inl rfl | exact .inr rfl | assumption)
    (hsw : swapsWith (.ListComp elt [⟨tg, iter, ifs, 0⟩] scope pos) (some (.Name y py)) spos.line X.env = pure true := by rfl)
    (hs : ∀ x, foldedSetIterable iter X.env x = pure x := by intro _; rfl) : PS X (.Assign [.Name y py] (.ListComp elt [⟨tg, iter, ifs, 0⟩] scope pos) spos) (tAsg (tCompG wi zs.length g fr tc te) (gName j)) := by
  intro pins s σ H D I h
  rw [exec_Assign_Name_used _ _ _ _ hsw]
  refine wpAny_bind (wpAny_standAt (wpAny_bind ?_))
  show wpAny _ _ (do let _ ← comprehension (.ListComp elt [⟨tg, iter, ifs, 0⟩] scope pos) scope X.env _ (newList []) false (eval iter X.env) (some (assign (.Name y py) X.env))) _ _ s
  refine wpAny_bind (wpAny_mono (wpAny_comprehension_free (use := some (assign (.Name y py) X.env)) (Q := fun _ s' => SP X pins D .next s') rfl hs (clo_of (B.cells I)) B.kind B.names
    (comp_coreG hc B hi hg gok hif he I h fun C l H' s' m hC hn hm iv q => ?_)) (fun _ s' z => wpAny_pure (wpAny_pure z)) fun _ _ e => e)
  show wpAny _ _ (assign (.Name y py) X.env (.ref l)) _ _ _
  have J : Inv X pins σ H' s' := iv s'.heap (.refl ..)
  refine wpAny_assign_Name (store_ok2 (v := V.ref l) J B.nd hj hy rfl (fun s2 J2 ⟨a, sb, ha⟩ => ?_) hf)
  have na : a ≠ C := by
    rcases ha with z | z
    · rw [z]; exact Ne.symm hC.2.1
    · exact hC.2.2.1 _ _ z
  refine ⟨m, ?_, fun h2 s3 => ?_⟩
  · obtain ⟨o, es, ep, g, r⟩ := hm
    exact ⟨o, es, ep, (sb.2 C (Ne.symm na)).trans g, r⟩
  · exact ⟨_, H', J2.turned (t' := s2.toks) (fun b o nb g => (s3.2 b nb).trans g) hn (hC.2.1) (.inr hC.1) hC.2.2.1 hC.2.2.2, q⟩
end


/-- all that is asked of a comprehension's names, by looking -/
def blkOkG (scope sc0 : Scope) (N0 : List Str) (zs : List Str) (ys : List Str) (fr : List Nat) : Bool :=
  scope.kind == .function && zs.all (fun x => scope.names.lookup x == some .local) && scope.names.all (fun y => y.2 != .cell) && scope.names.all (fun y => y.2 != .local || scope.names.lookup y.1 == some .local) &&
  (frees scope).all (fun n => sc0.names.lookup n == some .cell) && fr.map (fun i => N0[i]?) == ys.map some && ys.all (fun y => scope.names.lookup y == some .free) && decide N0.Nodup && decide (zs ++ ys).Nodup
theorem blkG_of {X : Cx} {scope sc0 : Scope} {N0 : List Str} {zs : List Str} {ys : List Str} {fr : List Nat} (chk : blkOkG scope sc0 N0 zs ys fr = true) (es : X.env.scope = sc0) (eN : X.N = N0) (st : X.stack = X.env :: X.outer) : BlkG X scope zs ys fr := by
  unfold blkOkG at chk
  simp only [Bool.and_eq_true, beq_iff_eq, List.all_eq_true, decide_eq_true_eq] at chk
  obtain ⟨⟨⟨⟨⟨⟨⟨⟨a1, a2⟩, a3⟩, a4⟩, a5⟩, a6⟩, a7⟩, a8⟩, a9⟩ := chk
  have nc : ∀ y ∈ scope.names, y.2 ≠ .cell := fun y hy => by simpa using a3 y hy
  refine ⟨a1, a2, nc, fun y hy hl => ?_, fun n hn => by rw [es]; exact a5 n hn, fun n h => relab_has nc n h, by rw [eN]; exact a6, fun y hy => ?_, fun y hy => relab_free (a7 y hy), st, by rw [eN]; exact a8, a9⟩
  · have z := a4 y hy
    rw [hl] at z
    simpa using z
  · exact List.mem_map.mpr ⟨(y, .free), List.mem_filter.mpr ⟨PySem.mem_of_lookup (a7 y hy), by simp⟩, rfl⟩
/-- a tuple of names, by their slots -/
theorem gok_tup {K : PySem.W.Frag} {m n : Nat} {t : TGs} (h : ∀ vs σ H Q, t vs σ H Q → t vs σ H (fun σ' H' => Q σ' H' ∧ σ'.length = σ.length ∧ ∀ i, n ≤ i → σ'[i]? = σ[i]?)) : GOk n (gTup K m t) := fun v σ H Q q => by
  obtain ⟨a, xs, e, hs, hl, q⟩ := q
  exact ⟨a, xs, e, hs, hl, h _ _ _ _ q⟩
theorem goks_nil {n : Nat} : ∀ vs σ H Q, gNil vs σ H Q → gNil vs σ H (fun σ' H' => Q σ' H' ∧ σ'.length = σ.length ∧ ∀ i, n ≤ i → σ'[i]? = σ[i]?) := fun vs σ H Q q => ⟨q.1, q.2, rfl, fun _ _ => rfl⟩
theorem goks_cons {i n : Nat} (hi : i < n) {t : TGs} (h : ∀ vs σ H Q, t vs σ H Q → t vs σ H (fun σ' H' => Q σ' H' ∧ σ'.length = σ.length ∧ ∀ i, n ≤ i → σ'[i]? = σ[i]?)) :
    ∀ vs σ H Q, gCons (gName i) t vs σ H Q → gCons (gName i) t vs σ H (fun σ' H' => Q σ' H' ∧ σ'.length = σ.length ∧ ∀ i, n ≤ i → σ'[i]? = σ[i]?) := fun vs σ H Q q => by
  obtain ⟨v, r, e, q⟩ := q
  refine ⟨v, r, e, ?_⟩
  have z := h _ _ _ _ q
  have e2 : ∀ (j : Nat), n ≤ j → (σ.set i (some v))[j]? = σ[j]? := fun j hj => by rw [List.getElem?_set_ne (by omega)]
  have e1 : (σ.set i (some v)).length = σ.length := by simp
  have key : (fun σ' H' => Q σ' H' ∧ σ'.length = (σ.set i (some v)).length ∧ ∀ j, n ≤ j → σ'[j]? = (σ.set i (some v))[j]?) = (fun σ' (H' : Hp) => Q σ' H' ∧ σ'.length = σ.length ∧ ∀ j, n ≤ j → σ'[j]? = σ[j]?) := by
    funext σ' H'
    rw [e1]
    refine propext ⟨fun ⟨a, b, c⟩ => ⟨a, b, fun j hj => (c j hj).trans (e2 j hj)⟩, fun ⟨a, b, c⟩ => ⟨a, b, fun j hj => (c j hj).trans (e2 j hj).symm⟩⟩
  rw [key] at z
  exact z
/-- a comprehension by its invariant -/
theorem compG_by {J : It} {n : Nat} {g : TG} {σ : St} {fr : List Nat} {tc : TT} {te : TE} {l : Addr} {H1 : Hp} {Q : VK} (len : Nat) (Pv : Nat → List V → Hp → Prop) (h0 : Pv 0 [] (upd H1 l (.lst []))) (hgo : ∀ i xs H, i < len → Pv i xs H → J.go i H)
    (step : ∀ i xs H2 v H3, i < len → Pv i xs H2 → J.yld i H2 v H3 → ∀ N : List V → Hp → Prop, (∀ xs' H', Pv (i + 1) xs' H' → N xs' H') → g v (blk0 σ fr n) H3 fun σ' H3' => tc σ' H3' fun b H4 => if b = true then
      (te σ' H4 fun y H5 => H5 l = some (.lst xs) ∧ xs.length < sizeLine ∧ N (xs ++ [y]) (upd H5 l (.lst (xs ++ [y])))) else N xs H4)
    (fin : ∀ xs H2, Pv len xs H2 → J.stop len H2 ∧ Q (.ref l) H2) : CompG J n g σ fr tc te l H1 Q := by
  refine ⟨fun i m xs H => m = len - i ∧ i ≤ len ∧ Pv i xs H, ⟨len, by simp, Nat.zero_le _, h0⟩, ?_⟩
  rintro i m xs H2 ⟨rfl, hi, p⟩
  by_cases lt : i < len
  · exact .inr ⟨hgo i xs H2 lt p, fun v H3 y => step i xs H2 v H3 lt p y (fun xs' H' => ∃ m', m' < len - i ∧ m' = len - (i + 1) ∧ i + 1 ≤ len ∧ Pv (i + 1) xs' H') fun xs' H' q => ⟨_, by omega, rfl, lt, q⟩⟩
  · have e : i = len := by omega
    subst e
    exact .inl (fin xs H2 p)
end L2

set_option maxRecDepth 100000
namespace L2
open PySem PySem.Spec PyProof.Rows XL
variable {q0 : Bool}
section
variable {X : Cx} {pins : List (Addr × Obj)} {σ : St} {H : Hp} {s : Shared}
/-- a new object that was not tracked is tracked -/
theorem Inv.adopt {p : Addr} {o : HO} (I : Inv X pins σ H s) (n : H p = none) (h0 : X.s₀.heap.objs.size ≤ p) (hL : p ≠ X.env.locals) (hC : ∀ x c, X.env.cells.lookup x = some c → c ≠ p) (hp : ∀ q ∈ X.pn ++ pins, q.1 ≠ p)
    (new : ObjOk X.prog X.w (upd H p o) s.heap p o) : Inv X pins σ (upd H p o) s := by
  have ne : ∀ b u, H b = some u → b ≠ p := fun b u e => ne_of_none e n
  refine ⟨I.ok, I.os, I.bare, ⟨I.base.keep, I.base.slot, fun b ob e hn hx => ?_, I.base.there, fun b xs e => ?_, fun b ob u e => ?_, fun b ps e => ?_⟩, I.loc, I.cell, ?_, fun x c e => ?_, fun q hq => ?_, fun b u e => ?_, I.len⟩
  · rw [upd_ne (Nat.ne_of_lt (Nat.lt_of_lt_of_le (Heap.lt_size e) h0))]
    exact I.base.free b ob e hn hx
  · have z := I.base.tups b xs e
    rw [upd_ne (ne b _ z)]
    exact z
  · have z := I.base.frzs b ob u e
    rw [upd_ne (ne b _ z)]
    exact z
  · obtain ⟨m, z⟩ := I.base.tbls b ps e
    exact ⟨m, by rw [upd_ne (ne b _ z)]; exact z⟩
  · rw [upd_ne (Ne.symm hL)]
    exact I.free
  · rw [upd_ne (hC x c e)]
    exact I.freeC x c e
  · obtain ⟨a1, a2, a3⟩ := I.pin q hq
    exact ⟨a1, by rw [upd_ne (hp q hq)]; exact a2, a3⟩
  · by_cases hb : b = p
    · subst hb
      rw [upd_same] at e
      cases e
      exact new
    · rw [upd_ne hb] at e
      exact (I.hok b u e).stay (fun c v _ q => q) (fun c q => by rw [upd_ne (ne c _ q)]; exact q) fun c xs q => by rw [upd_ne (ne c _ q)]; exact q
/-- what was frozen here is thawed -/
theorem Inv.thaw {d : Addr} {o : Obj} {u : HO} (I : Inv X pins σ H s) (e : H d = some (.frz o u)) (nf : ∀ o' u', X.H₀ d ≠ some (.frz o' u')) : Inv X pins σ (upd H d u) s := by
  have ne : ∀ b v, H b = some v → (∀ o' u', v ≠ .frz o' u') → b ≠ d := fun b v h1 h2 z => by
    subst z
    rw [e] at h1
    cases h1
    exact h2 _ _ rfl
  have ne0 : ∀ b, H b = none → b ≠ d := fun b h1 z => by
    subst z
    rw [e] at h1
    cases h1
  refine ⟨I.ok, I.os, I.bare, ⟨I.base.keep, I.base.slot, fun b ob q hn hx => ?_, I.base.there, fun b xs q => ?_, fun b ob v q => ?_, fun b ps q => ?_⟩, I.loc, I.cell, ?_, fun x c q => ?_, fun p hp => ?_, fun b v q => ?_, I.len⟩
  · have z := I.base.free b ob q hn hx
    rw [upd_ne (ne0 b z)]
    exact z
  · have z := I.base.tups b xs q
    rw [upd_ne (ne b _ z (fun _ _ h => nomatch h))]
    exact z
  · have z := I.base.frzs b ob v q
    have hb : b ≠ d := fun w => by
      subst w
      exact nf _ _ q
    rw [upd_ne hb]
    exact z
  · obtain ⟨m, z⟩ := I.base.tbls b ps q
    exact ⟨m, by rw [upd_ne (ne b _ z (fun _ _ h => nomatch h))]; exact z⟩
  · rw [upd_ne (ne0 _ I.free)]
    exact I.free
  · rw [upd_ne (ne0 _ (I.freeC x c q))]
    exact I.freeC x c q
  · obtain ⟨a1, a2, a3⟩ := I.pin p hp
    exact ⟨a1, by rw [upd_ne (ne0 _ a2)]; exact a2, a3⟩
  · have st : ∀ (a : Addr) (v : HO), ObjOk X.prog X.w H s.heap a v → ObjOk X.prog X.w (upd H d u) s.heap a v := fun a v k =>
      k.stay (fun c v _ q => q) (fun c q => by rw [upd_ne (ne c _ q (fun _ _ h => nomatch h))]; exact q) fun c xs q => by rw [upd_ne (ne c _ q (fun _ _ h => nomatch h))]; exact q
    by_cases hb : b = d
    · subst hb
      rw [upd_same] at q
      cases q
      obtain ⟨g, ok⟩ := I.hok b _ e
      exact st _ _ ok
    · rw [upd_ne hb] at q
      exact st _ _ (I.hok b v q)
theorem Inv.nofrz {d : Addr} {kvs : List (Key × V)} (I : Inv X pins σ H s) (e : H d = some (.dK kvs)) : ∀ o' u', X.H₀ d ≠ some (.frz o' u') := fun o' u' z => by
  have q := I.base.frzs d o' u' z
  rw [e] at q
  cases q
theorem KV.get : ∀ {kvs : List (Key × V)} {vs : List (Key × Value)} {i : Nat} {k : Key} {x : V}, KV kvs vs → kvs[i]? = some (k, x) → ∃ u, vs[i]? = some (k, u) ∧ RelV x u
  | _, _, _, _, _, .nil, e => by simp at e
  | _, (_, _) :: _, 0, _, _, .cons r _, e => by
    simp at e
    subst e
    obtain ⟨r1, r2⟩ := r
    dsimp only at r1 r2
    subst r1
    exact ⟨_, rfl, r2⟩
  | _, _, i + 1, k, x, .cons _ t, e => by
    obtain ⟨u, h1, h2⟩ := KV.get (i := i) (k := k) (x := x) t (by simpa using e)
    exact ⟨u, by simpa using h1, h2⟩
theorem kV_rel {P : Program} {w : World} {k : Key} {u : Value} (h : (mixKind P w).is k u = true) : RelV (kV k) u := by
  rcases keyIs_shape (show keyIs k u = true from h) with ⟨i, t, rfl, rfl⟩ | ⟨x, t, rfl, rfl⟩
  · exact ⟨t, rfl⟩
  · exact ⟨t, rfl⟩
theorem frz_at {d : Addr} {o : Obj} {kvs : List (Key × V)} {ep : Nat} (I : Inv X pins σ H s) (e : H d = some (.frz o (.dK kvs))) (hep : ∃ es, o.data = .dict es ep) : ∃ vs, KV kvs vs ∧ s.heap.DictAt (mixKind X.prog X.w) d vs ep := by
  obtain ⟨g, _, _, vs, rel, o', es', ep', g', ex, hdat, hk, hp, hn⟩ := I.hok d _ e
  rw [g] at g'
  cases g'
  obtain ⟨es, he⟩ := hep
  rw [he] at hdat
  cases hdat
  exact ⟨vs, rel, o, _, g, ex, he, hk, hp, hn⟩
end
/-- the pairs of a dict, as d.items() walks them: each in a new tuple -/
def Iti (d : Addr) (o : Obj) (kvs : List (Key × V)) : It :=
  ⟨fun i H => H d = some (.frz o (.dK kvs)) ∧ i < kvs.length, fun i H v H' => ∃ p k x, kvs[i]? = some (k, x) ∧ v = .ref p ∧ H p = none ∧ H' = upd H p (.tup [kV k, x]), fun i H => H d = some (.frz o (.dK kvs)) ∧ kvs.length ≤ i⟩
theorem turn_items {P : Program} {w : World} {K : PySem.W.Frag} {elts : List Expr} {x1} {tpos : Pos} (d it : Addr) (o : Obj) (kvs : List (Key × V)) (ep : Nat) (hep : ∃ es, o.data = .dict es ep) :
    Turn P w K (.Tuple elts x1 tpos) (Iti d o kvs) [it] it (fun i h => ∃ ok ov, IsItemIter h it d i kvs.length ep ok ov) where
  mem := by simp
  obj := fun i h st b hb => by
    have e : b = it := by simpa using hb
    subst e
    obtain ⟨ok, ov, st⟩ := st
    exact ⟨_, st, fun v z => by
      have z' : Data.fields _ = Data.cell v := z
      cases z'⟩
  keep := fun i h h' ⟨ok, ov, st⟩ k => ⟨ok, ov, k it (by simp) _ st⟩
  item := by
    intro X hP hw hK hc i pins s σ H E I hf st hg
    subst hP hw hK
    obtain ⟨ok, ov, st⟩ := st
    obtain ⟨e, lt⟩ := hg
    obtain ⟨vs, rel, da⟩ := frz_at I e hep
    obtain ⟨f0, f1, f2, f3, f4, f5⟩ := hf it (by simp)
    have hl : kvs.length = vs.length := rel.length
    obtain ⟨⟨k, x⟩, q⟩ : ∃ y, kvs[i] = y := ⟨_, rfl⟩
    have hx : kvs[i]? = some (k, x) := by rw [List.getElem?_eq_getElem lt, q]
    obtain ⟨u, hv, ru⟩ := rel.get hx
    rw [hl] at st
    refine wpAny_pyNext_items_item st da hv fun key h' hkey hout ht hz hkp => ?_
    refine ⟨_, rfl, wpAny_letOwnedTupleGo_items hout fun h'' hit' hsb => ?_⟩
    have kk : ∀ b o, b ≠ it → s.heap.get? b = some o → h''.get? b = some o := fun b o hb g => (hsb.2 b hb).trans (hkp b o hb g)
    have I1 : Inv X pins σ H { s with heap := h'' } := I.turned (t' := s.toks) kk f0 f1 f3 f4 f5
    obtain ⟨n0, nL, nC, nP⟩ := I.size_lt (Nat.le_refl s.heap.objs.size)
    have itlt : it < s.heap.objs.size := Heap.lt_size st
    have pne : s.heap.objs.size ≠ it := Nat.ne_of_gt itlt
    have hp : h''.get? s.heap.objs.size = some { cls := .type "tuple", data := .seq #[key, u] } := (hsb.2 _ pne).trans ht
    refine ⟨.ref s.heap.objs.size, upd H s.heap.objs.size (.tup [kV k, x]), I1.adopt n0 I.sz nL nC nP ⟨by show 2 ≤ sizeLine; decide, [key, u], .cons (kV_rel hkey) (.cons ru .nil), _, hp, rfl, _, rfl⟩, rfl, ⟨_, k, x, hx, rfl, n0, rfl⟩, ?_, fun b hb => ?_⟩
    · rw [← hl] at hit'
      exact ⟨_, _, hit'⟩
    · have e : b = it := by simpa using hb
      subst e
      rw [upd_ne (Ne.symm pne)]
      exact f0
  done := by
    intro X hP hw hK hc i pins s σ H E I hf st hg
    subst hP hw hK
    obtain ⟨ok, ov, st⟩ := st
    obtain ⟨e, le⟩ := hg
    obtain ⟨vs, rel, da⟩ := frz_at I e hep
    obtain ⟨f0, f1, f2, f3, f4, f5⟩ := hf it (by simp)
    have hl : kvs.length = vs.length := rel.length
    rw [hl] at st
    exact wpAny_pyNext_items_end (I.ok.hd hc) st da (by simpa using (by omega : vs.length ≤ i)) fun h' eb => ⟨rfl, I.turned (t' := s.toks) (fun b o hb e => eb b o hb e) f0 f1 f3 f4 f5⟩
  self := fun _ _ _ _ _ ⟨ok, ov, st⟩ h => PySem.W.kcp_self st h
/-- for .. in d.items() -/
def iItems (X : Cx) (to : TE) : TI := fun σ H R => to σ H fun x H1 => ∃ d kvs, x = .ref d ∧ H1 d = some (.dK kvs) ∧ ∀ ob, (∀ o' u', X.H₀ d ≠ some (.frz o' u')) → R (Iti d ob kvs) (upd H1 d (.frz ob (.dK kvs)))
section
variable {X : Cx} {o : Expr} {to : TE} {elts : List Expr} {x1 : _} {tpos apos cpos : Pos}
theorem pi_items (ho : PE X o to) (hbase : attributeBase o "items" X.env (eval o X.env) = eval o X.env := by rfl) (hline : (apos.endLine == cpos.line) = true := by rfl) :
    PI X (.Tuple elts x1 tpos) (.Call (.Attribute o "items" apos) [] [] cpos) (iItems X to) := by
  intro pins s σ H R I h
  refine wpAny_Call_method0_late hbase hline (thn (ho pins s σ H _ I h) fun v s1 ⟨x, H1, I1, r1, q1⟩ => ?_)
  obtain ⟨d, kvs, e1, e, q⟩ := q1
  subst e1
  cases r1
  obtain ⟨z, hd, vs, rel, dd⟩ := dk_of I1.hok e
  obtain ⟨ob, es, ep, g, ex, hdat, hk, hp, hn⟩ := id dd
  refine ⟨"dict", "dict.items", PySem.F.plainAttrs_dict, PySem.F.slot_dict_items, PySem.F.type_dict_items, dd.typeIs, fun a e2 => ?_, Calls.callWith_builtin rfl (PySem.evalArgs_none ?_)⟩
  · cases e2
    exact ⟨ob, g, ex.2.1⟩
  refine call_meetsIn PySem.F.slot_dict_items dd.typeIs PySem.F.entry_dict_items (PySem.F.args_dict_items_1 _) (meets_dict_items (mixKind X.prog X.w) d hd) ⟨⟨vs, dd⟩, ?_⟩
  have da : (s1.heap.push { cls := .type "dict_items", data := .fields #[.ref d] }).DictAt (mixKind X.prog X.w) d vs ep := ⟨ob, es, Heap.get?_push_of_some _ g, ex, hdat, hk, hp, hn⟩
  refine wpAny_pyIter_items (s := { s1 with heap := s1.heap.push { cls := .type "dict_items", data := .fields #[.ref d] } }) ⟨_, Heap.get?_push_size _ rfl, rfl, rfl⟩ da ?_
  have I2 : Inv X pins σ H1 { s1 with heap := s1.heap.push { cls := .type "dict_items", data := .fields #[.ref d] } } := I1.kept (t' := s1.toks) fun b o e => Heap.get?_push_of_some _ e
  generalize hs2 : ({ s1 with heap := s1.heap.push { cls := .type "dict_items", data := .fields #[.ref d] } } : Shared) = s2 at I2
  have g2 : s2.heap.get? d = some ob := by rw [← hs2]; exact Heap.get?_push_of_some _ g
  have I3 : Inv X pins σ (upd H1 d (.frz ob (.dK kvs))) s2 := I2.write (t' := s2.toks) (x := d) (e := d) (by rw [e]; exact True.intro) (.inl rfl) (fun b u _ q => q) ⟨ob, g2⟩ ⟨g2, I2.hok d _ e⟩
  have I4 : Inv X pins σ (upd H1 d (.frz ob (.dK kvs))) { s2 with heap := s2.heap.push { cls := .type "dict_itemiterator", data := .fields #[.none, .bool false, .ref d, .int 0 0, .int vs.length 0, .int ep 0, .none, .none] } } :=
    I3.kept (t' := s2.toks) fun b o e => Heap.get?_push_of_some _ e
  have fin : PIE X pins σ (.Tuple elts x1 tpos) R (.ref s2.heap.objs.size) { s2 with heap := s2.heap.push { cls := .type "dict_itemiterator", data := .fields #[.none, .bool false, .ref d, .int 0 0, .int vs.length 0, .int ep 0, .none, .none] } } := by
    refine ⟨s2.heap.objs.size, [s2.heap.objs.size], _, _, upd H1 d (.frz ob (.dK kvs)), rfl, I4, turn_items d _ ob kvs ep ⟨es, hdat⟩, ⟨.none, .none, ?_⟩, fun b hb => ?_, q ob (I1.nofrz e)⟩
    · have hl : kvs.length = vs.length := rel.length
      show IsItemIter _ _ d 0 kvs.length ep .none .none
      rw [hl]
      exact Heap.get?_push_size _ rfl
    · have eb : b = s2.heap.objs.size := by simpa using hb
      subst eb
      exact I3.fpOk (Nat.le_refl _) (I3.hok.fresh (Nat.le_refl _))
  exact fin
theorem thaw_end {pins : List (Addr × Obj)} {σ : St} {Q : VK} {u : Value} {s : Shared} (h : EP X pins σ (fun v H2 => ∃ d ob u, H2 d = some (.frz ob u) ∧ (∀ o' u', X.H₀ d ≠ some (.frz o' u')) ∧ Q v (upd H2 d u)) u s) : EP X pins σ Q u s := by
  obtain ⟨v, H2, I2, r2, d, ob, u', e, nf, q⟩ := h
  exact ⟨v, _, I2.thaw e nf, r2, q⟩
theorem pe_thaw {e : Expr} {t : TE} (h : PE X e t) : PE X e (fun σ H Q => t σ H fun v H2 => ∃ d ob u, H2 d = some (.frz ob u) ∧ (∀ o' u', X.H₀ d ≠ some (.frz o' u')) ∧ Q v (upd H2 d u)) := fun pins s σ H Q I q =>
  thn (h pins s σ H _ I q) fun _ _ z => thaw_end z
end
end L2

set_option maxRecDepth 100000
namespace PySem.F
end PySem.F
namespace L2
open PySem PySem.Spec PyProof.Rows XL
variable {q0 : Bool}
section
variable {X : Cx} {pins : List (Addr × Obj)} {σ : St} {H : Hp} {s : Shared} {a : Addr} {y v : V} {u r : Value} {A : Around} {E : Value → Shared → Prop}
theorem DPut.stay {d b : Addr} {H' : Hp} {o : HO} (g : DPut H d y v H') (e : H b = some o) (n1 : ∀ kvs, o ≠ .dK kvs) (n2 : ∀ kvs, o ≠ .dT kvs) : H' b = some o := by
  rcases g with ⟨kvs, k, e2, _, _, rfl⟩ | ⟨kvs, k, b2, e2, _, _, _, rfl⟩
  · rw [upd_ne (ne_of e e2 (n1 _))]
    exact e
  · rw [upd_ne (ne_of e e2 (n2 _))]
    exact e
theorem DPut.free {d b : Addr} {H' : Hp} (g : DPut H d y v H') (e : H b = none) : H' b = none := by
  rcases g with ⟨kvs, k, e2, _, _, rfl⟩ | ⟨kvs, k, b2, e2, _, _, _, rfl⟩
  · rw [upd_ne (Ne.symm (ne_of_none e2 e))]
    exact e
  · rw [upd_ne (Ne.symm (ne_of_none e2 e))]
    exact e
end
end L2

set_option maxRecDepth 100000
namespace L2
open PySem PySem.Spec PyProof.Rows XL
variable {q0 : Bool}
/-- one of two readings -/
theorem pe_alt {X : Cx} {e : Expr} {t1 t2 : TE} (h1 : PE X e t1) (h2 : PE X e t2) : PE X e (fun σ H Q => t1 σ H Q ∨ t2 σ H Q) := fun pins s σ H Q I h => h.elim (h1 pins s σ H Q I) (h2 pins s σ H Q I)
/-! ### ranges with a step -/
def Itrs (lo d : Int) (n : Nat) : It := ⟨fun i _ => i < n, fun i H x H' => H' = H ∧ x = .int (lo + (i : Int) * d), fun i _ => n ≤ i⟩
theorem turn_rangeS {P : Program} {w : World} {K : PySem.W.Frag} {tg : Expr} (it : Addr) (lo d : Int) (n : Nat) : Turn P w K tg (Itrs lo d n) [it] it (fun i h => IsRangeIter h it (lo + (i : Nat) * d) ((n : Int) - (i : Nat)) d) where
  mem := by simp
  obj := fun i h st b hb => by
    have e : b = it := by simpa using hb
    subst e
    exact ⟨_, st, fun v z => by
      have z' : Data.fields _ = Data.cell v := z
      cases z'⟩
  keep := fun i h h' st k => k it (by simp) _ st
  item := by
    intro X hP hw hK hc i pins s σ H E I hf st hg
    subst hP hw hK
    obtain ⟨f0, f1, f2, f3, f4, f5⟩ := hf it (by simp)
    have W := Walks.range (prog := X.prog) (w := X.w) (I.ok.hd hc) it lo d n
    refine W.item i s _ _ hg st fun v h' tk hv st' kk => ?_
    obtain ⟨t, rfl⟩ := hv
    have I1 : Inv X pins σ H { s with heap := h', toks := tk } := I.turned (fun b o hb e => kk b o (by simpa using hb) e) f0 f1 f3 f4 f5
    exact ⟨_, rfl, go_of (s := { s with heap := h', toks := tk }) (n := "range_iterator") st' rfl rfl (by decide) ⟨.int (lo + (i : Int) * d), H, I1, ⟨t, rfl⟩, ⟨rfl, rfl⟩, st', fun b hb => (hf b hb).1⟩⟩
  done := by
    intro X hP hw hK hc i pins s σ H E I hf st hg
    subst hP hw hK
    obtain ⟨f0, f1, f2, f3, f4, f5⟩ := hf it (by simp)
    exact wpAny_pyNext_range_end (I.ok.hd hc) st (by have : n ≤ i := hg; omega) fun h' eb => ⟨rfl, I.turned (t' := s.toks) (fun b o hb e => eb b o hb e) f0 f1 f3 f4 f5⟩
  self := fun _ _ _ _ _ st h => wpAny_pyIter_rangeiter st h
theorem rangeSize_down (a b : Int) : Builtin.Range.rangeSize a b (-1) = if b < a then a - b else 0 := by
  unfold Builtin.Range.rangeSize
  rw [if_neg (by decide)]
  simp only [Int.neg_neg, Int.ediv_one]
  split <;> omega
theorem small_down {a b : Int} (ha : -(2 ^ 62) ≤ a) (ha' : a < 2 ^ 62) (hb : -(2 ^ 62) ≤ b) (hb' : b < 2 ^ 62) : Builtin.Range.small a b (-1) = true := by
  unfold Builtin.Range.small
  rw [rangeSize_down]
  simp only [Builtin.Range.rangeFitsLong, Bool.and_eq_true, Bool.or_eq_true, decide_eq_true_eq, beq_iff_eq, show ¬ ((-1 : Int) > 0) by decide, if_false]
  split <;> omega
section
variable {X : Cx} {tg : Expr}
theorem range_itS {pins : List (Addr × Obj)} {σ : St} {H : Hp} {s : Shared} {R : It → Hp → Prop} {E : Value → Shared → Prop} {lo hi d : Int} {n : Nat} {t u v : Tok} {tk : Nat} (I : Inv X pins σ H s) (sm : Builtin.Range.small lo hi d = true) (sz : Builtin.Range.rangeSize lo hi d = n)
    (q : R (Itrs lo d n) H) : wpAny (model X.prog X.w) X.A (pyIter (.ref s.heap.objs.size)) (PIE X pins σ tg R) E { s with heap := s.heap.push { cls := .type "range", data := .fields #[.int lo t, .int hi u, .int d v] }, toks := tk } := by
  refine wpAny_pyIter_range (IsRange.new ..) sm ?_
  have I1 : Inv X pins σ H { s with heap := s.heap.push { cls := .type "range", data := .fields #[.int lo t, .int hi u, .int d v] }, toks := tk } := I.kept fun b o e => Heap.get?_push_of_some _ e
  refine ⟨(s.heap.push { cls := .type "range", data := .fields #[.int lo t, .int hi u, .int d v] }).objs.size, [(s.heap.push { cls := .type "range", data := .fields #[.int lo t, .int hi u, .int d v] }).objs.size], _, _, H, rfl,
    I1.kept (t' := tk) fun b o e => Heap.get?_push_of_some _ e, turn_rangeS _ lo d n, ?_, fun b hb => ?_, q⟩
  · have e1 : lo + ((0 : Nat) : Int) * d = lo := by simp
    have e2 : ((n : Nat) : Int) - ((0 : Nat) : Int) = Builtin.Range.rangeSize lo hi d := by rw [sz]; simp
    show IsRangeIter _ _ (lo + ((0 : Nat) : Int) * d) (((n : Nat) : Int) - ((0 : Nat) : Int)) d
    rw [e1, e2]
    exact Heap.get?_push_size _ rfl
  · have e : b = (s.heap.push { cls := .type "range", data := .fields #[.int lo t, .int hi u, .int d v] }).objs.size := by simpa using hb
    subst e
    exact I1.fpOk (Nat.le_refl _) (I1.hok.fresh (Nat.le_refl _))
def iRng3 (ta : TA) : TI := fun σ H R => ta σ H fun vs H1 => ∃ i j d : Int, vs = [.int i, .int j, .int d] ∧ (-(2 ^ 62) ≤ i ∧ i < 2 ^ 62 ∧ -(2 ^ 62) ≤ j ∧ j < 2 ^ 62) ∧ ((d = 1 ∧ R (Itrs i 1 (j - i).toNat) H1) ∨ (d = -1 ∧ R (Itrs i (-1) (i - j).toNat) H1))
theorem pi_range3 {a b c : Expr} {ta : TA} {p pos : Pos} (hg : Gl X "range") (hm : X.mg "range" = none) (ha : PA X [a, b, c] ta) (hs : starEach [a, b, c] X.env = [(false, eval a X.env), (false, eval b X.env), (false, eval c X.env)] := by rfl) (hs2 : starEach [b, c] X.env = [(false, eval b X.env), (false, eval c X.env)] := by rfl) :
    PI X tg (.Call (.Name "range" p) [a, b, c] [] pos) (iRng3 ta) := by
  intro pins s σ H R I h
  refine Call_ (ld_blt I hg hm boot_range (PyProof.Rows.callWith_type1 (thn (ha pos pins s σ H _ I h) fun us s1 ⟨vs, H1, I1, r1, q1⟩ => ?_) (by rw [hs, hs2]) (by rw [hs2]; rfl)))
  obtain ⟨i, j, d, e, ⟨q1, q2, q3, q4⟩, q⟩ := q1
  subst e
  cases r1 with
  | cons r rr =>
    cases rr with
    | cons r' rr =>
      cases rr with
      | cons r'' rr =>
        cases rr
        obtain ⟨t, rfl⟩ := r
        obtain ⟨t', rfl⟩ := r'
        obtain ⟨t'', rfl⟩ := r''
        rcases q with ⟨rfl, q⟩ | ⟨rfl, q⟩
        · exact call_range_3 (by decide) (range_itS I1 (small_one q1 q2 q3 q4) (by rw [rangeSize_one]; split <;> omega) q) (Or.inl (PyProof.noPylong_small (by decide)))
        · exact call_range_3 (by decide) (range_itS I1 (small_down q1 q2 q3 q4) (by rw [rangeSize_down]; split <;> omega) q) (Or.inl (PyProof.noPylong_small (by decide)))
end
/-! ### deep == -/
/-- x == y, by what stands in them: n bounds the depth -/
inductive EqR (K : PySem.W.Frag) (H : Hp) : Nat → V → V → Bool → Prop
  | sc {n : Nat} {x y : V} (h : scal x y = true) (hb : ∀ b, x ≠ .byt b := by intro _ z; cases z) : EqR K H n x y (decide (x = y))
  | tup {n : Nat} {a b : Addr} {xs ys : List V} (e : Nat → Bool) (ha : SqT K H a xs) (hb : SqT K H b ys) (h : ∀ (j : Nat) (x y : V), xs[j]? = some x → ys[j]? = some y → EqR K H n x y (e j)) :
      EqR K H (n + 1) (.ref a) (.ref b) ((List.range (min xs.length ys.length)).all e && xs.length == ys.length)
  | lst {n : Nat} {a b : Addr} {xs ys : List V} (e : Nat → Bool) (ha : SqL K H a xs) (hb : SqL K H b ys) (hl : xs.length = ys.length) (h : ∀ (j : Nat) (x y : V), xs[j]? = some x → ys[j]? = some y → EqR K H n x y (e j)) :
      EqR K H (n + 1) (.ref a) (.ref b) ((List.range xs.length).all e)
theorem scal_at {x y : V} {u v : Value} {A : Around} {s : Shared} (h : scal x y = true) (hb : ∀ b, x ≠ .byt b) (rx : RelV x u) (ry : RelV y v) : SeqAt.EqAt A s u v (decide (x = y)) := by
  match x, y, h, hb with
  | .non, .non, _, _ => obtain rfl : u = Value.none := rx; obtain rfl : v = Value.none := ry; rw [decide_eq_true rfl]; exact SeqAt.EqAt.same _
  | .int _, .int _, _, _ => obtain ⟨t, rfl⟩ := rx; obtain ⟨t', rfl⟩ := ry; rw [dec_int]; exact SeqAt.EqAt.int_int _ _ _ _
  | .str _, .str _, _, _ => obtain ⟨t, rfl⟩ := rx; obtain ⟨t', rfl⟩ := ry; rw [dec_str]; exact SeqAt.EqAt.str_str _ _ _ _
  | .bl _, .bl _, _, _ => obtain rfl : u = Value.bool _ := rx; obtain rfl : v = Value.bool _ := ry; rw [dec_bl]; exact SeqAt.EqAt.bool_bool _ _
  | .non, .int _, _, _ => obtain rfl : u = Value.none := rx; obtain ⟨t', rfl⟩ := ry; simp only [reduceCtorEq, decide_false]; exact SeqAt.EqAt.none_int _ _
  | .int _, .non, _, _ => obtain ⟨t, rfl⟩ := rx; obtain rfl : v = Value.none := ry; simp only [reduceCtorEq, decide_false]; exact SeqAt.EqAt.int_none _ _
  | .non, .bl _, _, _ => obtain rfl : u = Value.none := rx; obtain rfl : v = Value.bool _ := ry; simp only [reduceCtorEq, decide_false]; exact SeqAt.EqAt.none_bool _
  | .bl _, .non, _, _ => obtain rfl : u = Value.bool _ := rx; obtain rfl : v = Value.none := ry; simp only [reduceCtorEq, decide_false]; exact SeqAt.EqAt.bool_none _
  | .non, .str _, _, _ => obtain rfl : u = Value.none := rx; obtain ⟨t', rfl⟩ := ry; simp only [reduceCtorEq, decide_false]; exact SeqAt.EqAt.none_str _ _
  | .str _, .non, _, _ => obtain ⟨t, rfl⟩ := rx; obtain rfl : v = Value.none := ry; simp only [reduceCtorEq, decide_false]; exact SeqAt.EqAt.str_none _ _
  | .int _, .str _, _, _ => obtain ⟨t, rfl⟩ := rx; obtain ⟨t', rfl⟩ := ry; simp only [reduceCtorEq, decide_false]; exact SeqAt.EqAt.int_str _ _ _ _
  | .str _, .int _, _, _ => obtain ⟨t, rfl⟩ := rx; obtain ⟨t', rfl⟩ := ry; simp only [reduceCtorEq, decide_false]; exact SeqAt.EqAt.str_int _ _ _ _
  | .bl _, .str _, _, _ => obtain rfl : u = Value.bool _ := rx; obtain ⟨t', rfl⟩ := ry; simp only [reduceCtorEq, decide_false]; exact SeqAt.EqAt.bool_str _ _ _
  | .str _, .bl _, _, _ => obtain ⟨t, rfl⟩ := rx; obtain rfl : v = Value.bool _ := ry; simp only [reduceCtorEq, decide_false]; exact SeqAt.EqAt.str_bool _ _ _
  | .byt _, .byt _, _, hb => exact absurd rfl (hb _)
theorem vals_at {xs : List V} {us : List Value} (r : Vals xs us) {j : Nat} (h : j < us.toArray.size) : ∃ x, xs[j]? = some x ∧ RelV x us.toArray[j] := by
  have hl := r.length
  have hj : j < xs.length := by simp at h; omega
  obtain ⟨u, h1, h2⟩ := r.get (x := xs[j]) (List.getElem?_eq_getElem hj)
  refine ⟨xs[j], List.getElem?_eq_getElem hj, ?_⟩
  have : us.toArray[j] = u := by
    have z := List.getElem?_eq_some_iff.mp h1
    obtain ⟨z1, z2⟩ := z
    simpa using z2
  rw [this]
  exact h2
section
variable {X : Cx} {pins : List (Addr × Obj)} {σ : St} {H : Hp} {s : Shared}
theorem eqR_at (I : Inv X pins σ H s) {n : Nat} {x y : V} {k : Bool} (h : EqR X.K H n x y k) :
    ((∀ {A : Around} {u v : Value}, A.units + n < cLine → RelV x u → RelV y v → SeqAt.EqAt A s u v k) ∧ (x = y → k = true)) ∧ ∀ {A : Around} {a b : Addr}, A.units + n < cLine → x = .ref a → y = .ref b → SeqAt.RcAt A s (.ref a) (.ref b) k := by
  induction h with
  | @sc n x y h hb =>
    refine ⟨⟨fun _ rx ry => scal_at h hb rx ry, fun e => decide_eq_true e⟩, fun _ e1 e2 => ?_⟩
    subst e1 e2
    exact absurd h (by show ¬ (false = true); decide)
  | @tup n a b xs ys e ha hb h ih =>
    obtain ⟨its, r1, t1, z1⟩ := I.tuple ha
    obtain ⟨its2, r2, t2, z2⟩ := I.tuple hb
    have l1 := r1.length
    have l2 := r2.length
    have rc : ∀ {A : Around}, A.units + (n + 1) < cLine → SeqAt.RcAt A s (.ref a) (.ref b) ((List.range (min xs.length ys.length)).all e && xs.length == ys.length) := fun {A} hu => by
      have z := SeqAt.RcAt.tuples (A := A) (e := e) (show s.heap.IsTuple a its.toArray from t1) (show s.heap.IsTuple b its2.toArray from t2) (by omega) (fun j h1 h2 => by
        obtain ⟨x, hx, rx⟩ := vals_at r1 h1
        obtain ⟨y, hy, ry⟩ := vals_at r2 h2
        exact (ih j x y hx hy).1.1 (A := A.in1) (by show A.units + 1 + n < cLine; omega) rx ry)
      simpa [l1, l2] using z
    have rf : V.ref a = V.ref b → ((List.range (min xs.length ys.length)).all e && xs.length == ys.length) = true := fun q => by
      cases q
      obtain rfl := I.tuple_inj ha hb
      simp only [Nat.min_self, Bool.and_eq_true, beq_self_eq_true, and_true, List.all_eq_true]
      intro j hj
      rw [List.mem_range] at hj
      exact (ih j xs[j] xs[j] (List.getElem?_eq_getElem hj) (List.getElem?_eq_getElem hj)).1.2 rfl
    refine ⟨⟨fun {A u v} hu rx ry => ?_, rf⟩, fun hu e1 e2 => ?_⟩
    · obtain rfl : u = Value.ref a := rx
      obtain rfl : v = Value.ref b := ry
      by_cases q : a = b
      · subst q
        rw [rf rfl]
        exact SeqAt.EqAt.same _
      · exact .of_refs q (rc hu)
    · cases e1
      cases e2
      exact rc hu
  | @lst n a b xs ys e ha hb hl h ih =>
    obtain ⟨its, r1, t1, z1⟩ := I.list ha
    obtain ⟨its2, r2, t2, z2⟩ := I.list hb
    have l1 := r1.length
    have l2 := r2.length
    have rc : ∀ {A : Around}, A.units + (n + 1) < cLine → SeqAt.RcAt A s (.ref a) (.ref b) ((List.range xs.length).all e) := fun {A} hu => by
      have z := SeqAt.RcAt.lists (A := A) (e := e) t1.isList t2.isList (by simp; omega) (by omega) (fun j h1 h2 => by
        obtain ⟨x, hx, rx⟩ := vals_at r1 h1
        obtain ⟨y, hy, ry⟩ := vals_at r2 h2
        exact (ih j x y hx hy).1.1 (A := A.in1) (by show A.units + 1 + n < cLine; omega) rx ry)
      simpa [l1] using z
    have rf : V.ref a = V.ref b → ((List.range xs.length).all e) = true := fun q => by
      cases q
      obtain rfl := I.list_inj ha hb
      rw [List.all_eq_true]
      intro j hj
      rw [List.mem_range] at hj
      exact (ih j xs[j] xs[j] (List.getElem?_eq_getElem hj) (List.getElem?_eq_getElem hj)).1.2 rfl
    refine ⟨⟨fun {A u v} hu rx ry => ?_, rf⟩, fun hu e1 e2 => ?_⟩
    · obtain rfl : u = Value.ref a := rx
      obtain rfl : v = Value.ref b := ry
      by_cases q : a = b
      · subst q
        rw [rf rfl]
        exact SeqAt.EqAt.same _
      · exact .of_refs q (rc hu)
    · cases e1
      cases e2
      exact rc hu
end
theorem hu20_of {A : Around} {k : Nat} (hr : Room q0 k A) : A.units + 20 < cLine := by have := hr.un; omega
theorem call_lenD {X : Cx} : CallR X (.builtin "len") (fun xs H Q => ∃ a kvs, xs = [.ref a] ∧ H a = some (.dK kvs) ∧ Q (.int kvs.length) H) := by
  intro pins s σ H xs us Q I r h
  obtain ⟨a, kvs, rfl, e, q⟩ := h
  obtain ⟨u, rfl, rx⟩ := vals1 r
  obtain rfl : u = Value.ref a := rx
  exact d_len I (.inl e) fun t s' I' => ⟨.int _, H, I', ⟨t, rfl⟩, q⟩
/-! ### a dict that the text's top made -/
inductive Ents (w : World) : List DictEntry → List (Key × V) → Prop
  | nil : Ents w [] []
  | cons {k : Key} {x : V} {key val : Value} {h : Int} {es : List DictEntry} {kvs : List (Key × V)} (hh : h = keyH w k) (hk : RelV (kV k) key) (hv : RelV x val) (r : Ents w es kvs) : Ents w (⟨h, key, val⟩ :: es) ((k, x) :: kvs)
def GDict (w : World) (K : PySem.W.Frag) (D : Addr) (kvs : List (Key × V)) : Prop := (D == sysModules) = false ∧ ∃ (es : Array DictEntry) (ep : Nat), K.lookup D = some ⟨.type "dict", none, .dict es ep, #[]⟩ ∧ Ents w es.toList kvs ∧ (kvs.map (·.1)).Nodup
theorem Ents.ok {P : Program} {w : World} {es : List DictEntry} {kvs : List (Key × V)} (h : Ents w es kvs) : ∃ vs, KV kvs vs ∧ Pairs (mixKind P w) es vs ∧ ∀ e ∈ es, ∃ k, (mixKind P w).is k e.key = true ∧ e.hash = (mixKind P w).hash k := by
  induction h with
  | nil => exact ⟨[], .nil, .nil, fun e z => nomatch z⟩
  | @cons k x key val h es kvs hh hk hv _ ih =>
    obtain ⟨vs, a, b, c⟩ := ih
    refine ⟨(k, val) :: vs, .cons ⟨rfl, hv⟩ a, .cons (kV_is hk) rfl b, fun e he => ?_⟩
    rcases List.mem_cons.mp he with rfl | z
    · exact ⟨k, kV_is hk, hh⟩
    · exact c e z
section
variable {X : Cx} {pins : List (Addr × Obj)} {σ : St} {H : Hp} {s : Shared} {D : Addr} {kvs : List (Key × V)}
theorem gdict_at (I : Inv X pins σ H s) (g : GDict X.w X.K D kvs) : ∃ vs, KV kvs vs ∧ s.heap.DictOf (mixKind X.prog X.w) D vs := by
  obtain ⟨_, es, ep, l, en, nd⟩ := g
  obtain ⟨vs, a, b, c⟩ := en.ok (P := X.prog)
  refine ⟨vs, a, _, es, ep, I.kIn _ _ l, ⟨rfl, rfl, rfl⟩, rfl, fun e he => c e (by simpa using he), b, ?_⟩
  rw [← a.keys]
  exact nd
def tGIn (kvs : List (Key × V)) (neg : Bool) (ty : TE) : TE := fun σ H Q => ty σ H fun y H1 => ∃ k : Key, y = kV k ∧ Q (.bl (if neg then !(valV kvs k).isSome else (valV kvs k).isSome)) H1
theorem pc_gnotin {i : Expr} {ty : TE} {x : Str} {p : Pos} (hi : PE X i ty) (hg : Gl X x) (hm : X.mg x = some (.ref D)) (g : GDict X.w X.K D kvs) (hd : (x == ("__debug__" : Str)) = false := by decide) : PC X .NotIn i (.Name x p) (tGIn kvs true ty) := by
  intro pins s σ H Q I h
  refine thn (hi pins s σ H _ I h) fun iv s1 ⟨y, H1, I1, ry, k, ey, q1⟩ => thn (pe_glob (v := .ref D) hg hm rfl hd pins s1 σ H1 (fun v H2 => v = .ref D ∧ H2 = H1) I1 ⟨rfl, rfl⟩) fun u s2 ⟨x, H2, I2, rx, e1, e2⟩ => ?_
  subst ey e1 e2
  obtain rfl : u = Value.ref D := rx
  obtain ⟨vs, rel, dd⟩ := gdict_at I2 g
  refine wpAny_notIn_of (kV_is ry) g.1 dd.mapOf ?_
  rw [← (rel.val k).isSome_eq]
  exact ⟨.bl _, _, I2.tok _, rfl, q1⟩
end
end L2

set_option maxRecDepth 100000
namespace L2
open PySem PySem.Spec PyProof.Rows XL
variable {q0 : Bool}
end L2

set_option maxRecDepth 100000
namespace L2
open PySem PySem.Spec PyProof.Rows XL
variable {q0 : Bool}
section
variable {X : Cx} {pins : List (Addr × Obj)} {σ : St} {H : Hp} {s : Shared} {h' : Heap}
end
section
variable {X : Cx} {tg : Expr}
end
structure Five (z TI TO i1 i2 : Addr) : Prop where
  TIz : TI ≠ z
  TOz : TO ≠ z
  i1z : i1 ≠ z
  i2z : i2 ≠ z
  TITO : TI ≠ TO
  TIi1 : TI ≠ i1
  TIi2 : TI ≠ i2
  TOi1 : TO ≠ i1
  TOi2 : TO ≠ i2
  i12 : i1 ≠ i2
theorem cls_ne {h : Heap} {a b : Addr} {x y : String} (ha : ∃ o, h.get? a = some o ∧ o.cls = .type x) (hb : ∃ o, h.get? b = some o ∧ o.cls = .type y) (n : (Value.type x == Value.type y) = false) : a ≠ b := fun e => by
  subst e
  obtain ⟨o, ho, hc⟩ := ha
  obtain ⟨u, hu, hd⟩ := hb
  rw [ho] at hu
  cases hu
  rw [hc] at hd
  rw [hd] at n
  simp at n
section
variable {X : Cx} {elts : List Expr} {x1 : _} {tpos : Pos}
end
end L2

set_option maxRecDepth 100000
namespace L2
open PySem PySem.Spec PyProof.Rows XL
variable {q0 : Bool}
section
variable {X : Cx} {elts : List Expr} {x1 : _} {tpos : Pos}
end
/-! ### != of lists, deep; is True -/
def rNeD (K : PySem.W.Frag) : R2 := fun x y H Q => ∃ (a b : Addr) (xs ys : List V) (e : Nat → Bool), x = .ref a ∧ y = .ref b ∧ SqL K H a xs ∧ SqL K H b ys ∧ xs.length = ys.length ∧ (∀ (j : Nat) (x y : V), xs[j]? = some x → ys[j]? = some y → EqR K H 10 x y (e j)) ∧ Q (.bl (!(List.range xs.length).all e)) H
theorem op_neD {X : Cx} (hu : X.A.units + 20 < cLine) : OpR X (compareOp .NotEq) (rNeD X.K) := by
  intro pins s σ H x y u v Q I rx ry h
  obtain ⟨a, b, xs, ys, e, rfl, rfl, ha, hb, hl, he, q⟩ := h
  obtain rfl : u = Value.ref a := rx
  obtain rfl : v = Value.ref b := ry
  obtain ⟨its, r1, t1, z1⟩ := I.list ha
  obtain ⟨its2, r2, t2, z2⟩ := I.list hb
  have l1 := r1.length
  have l2 := r2.length
  refine PySem.W.cmp_ofNotEq (SeqAt.RcNeAt.lists (A := X.A) (e := e) t1.isList t2.isList (by simp; omega) (by omega) (fun j h1 h2 => ?_) X.prog X.w X.xe _ ?_)
  · obtain ⟨x, hx, rx⟩ := vals_at r1 h1
    obtain ⟨y, hy, ry⟩ := vals_at r2 h2
    exact (eqR_at I (he j x y hx hy)).1.1 (A := X.A.in1) (by show X.A.units + 1 + 10 < cLine; omega) rx ry
  · have : its.toArray.size = xs.length := by simp; omega
    rw [this]
    exact ⟨.bl _, H, I, rfl, q⟩
end L2
namespace L2
open PySem PySem.Spec PyProof.Rows XL
end L2

set_option maxRecDepth 100000
namespace L2
open PySem PySem.Spec PyProof.Rows XL
end L2

set_option maxRecDepth 100000
namespace XL
open PySem PySem.W
section
variable {prog : Program} {w : World} {A : Around} {E : Value → Shared → Prop} {h : Heap} {g : Array GenState} {d : Drawn} {t : Nat} {os : OsState}
variable {nm qn : Str} {C N : Addr} {bs bm bmB : List Value} {hz : Bool} {sn : List Str} {sub : List Value} {ab : Bool} {col : Option Bool} {dd : Option Addr} {k0 k1 k2 k3 k5 : Option Value} {B ni ii : String}
end
end XL
namespace L2
open PySem PySem.Spec PyProof.Rows XL
variable {q0 : Bool}
section
variable {X : Cx} {C : Addr} {x : Str} {p pos : Pos}
end
section
variable {X : Cx} {pos np hpos np1 np2 hpos1 hpos2 : Pos} {body hbody hbody1 hbody2 : List Stmt} {b0 b1 b2 : Stmt} {cx cx1 cx2 n : Str} {C0 C1 C2 : Addr} {j : Nat} {E : St → XK} {tb th th1 th2 : TS} {rest : List ExceptHandler}
theorem handle_hit {pins : List (Addr × Obj)} {σ' : St} {H' : Hp} {s2 : Shared} {D : Ends} {e C T : Addr} {od : Option Addr} (ok : X.Ok) (hg : Gl X cx) (hm : X.mg cx = some (.ref C0)) (mk0 : xmkIn X.K C0 = true) (hN : X.N.Nodup) (hj : X.N[j]? = some n) (hl : X.env.scope.names.lookup n = some .local)
    (hh : ∀ e, PSs (X.hand e) (b0 :: hbody) th) (hdb : (cx == ("__debug__" : Str)) = false) (J2 : Inv X pins σ' H' s2) (x' : Xat s2.heap e (.ref C) od (some T)) (he : H' e = some (XO e C od)) (tbs2 : Tbs X pins H' (some T)) (nT : ∀ b ∈ frs X.stack, b ≠ T)
    (mkC : xmkIn X.K C = true) (mro : PySem.W.mroIn X.K C (.ref C0) = some true) (hth : th (endH D j) (σ'.set j (some (.ref e))) H') :
    wpAny (model X.prog X.w) X.A (handleBy (.ref e) X.env (.ExceptHandler (some (.Name cx np)) (some n) (b0 :: hbody) hpos :: rest)) (SP X pins D) X.xe s2 := by
  obtain ⟨nm, qn, N, bs, bm, hz, sn, sub, ab, col, dd, k0, k1, k2, k3, k5, gC, TC⟩ := xmk_of J2.kIn mkC
  obtain ⟨nm', qn', N', bs', bm', hz', sn', sub', ab', col', dd', j0, j1, j2, j3, j5, gC0, TC0⟩ := xmk_of J2.kIn mk0
  refine wpAny_handleBy_cons (codeAny_handlers_test (ld_glob (X := X.hand e) (J2.hand e) hg hm ?_ hdb)) (by intro z; cases z)
  obtain ⟨oe, _, ge, ce, _⟩ := id x'
  have hmr : (Value.ref C :: bm).contains (.ref C0) = true := by
    obtain ⟨cd, e1, e2⟩ := Option.bind_eq_some_iff.mp mro
    have e3 : (Value.ref C :: bm) = cd.mro := by
      unfold PySem.W.clsIn at e1
      split at e1
      · rename_i c1 d1 cd1 sl1 ho
        cases e1
        have z := (J2.kIn _ _ ho).symm.trans gC
        injection z with z
        injection z with _ _ z _
        injection z with z
        rw [z]
      · cases e1
    rw [e3]
    split at e2
    · cases e2
    · exact Option.some.inj e2
  refine matches_own (M := model X.prog X.w) gC gC0 ge ce (tail_base TC0) hmr ?_
  show codeAny _ _ _ _ _
  refine codeAny_handlers_suite_as (flight_x (fs := frs X.stack) x' nT fun h3 st3 x3 => ?_)
  have J3 : Inv X pins σ' H' { s2 with heap := h3 } := J2.noted he tbs2 st3 x3
  refine store_ok (v := V.ref e) J3 hN hj (.inl hl) rfl (fun s4 J4 => ?_) (.inr hl)
  refine wpAny_mono (hh e pins s4 _ H' _ (J4.hand e) hth) (fun f s5 q5 => ?_) fun _ _ z => z.elim
  have fin : ∀ {σ5 : St} {H5 : Hp} {Q : Unit → Shared → Prop}, Inv (X.hand e) pins σ5 H5 s5 → (∀ s6, Inv X pins (σ5.set j none) H5 s6 → Q () s6) →
      wpAny (model X.prog X.w) X.A (do bindName X.env n Value.none; unbindBehindTheSuite X.env n hpos) Q X.xe s5 := fun {σ5 H5 Q} K5 kq => by
    have K6 : Inv X pins σ5 H5 s5 := Inv.unhand ok K5
    obtain ⟨m, hm5, hv5⟩ := K6.loc
    refine name_gone (show X.env.kindOf n = some .local from hl) hm5 (by simp [ok.kind]) fun h6 m6 n6 e6 s6 => kq _ (K6.gone hN hj hl hm5 hv5 n6 e6 s6)
  cases f with
  | next =>
    obtain ⟨σ5, H5, K5, z⟩ := q5
    exact fin K5 fun s6 K6 => ⟨_, H5, K6, z⟩
  | brk =>
    obtain ⟨σ5, H5, K5, z⟩ := q5
    exact fin K5 fun s6 K6 => ⟨_, H5, K6, z⟩
  | cont =>
    obtain ⟨σ5, H5, K5, z⟩ := q5
    exact fin K5 fun s6 K6 => ⟨_, H5, K6, z⟩
  | ret u =>
    obtain ⟨v, σ5, H5, K5, r, z⟩ := q5
    exact fin K5 fun s6 K6 => ⟨v, _, H5, K6, r, z⟩
theorem handle_miss {pins : List (Addr × Obj)} {σ' : St} {H' : Hp} {s2 : Shared} {D : Ends} {e C T : Addr} {od : Option Addr} (hg : Gl X cx) (hm : X.mg cx = some (.ref C0)) (mk0 : xmkIn X.K C0 = true) (hdb : (cx == ("__debug__" : Str)) = false) (J2 : Inv X pins σ' H' s2) (x' : Xat s2.heap e (.ref C) od (some T))
    (mkC : xmkIn X.K C = true) (mro : PySem.W.mroIn X.K C (.ref C0) = some false) (k : wpAny (model X.prog X.w) X.A (handleBy (.ref e) X.env rest) (SP X pins D) X.xe s2) :
    wpAny (model X.prog X.w) X.A (handleBy (.ref e) X.env (.ExceptHandler (some (.Name cx np)) (some n) (b0 :: hbody) hpos :: rest)) (SP X pins D) X.xe s2 := by
  obtain ⟨nm, qn, N, bs, bm, hz, sn, sub, ab, col, dd, k0, k1, k2, k3, k5, gC, TC⟩ := xmk_of J2.kIn mkC
  obtain ⟨nm', qn', N', bs', bm', hz', sn', sub', ab', col', dd', j0, j1, j2, j3, j5, gC0, TC0⟩ := xmk_of J2.kIn mk0
  refine wpAny_handleBy_cons (codeAny_handlers_test (ld_glob (X := X.hand e) (J2.hand e) hg hm ?_ hdb)) (by intro z; cases z)
  obtain ⟨oe, _, ge, ce, _⟩ := id x'
  have hmr : (Value.ref C :: bm).contains (.ref C0) = false := by
    obtain ⟨cd, e1, e2⟩ := Option.bind_eq_some_iff.mp mro
    have e3 : (Value.ref C :: bm) = cd.mro := by
      unfold PySem.W.clsIn at e1
      split at e1
      · rename_i c1 d1 cd1 sl1 ho
        cases e1
        have z := (J2.kIn _ _ ho).symm.trans gC
        injection z with z
        injection z with _ _ z _
        injection z with z
        rw [z]
      · cases e1
    rw [e3]
    split at e2
    · cases e2
    · exact Option.some.inj e2
  refine matches_own (M := model X.prog X.w) gC gC0 ge ce (tail_base TC0) hmr ?_
  exact k
end
end L2

set_option maxRecDepth 100000
namespace L2
open PySem PySem.Spec PyProof.Rows XL
section
variable {X : Cx} {a b c d : Expr} {ta tb tc td : TE} {pos : Pos}
end
end L2

set_option maxRecDepth 100000
set_option maxHeartbeats 4000000
namespace L2
open PySem PySem.Calls PyProof PyProof.Rows
/-- the least of three ints -/
theorem vals3 {x y z : V} {us : List Value} (r : Vals [x, y, z] us) : ∃ u v w, us = [u, v, w] ∧ RelV x u ∧ RelV y v ∧ RelV z w := by
  cases r with
  | cons r1 r2 =>
    cases r2 with
    | cons r3 r4 =>
      cases r4 with
      | cons r5 r6 => cases r6; exact ⟨_, _, _, rfl, r1, r3, r5⟩
theorem call_min3 {X : Cx} (hc : X.calm = true) : CallR X (.builtin "min") (fun xs H Q => ∃ i j k : Int, xs = [.int i, .int j, .int k] ∧ ∀ m : Int, m ≤ i → m ≤ j → m ≤ k → (m = i ∨ m = j ∨ m = k) → Q (.int m) H) := by
  intro pins s σ H xs us Q I r h
  obtain ⟨i, j, k, rfl, q⟩ := h
  obtain ⟨u, v, w', rfl, ⟨t, rfl⟩, ⟨t', rfl⟩, ⟨t2, rfl⟩⟩ := vals3 r
  refine min_three_ints (I.ok.hd hc) fun h' tk k' => ?_
  by_cases h1 : j < i
  · rw [if_pos h1]
    by_cases h2 : k < j
    · rw [if_pos h2]
      exact ⟨.int k, H, I.kept k', ⟨_, rfl⟩, q k (by omega) (by omega) (by omega) (.inr (.inr rfl))⟩
    · rw [if_neg h2]
      exact ⟨.int j, H, I.kept k', ⟨_, rfl⟩, q j (by omega) (by omega) (by omega) (.inr (.inl rfl))⟩
  · rw [if_neg h1]
    by_cases h2 : k < i
    · rw [if_pos h2]
      exact ⟨.int k, H, I.kept k', ⟨_, rfl⟩, q k (by omega) (by omega) (by omega) (.inr (.inr rfl))⟩
    · rw [if_neg h2]
      exact ⟨.int i, H, I.kept k', ⟨_, rfl⟩, q i (by omega) (by omega) (by omega) (.inl rfl)⟩
section
variable {X : Cx}
end
end L2

set_option maxRecDepth 100000
namespace PySem.F
end PySem.F
namespace L2
open PySem PySem.Spec PyProof.Rows XL
variable {q0 : Bool}
end L2

set_option maxRecDepth 100000
namespace L2
open PySem PySem.Spec PyProof.Rows XL
variable {q0 : Bool}
/-- a zip that hands its pairs to one who keeps them -/
structure ZS (z TI TO i1 i2 l1 l2 : Addr) (P : Nat → Prop) (i : Nat) (h : Heap) : Prop where
  st : IsZip h z TI TO .none ∨ ∃ (T : Nat) (b1 : Bool), P T ∧ h.get? z = some { cls := .type "zip", data := .fields #[rawInt T, .bool b1, .bool false, .ref TI, .ref TO] }
  ti : IsPair h TI (.ref i1) (.ref i2)
  to : ∃ a b, IsPair h TO a b
  j1 : h.IsListIter i1 l1 i
  j2 : h.IsListIter i2 l2 i
section
variable {z TI TO i1 i2 l1 l2 : Addr} {P : Nat → Prop} {i : Nat} {h : Heap}
theorem ZS.zobj (st : ZS z TI TO i1 i2 l1 l2 P i h) : ∃ vs, h.get? z = some { cls := .type "zip", data := .fields vs } := by
  rcases st.st with e | ⟨T, b1, _, e⟩
  · exact ⟨_, e⟩
  · exact ⟨_, e⟩
theorem ZS.apart {xs ys : Array Value} (D : Five z TI TO i1 i2) (st : ZS z TI TO i1 i2 l1 l2 P i h) (hl1 : h.IsList l1 xs) (hl2 : h.IsList l2 ys) : ZipApart z TI TO i1 i2 l1 l2 := by
  obtain ⟨vs, ez⟩ := st.zobj
  obtain ⟨_, hTI, ⟨a, b, hTO⟩, h1, h2⟩ := st
  have cz : ∃ o, h.get? z = some o ∧ o.cls = .type "zip" := ⟨_, ez, rfl⟩
  have cO : ∃ o, h.get? TO = some o ∧ o.cls = .type "tuple" := ⟨_, hTO, rfl⟩
  have c1 : ∃ o, h.get? i1 = some o ∧ o.cls = .type "list_iterator" := let ⟨o, e, c, _⟩ := h1; ⟨o, e, c⟩
  have c2 : ∃ o, h.get? i2 = some o ∧ o.cls = .type "list_iterator" := let ⟨o, e, c, _⟩ := h2; ⟨o, e, c⟩
  have k1 : ∃ o, h.get? l1 = some o ∧ o.cls = .type "list" := let ⟨o, e, c, _⟩ := hl1; ⟨o, e, c⟩
  have k2 : ∃ o, h.get? l2 = some o ∧ o.cls = .type "list" := let ⟨o, e, c, _⟩ := hl2; ⟨o, e, c⟩
  exact ⟨D.TIz, D.TOz, D.i1z, D.i2z, D.TITO, D.TIi1, D.TIi2, D.TOi1, D.TOi2, D.i12, cls_ne k1 cz (by decide), cls_ne k1 cO (by decide), cls_ne k1 c1 (by decide), cls_ne k1 c2 (by decide), cls_ne k2 cz (by decide), cls_ne k2 cO (by decide), cls_ne k2 c1 (by decide), cls_ne k2 c2 (by decide)⟩
theorem ZS.obj (st : ZS z TI TO i1 i2 l1 l2 P i h) : ∀ b ∈ [z, TI, TO, i1, i2], ∃ o, h.get? b = some o ∧ ∀ v, o.data ≠ .cell v := fun b hb => by
  obtain ⟨vs, ez⟩ := st.zobj
  obtain ⟨_, hTI, ⟨a, c, hTO⟩, ⟨o1, e1, c1, d1⟩, ⟨o2, e2, c2, d2⟩⟩ := st
  simp only [List.mem_cons, List.not_mem_nil, or_false] at hb
  rcases hb with rfl | rfl | rfl | rfl | rfl
  · exact ⟨_, ez, fun v k => by have k' : Data.fields _ = Data.cell v := k; cases k'⟩
  · exact ⟨_, hTI, fun v k => by have k' : Data.seq _ _ = Data.cell v := k; cases k'⟩
  · exact ⟨_, hTO, fun v k => by have k' : Data.seq _ _ = Data.cell v := k; cases k'⟩
  · exact ⟨_, e1, fun v k => by rw [d1] at k; cases k⟩
  · exact ⟨_, e2, fun v k => by rw [d2] at k; cases k⟩
theorem ZS.keep {h' : Heap} {P' : Nat → Prop} (st : ZS z TI TO i1 i2 l1 l2 P i h) (k : ∀ b ∈ [z, TI, TO, i1, i2], ∀ o, h.get? b = some o → h'.get? b = some o) (hP : ∀ T, P T → P' T) : ZS z TI TO i1 i2 l1 l2 P' i h' := by
  obtain ⟨s0, hTI, ⟨a, c, hTO⟩, h1, h2⟩ := st
  refine ⟨?_, k TI (by simp) _ hTI, ⟨a, c, k TO (by simp) _ hTO⟩, h1.at fun o e => k i1 (by simp) o e, h2.at fun o e => k i2 (by simp) o e⟩
  rcases s0 with e | ⟨T, b1, p, e⟩
  · exact .inl (k z (by simp) _ e)
  · exact .inr ⟨T, b1, hP T p, k z (by simp) _ e⟩
end
end L2

set_option maxRecDepth 100000
namespace L2
open PySem PySem.Spec PyProof.Rows XL
variable {q0 : Bool}
end L2

set_option maxRecDepth 100000
namespace L2
open PySem PySem.Spec PyProof.Rows XL
variable {q0 : Bool}
def tTry3 (K : PySem.W.Frag) (C1 C2 C3 : Addr) (j : Nat) (E : St → XK) (tb th1 th2 th3 : TS) : TS := fun D σ H => tb D σ H ∧ ∀ σ' e C H', E σ' e C H' → xmkIn K C = true ∧ ((PySem.W.mroIn K C (.ref C1) = some true ∧ th1 (endH D j) (σ'.set j (some (.ref e))) H') ∨
  (PySem.W.mroIn K C (.ref C1) = some false ∧ PySem.W.mroIn K C (.ref C2) = some true ∧ th2 (endH D j) (σ'.set j (some (.ref e))) H') ∨
  (PySem.W.mroIn K C (.ref C1) = some false ∧ PySem.W.mroIn K C (.ref C2) = some false ∧ PySem.W.mroIn K C (.ref C3) = some true ∧ th3 (endH D j) (σ'.set j (some (.ref e))) H'))
section
variable {X : Cx} {pos np1 np2 np3 hpos1 hpos2 hpos3 : Pos} {body hbody1 hbody2 hbody3 : List Stmt} {rest : List ExceptHandler} {b1 b2 b3 : Stmt} {cx1 cx2 cx3 n : Str} {C1 C2 C3 : Addr} {j : Nat} {E : St → XK} {tb th1 th2 th3 : TS}
/-- try: body; except C1 as n: .. except C2 as n: .. except C3 as n: .. and more that are never asked -/
theorem ps_try3 (hg1 : Gl X cx1) (hm1 : X.mg cx1 = some (.ref C1)) (mk1 : xmkIn X.K C1 = true) (hg2 : Gl X cx2) (hm2 : X.mg cx2 = some (.ref C2)) (mk2 : xmkIn X.K C2 = true) (hg3 : Gl X cx3) (hm3 : X.mg cx3 = some (.ref C3)) (mk3 : xmkIn X.K C3 = true) (hN : X.N.Nodup) (hj : X.N[j]? = some n) (hl : X.env.scope.names.lookup n = some .local) (hf : X.env.frame = some X.env.locals) (hst : X.stack = X.env :: X.outer)
    (hb : ∀ pins xe, Takes (X.tryc pins xe) E → PSs (X.tryc pins xe) body tb) (hh1 : ∀ e, PSs (X.hand e) (b1 :: hbody1) th1) (hh2 : ∀ e, PSs (X.hand e) (b2 :: hbody2) th2) (hh3 : ∀ e, PSs (X.hand e) (b3 :: hbody3) th3) (hdb1 : (cx1 == ("__debug__" : Str)) = false := by decide) (hdb2 : (cx2 == ("__debug__" : Str)) = false := by decide) (hdb3 : (cx3 == ("__debug__" : Str)) = false := by decide) :
    PS X (.Try body (.ExceptHandler (some (.Name cx1 np1)) (some n) (b1 :: hbody1) hpos1 :: .ExceptHandler (some (.Name cx2 np2)) (some n) (b2 :: hbody2) hpos2 :: .ExceptHandler (some (.Name cx3 np3)) (some n) (b3 :: hbody3) hpos3 :: rest) [] [] pos) (tTry3 X.K C1 C2 C3 j E tb th1 th2 th3) := by
  intro pins s σ H D I ⟨h1, h2⟩
  refine wpAny_Try_except ?_
  have ok := I.ok
  have T : Takes (X.tryc pins (fun e s₁ => wpAny (model X.prog X.w) X.A (noteFrame e X.env) (fun _ s₂ => wpAny (model X.prog X.w) X.A (setFlight e none) (fun _ s₃ => wpAny (model X.prog X.w) X.A (handleBy e X.env (.ExceptHandler (some (.Name cx1 np1)) (some n) (b1 :: hbody1) hpos1 :: .ExceptHandler (some (.Name cx2 np2)) (some n) (b2 :: hbody2) hpos2 :: .ExceptHandler (some (.Name cx3 np3)) (some n) (b3 :: hbody3) hpos3 :: rest)) (SP X pins D) X.xe s₃) X.xe s₂) X.xe s₁)) E := by
    intro pl σ' H' s' e C od tb' I' x he tbs q
    have J := I'.untryc
    have tbs' : Tbs X pins H' tb' := fun T z => by
      obtain ⟨a1, a2, a3, a4, a5⟩ := tbs T z
      exact ⟨a1, a2, a3, a4, fun p hp => a5 p (List.mem_append_left _ hp)⟩
    obtain ⟨mkC, alt⟩ := h2 σ' e C H' q
    have fr : X.A.frames = some (X.env :: X.outer) := by rw [← hst]; exact J.ok.frames
    have ff : s'.heap.FunFrames X.base (X.env :: X.outer) := by rw [← hst]; exact J.stack
    refine note_x (L := X.env.locals) fr ff hf x fun h' T st sT x' => ?_
    rw [← hst] at st
    have J2 := J.noted he tbs' st x'
    have fr2 : X.base.objs.size ≤ s'.heap.objs.size := Nat.le_trans J.ok.bsz J.sz
    have ff2 : h'.FunFrames X.base X.stack := J2.stack
    have nT : ∀ b ∈ frs X.stack, b ≠ T := fun b hb z => by
      obtain ⟨_, o, ho, hnf⟩ := J.stack.mem hb
      rw [z] at ho
      exact absurd (Heap.lt_size ho) (Nat.not_lt.mpr sT)
    have fresh := J.size_lt sT
    have tbs2 : Tbs X pins H' (some T) := fun T' z => by
      cases z
      exact ⟨Nat.le_trans J.sz sT, fresh.1, fresh.2.1, fresh.2.2.1, fresh.2.2.2⟩
    rcases alt with ⟨mro, hth⟩ | ⟨mro1, mro, hth⟩ | ⟨mro1, mro2, mro, hth⟩
    · exact handle_hit ok hg1 hm1 mk1 hN hj hl hh1 hdb1 J2 x' he tbs2 nT mkC mro hth
    · exact handle_miss hg1 hm1 mk1 hdb1 J2 x' mkC mro1 (handle_hit ok hg2 hm2 mk2 hN hj hl hh2 hdb2 J2 x' he tbs2 nT mkC mro hth)
    · exact handle_miss hg1 hm1 mk1 hdb1 J2 x' mkC mro1 (handle_miss hg2 hm2 mk2 hdb2 J2 x' mkC mro2 (handle_hit ok hg3 hm3 mk3 hN hj hl hh3 hdb3 J2 x' he tbs2 nT mkC mro hth))
  refine wpAny_mono (hb pins _ T [] s σ H D (I.tryc _) h1) (fun f s1 q => ?_) fun u s1 q => q
  cases f with
  | next =>
    obtain ⟨σ', H', J, z⟩ := q
    exact wpAny_execs_nil ⟨σ', H', J.untryc, z⟩
  | brk =>
    obtain ⟨σ', H', J, z⟩ := q
    exact ⟨σ', H', J.untryc, z⟩
  | cont =>
    obtain ⟨σ', H', J, z⟩ := q
    exact ⟨σ', H', J.untryc, z⟩
  | ret u =>
    obtain ⟨v, σ', H', J, r, z⟩ := q
    exact ⟨v, σ', H', J.untryc, r, z⟩
end
theorem FnOk.up {P : Program} {w : World} {K : PySem.W.Frag} {mg : Str → Option Value} {base : Heap} {CX : CXT} {k k' : Nat} {f : Addr} {fd : FuncData} {ps : List Str} {sp : Sp} (F : FnOk q0 P w K mg base CX k f fd ps sp) (h : k ≤ k') : FnOk q0 P w K mg base CX k' f fd ps sp :=
  ⟨F.len, fun A outer s H args us vs Q E hr => F.run A outer s H args us vs Q E (hr.mono h)⟩
/-- two promises of one def -/
theorem FnOk.or {P : Program} {w : World} {K : PySem.W.Frag} {mg : Str → Option Value} {base : Heap} {CX : CXT} {k : Nat} {f : Addr} {fd : FuncData} {ps : List Str} {s1 s2 : Sp} (F : FnOk q0 P w K mg base CX k f fd ps s1) (G : FnOk q0 P w K mg base CX k f fd ps s2) :
    FnOk q0 P w K mg base CX k f fd ps (fun vs H Q E => s1 vs H Q E ∨ s2 vs H Q E) :=
  ⟨fun vs H Q E h => h.elim (F.len vs H Q E) (G.len vs H Q E), fun A outer s H args us vs Q E hr e0 b v h => h.elim (F.run A outer s H args us vs Q E hr e0 b v) (G.run A outer s H args us vs Q E hr e0 b v)⟩
end L2

/-! ### leaders as lists of cells: the mathematics -/
namespace Geo
def dn (y r : Int) : Int := if y < r then 1 else -1
def upN (y r : Int) : Nat := if y < r then (r - y).toNat else (y - r).toNat
def wayI (b : Bool) : Int := if b then -1 else 1
def lvN (w x : Int) (b : Bool) : Nat := if b then (x + 1).toNat else (w + 2 - x).toNat
def upL (x y r : Int) : List (Int × Int) := (List.range (upN y r)).map fun (i : Nat) => (x, y + (i : Int) * dn y r)
def lvL (w x : Int) (b : Bool) (r : Int) : List (Int × Int) := (List.range (lvN w x b)).map fun (i : Nat) => (x + (i : Int) * wayI b, r)
def cells (w x y : Int) (b : Bool) (r : Int) : List (Int × Int) := upL x y r ++ lvL w x b r
/-- lies between, both counted -/
def btw (v a b : Int) : Prop := min a b ≤ v ∧ v ≤ max a b
instance (v a b : Int) : Decidable (btw v a b) := inferInstanceAs (Decidable (_ ∧ _))
/-- one list less one place -/
theorem erase_ok {ls : List Int} {k : Nat} {y : Int} (nd : ls.Nodup) (h : ls[k]? = some y) : (ls.eraseIdx k).Nodup ∧ y ∉ ls.eraseIdx k ∧ (∀ z ∈ ls.eraseIdx k, z ∈ ls) ∧ y ∈ ls := by
  obtain ⟨hk, hy⟩ := List.getElem?_eq_some_iff.mp h
  have e : ls.take k ++ y :: ls.drop (k + 1) = ls := by
    rw [← hy, List.getElem_cons_drop, List.take_append_drop]
  have e2 : ls.eraseIdx k = ls.take k ++ ls.drop (k + 1) := List.eraseIdx_eq_take_drop_succ ls k
  have nd2 := nd
  rw [← e, List.nodup_append, List.nodup_cons] at nd2
  obtain ⟨n1, ⟨n2, n3⟩, n4⟩ := nd2
  refine ⟨?_, ?_, fun z hz => List.mem_of_mem_eraseIdx hz, hy ▸ List.getElem_mem hk⟩
  · rw [e2, List.nodup_append]
    exact ⟨n1, n3, fun a ha b hb => n4 a ha b (List.mem_cons_of_mem _ hb)⟩
  · rw [e2, List.mem_append]
    rintro (z | z)
    · exact n4 _ z _ List.mem_cons_self rfl
    · exact n2 z
end Geo

set_option maxRecDepth 100000
set_option maxHeartbeats 4000000
namespace S11
open PySem L2 XL
def top (i : Nat) : Stmt := PySem.Challenge.pw_rimnotes_k11_leaders_walked.main.body.getD i (.Pass ⟨0, 0, 0, 0⟩)
abbrev s_NoPoint_init : Stmt := inClass (top 9) 0
abbrev s_NoSide_init : Stmt := inClass (top 13) 0
abbrev s_NoRow_init : Stmt := inClass (top 14) 0
abbrev s_Side_init : Stmt := inClass (top 16) 0
abbrev s_LeftSide_rim : Stmt := inClass (top 17) 1
abbrev s_LeftSide_way : Stmt := inClass (top 17) 2
abbrev s_LeftSide_across : Stmt := inClass (top 17) 3
abbrev s_RightSide_rim : Stmt := inClass (top 18) 1
abbrev s_RightSide_way : Stmt := inClass (top 18) 2
abbrev s_RightSide_across : Stmt := inClass (top 18) 3
abbrev s_side_of : Stmt := top 19
abbrev s_cells_of : Stmt := top 21
abbrev s_is_whole : Stmt := top 23
abbrev s_is_name : Stmt := top 24
abbrev s_Picture_init : Stmt := inClass (top 30) 0
abbrev s_Picture_put : Stmt := inClass (top 30) 1
abbrev s_Picture_points : Stmt := inClass (top 30) 6
abbrev s_Picture_place_of : Stmt := inClass (top 30) 8
abbrev s_Picture_length : Stmt := inClass (top 30) 10
abbrev s_Picture_check_name : Stmt := inClass (top 30) 15
abbrev s_Picture_check_cell : Stmt := inClass (top 30) 16
abbrev s_Picture_check_lines : Stmt := inClass (top 30) 17
abbrev s_Picture_check_seat : Stmt := inClass (top 30) 18
abbrev s_law_cell : Stmt := top 32
abbrev s_law_mix : Stmt := top 33
abbrev s_law_whole : Stmt := top 34
abbrev s_law_names : Stmt := top 35
abbrev s_law_places : Stmt := top 36
abbrev s_law_size : Stmt := top 37
abbrev s_law_picture : Stmt := top 38
abbrev s_law_due : Stmt := top 39
abbrev s_law_same : Stmt := top 40
abbrev s_law_told : Stmt := top 41
abbrev s_law_refused : Stmt := top 42
abbrev s_law_cells : Stmt := top 43
abbrev s_law : Stmt := top 44
structure Adr where
  f_NoPoint_init : Addr
  d_NoPoint_init : FuncData
  f_NoSide_init : Addr
  d_NoSide_init : FuncData
  f_NoRow_init : Addr
  d_NoRow_init : FuncData
  f_Side_init : Addr
  d_Side_init : FuncData
  f_LeftSide_rim : Addr
  d_LeftSide_rim : FuncData
  f_LeftSide_way : Addr
  d_LeftSide_way : FuncData
  f_LeftSide_across : Addr
  d_LeftSide_across : FuncData
  f_RightSide_rim : Addr
  d_RightSide_rim : FuncData
  f_RightSide_way : Addr
  d_RightSide_way : FuncData
  f_RightSide_across : Addr
  d_RightSide_across : FuncData
  f_side_of : Addr
  d_side_of : FuncData
  f_cells_of : Addr
  d_cells_of : FuncData
  f_is_whole : Addr
  d_is_whole : FuncData
  f_is_name : Addr
  d_is_name : FuncData
  f_Picture_init : Addr
  d_Picture_init : FuncData
  f_Picture_put : Addr
  d_Picture_put : FuncData
  T_Picture_put : Addr
  f_Picture_points : Addr
  d_Picture_points : FuncData
  f_Picture_place_of : Addr
  d_Picture_place_of : FuncData
  f_Picture_length : Addr
  d_Picture_length : FuncData
  f_Picture_check_name : Addr
  d_Picture_check_name : FuncData
  f_Picture_check_cell : Addr
  d_Picture_check_cell : FuncData
  f_Picture_check_lines : Addr
  d_Picture_check_lines : FuncData
  f_Picture_check_seat : Addr
  d_Picture_check_seat : FuncData
  f_law_cell : Addr
  d_law_cell : FuncData
  f_law_mix : Addr
  d_law_mix : FuncData
  f_law_whole : Addr
  d_law_whole : FuncData
  f_law_names : Addr
  d_law_names : FuncData
  f_law_places : Addr
  d_law_places : FuncData
  f_law_size : Addr
  d_law_size : FuncData
  f_law_picture : Addr
  d_law_picture : FuncData
  f_law_due : Addr
  d_law_due : FuncData
  f_law_same : Addr
  d_law_same : FuncData
  f_law_told : Addr
  d_law_told : FuncData
  f_law_refused : Addr
  d_law_refused : FuncData
  f_law_cells : Addr
  d_law_cells : FuncData
  f_law : Addr
  d_law : FuncData
  C_RimError : Addr
  C_NoPoint : Addr
  C_NoSide : Addr
  C_NoRow : Addr
  C_Side : Addr
  C_LeftSide : Addr
  C_RightSide : Addr
  C_Picture : Addr
  D_MIRRORED_SIDES : Addr
structure Txt (w : World) (K : PySem.W.Frag) (mg : Str → Option Value) (t : Adr) : Prop where
  g_RimError : mg "RimError" = some (.ref t.C_RimError)
  g_NoPoint : mg "NoPoint" = some (.ref t.C_NoPoint)
  g_NoSide : mg "NoSide" = some (.ref t.C_NoSide)
  g_NoRow : mg "NoRow" = some (.ref t.C_NoRow)
  g_Side : mg "Side" = some (.ref t.C_Side)
  g_LeftSide : mg "LeftSide" = some (.ref t.C_LeftSide)
  g_RightSide : mg "RightSide" = some (.ref t.C_RightSide)
  g_Picture : mg "Picture" = some (.ref t.C_Picture)
  F_NoPoint_init : Fun K "__init__" "NoPoint.__init__" s_NoPoint_init t.f_NoPoint_init t.d_NoPoint_init
  b_NoPoint_init : Binds K t.d_NoPoint_init ["self", "name"] []
  F_NoSide_init : Fun K "__init__" "NoSide.__init__" s_NoSide_init t.f_NoSide_init t.d_NoSide_init
  b_NoSide_init : Binds K t.d_NoSide_init ["self", "side"] []
  F_NoRow_init : Fun K "__init__" "NoRow.__init__" s_NoRow_init t.f_NoRow_init t.d_NoRow_init
  b_NoRow_init : Binds K t.d_NoRow_init ["self", "row"] []
  F_Side_init : Fun K "__init__" "Side.__init__" s_Side_init t.f_Side_init t.d_Side_init
  b_Side_init : Binds K t.d_Side_init ["self", "width"] []
  F_LeftSide_rim : Fun K "rim" "LeftSide.rim" s_LeftSide_rim t.f_LeftSide_rim t.d_LeftSide_rim
  b_LeftSide_rim : Binds K t.d_LeftSide_rim ["self"] []
  F_LeftSide_way : Fun K "way" "LeftSide.way" s_LeftSide_way t.f_LeftSide_way t.d_LeftSide_way
  b_LeftSide_way : Binds K t.d_LeftSide_way ["self"] []
  F_LeftSide_across : Fun K "across" "LeftSide.across" s_LeftSide_across t.f_LeftSide_across t.d_LeftSide_across
  b_LeftSide_across : Binds K t.d_LeftSide_across ["self", "x"] []
  F_RightSide_rim : Fun K "rim" "RightSide.rim" s_RightSide_rim t.f_RightSide_rim t.d_RightSide_rim
  b_RightSide_rim : Binds K t.d_RightSide_rim ["self"] []
  F_RightSide_way : Fun K "way" "RightSide.way" s_RightSide_way t.f_RightSide_way t.d_RightSide_way
  b_RightSide_way : Binds K t.d_RightSide_way ["self"] []
  F_RightSide_across : Fun K "across" "RightSide.across" s_RightSide_across t.f_RightSide_across t.d_RightSide_across
  b_RightSide_across : Binds K t.d_RightSide_across ["self", "x"] []
  g_side_of : mg "side_of" = some (.ref t.f_side_of)
  F_side_of : Fun K "side_of" "side_of" s_side_of t.f_side_of t.d_side_of
  b_side_of : Binds K t.d_side_of ["word", "width"] []
  g_cells_of : mg "cells_of" = some (.ref t.f_cells_of)
  F_cells_of : Fun K "cells_of" "cells_of" s_cells_of t.f_cells_of t.d_cells_of
  b_cells_of : Binds K t.d_cells_of ["picture", "name", "side", "row"] []
  g_is_whole : mg "is_whole" = some (.ref t.f_is_whole)
  F_is_whole : Fun K "is_whole" "is_whole" s_is_whole t.f_is_whole t.d_is_whole
  b_is_whole : Binds K t.d_is_whole ["thing", "low", "high"] []
  g_is_name : mg "is_name" = some (.ref t.f_is_name)
  F_is_name : Fun K "is_name" "is_name" s_is_name t.f_is_name t.d_is_name
  b_is_name : Binds K t.d_is_name ["thing"] []
  F_Picture_init : Fun K "__init__" "Picture.__init__" s_Picture_init t.f_Picture_init t.d_Picture_init
  b_Picture_init : Binds K t.d_Picture_init ["self", "width", "height"] []
  F_Picture_put : FunD K "put" "Picture.put" s_Picture_put t.T_Picture_put t.f_Picture_put t.d_Picture_put
  b_Picture_put : Binds K t.d_Picture_put ["self", "name", "x", "y", "sides", "low", "high"] []
  F_Picture_points : Fun K "points" "Picture.points" s_Picture_points t.f_Picture_points t.d_Picture_points
  b_Picture_points : Binds K t.d_Picture_points ["self"] []
  F_Picture_place_of : Fun K "place_of" "Picture.place_of" s_Picture_place_of t.f_Picture_place_of t.d_Picture_place_of
  b_Picture_place_of : Binds K t.d_Picture_place_of ["self", "name"] []
  F_Picture_length : Fun K "length" "Picture.length" s_Picture_length t.f_Picture_length t.d_Picture_length
  b_Picture_length : Binds K t.d_Picture_length ["self", "name", "side", "row"] []
  F_Picture_check_name : Fun K "check_name" "Picture.check_name" s_Picture_check_name t.f_Picture_check_name t.d_Picture_check_name
  b_Picture_check_name : Binds K t.d_Picture_check_name ["self", "name"] []
  F_Picture_check_cell : Fun K "check_cell" "Picture.check_cell" s_Picture_check_cell t.f_Picture_check_cell t.d_Picture_check_cell
  b_Picture_check_cell : Binds K t.d_Picture_check_cell ["self", "x", "y"] []
  F_Picture_check_lines : Fun K "check_lines" "Picture.check_lines" s_Picture_check_lines t.f_Picture_check_lines t.d_Picture_check_lines
  b_Picture_check_lines : Binds K t.d_Picture_check_lines ["self", "name", "x", "y"] []
  F_Picture_check_seat : Fun K "check_seat" "Picture.check_seat" s_Picture_check_seat t.f_Picture_check_seat t.d_Picture_check_seat
  b_Picture_check_seat : Binds K t.d_Picture_check_seat ["self", "side", "row"] []
  g_law_cell : mg "_law_cell" = some (.ref t.f_law_cell)
  F_law_cell : Fun K "_law_cell" "_law_cell" s_law_cell t.f_law_cell t.d_law_cell
  b_law_cell : Binds K t.d_law_cell ["_law_script", "_law_k"] []
  g_law_mix : mg "_law_mix" = some (.ref t.f_law_mix)
  F_law_mix : Fun K "_law_mix" "_law_mix" s_law_mix t.f_law_mix t.d_law_mix
  b_law_mix : Binds K t.d_law_mix ["_law_cell_here", "_law_k"] []
  g_law_whole : mg "_law_whole" = some (.ref t.f_law_whole)
  F_law_whole : Fun K "_law_whole" "_law_whole" s_law_whole t.f_law_whole t.d_law_whole
  b_law_whole : Binds K t.d_law_whole ["_law_found"] []
  g_law_names : mg "_law_names" = some (.ref t.f_law_names)
  F_law_names : Fun K "_law_names" "_law_names" s_law_names t.f_law_names t.d_law_names
  b_law_names : Binds K t.d_law_names ["_law_cell_here", "_law_many"] []
  g_law_places : mg "_law_places" = some (.ref t.f_law_places)
  F_law_places : Fun K "_law_places" "_law_places" s_law_places t.f_law_places t.d_law_places
  b_law_places : Binds K t.d_law_places ["_law_cell_here", "_law_size_here", "_law_many"] []
  g_law_size : mg "_law_size" = some (.ref t.f_law_size)
  F_law_size : Fun K "_law_size" "_law_size" s_law_size t.f_law_size t.d_law_size
  b_law_size : Binds K t.d_law_size ["_law_cell_here"] []
  g_law_picture : mg "_law_picture" = some (.ref t.f_law_picture)
  F_law_picture : Fun K "_law_picture" "_law_picture" s_law_picture t.f_law_picture t.d_law_picture
  b_law_picture : Binds K t.d_law_picture ["_law_script"] []
  g_law_due : mg "_law_due" = some (.ref t.f_law_due)
  F_law_due : Fun K "_law_due" "_law_due" s_law_due t.f_law_due t.d_law_due
  b_law_due : Binds K t.d_law_due ["_law_width", "_law_spot", "_law_side", "_law_row"] []
  g_law_same : mg "_law_same" = some (.ref t.f_law_same)
  F_law_same : Fun K "_law_same" "_law_same" s_law_same t.f_law_same t.d_law_same
  b_law_same : Binds K t.d_law_same ["_law_found", "_law_due_here"] []
  g_law_told : mg "_law_told" = some (.ref t.f_law_told)
  F_law_told : Fun K "_law_told" "_law_told" s_law_told t.f_law_told t.d_law_told
  b_law_told : Binds K t.d_law_told ["_law_picture_here", "_law_name", "_law_side", "_law_row"] []
  g_law_refused : mg "_law_refused" = some (.ref t.f_law_refused)
  F_law_refused : Fun K "_law_refused" "_law_refused" s_law_refused t.f_law_refused t.d_law_refused
  b_law_refused : Binds K t.d_law_refused ["_law_picture_here", "_law_name", "_law_other", "_law_cell_here"] []
  g_law_cells : mg "_law_cells" = some (.ref t.f_law_cells)
  F_law_cells : Fun K "_law_cells" "_law_cells" s_law_cells t.f_law_cells t.d_law_cells
  b_law_cells : Binds K t.d_law_cells ["_law_found", "_law_due_here"] []
  g_law : mg "law" = some (.ref t.f_law)
  F_law : Fun K "law" "law" s_law t.f_law t.d_law
  b_law : Binds K t.d_law ["_law_script"] []
  x_RimError : XC K t.C_RimError
  mk_RimError : xmkIn K t.C_RimError = true
  x_NoPoint : XC K t.C_NoPoint
  mk_NoPoint : xmkIn K t.C_NoPoint = true
  k_NoPoint : XMk K t.C_NoPoint t.f_NoPoint_init
  x_NoSide : XC K t.C_NoSide
  mk_NoSide : xmkIn K t.C_NoSide = true
  k_NoSide : XMk K t.C_NoSide t.f_NoSide_init
  x_NoRow : XC K t.C_NoRow
  mk_NoRow : xmkIn K t.C_NoRow = true
  k_NoRow : XMk K t.C_NoRow t.f_NoRow_init
  c_Side : Cls K t.C_Side
  ca_Side : PySem.W.findIn K (.ref t.C_Side) "__class__" = some (some (.builtin "object.__class__"))
  mo_Side : PySem.W.mroIn K t.C_Side (.type "object") = some true
  k_Side : Mk K t.C_Side t.f_Side_init
  c_LeftSide : Cls K t.C_LeftSide
  ca_LeftSide : PySem.W.findIn K (.ref t.C_LeftSide) "__class__" = some (some (.builtin "object.__class__"))
  mo_LeftSide : PySem.W.mroIn K t.C_LeftSide (.type "object") = some true
  k_LeftSide : Mk K t.C_LeftSide t.f_Side_init
  m_LeftSide_rim : Meth K t.C_LeftSide "rim" t.f_LeftSide_rim
  m_LeftSide_way : Meth K t.C_LeftSide "way" t.f_LeftSide_way
  m_LeftSide_across : Meth K t.C_LeftSide "across" t.f_LeftSide_across
  c_RightSide : Cls K t.C_RightSide
  ca_RightSide : PySem.W.findIn K (.ref t.C_RightSide) "__class__" = some (some (.builtin "object.__class__"))
  mo_RightSide : PySem.W.mroIn K t.C_RightSide (.type "object") = some true
  k_RightSide : Mk K t.C_RightSide t.f_Side_init
  m_RightSide_rim : Meth K t.C_RightSide "rim" t.f_RightSide_rim
  m_RightSide_way : Meth K t.C_RightSide "way" t.f_RightSide_way
  m_RightSide_across : Meth K t.C_RightSide "across" t.f_RightSide_across
  c_Picture : Cls K t.C_Picture
  ca_Picture : PySem.W.findIn K (.ref t.C_Picture) "__class__" = some (some (.builtin "object.__class__"))
  mo_Picture : PySem.W.mroIn K t.C_Picture (.type "object") = some true
  k_Picture : Mk K t.C_Picture t.f_Picture_init
  m_Picture_put : Meth K t.C_Picture "put" t.f_Picture_put
  m_Picture_points : Meth K t.C_Picture "points" t.f_Picture_points
  m_Picture_place_of : Meth K t.C_Picture "place_of" t.f_Picture_place_of
  m_Picture_length : Meth K t.C_Picture "length" t.f_Picture_length
  m_Picture_check_name : Meth K t.C_Picture "check_name" t.f_Picture_check_name
  m_Picture_check_cell : Meth K t.C_Picture "check_cell" t.f_Picture_check_cell
  m_Picture_check_lines : Meth K t.C_Picture "check_lines" t.f_Picture_check_lines
  m_Picture_check_seat : Meth K t.C_Picture "check_seat" t.f_Picture_check_seat
  cg : PySem.W.specialIn K (.builtin "object.__class__") "__get__" = some (some (.builtin "getset_descriptor.__get__"))
  ct : PySem.W.takesIn K (.builtin "object.__class__") = some true
  n_RightSide_width : PySem.W.findIn K (.ref t.C_RightSide) "width" = some none
  n_Picture_placed : PySem.W.findIn K (.ref t.C_Picture) "placed" = some none
  n_Picture_height : PySem.W.findIn K (.ref t.C_Picture) "height" = some none
  n_Picture_width : PySem.W.findIn K (.ref t.C_Picture) "width" = some none
  n_Picture_opened : PySem.W.findIn K (.ref t.C_Picture) "opened" = some none
  n_NoPoint_name : PySem.W.findIn K (.ref t.C_NoPoint) "name" = some none
  n_NoPoint_side : PySem.W.findIn K (.ref t.C_NoPoint) "side" = some none
  n_NoPoint_row : PySem.W.findIn K (.ref t.C_NoPoint) "row" = some none
  n_NoSide_name : PySem.W.findIn K (.ref t.C_NoSide) "name" = some none
  n_NoSide_side : PySem.W.findIn K (.ref t.C_NoSide) "side" = some none
  n_NoSide_row : PySem.W.findIn K (.ref t.C_NoSide) "row" = some none
  n_NoRow_name : PySem.W.findIn K (.ref t.C_NoRow) "name" = some none
  n_NoRow_side : PySem.W.findIn K (.ref t.C_NoRow) "side" = some none
  n_NoRow_row : PySem.W.findIn K (.ref t.C_NoRow) "row" = some none
  n_Side_width : PySem.W.findIn K (.ref t.C_Side) "width" = some none
  n_LeftSide_width : PySem.W.findIn K (.ref t.C_LeftSide) "width" = some none
  n_abs : mg "abs" = none
  n_bool : mg "bool" = none
  n_int : mg "int" = none
  n_isinstance : mg "isinstance" = none
  n_len : mg "len" = none
  n_list : mg "list" = none
  n_min : mg "min" = none
  n_range : mg "range" = none
  n_str : mg "str" = none
  n_tuple : mg "tuple" = none
  mro_NoPoint_NoPoint : PySem.W.mroIn K t.C_NoPoint (.ref t.C_NoPoint) = some true
  mro_NoSide_NoPoint : PySem.W.mroIn K t.C_NoSide (.ref t.C_NoPoint) = some false
  mro_NoSide_NoSide : PySem.W.mroIn K t.C_NoSide (.ref t.C_NoSide) = some true
  mro_NoRow_NoPoint : PySem.W.mroIn K t.C_NoRow (.ref t.C_NoPoint) = some false
  mro_NoRow_NoSide : PySem.W.mroIn K t.C_NoRow (.ref t.C_NoSide) = some false
  mro_NoRow_NoRow : PySem.W.mroIn K t.C_NoRow (.ref t.C_NoRow) = some true
  v_MOST_ROWS : ∃ tk, mg "MOST_ROWS" = some (.int 16 tk)
  v_MOST_COLUMNS : ∃ tk, mg "MOST_COLUMNS" = some (.int 30 tk)
  v_MOST_POINTS : ∃ tk, mg "MOST_POINTS" = some (.int 12 tk)
  g_MIRRORED_SIDES : mg "MIRRORED_SIDES" = some (.ref t.D_MIRRORED_SIDES)
  D_MIRRORED_SIDES : GDict w K t.D_MIRRORED_SIDES [(.inr "left", .str "right"), (.inr "right", .str "left"), (.inr "both", .str "both")]
theorem txt_mk {w : World} {K : PySem.W.Frag} {h : Heap} {mg : Str → Option Value} (X : K.In h) (G : h.Ns mainGlobals mg) {C_RimError C_NoPoint C_NoSide C_NoRow C_Side C_LeftSide C_RightSide C_Picture f_NoPoint_init f_NoSide_init f_NoRow_init f_Side_init f_LeftSide_rim f_LeftSide_way f_LeftSide_across f_RightSide_rim f_RightSide_way f_RightSide_across f_side_of f_cells_of f_is_whole f_is_name f_Picture_init f_Picture_put T_Picture_put f_Picture_points f_Picture_place_of f_Picture_length f_Picture_check_name f_Picture_check_cell f_Picture_check_lines f_Picture_check_seat f_law_cell f_law_mix f_law_whole f_law_names f_law_places f_law_size f_law_picture f_law_due f_law_same f_law_told f_law_refused f_law_cells f_law : Addr} {oc_NoPoint_init kv_NoPoint_init dc_NoPoint_init pm_NoPoint_init cd_NoPoint_init ct_NoPoint_init : Value} {od_NoPoint_init an_NoPoint_init : Option Addr} {sl_NoPoint_init : Array (Option Value)} {oc_NoSide_init kv_NoSide_init dc_NoSide_init pm_NoSide_init cd_NoSide_init ct_NoSide_init : Value} {od_NoSide_init an_NoSide_init : Option Addr} {sl_NoSide_init : Array (Option Value)} {oc_NoRow_init kv_NoRow_init dc_NoRow_init pm_NoRow_init cd_NoRow_init ct_NoRow_init : Value} {od_NoRow_init an_NoRow_init : Option Addr} {sl_NoRow_init : Array (Option Value)} {oc_Side_init kv_Side_init dc_Side_init pm_Side_init cd_Side_init ct_Side_init : Value} {od_Side_init an_Side_init : Option Addr} {sl_Side_init : Array (Option Value)} {oc_LeftSide_rim kv_LeftSide_rim dc_LeftSide_rim pm_LeftSide_rim cd_LeftSide_rim ct_LeftSide_rim : Value} {od_LeftSide_rim an_LeftSide_rim : Option Addr} {sl_LeftSide_rim : Array (Option Value)} {oc_LeftSide_way kv_LeftSide_way dc_LeftSide_way pm_LeftSide_way cd_LeftSide_way ct_LeftSide_way : Value} {od_LeftSide_way an_LeftSide_way : Option Addr} {sl_LeftSide_way : Array (Option Value)} {oc_LeftSide_across kv_LeftSide_across dc_LeftSide_across pm_LeftSide_across cd_LeftSide_across ct_LeftSide_across : Value} {od_LeftSide_across an_LeftSide_across : Option Addr} {sl_LeftSide_across : Array (Option Value)} {oc_RightSide_rim kv_RightSide_rim dc_RightSide_rim pm_RightSide_rim cd_RightSide_rim ct_RightSide_rim : Value} {od_RightSide_rim an_RightSide_rim : Option Addr} {sl_RightSide_rim : Array (Option Value)} {oc_RightSide_way kv_RightSide_way dc_RightSide_way pm_RightSide_way cd_RightSide_way ct_RightSide_way : Value} {od_RightSide_way an_RightSide_way : Option Addr} {sl_RightSide_way : Array (Option Value)} {oc_RightSide_across kv_RightSide_across dc_RightSide_across pm_RightSide_across cd_RightSide_across ct_RightSide_across : Value} {od_RightSide_across an_RightSide_across : Option Addr} {sl_RightSide_across : Array (Option Value)} {oc_side_of kv_side_of dc_side_of pm_side_of cd_side_of ct_side_of : Value} {od_side_of an_side_of : Option Addr} {sl_side_of : Array (Option Value)} {oc_cells_of kv_cells_of dc_cells_of pm_cells_of cd_cells_of ct_cells_of : Value} {od_cells_of an_cells_of : Option Addr} {sl_cells_of : Array (Option Value)} {oc_is_whole kv_is_whole dc_is_whole pm_is_whole cd_is_whole ct_is_whole : Value} {od_is_whole an_is_whole : Option Addr} {sl_is_whole : Array (Option Value)} {oc_is_name kv_is_name dc_is_name pm_is_name cd_is_name ct_is_name : Value} {od_is_name an_is_name : Option Addr} {sl_is_name : Array (Option Value)} {oc_Picture_init kv_Picture_init dc_Picture_init pm_Picture_init cd_Picture_init ct_Picture_init : Value} {od_Picture_init an_Picture_init : Option Addr} {sl_Picture_init : Array (Option Value)} {oc_Picture_put kv_Picture_put dc_Picture_put pm_Picture_put cd_Picture_put ct_Picture_put : Value} {od_Picture_put an_Picture_put : Option Addr} {sl_Picture_put : Array (Option Value)} {oc_Picture_points kv_Picture_points dc_Picture_points pm_Picture_points cd_Picture_points ct_Picture_points : Value} {od_Picture_points an_Picture_points : Option Addr} {sl_Picture_points : Array (Option Value)} {oc_Picture_place_of kv_Picture_place_of dc_Picture_place_of pm_Picture_place_of cd_Picture_place_of ct_Picture_place_of : Value} {od_Picture_place_of an_Picture_place_of : Option Addr} {sl_Picture_place_of : Array (Option Value)} {oc_Picture_length kv_Picture_length dc_Picture_length pm_Picture_length cd_Picture_length ct_Picture_length : Value} {od_Picture_length an_Picture_length : Option Addr} {sl_Picture_length : Array (Option Value)} {oc_Picture_check_name kv_Picture_check_name dc_Picture_check_name pm_Picture_check_name cd_Picture_check_name ct_Picture_check_name : Value} {od_Picture_check_name an_Picture_check_name : Option Addr} {sl_Picture_check_name : Array (Option Value)} {oc_Picture_check_cell kv_Picture_check_cell dc_Picture_check_cell pm_Picture_check_cell cd_Picture_check_cell ct_Picture_check_cell : Value} {od_Picture_check_cell an_Picture_check_cell : Option Addr} {sl_Picture_check_cell : Array (Option Value)} {oc_Picture_check_lines kv_Picture_check_lines dc_Picture_check_lines pm_Picture_check_lines cd_Picture_check_lines ct_Picture_check_lines : Value} {od_Picture_check_lines an_Picture_check_lines : Option Addr} {sl_Picture_check_lines : Array (Option Value)} {oc_Picture_check_seat kv_Picture_check_seat dc_Picture_check_seat pm_Picture_check_seat cd_Picture_check_seat ct_Picture_check_seat : Value} {od_Picture_check_seat an_Picture_check_seat : Option Addr} {sl_Picture_check_seat : Array (Option Value)} {oc_law_cell kv_law_cell dc_law_cell pm_law_cell cd_law_cell ct_law_cell : Value} {od_law_cell an_law_cell : Option Addr} {sl_law_cell : Array (Option Value)} {oc_law_mix kv_law_mix dc_law_mix pm_law_mix cd_law_mix ct_law_mix : Value} {od_law_mix an_law_mix : Option Addr} {sl_law_mix : Array (Option Value)} {oc_law_whole kv_law_whole dc_law_whole pm_law_whole cd_law_whole ct_law_whole : Value} {od_law_whole an_law_whole : Option Addr} {sl_law_whole : Array (Option Value)} {oc_law_names kv_law_names dc_law_names pm_law_names cd_law_names ct_law_names : Value} {od_law_names an_law_names : Option Addr} {sl_law_names : Array (Option Value)} {oc_law_places kv_law_places dc_law_places pm_law_places cd_law_places ct_law_places : Value} {od_law_places an_law_places : Option Addr} {sl_law_places : Array (Option Value)} {oc_law_size kv_law_size dc_law_size pm_law_size cd_law_size ct_law_size : Value} {od_law_size an_law_size : Option Addr} {sl_law_size : Array (Option Value)} {oc_law_picture kv_law_picture dc_law_picture pm_law_picture cd_law_picture ct_law_picture : Value} {od_law_picture an_law_picture : Option Addr} {sl_law_picture : Array (Option Value)} {oc_law_due kv_law_due dc_law_due pm_law_due cd_law_due ct_law_due : Value} {od_law_due an_law_due : Option Addr} {sl_law_due : Array (Option Value)} {oc_law_same kv_law_same dc_law_same pm_law_same cd_law_same ct_law_same : Value} {od_law_same an_law_same : Option Addr} {sl_law_same : Array (Option Value)} {oc_law_told kv_law_told dc_law_told pm_law_told cd_law_told ct_law_told : Value} {od_law_told an_law_told : Option Addr} {sl_law_told : Array (Option Value)} {oc_law_refused kv_law_refused dc_law_refused pm_law_refused cd_law_refused ct_law_refused : Value} {od_law_refused an_law_refused : Option Addr} {sl_law_refused : Array (Option Value)} {oc_law_cells kv_law_cells dc_law_cells pm_law_cells cd_law_cells ct_law_cells : Value} {od_law_cells an_law_cells : Option Addr} {sl_law_cells : Array (Option Value)} {oc_law kv_law dc_law pm_law cd_law ct_law : Value} {od_law an_law : Option Addr} {sl_law : Array (Option Value)} {tk0_Picture_put : Tok} {tk1_Picture_put : Tok} {toc_Picture_put : Value} {tod_Picture_put : Option Addr} {tn_Picture_put : Nat} {tsl_Picture_put : Array (Option Value)} {tkc_MOST_ROWS : Tok} {tkc_MOST_COLUMNS : Tok} {tkc_MOST_POINTS : Tok} {D_MIRRORED_SIDES : Addr} {ta0_MIRRORED_SIDES tb0_MIRRORED_SIDES : Tok} {ta1_MIRRORED_SIDES tb1_MIRRORED_SIDES : Tok} {ta2_MIRRORED_SIDES tb2_MIRRORED_SIDES : Tok} {ep_MIRRORED_SIDES : Nat}
    (g_RimError : PySem.W.nsIn K mainGlobals "RimError" = some (some (.ref C_RimError)))
    (g_NoPoint : PySem.W.nsIn K mainGlobals "NoPoint" = some (some (.ref C_NoPoint)))
    (g_NoSide : PySem.W.nsIn K mainGlobals "NoSide" = some (some (.ref C_NoSide)))
    (g_NoRow : PySem.W.nsIn K mainGlobals "NoRow" = some (some (.ref C_NoRow)))
    (g_Side : PySem.W.nsIn K mainGlobals "Side" = some (some (.ref C_Side)))
    (g_LeftSide : PySem.W.nsIn K mainGlobals "LeftSide" = some (some (.ref C_LeftSide)))
    (g_RightSide : PySem.W.nsIn K mainGlobals "RightSide" = some (some (.ref C_RightSide)))
    (g_Picture : PySem.W.nsIn K mainGlobals "Picture" = some (some (.ref C_Picture)))
    (a_NoPoint_init : PySem.W.findIn K (.ref C_NoPoint) "__init__" = some (some (.ref f_NoPoint_init)))
    (l_NoPoint_init : K.lookup f_NoPoint_init = some ⟨oc_NoPoint_init, od_NoPoint_init, .func (PySem.W.fnOf "__init__" "NoPoint.__init__" (defArgs s_NoPoint_init) (defBody s_NoPoint_init) (defScope s_NoPoint_init) .none kv_NoPoint_init dc_NoPoint_init pm_NoPoint_init an_NoPoint_init cd_NoPoint_init ct_NoPoint_init), sl_NoPoint_init⟩)
    (c_NoPoint_init : PySem.W.codeIn K cd_NoPoint_init "NoPoint.__init__" = true)
    (k_NoPoint_init : PySem.W.keepIn K (.ref f_NoPoint_init) = true)
    (i_NoPoint_init : PySem.W.isFn K (.ref f_NoPoint_init) = true)
    (a_NoSide_init : PySem.W.findIn K (.ref C_NoSide) "__init__" = some (some (.ref f_NoSide_init)))
    (l_NoSide_init : K.lookup f_NoSide_init = some ⟨oc_NoSide_init, od_NoSide_init, .func (PySem.W.fnOf "__init__" "NoSide.__init__" (defArgs s_NoSide_init) (defBody s_NoSide_init) (defScope s_NoSide_init) .none kv_NoSide_init dc_NoSide_init pm_NoSide_init an_NoSide_init cd_NoSide_init ct_NoSide_init), sl_NoSide_init⟩)
    (c_NoSide_init : PySem.W.codeIn K cd_NoSide_init "NoSide.__init__" = true)
    (k_NoSide_init : PySem.W.keepIn K (.ref f_NoSide_init) = true)
    (i_NoSide_init : PySem.W.isFn K (.ref f_NoSide_init) = true)
    (a_NoRow_init : PySem.W.findIn K (.ref C_NoRow) "__init__" = some (some (.ref f_NoRow_init)))
    (l_NoRow_init : K.lookup f_NoRow_init = some ⟨oc_NoRow_init, od_NoRow_init, .func (PySem.W.fnOf "__init__" "NoRow.__init__" (defArgs s_NoRow_init) (defBody s_NoRow_init) (defScope s_NoRow_init) .none kv_NoRow_init dc_NoRow_init pm_NoRow_init an_NoRow_init cd_NoRow_init ct_NoRow_init), sl_NoRow_init⟩)
    (c_NoRow_init : PySem.W.codeIn K cd_NoRow_init "NoRow.__init__" = true)
    (k_NoRow_init : PySem.W.keepIn K (.ref f_NoRow_init) = true)
    (i_NoRow_init : PySem.W.isFn K (.ref f_NoRow_init) = true)
    (a_Side_init : PySem.W.findIn K (.ref C_Side) "__init__" = some (some (.ref f_Side_init)))
    (l_Side_init : K.lookup f_Side_init = some ⟨oc_Side_init, od_Side_init, .func (PySem.W.fnOf "__init__" "Side.__init__" (defArgs s_Side_init) (defBody s_Side_init) (defScope s_Side_init) .none kv_Side_init dc_Side_init pm_Side_init an_Side_init cd_Side_init ct_Side_init), sl_Side_init⟩)
    (c_Side_init : PySem.W.codeIn K cd_Side_init "Side.__init__" = true)
    (k_Side_init : PySem.W.keepIn K (.ref f_Side_init) = true)
    (i_Side_init : PySem.W.isFn K (.ref f_Side_init) = true)
    (a_LeftSide_rim : PySem.W.findIn K (.ref C_LeftSide) "rim" = some (some (.ref f_LeftSide_rim)))
    (l_LeftSide_rim : K.lookup f_LeftSide_rim = some ⟨oc_LeftSide_rim, od_LeftSide_rim, .func (PySem.W.fnOf "rim" "LeftSide.rim" (defArgs s_LeftSide_rim) (defBody s_LeftSide_rim) (defScope s_LeftSide_rim) .none kv_LeftSide_rim dc_LeftSide_rim pm_LeftSide_rim an_LeftSide_rim cd_LeftSide_rim ct_LeftSide_rim), sl_LeftSide_rim⟩)
    (c_LeftSide_rim : PySem.W.codeIn K cd_LeftSide_rim "LeftSide.rim" = true)
    (k_LeftSide_rim : PySem.W.keepIn K (.ref f_LeftSide_rim) = true)
    (i_LeftSide_rim : PySem.W.isFn K (.ref f_LeftSide_rim) = true)
    (a_LeftSide_way : PySem.W.findIn K (.ref C_LeftSide) "way" = some (some (.ref f_LeftSide_way)))
    (l_LeftSide_way : K.lookup f_LeftSide_way = some ⟨oc_LeftSide_way, od_LeftSide_way, .func (PySem.W.fnOf "way" "LeftSide.way" (defArgs s_LeftSide_way) (defBody s_LeftSide_way) (defScope s_LeftSide_way) .none kv_LeftSide_way dc_LeftSide_way pm_LeftSide_way an_LeftSide_way cd_LeftSide_way ct_LeftSide_way), sl_LeftSide_way⟩)
    (c_LeftSide_way : PySem.W.codeIn K cd_LeftSide_way "LeftSide.way" = true)
    (k_LeftSide_way : PySem.W.keepIn K (.ref f_LeftSide_way) = true)
    (i_LeftSide_way : PySem.W.isFn K (.ref f_LeftSide_way) = true)
    (a_LeftSide_across : PySem.W.findIn K (.ref C_LeftSide) "across" = some (some (.ref f_LeftSide_across)))
    (l_LeftSide_across : K.lookup f_LeftSide_across = some ⟨oc_LeftSide_across, od_LeftSide_across, .func (PySem.W.fnOf "across" "LeftSide.across" (defArgs s_LeftSide_across) (defBody s_LeftSide_across) (defScope s_LeftSide_across) .none kv_LeftSide_across dc_LeftSide_across pm_LeftSide_across an_LeftSide_across cd_LeftSide_across ct_LeftSide_across), sl_LeftSide_across⟩)
    (c_LeftSide_across : PySem.W.codeIn K cd_LeftSide_across "LeftSide.across" = true)
    (k_LeftSide_across : PySem.W.keepIn K (.ref f_LeftSide_across) = true)
    (i_LeftSide_across : PySem.W.isFn K (.ref f_LeftSide_across) = true)
    (a_RightSide_rim : PySem.W.findIn K (.ref C_RightSide) "rim" = some (some (.ref f_RightSide_rim)))
    (l_RightSide_rim : K.lookup f_RightSide_rim = some ⟨oc_RightSide_rim, od_RightSide_rim, .func (PySem.W.fnOf "rim" "RightSide.rim" (defArgs s_RightSide_rim) (defBody s_RightSide_rim) (defScope s_RightSide_rim) .none kv_RightSide_rim dc_RightSide_rim pm_RightSide_rim an_RightSide_rim cd_RightSide_rim ct_RightSide_rim), sl_RightSide_rim⟩)
    (c_RightSide_rim : PySem.W.codeIn K cd_RightSide_rim "RightSide.rim" = true)
    (k_RightSide_rim : PySem.W.keepIn K (.ref f_RightSide_rim) = true)
    (i_RightSide_rim : PySem.W.isFn K (.ref f_RightSide_rim) = true)
    (a_RightSide_way : PySem.W.findIn K (.ref C_RightSide) "way" = some (some (.ref f_RightSide_way)))
    (l_RightSide_way : K.lookup f_RightSide_way = some ⟨oc_RightSide_way, od_RightSide_way, .func (PySem.W.fnOf "way" "RightSide.way" (defArgs s_RightSide_way) (defBody s_RightSide_way) (defScope s_RightSide_way) .none kv_RightSide_way dc_RightSide_way pm_RightSide_way an_RightSide_way cd_RightSide_way ct_RightSide_way), sl_RightSide_way⟩)
    (c_RightSide_way : PySem.W.codeIn K cd_RightSide_way "RightSide.way" = true)
    (k_RightSide_way : PySem.W.keepIn K (.ref f_RightSide_way) = true)
    (i_RightSide_way : PySem.W.isFn K (.ref f_RightSide_way) = true)
    (a_RightSide_across : PySem.W.findIn K (.ref C_RightSide) "across" = some (some (.ref f_RightSide_across)))
    (l_RightSide_across : K.lookup f_RightSide_across = some ⟨oc_RightSide_across, od_RightSide_across, .func (PySem.W.fnOf "across" "RightSide.across" (defArgs s_RightSide_across) (defBody s_RightSide_across) (defScope s_RightSide_across) .none kv_RightSide_across dc_RightSide_across pm_RightSide_across an_RightSide_across cd_RightSide_across ct_RightSide_across), sl_RightSide_across⟩)
    (c_RightSide_across : PySem.W.codeIn K cd_RightSide_across "RightSide.across" = true)
    (k_RightSide_across : PySem.W.keepIn K (.ref f_RightSide_across) = true)
    (i_RightSide_across : PySem.W.isFn K (.ref f_RightSide_across) = true)
    (a_side_of : PySem.W.nsIn K mainGlobals "side_of" = some (some (.ref f_side_of)))
    (l_side_of : K.lookup f_side_of = some ⟨oc_side_of, od_side_of, .func (PySem.W.fnOf "side_of" "side_of" (defArgs s_side_of) (defBody s_side_of) (defScope s_side_of) .none kv_side_of dc_side_of pm_side_of an_side_of cd_side_of ct_side_of), sl_side_of⟩)
    (c_side_of : PySem.W.codeIn K cd_side_of "side_of" = true)
    (k_side_of : PySem.W.keepIn K (.ref f_side_of) = true)
    (i_side_of : PySem.W.isFn K (.ref f_side_of) = true)
    (a_cells_of : PySem.W.nsIn K mainGlobals "cells_of" = some (some (.ref f_cells_of)))
    (l_cells_of : K.lookup f_cells_of = some ⟨oc_cells_of, od_cells_of, .func (PySem.W.fnOf "cells_of" "cells_of" (defArgs s_cells_of) (defBody s_cells_of) (defScope s_cells_of) .none kv_cells_of dc_cells_of pm_cells_of an_cells_of cd_cells_of ct_cells_of), sl_cells_of⟩)
    (c_cells_of : PySem.W.codeIn K cd_cells_of "cells_of" = true)
    (k_cells_of : PySem.W.keepIn K (.ref f_cells_of) = true)
    (i_cells_of : PySem.W.isFn K (.ref f_cells_of) = true)
    (a_is_whole : PySem.W.nsIn K mainGlobals "is_whole" = some (some (.ref f_is_whole)))
    (l_is_whole : K.lookup f_is_whole = some ⟨oc_is_whole, od_is_whole, .func (PySem.W.fnOf "is_whole" "is_whole" (defArgs s_is_whole) (defBody s_is_whole) (defScope s_is_whole) .none kv_is_whole dc_is_whole pm_is_whole an_is_whole cd_is_whole ct_is_whole), sl_is_whole⟩)
    (c_is_whole : PySem.W.codeIn K cd_is_whole "is_whole" = true)
    (k_is_whole : PySem.W.keepIn K (.ref f_is_whole) = true)
    (i_is_whole : PySem.W.isFn K (.ref f_is_whole) = true)
    (a_is_name : PySem.W.nsIn K mainGlobals "is_name" = some (some (.ref f_is_name)))
    (l_is_name : K.lookup f_is_name = some ⟨oc_is_name, od_is_name, .func (PySem.W.fnOf "is_name" "is_name" (defArgs s_is_name) (defBody s_is_name) (defScope s_is_name) .none kv_is_name dc_is_name pm_is_name an_is_name cd_is_name ct_is_name), sl_is_name⟩)
    (c_is_name : PySem.W.codeIn K cd_is_name "is_name" = true)
    (k_is_name : PySem.W.keepIn K (.ref f_is_name) = true)
    (i_is_name : PySem.W.isFn K (.ref f_is_name) = true)
    (a_Picture_init : PySem.W.findIn K (.ref C_Picture) "__init__" = some (some (.ref f_Picture_init)))
    (l_Picture_init : K.lookup f_Picture_init = some ⟨oc_Picture_init, od_Picture_init, .func (PySem.W.fnOf "__init__" "Picture.__init__" (defArgs s_Picture_init) (defBody s_Picture_init) (defScope s_Picture_init) .none kv_Picture_init dc_Picture_init pm_Picture_init an_Picture_init cd_Picture_init ct_Picture_init), sl_Picture_init⟩)
    (c_Picture_init : PySem.W.codeIn K cd_Picture_init "Picture.__init__" = true)
    (k_Picture_init : PySem.W.keepIn K (.ref f_Picture_init) = true)
    (i_Picture_init : PySem.W.isFn K (.ref f_Picture_init) = true)
    (a_Picture_put : PySem.W.findIn K (.ref C_Picture) "put" = some (some (.ref f_Picture_put)))
    (l_Picture_put : K.lookup f_Picture_put = some ⟨oc_Picture_put, od_Picture_put, .func (PySem.W.fnOf "put" "Picture.put" (defArgs s_Picture_put) (defBody s_Picture_put) (defScope s_Picture_put) (.ref T_Picture_put) kv_Picture_put dc_Picture_put pm_Picture_put an_Picture_put cd_Picture_put ct_Picture_put), sl_Picture_put⟩)
    (c_Picture_put : PySem.W.codeIn K cd_Picture_put "Picture.put" = true)
    (k_Picture_put : PySem.W.keepIn K (.ref f_Picture_put) = true)
    (i_Picture_put : PySem.W.isFn K (.ref f_Picture_put) = true)
    (t_Picture_put : K.lookup T_Picture_put = some ⟨toc_Picture_put, tod_Picture_put, .seq #[.str "both" tk0_Picture_put, .int 1 tk1_Picture_put, .none] tn_Picture_put, tsl_Picture_put⟩)
    (a_Picture_points : PySem.W.findIn K (.ref C_Picture) "points" = some (some (.ref f_Picture_points)))
    (l_Picture_points : K.lookup f_Picture_points = some ⟨oc_Picture_points, od_Picture_points, .func (PySem.W.fnOf "points" "Picture.points" (defArgs s_Picture_points) (defBody s_Picture_points) (defScope s_Picture_points) .none kv_Picture_points dc_Picture_points pm_Picture_points an_Picture_points cd_Picture_points ct_Picture_points), sl_Picture_points⟩)
    (c_Picture_points : PySem.W.codeIn K cd_Picture_points "Picture.points" = true)
    (k_Picture_points : PySem.W.keepIn K (.ref f_Picture_points) = true)
    (i_Picture_points : PySem.W.isFn K (.ref f_Picture_points) = true)
    (a_Picture_place_of : PySem.W.findIn K (.ref C_Picture) "place_of" = some (some (.ref f_Picture_place_of)))
    (l_Picture_place_of : K.lookup f_Picture_place_of = some ⟨oc_Picture_place_of, od_Picture_place_of, .func (PySem.W.fnOf "place_of" "Picture.place_of" (defArgs s_Picture_place_of) (defBody s_Picture_place_of) (defScope s_Picture_place_of) .none kv_Picture_place_of dc_Picture_place_of pm_Picture_place_of an_Picture_place_of cd_Picture_place_of ct_Picture_place_of), sl_Picture_place_of⟩)
    (c_Picture_place_of : PySem.W.codeIn K cd_Picture_place_of "Picture.place_of" = true)
    (k_Picture_place_of : PySem.W.keepIn K (.ref f_Picture_place_of) = true)
    (i_Picture_place_of : PySem.W.isFn K (.ref f_Picture_place_of) = true)
    (a_Picture_length : PySem.W.findIn K (.ref C_Picture) "length" = some (some (.ref f_Picture_length)))
    (l_Picture_length : K.lookup f_Picture_length = some ⟨oc_Picture_length, od_Picture_length, .func (PySem.W.fnOf "length" "Picture.length" (defArgs s_Picture_length) (defBody s_Picture_length) (defScope s_Picture_length) .none kv_Picture_length dc_Picture_length pm_Picture_length an_Picture_length cd_Picture_length ct_Picture_length), sl_Picture_length⟩)
    (c_Picture_length : PySem.W.codeIn K cd_Picture_length "Picture.length" = true)
    (k_Picture_length : PySem.W.keepIn K (.ref f_Picture_length) = true)
    (i_Picture_length : PySem.W.isFn K (.ref f_Picture_length) = true)
    (a_Picture_check_name : PySem.W.findIn K (.ref C_Picture) "check_name" = some (some (.ref f_Picture_check_name)))
    (l_Picture_check_name : K.lookup f_Picture_check_name = some ⟨oc_Picture_check_name, od_Picture_check_name, .func (PySem.W.fnOf "check_name" "Picture.check_name" (defArgs s_Picture_check_name) (defBody s_Picture_check_name) (defScope s_Picture_check_name) .none kv_Picture_check_name dc_Picture_check_name pm_Picture_check_name an_Picture_check_name cd_Picture_check_name ct_Picture_check_name), sl_Picture_check_name⟩)
    (c_Picture_check_name : PySem.W.codeIn K cd_Picture_check_name "Picture.check_name" = true)
    (k_Picture_check_name : PySem.W.keepIn K (.ref f_Picture_check_name) = true)
    (i_Picture_check_name : PySem.W.isFn K (.ref f_Picture_check_name) = true)
    (a_Picture_check_cell : PySem.W.findIn K (.ref C_Picture) "check_cell" = some (some (.ref f_Picture_check_cell)))
    (l_Picture_check_cell : K.lookup f_Picture_check_cell = some ⟨oc_Picture_check_cell, od_Picture_check_cell, .func (PySem.W.fnOf "check_cell" "Picture.check_cell" (defArgs s_Picture_check_cell) (defBody s_Picture_check_cell) (defScope s_Picture_check_cell) .none kv_Picture_check_cell dc_Picture_check_cell pm_Picture_check_cell an_Picture_check_cell cd_Picture_check_cell ct_Picture_check_cell), sl_Picture_check_cell⟩)
    (c_Picture_check_cell : PySem.W.codeIn K cd_Picture_check_cell "Picture.check_cell" = true)
    (k_Picture_check_cell : PySem.W.keepIn K (.ref f_Picture_check_cell) = true)
    (i_Picture_check_cell : PySem.W.isFn K (.ref f_Picture_check_cell) = true)
    (a_Picture_check_lines : PySem.W.findIn K (.ref C_Picture) "check_lines" = some (some (.ref f_Picture_check_lines)))
    (l_Picture_check_lines : K.lookup f_Picture_check_lines = some ⟨oc_Picture_check_lines, od_Picture_check_lines, .func (PySem.W.fnOf "check_lines" "Picture.check_lines" (defArgs s_Picture_check_lines) (defBody s_Picture_check_lines) (defScope s_Picture_check_lines) .none kv_Picture_check_lines dc_Picture_check_lines pm_Picture_check_lines an_Picture_check_lines cd_Picture_check_lines ct_Picture_check_lines), sl_Picture_check_lines⟩)
    (c_Picture_check_lines : PySem.W.codeIn K cd_Picture_check_lines "Picture.check_lines" = true)
    (k_Picture_check_lines : PySem.W.keepIn K (.ref f_Picture_check_lines) = true)
    (i_Picture_check_lines : PySem.W.isFn K (.ref f_Picture_check_lines) = true)
    (a_Picture_check_seat : PySem.W.findIn K (.ref C_Picture) "check_seat" = some (some (.ref f_Picture_check_seat)))
    (l_Picture_check_seat : K.lookup f_Picture_check_seat = some ⟨oc_Picture_check_seat, od_Picture_check_seat, .func (PySem.W.fnOf "check_seat" "Picture.check_seat" (defArgs s_Picture_check_seat) (defBody s_Picture_check_seat) (defScope s_Picture_check_seat) .none kv_Picture_check_seat dc_Picture_check_seat pm_Picture_check_seat an_Picture_check_seat cd_Picture_check_seat ct_Picture_check_seat), sl_Picture_check_seat⟩)
    (c_Picture_check_seat : PySem.W.codeIn K cd_Picture_check_seat "Picture.check_seat" = true)
    (k_Picture_check_seat : PySem.W.keepIn K (.ref f_Picture_check_seat) = true)
    (i_Picture_check_seat : PySem.W.isFn K (.ref f_Picture_check_seat) = true)
    (a_law_cell : PySem.W.nsIn K mainGlobals "_law_cell" = some (some (.ref f_law_cell)))
    (l_law_cell : K.lookup f_law_cell = some ⟨oc_law_cell, od_law_cell, .func (PySem.W.fnOf "_law_cell" "_law_cell" (defArgs s_law_cell) (defBody s_law_cell) (defScope s_law_cell) .none kv_law_cell dc_law_cell pm_law_cell an_law_cell cd_law_cell ct_law_cell), sl_law_cell⟩)
    (c_law_cell : PySem.W.codeIn K cd_law_cell "_law_cell" = true)
    (k_law_cell : PySem.W.keepIn K (.ref f_law_cell) = true)
    (i_law_cell : PySem.W.isFn K (.ref f_law_cell) = true)
    (a_law_mix : PySem.W.nsIn K mainGlobals "_law_mix" = some (some (.ref f_law_mix)))
    (l_law_mix : K.lookup f_law_mix = some ⟨oc_law_mix, od_law_mix, .func (PySem.W.fnOf "_law_mix" "_law_mix" (defArgs s_law_mix) (defBody s_law_mix) (defScope s_law_mix) .none kv_law_mix dc_law_mix pm_law_mix an_law_mix cd_law_mix ct_law_mix), sl_law_mix⟩)
    (c_law_mix : PySem.W.codeIn K cd_law_mix "_law_mix" = true)
    (k_law_mix : PySem.W.keepIn K (.ref f_law_mix) = true)
    (i_law_mix : PySem.W.isFn K (.ref f_law_mix) = true)
    (a_law_whole : PySem.W.nsIn K mainGlobals "_law_whole" = some (some (.ref f_law_whole)))
    (l_law_whole : K.lookup f_law_whole = some ⟨oc_law_whole, od_law_whole, .func (PySem.W.fnOf "_law_whole" "_law_whole" (defArgs s_law_whole) (defBody s_law_whole) (defScope s_law_whole) .none kv_law_whole dc_law_whole pm_law_whole an_law_whole cd_law_whole ct_law_whole), sl_law_whole⟩)
    (c_law_whole : PySem.W.codeIn K cd_law_whole "_law_whole" = true)
    (k_law_whole : PySem.W.keepIn K (.ref f_law_whole) = true)
    (i_law_whole : PySem.W.isFn K (.ref f_law_whole) = true)
    (a_law_names : PySem.W.nsIn K mainGlobals "_law_names" = some (some (.ref f_law_names)))
    (l_law_names : K.lookup f_law_names = some ⟨oc_law_names, od_law_names, .func (PySem.W.fnOf "_law_names" "_law_names" (defArgs s_law_names) (defBody s_law_names) (defScope s_law_names) .none kv_law_names dc_law_names pm_law_names an_law_names cd_law_names ct_law_names), sl_law_names⟩)
    (c_law_names : PySem.W.codeIn K cd_law_names "_law_names" = true)
    (k_law_names : PySem.W.keepIn K (.ref f_law_names) = true)
    (i_law_names : PySem.W.isFn K (.ref f_law_names) = true)
    (a_law_places : PySem.W.nsIn K mainGlobals "_law_places" = some (some (.ref f_law_places)))
    (l_law_places : K.lookup f_law_places = some ⟨oc_law_places, od_law_places, .func (PySem.W.fnOf "_law_places" "_law_places" (defArgs s_law_places) (defBody s_law_places) (defScope s_law_places) .none kv_law_places dc_law_places pm_law_places an_law_places cd_law_places ct_law_places), sl_law_places⟩)
    (c_law_places : PySem.W.codeIn K cd_law_places "_law_places" = true)
    (k_law_places : PySem.W.keepIn K (.ref f_law_places) = true)
    (i_law_places : PySem.W.isFn K (.ref f_law_places) = true)
    (a_law_size : PySem.W.nsIn K mainGlobals "_law_size" = some (some (.ref f_law_size)))
    (l_law_size : K.lookup f_law_size = some ⟨oc_law_size, od_law_size, .func (PySem.W.fnOf "_law_size" "_law_size" (defArgs s_law_size) (defBody s_law_size) (defScope s_law_size) .none kv_law_size dc_law_size pm_law_size an_law_size cd_law_size ct_law_size), sl_law_size⟩)
    (c_law_size : PySem.W.codeIn K cd_law_size "_law_size" = true)
    (k_law_size : PySem.W.keepIn K (.ref f_law_size) = true)
    (i_law_size : PySem.W.isFn K (.ref f_law_size) = true)
    (a_law_picture : PySem.W.nsIn K mainGlobals "_law_picture" = some (some (.ref f_law_picture)))
    (l_law_picture : K.lookup f_law_picture = some ⟨oc_law_picture, od_law_picture, .func (PySem.W.fnOf "_law_picture" "_law_picture" (defArgs s_law_picture) (defBody s_law_picture) (defScope s_law_picture) .none kv_law_picture dc_law_picture pm_law_picture an_law_picture cd_law_picture ct_law_picture), sl_law_picture⟩)
    (c_law_picture : PySem.W.codeIn K cd_law_picture "_law_picture" = true)
    (k_law_picture : PySem.W.keepIn K (.ref f_law_picture) = true)
    (i_law_picture : PySem.W.isFn K (.ref f_law_picture) = true)
    (a_law_due : PySem.W.nsIn K mainGlobals "_law_due" = some (some (.ref f_law_due)))
    (l_law_due : K.lookup f_law_due = some ⟨oc_law_due, od_law_due, .func (PySem.W.fnOf "_law_due" "_law_due" (defArgs s_law_due) (defBody s_law_due) (defScope s_law_due) .none kv_law_due dc_law_due pm_law_due an_law_due cd_law_due ct_law_due), sl_law_due⟩)
    (c_law_due : PySem.W.codeIn K cd_law_due "_law_due" = true)
    (k_law_due : PySem.W.keepIn K (.ref f_law_due) = true)
    (i_law_due : PySem.W.isFn K (.ref f_law_due) = true)
    (a_law_same : PySem.W.nsIn K mainGlobals "_law_same" = some (some (.ref f_law_same)))
    (l_law_same : K.lookup f_law_same = some ⟨oc_law_same, od_law_same, .func (PySem.W.fnOf "_law_same" "_law_same" (defArgs s_law_same) (defBody s_law_same) (defScope s_law_same) .none kv_law_same dc_law_same pm_law_same an_law_same cd_law_same ct_law_same), sl_law_same⟩)
    (c_law_same : PySem.W.codeIn K cd_law_same "_law_same" = true)
    (k_law_same : PySem.W.keepIn K (.ref f_law_same) = true)
    (i_law_same : PySem.W.isFn K (.ref f_law_same) = true)
    (a_law_told : PySem.W.nsIn K mainGlobals "_law_told" = some (some (.ref f_law_told)))
    (l_law_told : K.lookup f_law_told = some ⟨oc_law_told, od_law_told, .func (PySem.W.fnOf "_law_told" "_law_told" (defArgs s_law_told) (defBody s_law_told) (defScope s_law_told) .none kv_law_told dc_law_told pm_law_told an_law_told cd_law_told ct_law_told), sl_law_told⟩)
    (c_law_told : PySem.W.codeIn K cd_law_told "_law_told" = true)
    (k_law_told : PySem.W.keepIn K (.ref f_law_told) = true)
    (i_law_told : PySem.W.isFn K (.ref f_law_told) = true)
    (a_law_refused : PySem.W.nsIn K mainGlobals "_law_refused" = some (some (.ref f_law_refused)))
    (l_law_refused : K.lookup f_law_refused = some ⟨oc_law_refused, od_law_refused, .func (PySem.W.fnOf "_law_refused" "_law_refused" (defArgs s_law_refused) (defBody s_law_refused) (defScope s_law_refused) .none kv_law_refused dc_law_refused pm_law_refused an_law_refused cd_law_refused ct_law_refused), sl_law_refused⟩)
    (c_law_refused : PySem.W.codeIn K cd_law_refused "_law_refused" = true)
    (k_law_refused : PySem.W.keepIn K (.ref f_law_refused) = true)
    (i_law_refused : PySem.W.isFn K (.ref f_law_refused) = true)
    (a_law_cells : PySem.W.nsIn K mainGlobals "_law_cells" = some (some (.ref f_law_cells)))
    (l_law_cells : K.lookup f_law_cells = some ⟨oc_law_cells, od_law_cells, .func (PySem.W.fnOf "_law_cells" "_law_cells" (defArgs s_law_cells) (defBody s_law_cells) (defScope s_law_cells) .none kv_law_cells dc_law_cells pm_law_cells an_law_cells cd_law_cells ct_law_cells), sl_law_cells⟩)
    (c_law_cells : PySem.W.codeIn K cd_law_cells "_law_cells" = true)
    (k_law_cells : PySem.W.keepIn K (.ref f_law_cells) = true)
    (i_law_cells : PySem.W.isFn K (.ref f_law_cells) = true)
    (a_law : PySem.W.nsIn K mainGlobals "law" = some (some (.ref f_law)))
    (l_law : K.lookup f_law = some ⟨oc_law, od_law, .func (PySem.W.fnOf "law" "law" (defArgs s_law) (defBody s_law) (defScope s_law) .none kv_law dc_law pm_law an_law cd_law ct_law), sl_law⟩)
    (c_law : PySem.W.codeIn K cd_law "law" = true)
    (k_law : PySem.W.keepIn K (.ref f_law) = true)
    (i_law : PySem.W.isFn K (.ref f_law) = true)
    (kc_RimError : PySem.W.keepIn K (.ref C_RimError) = true)
    (ov_RimError : excOver K C_RimError = true)
    (hd_RimError : PySem.W.hasDictIn K C_RimError = true)
    (sa_RimError : PySem.W.findIn K (.ref C_RimError) "__setattr__" = some (some (.builtin "object.__setattr__")))
    (ga_RimError : PySem.W.findIn K (.ref C_RimError) "__getattribute__" = some (some (.builtin "BaseException.__getattribute__")))
    (gh_RimError : PySem.W.findIn K (.ref C_RimError) "__getattr__" = some none)
    (ca_RimError : PySem.W.findIn K (.ref C_RimError) "__class__" = some (some (.builtin "object.__class__")))
    (mk_RimError : xmkIn K C_RimError = true)
    (kc_NoPoint : PySem.W.keepIn K (.ref C_NoPoint) = true)
    (ov_NoPoint : excOver K C_NoPoint = true)
    (hd_NoPoint : PySem.W.hasDictIn K C_NoPoint = true)
    (sa_NoPoint : PySem.W.findIn K (.ref C_NoPoint) "__setattr__" = some (some (.builtin "object.__setattr__")))
    (ga_NoPoint : PySem.W.findIn K (.ref C_NoPoint) "__getattribute__" = some (some (.builtin "BaseException.__getattribute__")))
    (gh_NoPoint : PySem.W.findIn K (.ref C_NoPoint) "__getattr__" = some none)
    (ca_NoPoint : PySem.W.findIn K (.ref C_NoPoint) "__class__" = some (some (.builtin "object.__class__")))
    (mk_NoPoint : xmkIn K C_NoPoint = true)
    (kc_NoSide : PySem.W.keepIn K (.ref C_NoSide) = true)
    (ov_NoSide : excOver K C_NoSide = true)
    (hd_NoSide : PySem.W.hasDictIn K C_NoSide = true)
    (sa_NoSide : PySem.W.findIn K (.ref C_NoSide) "__setattr__" = some (some (.builtin "object.__setattr__")))
    (ga_NoSide : PySem.W.findIn K (.ref C_NoSide) "__getattribute__" = some (some (.builtin "BaseException.__getattribute__")))
    (gh_NoSide : PySem.W.findIn K (.ref C_NoSide) "__getattr__" = some none)
    (ca_NoSide : PySem.W.findIn K (.ref C_NoSide) "__class__" = some (some (.builtin "object.__class__")))
    (mk_NoSide : xmkIn K C_NoSide = true)
    (kc_NoRow : PySem.W.keepIn K (.ref C_NoRow) = true)
    (ov_NoRow : excOver K C_NoRow = true)
    (hd_NoRow : PySem.W.hasDictIn K C_NoRow = true)
    (sa_NoRow : PySem.W.findIn K (.ref C_NoRow) "__setattr__" = some (some (.builtin "object.__setattr__")))
    (ga_NoRow : PySem.W.findIn K (.ref C_NoRow) "__getattribute__" = some (some (.builtin "BaseException.__getattribute__")))
    (gh_NoRow : PySem.W.findIn K (.ref C_NoRow) "__getattr__" = some none)
    (ca_NoRow : PySem.W.findIn K (.ref C_NoRow) "__class__" = some (some (.builtin "object.__class__")))
    (mk_NoRow : xmkIn K C_NoRow = true)
    (kc_Side : PySem.W.keepIn K (.ref C_Side) = true)
    (pg_Side : PySem.W.plainGet K C_Side Str.empty = true)
    (hd_Side : PySem.W.hasDictIn K C_Side = true)
    (po_Side : PySem.W.plainOver K C_Side = true)
    (sa_Side : PySem.W.findIn K (.ref C_Side) "__setattr__" = some (some (.builtin "object.__setattr__")))
    (mk_Side : PySem.W.makesIn K C_Side = true)
    (ca_Side : PySem.W.findIn K (.ref C_Side) "__class__" = some (some (.builtin "object.__class__")))
    (mo_Side : PySem.W.mroIn K C_Side (.type "object") = some true)
    (kc_LeftSide : PySem.W.keepIn K (.ref C_LeftSide) = true)
    (pg_LeftSide : PySem.W.plainGet K C_LeftSide Str.empty = true)
    (hd_LeftSide : PySem.W.hasDictIn K C_LeftSide = true)
    (po_LeftSide : PySem.W.plainOver K C_LeftSide = true)
    (sa_LeftSide : PySem.W.findIn K (.ref C_LeftSide) "__setattr__" = some (some (.builtin "object.__setattr__")))
    (mk_LeftSide : PySem.W.makesIn K C_LeftSide = true)
    (ca_LeftSide : PySem.W.findIn K (.ref C_LeftSide) "__class__" = some (some (.builtin "object.__class__")))
    (mo_LeftSide : PySem.W.mroIn K C_LeftSide (.type "object") = some true)
    (a_LeftSide_init : PySem.W.findIn K (.ref C_LeftSide) "__init__" = some (some (.ref f_Side_init)))
    (kc_RightSide : PySem.W.keepIn K (.ref C_RightSide) = true)
    (pg_RightSide : PySem.W.plainGet K C_RightSide Str.empty = true)
    (hd_RightSide : PySem.W.hasDictIn K C_RightSide = true)
    (po_RightSide : PySem.W.plainOver K C_RightSide = true)
    (sa_RightSide : PySem.W.findIn K (.ref C_RightSide) "__setattr__" = some (some (.builtin "object.__setattr__")))
    (mk_RightSide : PySem.W.makesIn K C_RightSide = true)
    (ca_RightSide : PySem.W.findIn K (.ref C_RightSide) "__class__" = some (some (.builtin "object.__class__")))
    (mo_RightSide : PySem.W.mroIn K C_RightSide (.type "object") = some true)
    (a_RightSide_init : PySem.W.findIn K (.ref C_RightSide) "__init__" = some (some (.ref f_Side_init)))
    (kc_Picture : PySem.W.keepIn K (.ref C_Picture) = true)
    (pg_Picture : PySem.W.plainGet K C_Picture Str.empty = true)
    (hd_Picture : PySem.W.hasDictIn K C_Picture = true)
    (po_Picture : PySem.W.plainOver K C_Picture = true)
    (sa_Picture : PySem.W.findIn K (.ref C_Picture) "__setattr__" = some (some (.builtin "object.__setattr__")))
    (mk_Picture : PySem.W.makesIn K C_Picture = true)
    (ca_Picture : PySem.W.findIn K (.ref C_Picture) "__class__" = some (some (.builtin "object.__class__")))
    (mo_Picture : PySem.W.mroIn K C_Picture (.type "object") = some true)
    (cg : PySem.W.specialIn K (.builtin "object.__class__") "__get__" = some (some (.builtin "getset_descriptor.__get__")))
    (ct : PySem.W.takesIn K (.builtin "object.__class__") = some true)
    (n_RightSide_width : PySem.W.findIn K (.ref C_RightSide) "width" = some none)
    (n_Picture_placed : PySem.W.findIn K (.ref C_Picture) "placed" = some none)
    (n_Picture_height : PySem.W.findIn K (.ref C_Picture) "height" = some none)
    (n_Picture_width : PySem.W.findIn K (.ref C_Picture) "width" = some none)
    (n_Picture_opened : PySem.W.findIn K (.ref C_Picture) "opened" = some none)
    (n_NoPoint_name : PySem.W.findIn K (.ref C_NoPoint) "name" = some none)
    (n_NoPoint_side : PySem.W.findIn K (.ref C_NoPoint) "side" = some none)
    (n_NoPoint_row : PySem.W.findIn K (.ref C_NoPoint) "row" = some none)
    (n_NoSide_name : PySem.W.findIn K (.ref C_NoSide) "name" = some none)
    (n_NoSide_side : PySem.W.findIn K (.ref C_NoSide) "side" = some none)
    (n_NoSide_row : PySem.W.findIn K (.ref C_NoSide) "row" = some none)
    (n_NoRow_name : PySem.W.findIn K (.ref C_NoRow) "name" = some none)
    (n_NoRow_side : PySem.W.findIn K (.ref C_NoRow) "side" = some none)
    (n_NoRow_row : PySem.W.findIn K (.ref C_NoRow) "row" = some none)
    (n_Side_width : PySem.W.findIn K (.ref C_Side) "width" = some none)
    (n_LeftSide_width : PySem.W.findIn K (.ref C_LeftSide) "width" = some none)
    (n_abs : PySem.W.nsIn K mainGlobals "abs" = some none)
    (n_bool : PySem.W.nsIn K mainGlobals "bool" = some none)
    (n_int : PySem.W.nsIn K mainGlobals "int" = some none)
    (n_isinstance : PySem.W.nsIn K mainGlobals "isinstance" = some none)
    (n_len : PySem.W.nsIn K mainGlobals "len" = some none)
    (n_list : PySem.W.nsIn K mainGlobals "list" = some none)
    (n_min : PySem.W.nsIn K mainGlobals "min" = some none)
    (n_range : PySem.W.nsIn K mainGlobals "range" = some none)
    (n_str : PySem.W.nsIn K mainGlobals "str" = some none)
    (n_tuple : PySem.W.nsIn K mainGlobals "tuple" = some none)
    (mro_NoPoint_NoPoint : PySem.W.mroIn K C_NoPoint (.ref C_NoPoint) = some true)
    (mro_NoSide_NoPoint : PySem.W.mroIn K C_NoSide (.ref C_NoPoint) = some false)
    (mro_NoSide_NoSide : PySem.W.mroIn K C_NoSide (.ref C_NoSide) = some true)
    (mro_NoRow_NoPoint : PySem.W.mroIn K C_NoRow (.ref C_NoPoint) = some false)
    (mro_NoRow_NoSide : PySem.W.mroIn K C_NoRow (.ref C_NoSide) = some false)
    (mro_NoRow_NoRow : PySem.W.mroIn K C_NoRow (.ref C_NoRow) = some true)
    (v_MOST_ROWS : PySem.W.nsIn K mainGlobals "MOST_ROWS" = some (some (.int 16 tkc_MOST_ROWS)))
    (v_MOST_COLUMNS : PySem.W.nsIn K mainGlobals "MOST_COLUMNS" = some (some (.int 30 tkc_MOST_COLUMNS)))
    (v_MOST_POINTS : PySem.W.nsIn K mainGlobals "MOST_POINTS" = some (some (.int 12 tkc_MOST_POINTS)))
    (g_MIRRORED_SIDES : PySem.W.nsIn K mainGlobals "MIRRORED_SIDES" = some (some (.ref D_MIRRORED_SIDES)))
    (l_MIRRORED_SIDES : K.lookup D_MIRRORED_SIDES = some ⟨.type "dict", none, .dict #[⟨hashStr w "left", .str "left" ta0_MIRRORED_SIDES, .str "right" tb0_MIRRORED_SIDES⟩, ⟨hashStr w "right", .str "right" ta1_MIRRORED_SIDES, .str "left" tb1_MIRRORED_SIDES⟩, ⟨hashStr w "both", .str "both" ta2_MIRRORED_SIDES, .str "both" tb2_MIRRORED_SIDES⟩] ep_MIRRORED_SIDES, #[]⟩)
    (ns_MIRRORED_SIDES : (D_MIRRORED_SIDES == sysModules) = false)
    : ∃ t, Txt w K mg t :=
  ⟨⟨f_NoPoint_init, _, f_NoSide_init, _, f_NoRow_init, _, f_Side_init, _, f_LeftSide_rim, _, f_LeftSide_way, _, f_LeftSide_across, _, f_RightSide_rim, _, f_RightSide_way, _, f_RightSide_across, _, f_side_of, _, f_cells_of, _, f_is_whole, _, f_is_name, _, f_Picture_init, _, f_Picture_put, _, T_Picture_put, f_Picture_points, _, f_Picture_place_of, _, f_Picture_length, _, f_Picture_check_name, _, f_Picture_check_cell, _, f_Picture_check_lines, _, f_Picture_check_seat, _, f_law_cell, _, f_law_mix, _, f_law_whole, _, f_law_names, _, f_law_places, _, f_law_size, _, f_law_picture, _, f_law_due, _, f_law_same, _, f_law_told, _, f_law_refused, _, f_law_cells, _, f_law, _, C_RimError, C_NoPoint, C_NoSide, C_NoRow, C_Side, C_LeftSide, C_RightSide, C_Picture, D_MIRRORED_SIDES⟩, {
    g_RimError := PySem.W.mg_of X G g_RimError
    g_NoPoint := PySem.W.mg_of X G g_NoPoint
    g_NoSide := PySem.W.mg_of X G g_NoSide
    g_NoRow := PySem.W.mg_of X G g_NoRow
    g_Side := PySem.W.mg_of X G g_Side
    g_LeftSide := PySem.W.mg_of X G g_LeftSide
    g_RightSide := PySem.W.mg_of X G g_RightSide
    g_Picture := PySem.W.mg_of X G g_Picture
    F_NoPoint_init := fun_mk (st := s_NoPoint_init) l_NoPoint_init c_NoPoint_init k_NoPoint_init
    b_NoPoint_init := (fun_mk (st := s_NoPoint_init) l_NoPoint_init c_NoPoint_init k_NoPoint_init).binds (ps := ["self", "name"]) fun _ _ _ _ _ _ us hl => match us, hl with | [_, _], _ => rfl
    F_NoSide_init := fun_mk (st := s_NoSide_init) l_NoSide_init c_NoSide_init k_NoSide_init
    b_NoSide_init := (fun_mk (st := s_NoSide_init) l_NoSide_init c_NoSide_init k_NoSide_init).binds (ps := ["self", "side"]) fun _ _ _ _ _ _ us hl => match us, hl with | [_, _], _ => rfl
    F_NoRow_init := fun_mk (st := s_NoRow_init) l_NoRow_init c_NoRow_init k_NoRow_init
    b_NoRow_init := (fun_mk (st := s_NoRow_init) l_NoRow_init c_NoRow_init k_NoRow_init).binds (ps := ["self", "row"]) fun _ _ _ _ _ _ us hl => match us, hl with | [_, _], _ => rfl
    F_Side_init := fun_mk (st := s_Side_init) l_Side_init c_Side_init k_Side_init
    b_Side_init := (fun_mk (st := s_Side_init) l_Side_init c_Side_init k_Side_init).binds (ps := ["self", "width"]) fun _ _ _ _ _ _ us hl => match us, hl with | [_, _], _ => rfl
    F_LeftSide_rim := fun_mk (st := s_LeftSide_rim) l_LeftSide_rim c_LeftSide_rim k_LeftSide_rim
    b_LeftSide_rim := (fun_mk (st := s_LeftSide_rim) l_LeftSide_rim c_LeftSide_rim k_LeftSide_rim).binds (ps := ["self"]) fun _ _ _ _ _ _ us hl => match us, hl with | [_], _ => rfl
    F_LeftSide_way := fun_mk (st := s_LeftSide_way) l_LeftSide_way c_LeftSide_way k_LeftSide_way
    b_LeftSide_way := (fun_mk (st := s_LeftSide_way) l_LeftSide_way c_LeftSide_way k_LeftSide_way).binds (ps := ["self"]) fun _ _ _ _ _ _ us hl => match us, hl with | [_], _ => rfl
    F_LeftSide_across := fun_mk (st := s_LeftSide_across) l_LeftSide_across c_LeftSide_across k_LeftSide_across
    b_LeftSide_across := (fun_mk (st := s_LeftSide_across) l_LeftSide_across c_LeftSide_across k_LeftSide_across).binds (ps := ["self", "x"]) fun _ _ _ _ _ _ us hl => match us, hl with | [_, _], _ => rfl
    F_RightSide_rim := fun_mk (st := s_RightSide_rim) l_RightSide_rim c_RightSide_rim k_RightSide_rim
    b_RightSide_rim := (fun_mk (st := s_RightSide_rim) l_RightSide_rim c_RightSide_rim k_RightSide_rim).binds (ps := ["self"]) fun _ _ _ _ _ _ us hl => match us, hl with | [_], _ => rfl
    F_RightSide_way := fun_mk (st := s_RightSide_way) l_RightSide_way c_RightSide_way k_RightSide_way
    b_RightSide_way := (fun_mk (st := s_RightSide_way) l_RightSide_way c_RightSide_way k_RightSide_way).binds (ps := ["self"]) fun _ _ _ _ _ _ us hl => match us, hl with | [_], _ => rfl
    F_RightSide_across := fun_mk (st := s_RightSide_across) l_RightSide_across c_RightSide_across k_RightSide_across
    b_RightSide_across := (fun_mk (st := s_RightSide_across) l_RightSide_across c_RightSide_across k_RightSide_across).binds (ps := ["self", "x"]) fun _ _ _ _ _ _ us hl => match us, hl with | [_, _], _ => rfl
    g_side_of := PySem.W.mg_of X G a_side_of
    F_side_of := fun_mk (st := s_side_of) l_side_of c_side_of k_side_of
    b_side_of := (fun_mk (st := s_side_of) l_side_of c_side_of k_side_of).binds (ps := ["word", "width"]) fun _ _ _ _ _ _ us hl => match us, hl with | [_, _], _ => rfl
    g_cells_of := PySem.W.mg_of X G a_cells_of
    F_cells_of := fun_mk (st := s_cells_of) l_cells_of c_cells_of k_cells_of
    b_cells_of := (fun_mk (st := s_cells_of) l_cells_of c_cells_of k_cells_of).binds (ps := ["picture", "name", "side", "row"]) fun _ _ _ _ _ _ us hl => match us, hl with | [_, _, _, _], _ => rfl
    g_is_whole := PySem.W.mg_of X G a_is_whole
    F_is_whole := fun_mk (st := s_is_whole) l_is_whole c_is_whole k_is_whole
    b_is_whole := (fun_mk (st := s_is_whole) l_is_whole c_is_whole k_is_whole).binds (ps := ["thing", "low", "high"]) fun _ _ _ _ _ _ us hl => match us, hl with | [_, _, _], _ => rfl
    g_is_name := PySem.W.mg_of X G a_is_name
    F_is_name := fun_mk (st := s_is_name) l_is_name c_is_name k_is_name
    b_is_name := (fun_mk (st := s_is_name) l_is_name c_is_name k_is_name).binds (ps := ["thing"]) fun _ _ _ _ _ _ us hl => match us, hl with | [_], _ => rfl
    F_Picture_init := fun_mk (st := s_Picture_init) l_Picture_init c_Picture_init k_Picture_init
    b_Picture_init := (fun_mk (st := s_Picture_init) l_Picture_init c_Picture_init k_Picture_init).binds (ps := ["self", "width", "height"]) fun _ _ _ _ _ _ us hl => match us, hl with | [_, _, _], _ => rfl
    F_Picture_put := (fund_mk (st := s_Picture_put) l_Picture_put c_Picture_put k_Picture_put)
    b_Picture_put := (fund_mk (st := s_Picture_put) l_Picture_put c_Picture_put k_Picture_put).binds t_Picture_put rfl 7 rfl fun _ _ _ _ _ _ us hl => match us, hl with | [_, _, _, _, _, _, _], _ => ⟨_, rfl, rfl⟩
    F_Picture_points := fun_mk (st := s_Picture_points) l_Picture_points c_Picture_points k_Picture_points
    b_Picture_points := (fun_mk (st := s_Picture_points) l_Picture_points c_Picture_points k_Picture_points).binds (ps := ["self"]) fun _ _ _ _ _ _ us hl => match us, hl with | [_], _ => rfl
    F_Picture_place_of := fun_mk (st := s_Picture_place_of) l_Picture_place_of c_Picture_place_of k_Picture_place_of
    b_Picture_place_of := (fun_mk (st := s_Picture_place_of) l_Picture_place_of c_Picture_place_of k_Picture_place_of).binds (ps := ["self", "name"]) fun _ _ _ _ _ _ us hl => match us, hl with | [_, _], _ => rfl
    F_Picture_length := fun_mk (st := s_Picture_length) l_Picture_length c_Picture_length k_Picture_length
    b_Picture_length := (fun_mk (st := s_Picture_length) l_Picture_length c_Picture_length k_Picture_length).binds (ps := ["self", "name", "side", "row"]) fun _ _ _ _ _ _ us hl => match us, hl with | [_, _, _, _], _ => rfl
    F_Picture_check_name := fun_mk (st := s_Picture_check_name) l_Picture_check_name c_Picture_check_name k_Picture_check_name
    b_Picture_check_name := (fun_mk (st := s_Picture_check_name) l_Picture_check_name c_Picture_check_name k_Picture_check_name).binds (ps := ["self", "name"]) fun _ _ _ _ _ _ us hl => match us, hl with | [_, _], _ => rfl
    F_Picture_check_cell := fun_mk (st := s_Picture_check_cell) l_Picture_check_cell c_Picture_check_cell k_Picture_check_cell
    b_Picture_check_cell := (fun_mk (st := s_Picture_check_cell) l_Picture_check_cell c_Picture_check_cell k_Picture_check_cell).binds (ps := ["self", "x", "y"]) fun _ _ _ _ _ _ us hl => match us, hl with | [_, _, _], _ => rfl
    F_Picture_check_lines := fun_mk (st := s_Picture_check_lines) l_Picture_check_lines c_Picture_check_lines k_Picture_check_lines
    b_Picture_check_lines := (fun_mk (st := s_Picture_check_lines) l_Picture_check_lines c_Picture_check_lines k_Picture_check_lines).binds (ps := ["self", "name", "x", "y"]) fun _ _ _ _ _ _ us hl => match us, hl with | [_, _, _, _], _ => rfl
    F_Picture_check_seat := fun_mk (st := s_Picture_check_seat) l_Picture_check_seat c_Picture_check_seat k_Picture_check_seat
    b_Picture_check_seat := (fun_mk (st := s_Picture_check_seat) l_Picture_check_seat c_Picture_check_seat k_Picture_check_seat).binds (ps := ["self", "side", "row"]) fun _ _ _ _ _ _ us hl => match us, hl with | [_, _, _], _ => rfl
    g_law_cell := PySem.W.mg_of X G a_law_cell
    F_law_cell := fun_mk (st := s_law_cell) l_law_cell c_law_cell k_law_cell
    b_law_cell := (fun_mk (st := s_law_cell) l_law_cell c_law_cell k_law_cell).binds (ps := ["_law_script", "_law_k"]) fun _ _ _ _ _ _ us hl => match us, hl with | [_, _], _ => rfl
    g_law_mix := PySem.W.mg_of X G a_law_mix
    F_law_mix := fun_mk (st := s_law_mix) l_law_mix c_law_mix k_law_mix
    b_law_mix := (fun_mk (st := s_law_mix) l_law_mix c_law_mix k_law_mix).binds (ps := ["_law_cell_here", "_law_k"]) fun _ _ _ _ _ _ us hl => match us, hl with | [_, _], _ => rfl
    g_law_whole := PySem.W.mg_of X G a_law_whole
    F_law_whole := fun_mk (st := s_law_whole) l_law_whole c_law_whole k_law_whole
    b_law_whole := (fun_mk (st := s_law_whole) l_law_whole c_law_whole k_law_whole).binds (ps := ["_law_found"]) fun _ _ _ _ _ _ us hl => match us, hl with | [_], _ => rfl
    g_law_names := PySem.W.mg_of X G a_law_names
    F_law_names := fun_mk (st := s_law_names) l_law_names c_law_names k_law_names
    b_law_names := (fun_mk (st := s_law_names) l_law_names c_law_names k_law_names).binds (ps := ["_law_cell_here", "_law_many"]) fun _ _ _ _ _ _ us hl => match us, hl with | [_, _], _ => rfl
    g_law_places := PySem.W.mg_of X G a_law_places
    F_law_places := fun_mk (st := s_law_places) l_law_places c_law_places k_law_places
    b_law_places := (fun_mk (st := s_law_places) l_law_places c_law_places k_law_places).binds (ps := ["_law_cell_here", "_law_size_here", "_law_many"]) fun _ _ _ _ _ _ us hl => match us, hl with | [_, _, _], _ => rfl
    g_law_size := PySem.W.mg_of X G a_law_size
    F_law_size := fun_mk (st := s_law_size) l_law_size c_law_size k_law_size
    b_law_size := (fun_mk (st := s_law_size) l_law_size c_law_size k_law_size).binds (ps := ["_law_cell_here"]) fun _ _ _ _ _ _ us hl => match us, hl with | [_], _ => rfl
    g_law_picture := PySem.W.mg_of X G a_law_picture
    F_law_picture := fun_mk (st := s_law_picture) l_law_picture c_law_picture k_law_picture
    b_law_picture := (fun_mk (st := s_law_picture) l_law_picture c_law_picture k_law_picture).binds (ps := ["_law_script"]) fun _ _ _ _ _ _ us hl => match us, hl with | [_], _ => rfl
    g_law_due := PySem.W.mg_of X G a_law_due
    F_law_due := fun_mk (st := s_law_due) l_law_due c_law_due k_law_due
    b_law_due := (fun_mk (st := s_law_due) l_law_due c_law_due k_law_due).binds (ps := ["_law_width", "_law_spot", "_law_side", "_law_row"]) fun _ _ _ _ _ _ us hl => match us, hl with | [_, _, _, _], _ => rfl
    g_law_same := PySem.W.mg_of X G a_law_same
    F_law_same := fun_mk (st := s_law_same) l_law_same c_law_same k_law_same
    b_law_same := (fun_mk (st := s_law_same) l_law_same c_law_same k_law_same).binds (ps := ["_law_found", "_law_due_here"]) fun _ _ _ _ _ _ us hl => match us, hl with | [_, _], _ => rfl
    g_law_told := PySem.W.mg_of X G a_law_told
    F_law_told := fun_mk (st := s_law_told) l_law_told c_law_told k_law_told
    b_law_told := (fun_mk (st := s_law_told) l_law_told c_law_told k_law_told).binds (ps := ["_law_picture_here", "_law_name", "_law_side", "_law_row"]) fun _ _ _ _ _ _ us hl => match us, hl with | [_, _, _, _], _ => rfl
    g_law_refused := PySem.W.mg_of X G a_law_refused
    F_law_refused := fun_mk (st := s_law_refused) l_law_refused c_law_refused k_law_refused
    b_law_refused := (fun_mk (st := s_law_refused) l_law_refused c_law_refused k_law_refused).binds (ps := ["_law_picture_here", "_law_name", "_law_other", "_law_cell_here"]) fun _ _ _ _ _ _ us hl => match us, hl with | [_, _, _, _], _ => rfl
    g_law_cells := PySem.W.mg_of X G a_law_cells
    F_law_cells := fun_mk (st := s_law_cells) l_law_cells c_law_cells k_law_cells
    b_law_cells := (fun_mk (st := s_law_cells) l_law_cells c_law_cells k_law_cells).binds (ps := ["_law_found", "_law_due_here"]) fun _ _ _ _ _ _ us hl => match us, hl with | [_, _], _ => rfl
    g_law := PySem.W.mg_of X G a_law
    F_law := fun_mk (st := s_law) l_law c_law k_law
    b_law := (fun_mk (st := s_law) l_law c_law k_law).binds (ps := ["_law_script"]) fun _ _ _ _ _ _ us hl => match us, hl with | [_], _ => rfl
    x_RimError := ⟨ov_RimError, hd_RimError, sa_RimError, ga_RimError, gh_RimError, ca_RimError, cg, ct⟩
    mk_RimError := mk_RimError
    x_NoPoint := ⟨ov_NoPoint, hd_NoPoint, sa_NoPoint, ga_NoPoint, gh_NoPoint, ca_NoPoint, cg, ct⟩
    mk_NoPoint := mk_NoPoint
    k_NoPoint := ⟨mk_NoPoint, a_NoPoint_init, i_NoPoint_init, kc_NoPoint⟩
    x_NoSide := ⟨ov_NoSide, hd_NoSide, sa_NoSide, ga_NoSide, gh_NoSide, ca_NoSide, cg, ct⟩
    mk_NoSide := mk_NoSide
    k_NoSide := ⟨mk_NoSide, a_NoSide_init, i_NoSide_init, kc_NoSide⟩
    x_NoRow := ⟨ov_NoRow, hd_NoRow, sa_NoRow, ga_NoRow, gh_NoRow, ca_NoRow, cg, ct⟩
    mk_NoRow := mk_NoRow
    k_NoRow := ⟨mk_NoRow, a_NoRow_init, i_NoRow_init, kc_NoRow⟩
    c_Side := ⟨pg_Side, hd_Side, po_Side, sa_Side⟩
    ca_Side := ca_Side
    mo_Side := mo_Side
    k_Side := ⟨mk_Side, a_Side_init, i_Side_init, kc_Side⟩
    c_LeftSide := ⟨pg_LeftSide, hd_LeftSide, po_LeftSide, sa_LeftSide⟩
    ca_LeftSide := ca_LeftSide
    mo_LeftSide := mo_LeftSide
    k_LeftSide := ⟨mk_LeftSide, a_LeftSide_init, i_Side_init, kc_LeftSide⟩
    m_LeftSide_rim := ⟨a_LeftSide_rim, i_LeftSide_rim, k_LeftSide_rim⟩
    m_LeftSide_way := ⟨a_LeftSide_way, i_LeftSide_way, k_LeftSide_way⟩
    m_LeftSide_across := ⟨a_LeftSide_across, i_LeftSide_across, k_LeftSide_across⟩
    c_RightSide := ⟨pg_RightSide, hd_RightSide, po_RightSide, sa_RightSide⟩
    ca_RightSide := ca_RightSide
    mo_RightSide := mo_RightSide
    k_RightSide := ⟨mk_RightSide, a_RightSide_init, i_Side_init, kc_RightSide⟩
    m_RightSide_rim := ⟨a_RightSide_rim, i_RightSide_rim, k_RightSide_rim⟩
    m_RightSide_way := ⟨a_RightSide_way, i_RightSide_way, k_RightSide_way⟩
    m_RightSide_across := ⟨a_RightSide_across, i_RightSide_across, k_RightSide_across⟩
    c_Picture := ⟨pg_Picture, hd_Picture, po_Picture, sa_Picture⟩
    ca_Picture := ca_Picture
    mo_Picture := mo_Picture
    k_Picture := ⟨mk_Picture, a_Picture_init, i_Picture_init, kc_Picture⟩
    m_Picture_put := ⟨a_Picture_put, i_Picture_put, k_Picture_put⟩
    m_Picture_points := ⟨a_Picture_points, i_Picture_points, k_Picture_points⟩
    m_Picture_place_of := ⟨a_Picture_place_of, i_Picture_place_of, k_Picture_place_of⟩
    m_Picture_length := ⟨a_Picture_length, i_Picture_length, k_Picture_length⟩
    m_Picture_check_name := ⟨a_Picture_check_name, i_Picture_check_name, k_Picture_check_name⟩
    m_Picture_check_cell := ⟨a_Picture_check_cell, i_Picture_check_cell, k_Picture_check_cell⟩
    m_Picture_check_lines := ⟨a_Picture_check_lines, i_Picture_check_lines, k_Picture_check_lines⟩
    m_Picture_check_seat := ⟨a_Picture_check_seat, i_Picture_check_seat, k_Picture_check_seat⟩
    cg := cg
    ct := ct
    n_RightSide_width := n_RightSide_width
    n_Picture_placed := n_Picture_placed
    n_Picture_height := n_Picture_height
    n_Picture_width := n_Picture_width
    n_Picture_opened := n_Picture_opened
    n_NoPoint_name := n_NoPoint_name
    n_NoPoint_side := n_NoPoint_side
    n_NoPoint_row := n_NoPoint_row
    n_NoSide_name := n_NoSide_name
    n_NoSide_side := n_NoSide_side
    n_NoSide_row := n_NoSide_row
    n_NoRow_name := n_NoRow_name
    n_NoRow_side := n_NoRow_side
    n_NoRow_row := n_NoRow_row
    n_Side_width := n_Side_width
    n_LeftSide_width := n_LeftSide_width
    n_abs := PySem.W.mg_none_of X G n_abs
    n_bool := PySem.W.mg_none_of X G n_bool
    n_int := PySem.W.mg_none_of X G n_int
    n_isinstance := PySem.W.mg_none_of X G n_isinstance
    n_len := PySem.W.mg_none_of X G n_len
    n_list := PySem.W.mg_none_of X G n_list
    n_min := PySem.W.mg_none_of X G n_min
    n_range := PySem.W.mg_none_of X G n_range
    n_str := PySem.W.mg_none_of X G n_str
    n_tuple := PySem.W.mg_none_of X G n_tuple
    mro_NoPoint_NoPoint := mro_NoPoint_NoPoint
    mro_NoSide_NoPoint := mro_NoSide_NoPoint
    mro_NoSide_NoSide := mro_NoSide_NoSide
    mro_NoRow_NoPoint := mro_NoRow_NoPoint
    mro_NoRow_NoSide := mro_NoRow_NoSide
    mro_NoRow_NoRow := mro_NoRow_NoRow
    v_MOST_ROWS := ⟨_, PySem.W.mg_of X G v_MOST_ROWS⟩
    v_MOST_COLUMNS := ⟨_, PySem.W.mg_of X G v_MOST_COLUMNS⟩
    v_MOST_POINTS := ⟨_, PySem.W.mg_of X G v_MOST_POINTS⟩
    g_MIRRORED_SIDES := PySem.W.mg_of X G g_MIRRORED_SIDES
    D_MIRRORED_SIDES := ⟨ns_MIRRORED_SIDES, _, _, l_MIRRORED_SIDES, .cons rfl ⟨_, rfl⟩ ⟨_, rfl⟩ (.cons rfl ⟨_, rfl⟩ ⟨_, rfl⟩ (.cons rfl ⟨_, rfl⟩ ⟨_, rfl⟩ (.nil))), by decide⟩ }⟩
theorem sc_NoPoint_init : FnScope ["self", "name"] ["self", "name"] (defScope s_NoPoint_init) := ⟨rfl, rfl, rfl, by decide +kernel, rfl, by decide +kernel, by decide +kernel⟩
theorem sc_NoSide_init : FnScope ["self", "side"] ["self", "side"] (defScope s_NoSide_init) := ⟨rfl, rfl, rfl, by decide +kernel, rfl, by decide +kernel, by decide +kernel⟩
theorem sc_NoRow_init : FnScope ["self", "row"] ["self", "row"] (defScope s_NoRow_init) := ⟨rfl, rfl, rfl, by decide +kernel, rfl, by decide +kernel, by decide +kernel⟩
theorem sc_Side_init : FnScope ["self", "width"] ["self", "width"] (defScope s_Side_init) := ⟨rfl, rfl, rfl, by decide +kernel, rfl, by decide +kernel, by decide +kernel⟩
theorem sc_LeftSide_rim : FnScope ["self"] ["self"] (defScope s_LeftSide_rim) := ⟨rfl, rfl, rfl, by decide +kernel, rfl, by decide +kernel, by decide +kernel⟩
theorem sc_LeftSide_way : FnScope ["self"] ["self"] (defScope s_LeftSide_way) := ⟨rfl, rfl, rfl, by decide +kernel, rfl, by decide +kernel, by decide +kernel⟩
theorem sc_LeftSide_across : FnScope ["self", "x"] ["self", "x"] (defScope s_LeftSide_across) := ⟨rfl, rfl, rfl, by decide +kernel, rfl, by decide +kernel, by decide +kernel⟩
theorem sc_RightSide_rim : FnScope ["self"] ["self"] (defScope s_RightSide_rim) := ⟨rfl, rfl, rfl, by decide +kernel, rfl, by decide +kernel, by decide +kernel⟩
theorem sc_RightSide_way : FnScope ["self"] ["self"] (defScope s_RightSide_way) := ⟨rfl, rfl, rfl, by decide +kernel, rfl, by decide +kernel, by decide +kernel⟩
theorem sc_RightSide_across : FnScope ["self", "x"] ["self", "x"] (defScope s_RightSide_across) := ⟨rfl, rfl, rfl, by decide +kernel, rfl, by decide +kernel, by decide +kernel⟩
theorem sc_side_of : FnScope ["word", "width"] ["word", "width"] (defScope s_side_of) := ⟨rfl, rfl, rfl, by decide +kernel, rfl, by decide +kernel, by decide +kernel⟩
theorem sc_cells_of : FnScope ["picture", "name", "side", "row", "x", "y", "toward", "down", "upright", "level"] ["picture", "name", "side", "row"] (defScope s_cells_of) := ⟨rfl, rfl, rfl, by decide +kernel, rfl, by decide +kernel, by decide +kernel⟩
theorem sc_is_whole : FnScope ["thing", "low", "high"] ["thing", "low", "high"] (defScope s_is_whole) := ⟨rfl, rfl, rfl, by decide +kernel, rfl, by decide +kernel, by decide +kernel⟩
theorem sc_is_name : FnScope ["thing"] ["thing"] (defScope s_is_name) := ⟨rfl, rfl, rfl, by decide +kernel, rfl, by decide +kernel, by decide +kernel⟩
theorem sc_Picture_init : FnScope ["self", "width", "height"] ["self", "width", "height"] (defScope s_Picture_init) := ⟨rfl, rfl, rfl, by decide +kernel, rfl, by decide +kernel, by decide +kernel⟩
theorem sc_Picture_put : FnScope ["self", "name", "x", "y", "sides", "low", "high", "highest"] ["self", "name", "x", "y", "sides", "low", "high"] (defScope s_Picture_put) := ⟨rfl, rfl, rfl, by decide +kernel, rfl, by decide +kernel, by decide +kernel⟩
theorem sc_Picture_points : FnScope ["self"] ["self"] (defScope s_Picture_points) := ⟨rfl, rfl, rfl, by decide +kernel, rfl, by decide +kernel, by decide +kernel⟩
theorem sc_Picture_place_of : FnScope ["self", "name"] ["self", "name"] (defScope s_Picture_place_of) := ⟨rfl, rfl, rfl, by decide +kernel, rfl, by decide +kernel, by decide +kernel⟩
theorem sc_Picture_length : FnScope ["self", "name", "side", "row", "x", "y"] ["self", "name", "side", "row"] (defScope s_Picture_length) := ⟨rfl, rfl, rfl, by decide +kernel, rfl, by decide +kernel, by decide +kernel⟩
theorem sc_Picture_check_name : FnScope ["self", "name"] ["self", "name"] (defScope s_Picture_check_name) := ⟨rfl, rfl, rfl, by decide +kernel, rfl, by decide +kernel, by decide +kernel⟩
theorem sc_Picture_check_cell : FnScope ["self", "x", "y"] ["self", "x", "y"] (defScope s_Picture_check_cell) := ⟨rfl, rfl, rfl, by decide +kernel, rfl, by decide +kernel, by decide +kernel⟩
theorem sc_Picture_check_lines : FnScope ["self", "name", "x", "y", "others", "other"] ["self", "name", "x", "y"] (defScope s_Picture_check_lines) := ⟨rfl, rfl, rfl, by decide +kernel, rfl, by decide +kernel, by decide +kernel⟩
theorem sc_Picture_check_seat : FnScope ["self", "side", "row"] ["self", "side", "row"] (defScope s_Picture_check_seat) := ⟨rfl, rfl, rfl, by decide +kernel, rfl, by decide +kernel, by decide +kernel⟩
theorem sc_law_cell : FnScope ["_law_script", "_law_k"] ["_law_script", "_law_k"] (defScope s_law_cell) := ⟨rfl, rfl, rfl, by decide +kernel, rfl, by decide +kernel, by decide +kernel⟩
theorem sc_law_mix : FnScope ["_law_cell_here", "_law_k", "_law_number"] ["_law_cell_here", "_law_k"] (defScope s_law_mix) := ⟨rfl, rfl, rfl, by decide +kernel, rfl, by decide +kernel, by decide +kernel⟩
theorem sc_law_whole : FnScope ["_law_found"] ["_law_found"] (defScope s_law_whole) := ⟨rfl, rfl, rfl, by decide +kernel, rfl, by decide +kernel, by decide +kernel⟩
theorem sc_law_names : FnScope ["_law_cell_here", "_law_many", "_law_letters", "_law_step"] ["_law_cell_here", "_law_many"] (defScope s_law_names) := ⟨rfl, rfl, rfl, by decide +kernel, rfl, by decide +kernel, by decide +kernel⟩
theorem sc_law_places : FnScope ["_law_cell_here", "_law_size_here", "_law_many", "_law_left", "_law_found", "_law_k"] ["_law_cell_here", "_law_size_here", "_law_many"] (defScope s_law_places) := ⟨rfl, rfl, rfl, by decide +kernel, rfl, by decide +kernel, by decide +kernel⟩
theorem sc_law_size : FnScope ["_law_cell_here"] ["_law_cell_here"] (defScope s_law_size) := ⟨rfl, rfl, rfl, by decide +kernel, rfl, by decide +kernel, by decide +kernel⟩
theorem sc_law_picture : FnScope ["_law_script", "_law_width", "_law_height", "_law_most", "_law_many", "_law_names_here", "_law_xs", "_law_ys", "_law_picture_here", "_law_k", "_law_number", "_law_low", "_law_high"] ["_law_script"] (defScope s_law_picture) := ⟨rfl, rfl, rfl, by decide +kernel, rfl, by decide +kernel, by decide +kernel⟩
theorem sc_law_due : FnScope ["_law_width", "_law_spot", "_law_side", "_law_row", "_law_x", "_law_y", "_law_step", "_law_found"] ["_law_width", "_law_spot", "_law_side", "_law_row"] (defScope s_law_due) := ⟨rfl, rfl, rfl, by decide +kernel, rfl, by decide +kernel, by decide +kernel⟩
theorem sc_law_same : FnScope ["_law_found", "_law_due_here"] ["_law_found", "_law_due_here"] (defScope s_law_same) := ⟨rfl, rfl, rfl, by decide +kernel, rfl, by decide +kernel, by decide +kernel⟩
theorem sc_law_told : FnScope ["_law_picture_here", "_law_name", "_law_side", "_law_row", "_law_found", "e"] ["_law_picture_here", "_law_name", "_law_side", "_law_row"] (defScope s_law_told) := ⟨rfl, rfl, rfl, by decide +kernel, rfl, by decide +kernel, by decide +kernel⟩
theorem sc_law_refused : FnScope ["_law_picture_here", "_law_name", "_law_other", "_law_cell_here", "_law_bad", "_law_side", "_law_row", "_law_rows", "_law_one", "_law_two", "_law_three", "_law_word", "_law_due_here", "_law_found"] ["_law_picture_here", "_law_name", "_law_other", "_law_cell_here"] (defScope s_law_refused) := ⟨rfl, rfl, rfl, by decide +kernel, rfl, by decide +kernel, by decide +kernel⟩
theorem sc_law_cells : FnScope ["_law_found", "_law_due_here", "_law_cell_here"] ["_law_found", "_law_due_here"] (defScope s_law_cells) := ⟨rfl, rfl, rfl, by decide +kernel, rfl, by decide +kernel, by decide +kernel⟩
theorem sc_law : FnScope ["_law_script", "_law_picture_here", "_law_names_here", "_law_spots", "_law_cell_here", "_law_k", "_law_side", "_law_row", "_law_due_here", "_law_found"] ["_law_script"] (defScope s_law) := ⟨rfl, rfl, rfl, by decide +kernel, rfl, by decide +kernel, by decide +kernel⟩
end S11

set_option maxRecDepth 100000
set_option maxHeartbeats 4000000
namespace S11
open PySem L2 XL PyProof.Rows
theorem kit_same {K : PySem.W.Frag} {v : Value} : PySem.W.kitOne K v v = some true := if_pos (by simp)
theorem same_upd {H H' : Hp} {p : Addr} {o : HO} (s : Same H H') (hp : H' p = none) : Same H (L2.upd H' p o) := fun b u z => by
  have z' := s b u z
  rw [upd_ne (ne_of_none z' hp)]
  exact z'
theorem same2 {H : Hp} {x dx : Addr} {a b c : HO} (hx : H x = none) (hd : H dx = none) : Same H (upd (upd (upd H dx a) x b) x c) := fun y o e => by
  rw [upd_ne (ne_of_none e hx), upd_ne (ne_of_none e hx), upd_ne (ne_of_none e hd)]
  exact e
def sideW (b : Bool) : Str := if b then "left" else "right"
def SideAt (t : Adr) (H : Hp) (p : Addr) (b : Bool) (w : Int) : Prop := ∃ dx, H p = some (.ins (if b then t.C_LeftSide else t.C_RightSide) dx [("width", .int w)])
def spInit (K : PySem.W.Frag) : Sp := fun vs H Q _ => ∃ (p C dx : Addr) (n : Int), vs = [.ref p, .int n] ∧ H p = some (.ins C dx []) ∧ Cls K C ∧ NoAttr K C "width" ∧ Q .non (upd H p (.ins C dx [("width", .int n)]))
def sp1 (v : V) : Sp := fun vs H Q _ => ∃ p : V, vs = [p] ∧ Q v H
def spAcL : Sp := fun vs H Q _ => ∃ (p : V) (x : V), vs = [p, x] ∧ Q x H
def spRim (t : Adr) : Sp := fun vs H Q _ => ∃ (p : Addr) (n : Int), vs = [.ref p] ∧ SideAt t H p false n ∧ Q (.int (n + 1)) H
def spAcR (t : Adr) : Sp := fun vs H Q _ => ∃ (p : Addr) (n x : Int), vs = [.ref p, .int x] ∧ SideAt t H p false n ∧ Q (.int (n + 1 - x)) H
def spSideOf (t : Adr) : Sp := fun vs H Q _ => ∃ (b : Bool) (n : Int), vs = [.str (sideW b), .int n] ∧ ∀ p H', H p = none → SideAt t H' p b n → Same H H' → Q (.ref p) H'
section
variable {P : Program} {w : World} {K : PySem.W.Frag} {mg : Str → Option Value} {base : Heap} {t : Adr}
theorem ok_Side_init (T : Txt w K mg t) : FnOk true P w K mg base (CXo P w) 1 t.f_Side_init t.d_Side_init ["self", "width"] (spInit K) := by
  refine T.F_Side_init.okn (k := 0) sc_Side_init (fun vs H Q E h => ?_) (fun cdv A outer s H vs Q E hr h => ?_)
  · obtain ⟨p, C, dx, n, rfl, _⟩ := h
    rfl
  · obtain ⟨p, C, dx, n, rfl, h⟩ := h
    refine ⟨_, pss_one (ps_fld (pv 0) (pv 1) rfl), ?_⟩
    obtain ⟨hp, c, na, q⟩ := h
    exact ⟨_, rfl, _, rfl, p, C, dx, [], rfl, hp, c, na, (by show 0 < 1000; decide), q⟩
theorem ok_LeftSide_rim (T : Txt w K mg t) : FnOk true P w K mg base (CXo P w) 1 t.f_LeftSide_rim t.d_LeftSide_rim ["self"] (sp1 (.int 0)) := by
  refine T.F_LeftSide_rim.okn (k := 0) sc_LeftSide_rim (fun vs H Q E h => ?_) (fun cdv A outer s H vs Q E hr h => ?_)
  · obtain ⟨p, rfl, _⟩ := h
    rfl
  · obtain ⟨p, rfl, h⟩ := h
    refine ⟨_, pss_one (ps_ret (pe_int)), ?_⟩
    exact h
theorem ok_LeftSide_way (T : Txt w K mg t) : FnOk true P w K mg base (CXo P w) 1 t.f_LeftSide_way t.d_LeftSide_way ["self"] (sp1 (.int (-1))) := by
  refine T.F_LeftSide_way.okn (k := 0) sc_LeftSide_way (fun vs H Q E h => ?_) (fun cdv A outer s H vs Q E hr h => ?_)
  · obtain ⟨p, rfl, _⟩ := h
    rfl
  · obtain ⟨p, rfl, h⟩ := h
    refine ⟨_, pss_one (ps_ret (pe_un un_neg (pe_int))), ?_⟩
    exact ⟨1, rfl, h⟩
theorem ok_LeftSide_across (T : Txt w K mg t) : FnOk true P w K mg base (CXo P w) 1 t.f_LeftSide_across t.d_LeftSide_across ["self", "x"] (spAcL) := by
  refine T.F_LeftSide_across.okn (k := 0) sc_LeftSide_across (fun vs H Q E h => ?_) (fun cdv A outer s H vs Q E hr h => ?_)
  · obtain ⟨p, x, rfl, _⟩ := h
    rfl
  · obtain ⟨p, x, rfl, h⟩ := h
    refine ⟨_, pss_one (ps_ret (pv 1)), ?_⟩
    exact ⟨_, rfl, h⟩
theorem ok_RightSide_way (T : Txt w K mg t) : FnOk true P w K mg base (CXo P w) 1 t.f_RightSide_way t.d_RightSide_way ["self"] (sp1 (.int 1)) := by
  refine T.F_RightSide_way.okn (k := 0) sc_RightSide_way (fun vs H Q E h => ?_) (fun cdv A outer s H vs Q E hr h => ?_)
  · obtain ⟨p, rfl, _⟩ := h
    rfl
  · obtain ⟨p, rfl, h⟩ := h
    refine ⟨_, pss_one (ps_ret (pe_int)), ?_⟩
    exact h
theorem ok_RightSide_rim (T : Txt w K mg t) : FnOk true P w K mg base (CXo P w) 1 t.f_RightSide_rim t.d_RightSide_rim ["self"] (spRim t) := by
  refine T.F_RightSide_rim.okn (k := 0) sc_RightSide_rim (fun vs H Q E h => ?_) (fun cdv A outer s H vs Q E hr h => ?_)
  · obtain ⟨p, n, rfl, _⟩ := h
    rfl
  · obtain ⟨p, n, rfl, h⟩ := h
    refine ⟨_, pss_one (ps_ret (pe_op op_add (pe_fld (pv 0) rfl) (pe_int))), ?_⟩
    obtain ⟨⟨dx, hp⟩, q⟩ := h
    exact ⟨_, rfl, p, t.C_RightSide, dx, _, _, rfl, hp, T.c_RightSide, T.n_RightSide_width, rfl, _, _, rfl, rfl, q⟩
theorem ok_RightSide_across (T : Txt w K mg t) : FnOk true P w K mg base (CXo P w) 1 t.f_RightSide_across t.d_RightSide_across ["self", "x"] (spAcR t) := by
  refine T.F_RightSide_across.okn (k := 0) sc_RightSide_across (fun vs H Q E h => ?_) (fun cdv A outer s H vs Q E hr h => ?_)
  · obtain ⟨p, n, x, rfl, _⟩ := h
    rfl
  · obtain ⟨p, n, x, rfl, h⟩ := h
    refine ⟨_, pss_one (ps_ret (pe_op op_sub (pe_op op_add (pe_fld (pv 0) rfl) (pe_int)) (pv 1))), ?_⟩
    obtain ⟨⟨dx, hp⟩, q⟩ := h
    exact ⟨_, rfl, p, t.C_RightSide, dx, _, _, rfl, hp, T.c_RightSide, T.n_RightSide_width, rfl, _, _, rfl, rfl, _, rfl, _, _, rfl, rfl, q⟩
theorem ok_side_of (T : Txt w K mg t) : FnOk true P w K mg base (CXo P w) 3 t.f_side_of t.d_side_of ["word", "width"] (spSideOf t) := by
  refine T.F_side_of.okn (k := 2) sc_side_of (fun vs H Q E h => ?_) (fun cdv A outer s H vs Q E hr h => ?_)
  · obtain ⟨b, n, rfl, _⟩ := h
    rfl
  · obtain ⟨b, n, rfl, h⟩ := h
    refine ⟨_, pss_cons (ps_if (pt_val (pe_callB call_isin rfl T.n_isinstance boot_isinstance (pa_cons (pv 0) (pa_cons (pe_bltn (v := .ty "str") rfl T.n_str boot_str rfl) (pa_nil))))) (pss_cons (ps_if (pt_cmpR op_eq (pv 0) (pe_str) (nomark _)) (pss_one (ps_ret (pe_make T.k_LeftSide (ok_Side_init T) (hr.mono (by decide)) rfl T.g_LeftSide T.b_Side_init .nil pass_none (pa_cons (pv 1) (pa_nil))))) (pss_nil))
      (pss_one (ps_if (pt_cmpR op_eq (pv 0) (pe_str) (nomark _)) (pss_one (ps_ret (pe_make T.k_RightSide (ok_Side_init T) (hr.mono (by decide)) rfl T.g_RightSide T.b_Side_init .nil pass_none (pa_cons (pv 1) (pa_nil))))) (pss_nil)))) (pss_nil))
      (pss_one (ps_never)), ?_⟩
    cases b with
    | true =>
      refine ⟨_, rfl, _, _, rfl, .inl ⟨_, _, true, .str _, rfl, kit_same, true, rfl, iteT ?_⟩⟩
      refine ⟨_, rfl, rfl, _, rfl, ?_⟩
      refine ifP (by decide +kernel) ?_
      exact ⟨_, rfl, fun x dx hx hdx ne => ⟨x, t.C_LeftSide, dx, n, rfl, upd_same, T.c_LeftSide, T.n_LeftSide_width, rfl, h x _ hx ⟨dx, upd_same⟩ (same2 hx hdx)⟩⟩
    | false =>
      refine ⟨_, rfl, _, _, rfl, .inl ⟨_, _, true, .str _, rfl, kit_same, true, rfl, iteT ?_⟩⟩
      refine ⟨_, rfl, rfl, _, rfl, ?_⟩
      refine ifN (by decide +kernel) ?_
      refine ⟨_, rfl, rfl, _, rfl, ?_⟩
      refine ifP (by decide +kernel) ?_
      exact ⟨_, rfl, fun x dx hx hdx ne => ⟨x, t.C_RightSide, dx, n, rfl, upd_same, T.c_RightSide, T.n_RightSide_width, rfl, h x _ hx ⟨dx, upd_same⟩ (same2 hx hdx)⟩⟩
end
def isNm (x : Str) : Bool := decide (x.length = 1) && (!decide (x.cps.toList < [97]) && !decide ([122] < x.cps.toList))
def spIsW : Sp := fun vs H Q _ => ∃ (i lo hi : Int), vs = [.int i, .int lo, .int hi] ∧ lo ≤ i ∧ i ≤ hi ∧ Q (.bl true) H
def spIsN : Sp := fun vs H Q _ => ∃ (x : Str), vs = [.str x] ∧ isNm x = true ∧ Q (.bl true) H
theorem a_cps : ("a" : Str).cps.toList = [97] := by decide +kernel
theorem z_cps : ("z" : Str).cps.toList = [122] := by decide +kernel
section
variable {P : Program} {w : World} {K : PySem.W.Frag} {mg : Str → Option Value} {base : Heap} {t : Adr}
theorem ok_is_whole (T : Txt w K mg t) : FnOk true P w K mg base (CXo P w) 1 t.f_is_whole t.d_is_whole ["thing", "low", "high"] (spIsW) := by
  refine T.F_is_whole.okn (k := 0) sc_is_whole (fun vs H Q E h => ?_) (fun cdv A outer s H vs Q E hr h => ?_)
  · obtain ⟨i, lo, hi, rfl, _⟩ := h
    rfl
  · obtain ⟨i, lo, hi, rfl, h⟩ := h
    refine ⟨_, pss_one (ps_ret (pe_and (pe_callB call_isin rfl T.n_isinstance boot_isinstance (pa_cons (pv 0) (pa_cons (pe_bltn (v := .ty "int") rfl T.n_int boot_int rfl) (pa_nil)))) (pe_and (pe_not (pe_callB call_isin rfl T.n_isinstance boot_isinstance (pa_cons (pv 0) (pa_cons (pe_bltn (v := .ty "bool") rfl T.n_bool boot_bool rfl) (pa_nil))))) (pe_one (pe_chain op_le op_le (pv 1) (pv 0) (pv 2)))))), ?_⟩
    obtain ⟨c1, c2, q⟩ := h
    refine ⟨_, rfl, _, _, rfl, .inl ⟨_, _, true, .int i, rfl, kit_same, true, rfl, iteT ?_⟩⟩
    refine ⟨_, rfl, _, _, rfl, .inl ⟨_, _, false, .int i, rfl, (by rfl), false, rfl, true, rfl, iteT ?_⟩⟩
    refine ⟨_, rfl, _, rfl, _, _, rfl, rfl, _, rfl, ite2 (fun c => ?_) (fun c => ?_)⟩
    · refine ⟨_, rfl, _, _, rfl, rfl, ?_⟩
      show Q (.bl (decide (i ≤ hi))) H
      rw [decide_eq_true c2]
      exact q
    · exact absurd (decide_eq_true c1) c
theorem ok_is_name (T : Txt w K mg t) : FnOk true P w K mg base (CXo P w) 1 t.f_is_name t.d_is_name ["thing"] (spIsN) := by
  refine T.F_is_name.okn (k := 0) sc_is_name (fun vs H Q E h => ?_) (fun cdv A outer s H vs Q E hr h => ?_)
  · obtain ⟨x, rfl, _⟩ := h
    rfl
  · obtain ⟨x, rfl, h⟩ := h
    refine ⟨_, pss_one (ps_ret (pe_and (pe_callB call_isin rfl T.n_isinstance boot_isinstance (pa_cons (pv 0) (pa_cons (pe_bltn (v := .ty "str") rfl T.n_str boot_str rfl) (pa_nil)))) (pe_and (pe_cmpR op_eq (pe_callB call_len_str rfl T.n_len boot_len (pa_cons (pv 0) (pa_nil))) (pe_int) (nomark _)) (pe_one (pe_chain op_le_str op_le_str (pe_str) (pv 0) (pe_str)))))), ?_⟩
    obtain ⟨hn, q⟩ := h
    unfold isNm at hn
    simp only [Bool.and_eq_true, decide_eq_true_eq, Bool.not_eq_true', decide_eq_false_iff_not] at hn
    obtain ⟨l1, n1, n2⟩ := hn
    refine ⟨_, rfl, _, _, rfl, .inl ⟨_, _, true, .str x, rfl, kit_same, true, rfl, iteT ?_⟩⟩
    refine ⟨_, rfl, _, rfl, (by rw [l1]; decide), rfl, _, rfl, ite2 (fun c => ?_) (fun c => ?_)⟩
    · refine ⟨_, rfl, _, _, rfl, rfl, _, rfl, ite2 (fun d => ?_) (fun d => ?_)⟩
      · refine ⟨_, _, rfl, rfl, ?_⟩
        rw [z_cps, decide_eq_false n2]
        exact q
      · rw [a_cps, decide_eq_false n1] at d
        exact absurd rfl d
    · exact absurd (decide_eq_true (by rw [l1]; rfl)) c
end
section
end
end S11

set_option maxRecDepth 100000
set_option maxHeartbeats 4000000
namespace S11
open PySem L2 XL PyProof.Rows
structure Pt where
  nm : Str
  x : Int
  y : Int
  sd : Str
  lo : Int
  hi : Int
def ptV (p : Pt) : List V := [.int p.x, .int p.y, .str p.sd, .int p.lo, .int p.hi]
/-- the points as the dict has them -/
inductive Pl (H : Hp) : List Pt → List (Key × V) → Prop
  | nil : Pl H [] []
  | cons {p : Pt} {q : Addr} {ps : List Pt} {kvs : List (Key × V)} (h : H q = some (.tup (ptV p))) (r : Pl H ps kvs) : Pl H (p :: ps) ((.inr p.nm, .ref q) :: kvs)
/-- .. as they are told -/
inductive PtsL (H : Hp) : List Pt → List Addr → Prop
  | nil : PtsL H [] []
  | cons {p : Pt} {q : Addr} {ps : List Pt} {qs : List Addr} (h : H q = some (.tup (.str p.nm :: ptV p))) (r : PtsL H ps qs) : PtsL H (p :: ps) (q :: qs)
theorem tT_if {σ : L2.St} {H : Hp} {A B : Hp → Prop} (h : A H) : tTrue σ H (fun b H4 => if b = true then A H4 else B H4) := by
  show if true = true then A H else B H
  rw [if_pos rfl]
  exact h
theorem gT_if {i : Nat} {v : V} {σ : L2.St} {H : Hp} {A B : L2.St → Hp → Prop} (h : A (σ.set i (some v)) H) : gName i v σ H (fun σ' H' => tTrue σ' H' fun b H4 => if b = true then A σ' H4 else B σ' H4) := by
  show if true = true then A (σ.set i (some v)) H else B (σ.set i (some v)) H
  rw [if_pos rfl]
  exact h
def Tups (H H' : Hp) : Prop := ∀ b xs, H b = some (.tup xs) → H' b = some (.tup xs)
theorem Pl.keep {H H' : Hp} (s : Tups H H') {ps : List Pt} {kvs : List (Key × V)} (h : Pl H ps kvs) : Pl H' ps kvs := by
  induction h with
  | nil => exact .nil
  | cons h _ ih => exact .cons (s _ _ h) ih
theorem PtsL.keep {H H' : Hp} (s : Tups H H') {ps : List Pt} {qs : List Addr} (h : PtsL H ps qs) : PtsL H' ps qs := by
  induction h with
  | nil => exact .nil
  | cons h _ ih => exact .cons (s _ _ h) ih
theorem Pl.len {H : Hp} {ps : List Pt} {kvs : List (Key × V)} (h : Pl H ps kvs) : kvs.length = ps.length := by
  induction h with
  | nil => rfl
  | cons _ _ ih => simp [ih]
theorem PtsL.len {H : Hp} {ps : List Pt} {qs : List Addr} (h : PtsL H ps qs) : qs.length = ps.length := by
  induction h with
  | nil => rfl
  | cons _ _ ih => simp [ih]
theorem Pl.find {H : Hp} {ps : List Pt} {kvs : List (Key × V)} (h : Pl H ps kvs) {nm : Str} {pt : Pt} (e : ps.find? (fun p => decide (p.nm = nm)) = some pt) : ∃ q, valV kvs (.inr nm) = some (.ref q) ∧ H q = some (.tup (ptV pt)) := by
  induction h with
  | nil => simp at e
  | @cons p q ps kvs h _ ih =>
    by_cases c : p.nm = nm
    · rw [List.find?_cons_of_pos (by simpa using c)] at e
      cases e
      exact ⟨q, valV_pos (by rw [c]), h⟩
    · rw [List.find?_cons_of_neg (by simpa using c)] at e
      obtain ⟨q', h1, h2⟩ := ih e
      exact ⟨q', by rw [valV_neg (fun z => c (Sum.inr.inj z))]; exact h1, h2⟩
theorem Pl.no {H : Hp} {ps : List Pt} {kvs : List (Key × V)} (h : Pl H ps kvs) {nm : Str} (e : ∀ p ∈ ps, p.nm ≠ nm) : valV kvs (.inr nm) = none := by
  induction h with
  | nil => rfl
  | @cons p q ps kvs h _ ih =>
    rw [valV_neg (fun z => e p List.mem_cons_self (Sum.inr.inj z))]
    exact ih fun p' hp => e p' (List.mem_cons_of_mem _ hp)
theorem Pl.get {H : Hp} {ps : List Pt} {kvs : List (Key × V)} (h : Pl H ps kvs) {i : Nat} {k : Key} {x : V} (e : kvs[i]? = some (k, x)) : ∃ p q, ps[i]? = some p ∧ k = .inr p.nm ∧ x = .ref q ∧ H q = some (.tup (ptV p)) := by
  induction h generalizing i with
  | nil => simp at e
  | @cons p q ps kvs h _ ih =>
    cases i with
    | zero =>
      simp at e
      exact ⟨p, q, rfl, e.1.symm, e.2.symm, h⟩
    | succ j => exact ih (by simpa using e)
theorem PtsL.get {H : Hp} {ps : List Pt} {qs : List Addr} (h : PtsL H ps qs) {i : Nat} {q : Addr} (e : qs[i]? = some q) : ∃ p, ps[i]? = some p ∧ H q = some (.tup (.str p.nm :: ptV p)) := by
  induction h generalizing i with
  | nil => simp at e
  | @cons p q' ps qs h _ ih =>
    cases i with
    | zero =>
      simp at e
      subst e
      exact ⟨p, rfl, h⟩
    | succ j => exact ih (by simpa using e)
theorem Pl.snoc {H : Hp} {ps : List Pt} {kvs : List (Key × V)} (h : Pl H ps kvs) {p : Pt} {q : Addr} (e : H q = some (.tup (ptV p))) : Pl H (ps ++ [p]) (kvs ++ [(.inr p.nm, .ref q)]) := by
  induction h with
  | nil => exact .cons e .nil
  | cons h _ ih => exact .cons h ih
theorem PtsL.snoc {H : Hp} {ps : List Pt} {qs : List Addr} (h : PtsL H ps qs) {p : Pt} {q : Addr} (e : H q = some (.tup (.str p.nm :: ptV p))) : PtsL H (ps ++ [p]) (qs ++ [q]) := by
  induction h with
  | nil => exact .cons e .nil
  | cons h _ ih => exact .cons h ih
abbrev picF (w h : Int) (dp do_ : Addr) : List (Str × V) := [("width", .int w), ("height", .int h), ("placed", .ref dp), ("opened", .ref do_)]
structure Pic (t : Adr) (H : Hp) (a dp do_ : Addr) (w h : Int) (ps : List Pt) : Prop where
  ins : ∃ dx, H a = some (.ins t.C_Picture dx (picF w h dp do_))
  pl : ∃ kvs, H dp = some (.dK kvs) ∧ Pl H ps kvs
  w1 : 1 ≤ w
  w2 : w ≤ 30
  h1 : 1 ≤ h
  h2 : h ≤ 16
  len : ps.length ≤ 12
theorem Same.tups {H H' : Hp} (s : Same H H') : Tups H H' := fun b xs e => s b _ e
theorem Pic.same {t : Adr} {H H' : Hp} {a dp do_ : Addr} {w h : Int} {ps : List Pt} (s : Same H H') (p : Pic t H a dp do_ w h ps) : Pic t H' a dp do_ w h ps :=
  ⟨let ⟨dx, e⟩ := p.ins; ⟨dx, s _ _ e⟩, let ⟨kvs, e, q⟩ := p.pl; ⟨kvs, s _ _ e, q.keep (Same.tups s)⟩, p.w1, p.w2, p.h1, p.h2, p.len⟩
theorem lk_no {w h : Int} {dp do_ : Addr} {m : Str} (e : ((["width", "height", "placed", "opened"] : List Str).all fun k => !(m == k)) = true) : (picF w h dp do_).lookup m = none := by
  simp only [List.all_cons, List.all_nil, Bool.and_eq_true, Bool.not_eq_true'] at e
  obtain ⟨e1, e2, e3, e4, _⟩ := e
  unfold picF
  rw [List.lookup_cons, e1]
  show List.lookup m [("height", V.int h), ("placed", V.ref dp), ("opened", V.ref do_)] = none
  rw [List.lookup_cons, e2]
  show List.lookup m [("placed", V.ref dp), ("opened", V.ref do_)] = none
  rw [List.lookup_cons, e3]
  show List.lookup m [("opened", V.ref do_)] = none
  rw [List.lookup_cons, e4]
  rfl
theorem lkW {w h : Int} {dp do_ : Addr} : (picF w h dp do_).lookup ("width" : Str) = some (.int w) := by
  unfold picF
  rw [List.lookup_cons, show (("width" : Str) == "width") = true from by decide +kernel]
theorem lkH {w h : Int} {dp do_ : Addr} : (picF w h dp do_).lookup ("height" : Str) = some (.int h) := by
  unfold picF
  rw [List.lookup_cons, show (("height" : Str) == "width") = false from by decide +kernel]
  show List.lookup ("height" : Str) [("height", V.int h), ("placed", V.ref dp), ("opened", V.ref do_)] = _
  rw [List.lookup_cons, show (("height" : Str) == "height") = true from by decide +kernel]
theorem lkP {w h : Int} {dp do_ : Addr} : (picF w h dp do_).lookup ("placed" : Str) = some (.ref dp) := by
  unfold picF
  rw [List.lookup_cons, show (("placed" : Str) == "width") = false from by decide +kernel]
  show List.lookup ("placed" : Str) [("height", V.int h), ("placed", V.ref dp), ("opened", V.ref do_)] = _
  rw [List.lookup_cons, show (("placed" : Str) == "height") = false from by decide +kernel]
  show List.lookup ("placed" : Str) [("placed", V.ref dp), ("opened", V.ref do_)] = _
  rw [List.lookup_cons, show (("placed" : Str) == "placed") = true from by decide +kernel]
def spPInit (t : Adr) : Sp := fun vs H Q _ => ∃ (p dx : Addr) (w h : Int), vs = [.ref p, .int w, .int h] ∧ H p = some (.ins t.C_Picture dx []) ∧ 1 ≤ w ∧ w ≤ 30 ∧ 1 ≤ h ∧ h ≤ 16 ∧
  ∀ H' dp do_, H dp = none → (∀ b u, b ≠ p → H b = some u → H' b = some u) → Pic t H' p dp do_ w h [] → H' do_ = some (.dT []) → Q .non H'
def spCN (t : Adr) : Sp := fun vs H Q _ => ∃ (a dp do_ : Addr) (pw ph : Int) (ps : List Pt) (nm : Str) (pt : Pt), vs = [.ref a, .str nm] ∧ Pic t H a dp do_ pw ph ps ∧ isNm nm = true ∧ ps.find? (fun p => decide (p.nm = nm)) = some pt ∧ Q .non H
def spCC (t : Adr) : Sp := fun vs H Q _ => ∃ (a dp do_ : Addr) (pw ph : Int) (ps : List Pt) (x y : Int), vs = [.ref a, .int x, .int y] ∧ Pic t H a dp do_ pw ph ps ∧ 1 ≤ x ∧ x ≤ pw ∧ 1 ≤ y ∧ y ≤ ph ∧ Q .non H
def spPts (t : Adr) : Sp := fun vs H Q _ => ∃ (a dp do_ : Addr) (pw ph : Int) (ps : List Pt), vs = [.ref a] ∧ Pic t H a dp do_ pw ph ps ∧ ∀ H' l qs, Same H H' → H' l = some (.lst (qs.map V.ref)) → PtsL H' ps qs → Q (.ref l) H'
def spCL (t : Adr) : Sp := fun vs H Q _ => ∃ (a dp do_ : Addr) (pw ph : Int) (ps : List Pt) (nm : Str) (x y : Int), vs = [.ref a, .str nm, .int x, .int y] ∧ Pic t H a dp do_ pw ph ps ∧ (∀ p ∈ ps, p.nm ≠ nm → p.x ≠ x ∧ p.y ≠ y) ∧ ∀ H', Same H H' → Q .non H'
def spCS (t : Adr) : Sp := fun vs H Q _ => ∃ (a dp do_ : Addr) (pw ph : Int) (ps : List Pt) (b : Bool) (r : Int), vs = [.ref a, .str (sideW b), .int r] ∧ Pic t H a dp do_ pw ph ps ∧ 1 ≤ r ∧ r ≤ ph ∧ ∀ H', Same H H' → Q .non H'
def spPut (t : Adr) : Sp := fun vs H Q _ => ∃ (a dp do_ : Addr) (pw ph : Int) (ps : List Pt) (nm : Str) (x y : Int) (sd : Str) (lo hi : Int) (hv : V), vs = [.ref a, .str nm, .int x, .int y, .str sd, .int lo, hv] ∧ Pic t H a dp do_ pw ph ps ∧
  ((hv = .non ∧ hi = ph) ∨ hv = .int hi) ∧ isNm nm = true ∧ 1 ≤ x ∧ x ≤ pw ∧ 1 ≤ y ∧ y ≤ ph ∧ (sd = "left" ∨ sd = "right" ∨ sd = "both") ∧ 1 ≤ lo ∧ lo ≤ hi ∧ hi ≤ ph ∧ (∀ p ∈ ps, p.nm ≠ nm ∧ p.x ≠ x ∧ p.y ≠ y) ∧ ps.length < 12 ∧
  ∀ H', (∀ b u, b ≠ dp → H b = some u → H' b = some u) → Pic t H' a dp do_ pw ph (ps ++ [⟨nm, x, y, sd, lo, hi⟩]) → Q .non H'
def spPlc (t : Adr) : Sp := fun vs H Q _ => ∃ (a dp do_ : Addr) (pw ph : Int) (ps : List Pt) (nm : Str) (pt : Pt), vs = [.ref a, .str nm] ∧ Pic t H a dp do_ pw ph ps ∧ isNm nm = true ∧ ps.find? (fun p => decide (p.nm = nm)) = some pt ∧
  ∀ H' q, Same H H' → H' q = some (.tup [.int pt.x, .int pt.y]) → Q (.ref q) H'
def lenI (w x y : Int) (b : Bool) (r : Int) : Int := (if b then x else w + 1 - x) + (if y - r < 0 then -(y - r) else y - r)
def spLen (t : Adr) : Sp := fun vs H Q _ => ∃ (a dp do_ : Addr) (pw ph : Int) (ps : List Pt) (nm : Str) (pt : Pt) (b : Bool) (r : Int), vs = [.ref a, .str nm, .str (sideW b), .int r] ∧ Pic t H a dp do_ pw ph ps ∧ isNm nm = true ∧ ps.find? (fun p => decide (p.nm = nm)) = some pt ∧ 1 ≤ r ∧ r ≤ ph ∧
  ∀ H', Same H H' → Q (.int (lenI pw pt.x pt.y b r)) H'
section
variable {P : Program} {w : World} {K : PySem.W.Frag} {mg : Str → Option Value} {base : Heap} {t : Adr}
theorem ok_Picture_init (T : Txt w K mg t) : FnOk true P w K mg base (CXo P w) 2 t.f_Picture_init t.d_Picture_init ["self", "width", "height"] (spPInit t) := by
  refine T.F_Picture_init.okn (k := 1) sc_Picture_init (fun vs H Q E h => ?_) (fun cdv A outer s H vs Q E hr h => ?_)
  · obtain ⟨p, dx, pw, ph, rfl, _⟩ := h
    rfl
  · obtain ⟨p, dx, pw, ph, rfl, h⟩ := h
    refine ⟨_, pss_cons (ps_if (PW.pt (pw_or (pt_not (pt_val (pe_call (ok_is_whole T) (hr.mono (by decide)) rfl T.g_is_whole T.F_is_whole.kp T.b_is_whole .nil pass_none (pa_cons (pv 1) (pa_cons (pe_int) (pa_cons (pe_glob (v := .int 30) rfl T.v_MOST_COLUMNS.choose_spec ⟨_, rfl⟩) (pa_nil))))))) (pw_or1 (pt_not (pt_val (pe_call (ok_is_whole T) (hr.mono (by decide)) rfl T.g_is_whole T.F_is_whole.kp T.b_is_whole .nil pass_none (pa_cons (pv 2) (pa_cons (pe_int) (pa_cons (pe_glob (v := .int 16) rfl T.v_MOST_ROWS.choose_spec ⟨_, rfl⟩) (pa_nil)))))))))) (pss_one (ps_never)) (pss_nil))
      (pss_cons (ps_fld (pv 0) (pv 1) rfl)
      (pss_cons (ps_fld (pv 0) (pv 2) rfl)
      (pss_cons (ps_fld (pv 0) (pe_dnewK) rfl)
      (pss_one (ps_fld (pv 0) (pe_dnewT) rfl))))), ?_⟩
    obtain ⟨hp, w1, w2, h1, h2, q⟩ := h
    refine ⟨_, rfl, pw, 1, 30, rfl, w1, w2, true, rfl, iteF ⟨_, rfl, ph, 1, 16, rfl, h1, h2, true, rfl, iteF ?_⟩⟩
    refine ⟨_, rfl, _, rfl, p, _, dx, _, rfl, hp, T.c_Picture, T.n_Picture_width, (by show 0 < 1000; decide), ?_⟩
    refine ⟨_, rfl, _, rfl, p, _, dx, _, rfl, upd_same, T.c_Picture, T.n_Picture_height, (by show 1 < 1000; decide), ?_⟩
    rw [upd_upd]
    refine fun dp hdp => ?_
    have n1 : p ≠ dp := ne_of_none upd_same hdp
    refine ⟨_, rfl, p, _, dx, _, rfl, (by rw [upd_ne n1]; exact upd_same), T.c_Picture, T.n_Picture_placed, (by show 2 < 1000; decide), fun do_ hdo => ?_⟩
    have n2 : p ≠ do_ := ne_of_none upd_same hdo
    have n3 : dp ≠ do_ := ne_of_none (by rw [upd_ne (Ne.symm n1)]; exact upd_same) hdo
    refine ⟨_, rfl, p, _, dx, _, rfl, (by rw [upd_ne n2]; exact upd_same), T.c_Picture, T.n_Picture_opened, (by show 3 < 1000; decide), ?_⟩
    rw [upd_ne (Ne.symm n1)] at hdp
    refine q _ dp do_ hdp (fun b u nb e => ?_) ⟨⟨dx, upd_same⟩, ⟨[], ?_, .nil⟩, w1, w2, h1, h2, Nat.zero_le _⟩ ?_
    · have c1 : b ≠ dp := ne_of_none e hdp
      have c2 : b ≠ do_ := fun z => by
        subst z
        rw [upd_ne nb, upd_ne c1, upd_ne nb] at hdo
        rw [e] at hdo
        cases hdo
      rw [upd_ne nb, upd_ne c2, upd_ne nb, upd_ne c1, upd_ne nb]
      exact e
    · rw [upd_ne (Ne.symm n1), upd_ne n3, upd_ne (Ne.symm n1)]
      exact upd_same
    · rw [upd_ne (Ne.symm n2)]
      exact upd_same
theorem ok_Picture_check_name (T : Txt w K mg t) : FnOk true P w K mg base (CXo P w) 2 t.f_Picture_check_name t.d_Picture_check_name ["self", "name"] (spCN t) := by
  refine T.F_Picture_check_name.okn (k := 1) sc_Picture_check_name (fun vs H Q E h => ?_) (fun cdv A outer s H vs Q E hr h => ?_)
  · obtain ⟨a, dp, do_, pw, ph, ps, nm, pt, rfl, _⟩ := h
    rfl
  · obtain ⟨a, dp, do_, pw, ph, ps, nm, pt, rfl, h⟩ := h
    refine ⟨_, pss_one (ps_if (PW.pt (pw_or (pt_not (pt_val (pe_call (ok_is_name T) (hr.mono (by decide)) rfl T.g_is_name T.F_is_name.kp T.b_is_name .nil pass_none (pa_cons (pv 1) (pa_nil))))) (pw_or1 (pt_cmp (pc_dnotin (hu_of hr) (pv 1) (pe_fld (pv 0) rfl)))))) (pss_one (ps_never)) (pss_nil)), ?_⟩
    obtain ⟨pic, hn, hf, q⟩ := h
    obtain ⟨⟨dx, hp⟩, ⟨kvs, hk, pl⟩, _⟩ := id pic
    obtain ⟨q0, e, _⟩ := pl.find hf
    exact ⟨_, rfl, nm, rfl, hn, true, rfl, iteF ⟨_, rfl, _, rfl, a, _, dx, _, _, rfl, hp, T.c_Picture, T.n_Picture_placed, lkP, dp, some (.ref q0), rfl, (by rw [← e]; exact DGet.k (k := .inr nm) hk), false, rfl, iteF q⟩⟩
theorem ok_Picture_check_cell (T : Txt w K mg t) : FnOk true P w K mg base (CXo P w) 2 t.f_Picture_check_cell t.d_Picture_check_cell ["self", "x", "y"] (spCC t) := by
  refine T.F_Picture_check_cell.okn (k := 1) sc_Picture_check_cell (fun vs H Q E h => ?_) (fun cdv A outer s H vs Q E hr h => ?_)
  · obtain ⟨a, dp, do_, pw, ph, ps, x, y, rfl, _⟩ := h
    rfl
  · obtain ⟨a, dp, do_, pw, ph, ps, x, y, rfl, h⟩ := h
    refine ⟨_, pss_one (ps_if (PW.pt (pw_or (pt_not (pt_val (pe_call (ok_is_whole T) (hr.mono (by decide)) rfl T.g_is_whole T.F_is_whole.kp T.b_is_whole .nil pass_none (pa_cons (pv 1) (pa_cons (pe_int) (pa_cons (pe_fld (pv 0) rfl) (pa_nil))))))) (pw_or1 (pt_not (pt_val (pe_call (ok_is_whole T) (hr.mono (by decide)) rfl T.g_is_whole T.F_is_whole.kp T.b_is_whole .nil pass_none (pa_cons (pv 2) (pa_cons (pe_int) (pa_cons (pe_fld (pv 0) rfl) (pa_nil)))))))))) (pss_one (ps_never)) (pss_nil)), ?_⟩
    obtain ⟨pic, x1, x2, y1, y2, q⟩ := h
    obtain ⟨⟨dx, hp⟩, _, _⟩ := id pic
    exact ⟨_, rfl, _, rfl, a, _, dx, _, _, rfl, hp, T.c_Picture, T.n_Picture_width, lkW, x, 1, pw, rfl, x1, x2, true, rfl, iteF ⟨_, rfl, _, rfl, a, _, dx, _, _, rfl, hp, T.c_Picture, T.n_Picture_height, lkH, y, 1, ph, rfl, y1, y2, true, rfl, iteF q⟩⟩
theorem ok_Picture_points (T : Txt w K mg t) : FnOk true P w K mg base (CXo P w) 1 t.f_Picture_points t.d_Picture_points ["self"] (spPts t) := by
  refine T.F_Picture_points.okn (k := 0) sc_Picture_points (fun vs H Q E h => ?_) (fun cdv A outer s H vs Q E hr h => ?_)
  · obtain ⟨a, dp, do_, pw, ph, ps, rfl, _⟩ := h
    rfl
  · obtain ⟨a, dp, do_, pw, ph, ps, rfl, h⟩ := h
    refine ⟨_, pss_one (ps_ret (pe_thaw (pe_compG rfl (blkG_of (zs := ["name", "rest"]) (ys := []) (fr := []) (N0 := ["self"]) (sc0 := defScope s_Picture_points) (by decide +kernel) rfl rfl rfl) (pi_items (pe_fld (pv 0) rfl)) (fun _ _ _ _ _ ow nd => (pg_tup rfl (pgs_cons (pg_name (i := 0) nd rfl (Or.inl (ow _ (by simp))) (Or.inr (ow _ (by simp)))) (pgs_cons (pg_name (i := 1) nd rfl (Or.inl (ow _ (by simp))) (Or.inr (ow _ (by simp)))) (pgs_nil))) : PG _ _ (gTup K 2 _))) (gok_tup (goks_cons (by decide) (goks_cons (by decide) (goks_nil)))) (fun _ _ _ _ _ => pif_nil) (fun _ _ _ _ _ => pe_op (r := rCatT K) op_catT (pe_tup (pa_cons (pv 0) (pa_nil))) (pv 1))))), ?_⟩
    obtain ⟨pic, q⟩ := h
    obtain ⟨⟨dx, hp⟩, ⟨kvs, hk, pl⟩, _⟩ := id pic
    refine ⟨_, rfl, a, _, dx, _, _, rfl, hp, T.c_Picture, T.n_Picture_placed, lkP, dp, kvs, rfl, hk, fun ob nf l hl => ?_⟩
    have nl : l ≠ dp := fun z => by
      rw [z, upd_same] at hl
      cases hl
    have hl0 : H l = none := by rwa [upd_ne nl] at hl
    refine compG_by kvs.length (fun i xs H2 => ∃ qs : List Addr, xs = qs.map V.ref ∧ qs.length ≤ i ∧ H2 dp = some (.frz ob (.dK kvs)) ∧ (∀ b u, b ≠ dp → H b = some u → H2 b = some u) ∧ H2 l = some (.lst xs) ∧ PtsL H2 (ps.take i) qs) ?_ ?_ ?_ ?_
    · refine ⟨[], rfl, Nat.le_refl _, ?_, fun b u nb e => ?_, upd_same, by simpa using PtsL.nil⟩
      · rw [upd_ne (Ne.symm nl)]
        exact upd_same
      · rw [upd_ne (ne_of_none e hl0), upd_ne nb]
        exact e
    · rintro i xs H2 lt ⟨qs, _, _, hd, _⟩
      exact ⟨hd, lt⟩
    · rintro i xs H2 v H3 lt ⟨qs, rfl, ql, hd, sm, hl2, pts⟩ ⟨p, k, x, hx, rfl, hpn, rfl⟩ N hN
      obtain ⟨pt, q0, hpt, rfl, rfl, hq0⟩ := pl.get hx
      have e0 : H2 q0 = some (.tup (ptV pt)) := sm _ _ (ne_of hq0 hk (fun z => nomatch z)) hq0
      refine ⟨p, _, rfl, SqT.of upd_same, rfl, _, _, rfl, _, _, rfl, rfl, ?_⟩
      refine tT_if ?_
      have n0 : q0 ≠ p := ne_of_none e0 hpn
      refine ⟨_, rfl, (by show 1 ≤ sizeLine; decide), fun p1 h1 => ⟨_, rfl, p1, q0, _, ptV pt, rfl, rfl, SqT.of upd_same, SqT.of ?_, (by simp), (by show 1 + 5 ≤ sizeLine; decide), (fun z => nomatch z), fun _ p2 h2 => ?_⟩⟩
      · rw [upd_ne (ne_of_none (by rw [upd_ne n0]; exact e0) h1), upd_ne n0]
        exact e0
      have up : ∀ b u, H2 b = some u → (upd (upd (upd H2 p (.tup [.str pt.nm, .ref q0])) p1 (.tup [.str pt.nm])) p2 (.tup ([.str pt.nm] ++ ptV pt))) b = some u := fun b u e => by
        have c1 : b ≠ p := ne_of_none e hpn
        have e1 : upd H2 p (.tup [.str pt.nm, .ref q0]) b = some u := by rw [upd_ne c1]; exact e
        have c2 : b ≠ p1 := ne_of_none e1 h1
        have e2 : upd (upd H2 p (.tup [.str pt.nm, .ref q0])) p1 (.tup [.str pt.nm]) b = some u := by rw [upd_ne c2]; exact e1
        rw [upd_ne (ne_of_none e2 h2)]
        exact e2
      have c3 : l ≠ p2 := ne_of_none (show upd (upd H2 p (.tup [.str pt.nm, .ref q0])) p1 (.tup [.str pt.nm]) l = some (.lst (qs.map V.ref)) from by
        have c1 : l ≠ p := ne_of_none hl2 hpn
        have e1 : upd H2 p (.tup [.str pt.nm, .ref q0]) l = some (.lst (qs.map V.ref)) := by rw [upd_ne c1]; exact hl2
        rw [upd_ne (ne_of_none e1 h1)]
        exact e1) h2
      have tk : ps.take (i + 1) = ps.take i ++ [pt] := by
        rw [List.take_add_one, hpt]
        rfl
      have ll : qs.length < sizeLine := Nat.lt_trans (by have := pl.len; have := pic.len; omega : qs.length < 13) (by decide)
      refine ⟨up _ _ hl2, by rw [List.length_map]; exact ll, hN _ _ ⟨qs ++ [p2], by simp, by simp; omega, ?_, fun b u nb e => ?_, upd_same, ?_⟩⟩
      · rw [upd_ne (Ne.symm nl)]
        exact up _ _ hd
      · have e2 := up _ _ (sm b u nb e)
        rw [upd_ne (ne_of_none e hl0)]
        exact e2
      · rw [tk]
        refine PtsL.snoc (PtsL.keep (fun b xs e => ?_) pts) ?_
        · have e2 := up _ _ e
          rw [upd_ne (ne_of e2 (up _ _ hl2) (fun z => nomatch z))]
          exact e2
        · rw [upd_ne (Ne.symm c3)]
          exact upd_same
    · rintro xs H2 ⟨qs, rfl, _, hd, sm, hl2, pts⟩
      refine ⟨⟨hd, Nat.le_refl _⟩, dp, ob, _, hd, nf, q _ l qs (fun b u e => ?_) ?_ (PtsL.keep (fun b xs e => ?_) (by rw [pl.len, List.take_length] at pts; exact pts))⟩
      · by_cases c : b = dp
        · subst c
          rw [hk] at e
          cases e
          exact upd_same
        · rw [upd_ne c]
          exact sm b u c e
      · rw [upd_ne nl]
        exact hl2
      · rw [upd_ne (ne_of e hd (fun z => nomatch z))]
        exact e
theorem ok_Picture_check_lines (T : Txt w K mg t) : FnOk true P w K mg base (CXo P w) 2 t.f_Picture_check_lines t.d_Picture_check_lines ["self", "name", "x", "y"] (spCL t) := by
  refine T.F_Picture_check_lines.okn (k := 1) sc_Picture_check_lines (fun vs H Q E h => ?_) (fun cdv A outer s H vs Q E hr h => ?_)
  · obtain ⟨a, dp, do_, pw, ph, ps, nm, x, y, rfl, _⟩ := h
    rfl
  · obtain ⟨a, dp, do_, pw, ph, ps, nm, x, y, rfl, h⟩ := h
    refine ⟨_, pss_cons (ps_setcG rfl (blkG_of (zs := ["other"]) (ys := ["name"]) (fr := [1]) (N0 := ["self", "name", "x", "y", "others", "other"]) (sc0 := defScope s_Picture_check_lines) (by decide +kernel) rfl rfl rfl) (pi_list (pe_meth0 (pv 0) T.c_Picture T.m_Picture_points (ok_Picture_points T) (hr.mono (by decide)) T.b_Picture_points .nil pass_none)) (fun _ _ _ _ _ ow nd => pg_name (i := 0) nd rfl (Or.inl (ow _ (by simp))) (Or.inr (ow _ (by simp)))) (gok_name (by decide)) (fun _ _ _ _ _ => pif_one (pt_cmpR op_ne (pe_ix (r := rIxT K) ix_tup (pv 0) (pe_int) (fun _ _ => rfl)) (pv 1) (nomark _))) (fun _ _ _ _ _ => pv 0) (j := 4) rfl (Or.inl rfl))
      (pss_cons (ps_for PassesOwn.never rfl (pi_list (pv 4)) (pg_name (i := 5) sc_Picture_check_lines.nd rfl (Or.inl rfl)) (pss_one (ps_if (pt_cmpR op_eq (pe_ix ix_tup (pv 5) (pe_int) (fun _ _ => rfl)) (pv 2) (nomark _)) (pss_one (ps_never)) (pss_nil))))
      (pss_one (ps_for PassesOwn.never rfl (pi_list (pv 4)) (pg_name (i := 5) sc_Picture_check_lines.nd rfl (Or.inl rfl)) (pss_one (ps_if (pt_cmpR op_eq (pe_ix ix_tup (pv 5) (pe_int) (fun _ _ => rfl)) (pv 3) (nomark _)) (pss_one (ps_never)) (pss_nil)))))), ?_⟩
    obtain ⟨pic, no, q⟩ := h
    obtain ⟨⟨dx, hp⟩, ⟨kvs, hk, pl⟩, _⟩ := id pic
    refine ⟨_, rfl, a, dx, _, rfl, hp, lk_no (by decide +kernel), a, dp, do_, pw, ph, ps, rfl, pic, fun H1 l1 qs s1 hl1 pt1 => ⟨l1, rfl, ⟨_, SqL.of hl1⟩, fun l hl => ?_⟩⟩
    refine compG_by qs.length (fun i xs H2 => ∃ os : List Addr, xs = os.map V.ref ∧ os.length ≤ i ∧ Same H1 H2 ∧ H2 l = some (.lst xs) ∧ ∀ o ∈ os, ∃ p ∈ ps, p.nm ≠ nm ∧ H1 o = some (.tup (.str p.nm :: ptV p))) ?_ ?_ ?_ ?_
    · exact ⟨[], rfl, Nat.le_refl _, same_upd (Same.refl _) hl, upd_same, fun o z => nomatch z⟩
    · rintro i xs H2 lt ⟨os, _, _, s2, _⟩
      exact ⟨_, .ref qs[i], SqL.of (s2 _ _ hl1), by simp [lt]⟩
    · rintro i xs H2 v H3 lt ⟨os, rfl, ol, s2, hl2, hos⟩ ⟨rfl, hv⟩ N hN
      have hv' := hv _ (SqL.of (s2 _ _ hl1))
      rw [List.getElem?_map] at hv'
      obtain ⟨o, ho, rfl⟩ := Option.map_eq_some_iff.mp hv'
      obtain ⟨p, hpp, ep⟩ := pt1.get ho
      refine ⟨_, rfl, o, _, 0, _, rfl, rfl, SqT.of (s2 _ _ ep), rfl, _, rfl, rfl, _, rfl, ite2 (fun c => ?_) (fun c => ?_)⟩
      · have cn : p.nm ≠ nm := fun z => by
          rw [z] at c
          simp at c
        refine ⟨_, rfl, hl2, (by rw [List.length_map]; exact Nat.lt_trans (by have := pt1.len; have := pic.len; omega : os.length < 13) (by decide)), hN _ _ ⟨os ++ [o], by simp, by simp; omega, ?_, upd_same, ?_⟩⟩
        · intro b u e
          by_cases cb : b = l
          · subst cb
            rw [e] at hl
            cases hl
          · rw [upd_ne cb]
            exact s2 b u e
        · intro o' ho'
          rcases List.mem_append.mp ho' with z | z
          · exact hos o' z
          · have := List.mem_singleton.mp z
            subst this
            exact ⟨p, List.mem_of_getElem? hpp, cn, ep⟩
      · exact hN _ _ ⟨os, rfl, by omega, s2, hl2, hos⟩
    · rintro xs H2 ⟨os, rfl, ol, s2, hl2, hos⟩
      refine ⟨⟨_, SqL.of (s2 _ _ hl1), by simp⟩, ?_⟩
      have loop : ∀ (o : Addr), o ∈ os → ∃ p ∈ ps, p.nm ≠ nm ∧ H2 o = some (.tup (.str p.nm :: ptV p)) := fun o ho => by
        obtain ⟨p, h1, h2, h3⟩ := hos o ho
        exact ⟨p, h1, h2, s2 _ _ h3⟩
      refine ⟨_, rfl, l, rfl, ⟨_, SqL.of hl2⟩, for_list (xs := os.map V.ref) (Pv := fun i σ H3 => ∃ v5 : Option V, σ = [some (.ref a), some (.str nm), some (.int x), some (.int y), some (.ref l), v5] ∧ H2 = H3) ⟨_, rfl, rfl⟩ (fun _ _ _ _ ⟨_, _, z⟩ => by rw [← z]; exact SqL.of hl2) ?_ ?_⟩
      · rintro i v σ _ hv ⟨v5, rfl, rfl⟩
        rw [List.getElem?_map] at hv
        obtain ⟨o, ho, rfl⟩ := Option.map_eq_some_iff.mp hv
        obtain ⟨p, m1, m2, m3⟩ := loop o (List.mem_of_getElem? ho)
        refine ⟨_, rfl, o, _, 1, _, rfl, rfl, SqT.of m3, rfl, _, rfl, rfl, _, rfl, ifN (decide_eq_false fun z => (no p m1 m2).1 (V.int.inj z)) ⟨_, rfl, rfl⟩⟩
      · rintro σ _ ⟨v5, rfl, rfl⟩
        refine ⟨_, rfl, l, rfl, ⟨_, SqL.of hl2⟩, for_list (xs := os.map V.ref) (Pv := fun i σ H3 => ∃ v5 : Option V, σ = [some (.ref a), some (.str nm), some (.int x), some (.int y), some (.ref l), v5] ∧ H2 = H3) ⟨_, rfl, rfl⟩ (fun _ _ _ _ ⟨_, _, z⟩ => by rw [← z]; exact SqL.of hl2) ?_ ?_⟩
        · rintro i v σ _ hv ⟨v5, rfl, rfl⟩
          rw [List.getElem?_map] at hv
          obtain ⟨o, ho, rfl⟩ := Option.map_eq_some_iff.mp hv
          obtain ⟨p, m1, m2, m3⟩ := loop o (List.mem_of_getElem? ho)
          refine ⟨_, rfl, o, _, 2, _, rfl, rfl, SqT.of m3, rfl, _, rfl, rfl, _, rfl, ifN (decide_eq_false fun z => (no p m1 m2).2 (V.int.inj z)) ⟨_, rfl, rfl⟩⟩
        · rintro σ _ ⟨v5, rfl, rfl⟩
          exact q _ (s1.trans s2)
theorem ok_Picture_check_seat (T : Txt w K mg t) : FnOk true P w K mg base (CXo P w) 4 t.f_Picture_check_seat t.d_Picture_check_seat ["self", "side", "row"] (spCS t) := by
  refine T.F_Picture_check_seat.okn (k := 3) sc_Picture_check_seat (fun vs H Q E h => ?_) (fun cdv A outer s H vs Q E hr h => ?_)
  · obtain ⟨a, dp, do_, pw, ph, ps, b, r, rfl, _⟩ := h
    rfl
  · obtain ⟨a, dp, do_, pw, ph, ps, b, r, rfl, h⟩ := h
    refine ⟨_, pss_cons (ps_expr (pe_call (ok_side_of T) (hr.mono (by decide)) rfl T.g_side_of T.F_side_of.kp T.b_side_of .nil pass_none (pa_cons (pv 1) (pa_cons (pe_fld (pv 0) rfl) (pa_nil)))))
      (pss_one (ps_if (pt_not (pt_val (pe_call (ok_is_whole T) (hr.mono (by decide)) rfl T.g_is_whole T.F_is_whole.kp T.b_is_whole .nil pass_none (pa_cons (pv 2) (pa_cons (pe_int) (pa_cons (pe_fld (pv 0) rfl) (pa_nil))))))) (pss_one (ps_never)) (pss_nil))), ?_⟩
    obtain ⟨pic, r1, r2, q⟩ := h
    obtain ⟨⟨dx, hp⟩, _, _⟩ := id pic
    refine ⟨_, rfl, _, rfl, a, _, dx, _, _, rfl, hp, T.c_Picture, T.n_Picture_width, lkW, b, pw, rfl, fun p H1 hp1 sd1 s1 => ?_⟩
    exact ⟨_, rfl, _, rfl, a, _, dx, _, _, rfl, (s1 _ _ hp), T.c_Picture, T.n_Picture_height, lkH, r, 1, ph, rfl, r1, r2, true, rfl, iteF (q H1 s1)⟩
theorem ok_Picture_put (T : Txt w K mg t) : FnOk true P w K mg base (CXo P w) 3 t.f_Picture_put t.d_Picture_put ["self", "name", "x", "y", "sides", "low", "high"] (spPut t) := by
  refine T.F_Picture_put.okn (k := 2) sc_Picture_put (fun vs H Q E h => ?_) (fun cdv A outer s H vs Q E hr h => ?_)
  · obtain ⟨a, dp, do_, pw, ph, ps, nm, x, y, sd, lo, hi, hv, rfl, _⟩ := h
    rfl
  · obtain ⟨a, dp, do_, pw, ph, ps, nm, x, y, sd, lo, hi, hv, rfl, h⟩ := h
    refine ⟨_, pss_cons (ps_set (i := 7) sc_Picture_put.nd rfl (Or.inl rfl) (pe_ifExp (pt_cmpR op_isN (pv 6) (pe_non) (nomark _)) (pe_fld (pv 0) rfl) (pv 6)))
      (pss_cons (ps_if (pt_not (pt_val (pe_call (ok_is_name T) (hr.mono (by decide)) rfl T.g_is_name T.F_is_name.kp T.b_is_name .nil pass_none (pa_cons (pv 1) (pa_nil))))) (pss_one (ps_never)) (pss_nil))
      (pss_cons (ps_expr (pe_meth (pv 0) T.c_Picture T.m_Picture_check_cell (ok_Picture_check_cell T) (hr.mono (by decide)) T.b_Picture_check_cell .nil pass_none (pa_cons (pv 2) (pa_cons (pv 3) (pa_nil)))))
      (pss_cons (ps_if (PW.pt (pw_or (pt_not (pt_val (pe_callB call_isin rfl T.n_isinstance boot_isinstance (pa_cons (pv 4) (pa_cons (pe_bltn (v := .ty "str") rfl T.n_str boot_str rfl) (pa_nil)))))) (pw_or1 (pt_cmp (pc_gnotin (pv 4) rfl T.g_MIRRORED_SIDES T.D_MIRRORED_SIDES))))) (pss_one (ps_never)) (pss_nil))
      (pss_cons (ps_if (PW.pt (pw_or (pt_not (pt_val (pe_call (ok_is_whole T) (hr.mono (by decide)) rfl T.g_is_whole T.F_is_whole.kp T.b_is_whole .nil pass_none (pa_cons (pv 5) (pa_cons (pe_int) (pa_cons (pe_fld (pv 0) rfl) (pa_nil))))))) (pw_or1 (pt_not (pt_val (pe_call (ok_is_whole T) (hr.mono (by decide)) rfl T.g_is_whole T.F_is_whole.kp T.b_is_whole .nil pass_none (pa_cons (pv 7) (pa_cons (pv 5) (pa_cons (pe_fld (pv 0) rfl) (pa_nil)))))))))) (pss_one (ps_never)) (pss_nil))
      (pss_cons (ps_if (pt_cmp (pc_din (hu_of hr) (pv 1) (pe_fld (pv 0) rfl))) (pss_one (ps_never)) (pss_nil))
      (pss_cons (ps_if (pt_cmpR op_ge (pe_callB call_lenD rfl T.n_len boot_len (pa_cons (pe_fld (pv 0) rfl) (pa_nil))) (pe_glob (v := .int 12) rfl T.v_MOST_POINTS.choose_spec ⟨_, rfl⟩) (nomark _)) (pss_one (ps_never)) (pss_nil))
      (pss_cons (ps_expr (pe_meth (pv 0) T.c_Picture T.m_Picture_check_lines (ok_Picture_check_lines T) (hr.mono (by decide)) T.b_Picture_check_lines .nil pass_none (pa_cons (pv 1) (pa_cons (pv 2) (pa_cons (pv 3) (pa_nil))))))
      (pss_one (ps_dput (hu_of hr) (pe_fld (pv 0) rfl) (pv 1) (pe_tup (pa_cons (pv 2) (pa_cons (pv 3) (pa_cons (pv 4) (pa_cons (pv 5) (pa_cons (pv 7) (pa_nil))))))) rfl))))))))), ?_⟩
    obtain ⟨pic, hhv, hn, x1, x2, y1, y2, hsd, l1, l2, l3, no, len, q⟩ := h
    obtain ⟨⟨dx, hp⟩, ⟨kvs, hk, pl⟩, _⟩ := id pic
    have hsd' : (valV ([(Sum.inr "left", V.str "right"), (Sum.inr "right", V.str "left"), (Sum.inr "both", V.str "both")] : List (Key × V)) (Sum.inr sd)).isSome = true := by
      rcases hsd with rfl | rfl | rfl <;> decide +kernel
    rcases hhv with ⟨rfl, e⟩ | rfl
    · obtain rfl := e.symm
      refine ⟨_, rfl, rfl, _, rfl, ifP (by rfl) ⟨_, rfl, a, _, dx, _, _, rfl, hp, T.c_Picture, T.n_Picture_height, lkH, ?_⟩⟩
      refine ⟨_, rfl, nm, rfl, hn, true, rfl, iteF ?_⟩
      refine ⟨_, rfl, a, dx, _, rfl, hp, lk_no (by decide +kernel), _, rfl, _, rfl, a, dp, do_, pw, ph, ps, x, y, rfl, pic, x1, x2, y1, y2, ?_⟩
      refine ⟨_, rfl, _, _, rfl, .inl ⟨_, _, true, .str _, rfl, kit_same, true, rfl, iteF ⟨_, rfl, .inr sd, rfl, false, (by rw [hsd']; rfl), iteF ?_⟩⟩⟩
      refine ⟨_, rfl, _, rfl, a, _, dx, _, _, rfl, hp, T.c_Picture, T.n_Picture_height, lkH, lo, 1, ph, rfl, l1, (by omega), true, rfl, iteF ⟨_, rfl, _, rfl, _, rfl, a, _, dx, _, _, rfl, hp, T.c_Picture, T.n_Picture_height, lkH, ph, lo, ph, rfl, (by omega), (by omega), true, rfl, iteF ?_⟩⟩
      refine ⟨_, rfl, _, rfl, a, _, dx, _, _, rfl, hp, T.c_Picture, T.n_Picture_placed, lkP, dp, none, rfl, (by rw [← pl.no (nm := nm) (fun p hp => (no p hp).1)]; exact DGet.k (k := .inr nm) hk), false, rfl, iteF ?_⟩
      refine ⟨_, rfl, a, _, dx, _, _, rfl, hp, T.c_Picture, T.n_Picture_placed, lkP, dp, kvs, rfl, hk, _, _, rfl, rfl, _, rfl, ifN (decide_eq_false (by have := pl.len; omega)) ?_⟩
      refine ⟨_, rfl, a, dx, _, rfl, hp, lk_no (by decide +kernel), _, rfl, _, rfl, _, rfl, a, dp, do_, pw, ph, ps, nm, x, y, rfl, pic, fun p hp _ => (no p hp).2, fun H1 s1 => ?_⟩
      refine ⟨_, rfl, _, rfl, _, rfl, _, rfl, _, rfl, (by show 5 ≤ sizeLine; decide), fun q1 hq1 => ?_⟩
      have hp1 : upd H1 q1 (.tup [.int x, .int y, .str sd, .int lo, .int ph]) a = some (.ins t.C_Picture dx (picF pw ph dp do_)) := by rw [upd_ne (ne_of_none (s1 _ _ hp) hq1)]; exact s1 _ _ hp
      have hk1 : upd H1 q1 (.tup [.int x, .int y, .str sd, .int lo, .int ph]) dp = some (.dK kvs) := by rw [upd_ne (ne_of_none (s1 _ _ hk) hq1)]; exact s1 _ _ hk
      refine ⟨_, rfl, a, _, dx, _, _, rfl, hp1, T.c_Picture, T.n_Picture_placed, lkP, _, rfl, dp, _, rfl, DPut.k (k := .inr nm) hk1 (Nat.lt_trans (by have := pl.len; omega : kvs.length < 12) (by decide)), ?_⟩
      rw [putK_new (.ref q1) (pl.no (nm := nm) (fun p hp => (no p hp).1))]
      have nq : q1 ≠ dp := fun z => by
        subst z
        rw [s1 _ _ hk] at hq1
        cases hq1
      refine q _ (fun b u nb e => ?_) ⟨⟨dx, ?_⟩, ⟨_, upd_same, Pl.snoc (p := ⟨nm, x, y, sd, lo, ph⟩) (pl.keep (fun b xs e => ?_)) ?_⟩, pic.w1, pic.w2, pic.h1, pic.h2, (by rw [List.length_append]; exact len)⟩
      · rw [upd_ne nb, upd_ne (ne_of_none (s1 _ _ e) hq1)]
        exact s1 _ _ e
      · rw [upd_ne (ne_of hp1 hk1 (fun z => nomatch z))]
        exact hp1
      · have e' := s1 _ _ e
        rw [upd_ne (ne_of e' (s1 _ _ hk) (fun z => nomatch z)), upd_ne (ne_of_none e' hq1)]
        exact e'
      · rw [upd_ne nq]
        exact upd_same
    · refine ⟨_, rfl, rfl, _, rfl, ifN (by rfl) ⟨_, rfl, ?_⟩⟩
      refine ⟨_, rfl, nm, rfl, hn, true, rfl, iteF ?_⟩
      refine ⟨_, rfl, a, dx, _, rfl, hp, lk_no (by decide +kernel), _, rfl, _, rfl, a, dp, do_, pw, ph, ps, x, y, rfl, pic, x1, x2, y1, y2, ?_⟩
      refine ⟨_, rfl, _, _, rfl, .inl ⟨_, _, true, .str _, rfl, kit_same, true, rfl, iteF ⟨_, rfl, .inr sd, rfl, false, (by rw [hsd']; rfl), iteF ?_⟩⟩⟩
      refine ⟨_, rfl, _, rfl, a, _, dx, _, _, rfl, hp, T.c_Picture, T.n_Picture_height, lkH, lo, 1, ph, rfl, l1, (by omega), true, rfl, iteF ⟨_, rfl, _, rfl, _, rfl, a, _, dx, _, _, rfl, hp, T.c_Picture, T.n_Picture_height, lkH, hi, lo, ph, rfl, (by omega), (by omega), true, rfl, iteF ?_⟩⟩
      refine ⟨_, rfl, _, rfl, a, _, dx, _, _, rfl, hp, T.c_Picture, T.n_Picture_placed, lkP, dp, none, rfl, (by rw [← pl.no (nm := nm) (fun p hp => (no p hp).1)]; exact DGet.k (k := .inr nm) hk), false, rfl, iteF ?_⟩
      refine ⟨_, rfl, a, _, dx, _, _, rfl, hp, T.c_Picture, T.n_Picture_placed, lkP, dp, kvs, rfl, hk, _, _, rfl, rfl, _, rfl, ifN (decide_eq_false (by have := pl.len; omega)) ?_⟩
      refine ⟨_, rfl, a, dx, _, rfl, hp, lk_no (by decide +kernel), _, rfl, _, rfl, _, rfl, a, dp, do_, pw, ph, ps, nm, x, y, rfl, pic, fun p hp _ => (no p hp).2, fun H1 s1 => ?_⟩
      refine ⟨_, rfl, _, rfl, _, rfl, _, rfl, _, rfl, (by show 5 ≤ sizeLine; decide), fun q1 hq1 => ?_⟩
      have hp1 : upd H1 q1 (.tup [.int x, .int y, .str sd, .int lo, .int hi]) a = some (.ins t.C_Picture dx (picF pw ph dp do_)) := by rw [upd_ne (ne_of_none (s1 _ _ hp) hq1)]; exact s1 _ _ hp
      have hk1 : upd H1 q1 (.tup [.int x, .int y, .str sd, .int lo, .int hi]) dp = some (.dK kvs) := by rw [upd_ne (ne_of_none (s1 _ _ hk) hq1)]; exact s1 _ _ hk
      refine ⟨_, rfl, a, _, dx, _, _, rfl, hp1, T.c_Picture, T.n_Picture_placed, lkP, _, rfl, dp, _, rfl, DPut.k (k := .inr nm) hk1 (Nat.lt_trans (by have := pl.len; omega : kvs.length < 12) (by decide)), ?_⟩
      rw [putK_new (.ref q1) (pl.no (nm := nm) (fun p hp => (no p hp).1))]
      have nq : q1 ≠ dp := fun z => by
        subst z
        rw [s1 _ _ hk] at hq1
        cases hq1
      refine q _ (fun b u nb e => ?_) ⟨⟨dx, ?_⟩, ⟨_, upd_same, Pl.snoc (p := ⟨nm, x, y, sd, lo, hi⟩) (pl.keep (fun b xs e => ?_)) ?_⟩, pic.w1, pic.w2, pic.h1, pic.h2, (by rw [List.length_append]; exact len)⟩
      · rw [upd_ne nb, upd_ne (ne_of_none (s1 _ _ e) hq1)]
        exact s1 _ _ e
      · rw [upd_ne (ne_of hp1 hk1 (fun z => nomatch z))]
        exact hp1
      · have e' := s1 _ _ e
        rw [upd_ne (ne_of e' (s1 _ _ hk) (fun z => nomatch z)), upd_ne (ne_of_none e' hq1)]
        exact e'
      · rw [upd_ne nq]
        exact upd_same
theorem ok_Picture_place_of (T : Txt w K mg t) : FnOk true P w K mg base (CXo P w) 3 t.f_Picture_place_of t.d_Picture_place_of ["self", "name"] (spPlc t) := by
  refine T.F_Picture_place_of.okn (k := 2) sc_Picture_place_of (fun vs H Q E h => ?_) (fun cdv A outer s H vs Q E hr h => ?_)
  · obtain ⟨a, dp, do_, pw, ph, ps, nm, pt, rfl, _⟩ := h
    rfl
  · obtain ⟨a, dp, do_, pw, ph, ps, nm, pt, rfl, h⟩ := h
    refine ⟨_, pss_cons (ps_expr (pe_meth (pv 0) T.c_Picture T.m_Picture_check_name (ok_Picture_check_name T) (hr.mono (by decide)) T.b_Picture_check_name .nil pass_none (pa_cons (pv 1) (pa_nil))))
      (pss_one (ps_ret (pe_slice sl_tup (pe_dget (hu_of hr) (pe_fld (pv 0) rfl) (pv 1) (fun _ _ => rfl)) po_none (po_some (pe_int))))), ?_⟩
    obtain ⟨pic, hn, hf, q⟩ := h
    obtain ⟨⟨dx, hp⟩, ⟨kvs, hk, pl⟩, _⟩ := id pic
    obtain ⟨q0, e, hq0⟩ := pl.find hf
    refine ⟨_, rfl, a, dx, _, rfl, hp, lk_no (by decide +kernel), _, rfl, a, dp, do_, pw, ph, ps, nm, pt, rfl, pic, hn, hf, ?_⟩
    exact ⟨_, rfl, a, _, dx, _, _, rfl, hp, T.c_Picture, T.n_Picture_placed, lkP, _, rfl, dp, .ref q0, rfl, (by rw [← e]; exact DGet.k (k := .inr nm) hk), 2, rfl, q0, ptV pt, rfl, SqT.of hq0, (fun z => absurd z.2 (by show ¬ ((2 : Nat) = 5); decide)), fun p hp' => q _ p (same_upd (Same.refl _) hp') upd_same⟩
theorem ok_Picture_length (T : Txt w K mg t) : FnOk true P w K mg base (CXo P w) 5 t.f_Picture_length t.d_Picture_length ["self", "name", "side", "row"] (spLen t) := by
  refine T.F_Picture_length.okn (k := 4) sc_Picture_length (fun vs H Q E h => ?_) (fun cdv A outer s H vs Q E hr h => ?_)
  · obtain ⟨a, dp, do_, pw, ph, ps, nm, pt, b, r, rfl, _⟩ := h
    rfl
  · obtain ⟨a, dp, do_, pw, ph, ps, nm, pt, b, r, rfl, h⟩ := h
    refine ⟨_, pss_cons (ps_asg (pe_meth (pv 0) T.c_Picture T.m_Picture_place_of (ok_Picture_place_of T) (hr.mono (by decide)) T.b_Picture_place_of .nil pass_none (pa_cons (pv 1) (pa_nil))) (pg_tup rfl (pgs_cons (pg_name (i := 4) sc_Picture_length.nd rfl (Or.inl rfl)) (pgs_cons (pg_name (i := 5) sc_Picture_length.nd rfl (Or.inl rfl)) (pgs_nil)))))
      (pss_cons (ps_expr (pe_meth (pv 0) T.c_Picture T.m_Picture_check_seat (ok_Picture_check_seat T) (hr.mono (by decide)) T.b_Picture_check_seat .nil pass_none (pa_cons (pv 2) (pa_cons (pv 3) (pa_nil)))))
      (pss_one (ps_ret (pe_op op_add (pe_alt (pe_meth (pe_call (ok_side_of T) (hr.mono (by decide)) rfl T.g_side_of T.F_side_of.kp T.b_side_of .nil pass_none (pa_cons (pv 2) (pa_cons (pe_fld (pv 0) rfl) (pa_nil)))) T.c_LeftSide T.m_LeftSide_across (ok_LeftSide_across T) (hr.mono (by decide)) T.b_LeftSide_across .nil pass_none (pa_cons (pv 4) (pa_nil))) (pe_meth (pe_call (ok_side_of T) (hr.mono (by decide)) rfl T.g_side_of T.F_side_of.kp T.b_side_of .nil pass_none (pa_cons (pv 2) (pa_cons (pe_fld (pv 0) rfl) (pa_nil)))) T.c_RightSide T.m_RightSide_across (ok_RightSide_across T) (hr.mono (by decide)) T.b_RightSide_across .nil pass_none (pa_cons (pv 4) (pa_nil)))) (pe_callB call_abs rfl T.n_abs boot_abs (pa_cons (pe_op op_sub (pv 5) (pv 3)) (pa_nil))))))), ?_⟩
    obtain ⟨pic, hn, hf, r1, r2, q⟩ := h
    obtain ⟨⟨dx, hp⟩, _, _⟩ := id pic
    refine ⟨_, rfl, a, dx, _, rfl, hp, lk_no (by decide +kernel), _, rfl, a, dp, do_, pw, ph, ps, nm, pt, rfl, pic, hn, hf, fun H1 q1 s1 hq1 => ⟨q1, _, rfl, SqT.of hq1, rfl, _, _, rfl, _, _, rfl, rfl, ?_⟩⟩
    refine ⟨_, rfl, a, dx, _, rfl, s1 _ _ hp, lk_no (by decide +kernel), _, rfl, _, rfl, a, dp, do_, pw, ph, ps, b, r, rfl, Pic.same s1 pic, r1, r2, fun H2 s2 => ?_⟩
    cases b with
    | true =>
      refine .inl ⟨_, rfl, _, rfl, a, _, dx, _, _, rfl, (s2 _ _ (s1 _ _ hp)), T.c_Picture, T.n_Picture_width, lkW, true, pw, rfl, fun p H3 hp3 sd3 s3 => ?_⟩
      obtain ⟨ds, hs⟩ := sd3
      exact ⟨p, ds, _, rfl, hs, (by rw [List.lookup_cons, show (("across" : Str) == "width") = false from by decide +kernel]; rfl), _, rfl, _, _, rfl, _, rfl, _, rfl, _, _, rfl, rfl, _, rfl, _, _, rfl, rfl, q H3 ((s1.trans s2).trans s3)⟩
    | false =>
      refine .inr ⟨_, rfl, _, rfl, a, _, dx, _, _, rfl, (s2 _ _ (s1 _ _ hp)), T.c_Picture, T.n_Picture_width, lkW, false, pw, rfl, fun p H3 hp3 sd3 s3 => ?_⟩
      obtain ⟨ds, hs⟩ := id sd3
      exact ⟨p, ds, _, rfl, hs, (by rw [List.lookup_cons, show (("across" : Str) == "width") = false from by decide +kernel]; rfl), _, rfl, p, pw, _, rfl, sd3, _, rfl, _, rfl, _, _, rfl, rfl, _, rfl, _, _, rfl, rfl, q H3 ((s1.trans s2).trans s3)⟩
end
end S11

set_option maxRecDepth 100000
set_option maxHeartbeats 4000000
namespace S11
open PySem L2 XL PyProof.Rows
inductive CellsL (H : Hp) : List (Int × Int) → List Addr → Prop
  | nil : CellsL H [] []
  | cons {c : Int × Int} {q : Addr} {cs : List (Int × Int)} {qs : List Addr} (h : H q = some (.tup [.int c.1, .int c.2])) (r : CellsL H cs qs) : CellsL H (c :: cs) (q :: qs)
theorem CellsL.keep {H H' : Hp} (s : Tups H H') {cs : List (Int × Int)} {qs : List Addr} (h : CellsL H cs qs) : CellsL H' cs qs := by
  induction h with
  | nil => exact .nil
  | cons h _ ih => exact .cons (s _ _ h) ih
theorem CellsL.len {H : Hp} {cs : List (Int × Int)} {qs : List Addr} (h : CellsL H cs qs) : qs.length = cs.length := by
  induction h with
  | nil => rfl
  | cons _ _ ih => simp [ih]
theorem CellsL.get {H : Hp} {cs : List (Int × Int)} {qs : List Addr} (h : CellsL H cs qs) {i : Nat} {q : Addr} (e : qs[i]? = some q) : ∃ c, cs[i]? = some c ∧ H q = some (.tup [.int c.1, .int c.2]) := by
  induction h generalizing i with
  | nil => simp at e
  | @cons c q' cs qs h _ ih =>
    cases i with
    | zero =>
      simp at e
      subst e
      exact ⟨c, rfl, h⟩
    | succ j => exact ih (by simpa using e)
theorem CellsL.append {H : Hp} {cs ds : List (Int × Int)} {qs rs : List Addr} (h : CellsL H cs qs) (h' : CellsL H ds rs) : CellsL H (cs ++ ds) (qs ++ rs) := by
  induction h with
  | nil => exact h'
  | cons h _ ih => exact .cons h ih
theorem CellsL.snoc {H : Hp} {cs : List (Int × Int)} {qs : List Addr} (h : CellsL H cs qs) {c : Int × Int} {q : Addr} (e : H q = some (.tup [.int c.1, .int c.2])) : CellsL H (cs ++ [c]) (qs ++ [q]) := h.append (.cons e .nil)
/-- a comprehension over a range whose element is a new cell -/
theorem comp_cells {σ : L2.St} {fr : List Nat} {te : TE} {l : Addr} {H1 : Hp} {Q : VK} {lo d : Int} {n : Nat} (f : Nat → Int × Int) (hl : H1 l = none) (hn : n < 1000)
    (hte : ∀ (i : Nat) (H2 : Hp) (R : VK), i < n → (∀ p, H2 p = none → R (.ref p) (upd H2 p (.tup [.int (f i).1, .int (f i).2]))) → te ((blk0 σ fr 1).set 0 (some (.int (lo + (i : Int) * d)))) H2 R)
    (fin : ∀ (H2 : Hp) (qs : List Addr), Same H1 H2 → H2 l = some (.lst (qs.map V.ref)) → CellsL H2 ((List.range n).map f) qs → Q (.ref l) H2) : CompG (Itrs lo d n) 1 (gName 0) σ fr tTrue te l H1 Q := by
  refine compG_by n (fun i xs H2 => ∃ qs : List Addr, xs = qs.map V.ref ∧ qs.length ≤ i ∧ Same H1 H2 ∧ H2 l = some (.lst xs) ∧ CellsL H2 ((List.range i).map f) qs) ?_ ?_ ?_ ?_
  · exact ⟨[], rfl, Nat.le_refl _, same_upd (Same.refl _) hl, upd_same, .nil⟩
  · rintro i xs H2 lt _
    exact lt
  · rintro i xs H2 v H3 lt ⟨qs, rfl, ql, s2, hl2, cl⟩ ⟨rfl, rfl⟩ N hN
    refine gT_if ?_
    refine hte i _ _ lt fun p hp => ⟨?_, ?_, hN _ _ ⟨qs ++ [p], by simp, by simp; omega, ?_, upd_same, ?_⟩⟩
    · rw [upd_ne (ne_of_none hl2 hp)]
      exact hl2
    · rw [List.length_map]
      exact Nat.lt_of_le_of_lt ql (Nat.lt_trans lt (Nat.lt_of_lt_of_le hn (by decide)))
    · intro b u e
      have nb : b ≠ l := ne_of_none e hl
      rw [upd_ne nb, upd_ne (ne_of_none (s2 _ _ e) hp)]
      exact s2 _ _ e
    · rw [List.range_succ, List.map_append]
      refine CellsL.snoc (CellsL.keep (fun b xs e => ?_) cl) ?_
      · rw [upd_ne (ne_of e hl2 (fun z => nomatch z)), upd_ne (ne_of_none e hp)]
        exact e
      · rw [upd_ne (Ne.symm (ne_of_none hl2 hp))]
        exact upd_same
  · rintro xs H2 ⟨qs, rfl, _, s2, hl2, cl⟩
    exact ⟨Nat.le_refl _, fin H2 qs s2 hl2 cl⟩
def spCells (t : Adr) : Sp := fun vs H Q _ => ∃ (a dp do_ : Addr) (pw ph : Int) (ps : List Pt) (nm : Str) (pt : Pt) (b : Bool) (r : Int), vs = [.ref a, .str nm, .str (sideW b), .int r] ∧ Pic t H a dp do_ pw ph ps ∧ isNm nm = true ∧ ps.find? (fun p => decide (p.nm = nm)) = some pt ∧ 1 ≤ r ∧ r ≤ ph ∧
  (1 ≤ pt.x ∧ pt.x ≤ pw ∧ 1 ≤ pt.y ∧ pt.y ≤ ph) ∧ ∀ H' l qs, H l = none → Same H H' → H' l = some (.lst (qs.map V.ref)) → CellsL H' (Geo.cells pw pt.x pt.y b r) qs → qs.length < 100 → Q (.ref l) H'
section
variable {P : Program} {w : World} {K : PySem.W.Frag} {mg : Str → Option Value} {base : Heap} {t : Adr}
theorem lno {m : Str} {v : V} (h : (m == ("width" : Str)) = false) : ([("width", v)] : List (Str × V)).lookup m = none := by
  rw [List.lookup_cons, h]
  rfl
theorem ok_cells_of (T : Txt w K mg t) : FnOk true P w K mg base (CXo P w) 6 t.f_cells_of t.d_cells_of ["picture", "name", "side", "row"] (spCells t) := by
  refine T.F_cells_of.okn (k := 5) sc_cells_of (fun vs H Q E h => ?_) (fun cdv A outer s H vs Q E hr h => ?_)
  · obtain ⟨a, dp, do_, pw, ph, ps, nm, pt, b, r, rfl, _⟩ := h
    rfl
  · obtain ⟨a, dp, do_, pw, ph, ps, nm, pt, b, r, rfl, h⟩ := h
    refine ⟨_, pss_cons (ps_expr (pe_meth (pv 0) T.c_Picture T.m_Picture_length (ok_Picture_length T) (hr.mono (by decide)) T.b_Picture_length .nil pass_none (pa_cons (pv 1) (pa_cons (pv 2) (pa_cons (pv 3) (pa_nil))))))
      (pss_cons (ps_asg (pe_meth (pv 0) T.c_Picture T.m_Picture_place_of (ok_Picture_place_of T) (hr.mono (by decide)) T.b_Picture_place_of .nil pass_none (pa_cons (pv 1) (pa_nil))) (pg_tup rfl (pgs_cons (pg_name (i := 4) sc_cells_of.nd rfl (Or.inr rfl)) (pgs_cons (pg_name (i := 5) sc_cells_of.nd rfl (Or.inl rfl)) (pgs_nil)))))
      (pss_cons (ps_set (i := 6) sc_cells_of.nd rfl (Or.inl rfl) (pe_call (ok_side_of T) (hr.mono (by decide)) rfl T.g_side_of T.F_side_of.kp T.b_side_of .nil pass_none (pa_cons (pv 2) (pa_cons (pe_fld (pv 0) rfl) (pa_nil)))))
      (pss_cons (ps_set (i := 7) sc_cells_of.nd rfl (Or.inl rfl) (pe_ifExp (pt_cmpR op_lt (pv 5) (pv 3) (nomark _)) (pe_int) (pe_un un_neg (pe_int))))
      (pss_cons (ps_setcG rfl (blkG_of (zs := ["at"]) (ys := ["x"]) (fr := [4]) (N0 := ["picture", "name", "side", "row", "x", "y", "toward", "down", "upright", "level"]) (sc0 := defScope s_cells_of) (by decide +kernel) rfl rfl rfl) (pi_range3 rfl T.n_range (pa_cons (pv 5) (pa_cons (pv 3) (pa_cons (pv 7) (pa_nil))))) (fun _ _ _ _ _ ow nd => pg_name (i := 0) nd rfl (Or.inl (ow _ (by simp))) (Or.inr (ow _ (by simp)))) (gok_name (by decide)) (fun _ _ _ _ _ => pif_nil) (fun _ _ _ _ _ => pe_tup (pa_cons (pv 1) (pa_cons (pv 0) (pa_nil)))) (j := 8) rfl (Or.inl rfl))
      (pss_cons (ps_setcG rfl (blkG_of (zs := ["at"]) (ys := ["row"]) (fr := [3]) (N0 := ["picture", "name", "side", "row", "x", "y", "toward", "down", "upright", "level"]) (sc0 := defScope s_cells_of) (by decide +kernel) rfl rfl rfl) (pi_range3 rfl T.n_range (pa_cons (pv 4) (pa_cons (pe_op op_add (pe_alt (pe_meth0 (pv 6) T.c_LeftSide T.m_LeftSide_rim (ok_LeftSide_rim T) (hr.mono (by decide)) T.b_LeftSide_rim .nil pass_none) (pe_meth0 (pv 6) T.c_RightSide T.m_RightSide_rim (ok_RightSide_rim T) (hr.mono (by decide)) T.b_RightSide_rim .nil pass_none)) (pe_alt (pe_meth0 (pv 6) T.c_LeftSide T.m_LeftSide_way (ok_LeftSide_way T) (hr.mono (by decide)) T.b_LeftSide_way .nil pass_none) (pe_meth0 (pv 6) T.c_RightSide T.m_RightSide_way (ok_RightSide_way T) (hr.mono (by decide)) T.b_RightSide_way .nil pass_none))) (pa_cons (pe_alt (pe_meth0 (pv 6) T.c_LeftSide T.m_LeftSide_way (ok_LeftSide_way T) (hr.mono (by decide)) T.b_LeftSide_way .nil pass_none) (pe_meth0 (pv 6) T.c_RightSide T.m_RightSide_way (ok_RightSide_way T) (hr.mono (by decide)) T.b_RightSide_way .nil pass_none)) (pa_nil))))) (fun _ _ _ _ _ ow nd => pg_name (i := 0) nd rfl (Or.inl (ow _ (by simp))) (Or.inr (ow _ (by simp)))) (gok_name (by decide)) (fun _ _ _ _ _ => pif_nil) (fun _ _ _ _ _ => pe_tup (pa_cons (pv 0) (pa_cons (pv 1) (pa_nil)))) (j := 9) rfl (Or.inl rfl))
      (pss_one (ps_ret (pe_op op_cat (pv 8) (pv 9))))))))), ?_⟩
    obtain ⟨pic, hn, hf, r1, r2, ⟨x1, x2, y1, y2⟩, q⟩ := h
    obtain ⟨⟨dx, hp⟩, _, w1, w2, h1, h2, _⟩ := id pic
    by_cases hd : pt.y < r <;> cases b
    · -- down right
      refine ⟨_, rfl, a, dx, _, rfl, hp, lk_no (by decide +kernel), _, rfl, _, rfl, _, rfl, a, dp, do_, pw, ph, ps, nm, pt, false, r, rfl, pic, hn, hf, r1, r2, fun H1 s1 => ?_⟩
      refine ⟨_, rfl, a, dx, _, rfl, s1 _ _ hp, lk_no (by decide +kernel), _, rfl, a, dp, do_, pw, ph, ps, nm, pt, rfl, Pic.same s1 pic, hn, hf, fun H2 q2 s2 hq2 => ⟨q2, _, rfl, SqT.of hq2, rfl, _, _, rfl, _, _, rfl, rfl, ?_⟩⟩
      refine ⟨_, rfl, _, rfl, a, _, dx, _, _, rfl, (s2 _ _ (s1 _ _ hp)), T.c_Picture, T.n_Picture_width, lkW, false, pw, rfl, fun p H3 hp3 sd3 s3 => ?_⟩
      refine ⟨_, rfl, _, rfl, _, _, rfl, rfl, _, rfl, ifP (decide_eq_true hd) ?_⟩
      refine ⟨_, rfl, _, rfl, _, rfl, pt.y, r, 1, rfl, ⟨by omega, by omega, by omega, by omega⟩, .inl ⟨rfl, fun l1 hl1 => ?_⟩⟩
      refine comp_cells (fun i => (pt.x, pt.y + (i : Int) * 1)) hl1 (by omega) (fun i H R _ k => ⟨_, rfl, _, rfl, (by show 2 ≤ sizeLine; decide), k⟩) fun H4 qs1 s4 hu4 cu4 => ?_
      obtain ⟨ds, hs⟩ := id sd3
      have hs4 : H4 p = some (.ins t.C_RightSide ds [("width", .int pw)]) := s4 _ _ hs
      have sd4 : SideAt t H4 p false pw := ⟨ds, hs4⟩
      refine ⟨_, rfl, .inr ⟨_, rfl, p, ds, _, rfl, hs4, lno (by decide +kernel), p, pw, rfl, sd4, .inr ⟨_, rfl, p, ds, _, rfl, hs4, lno (by decide +kernel), _, rfl, _, _, rfl, rfl, .inr ⟨_, rfl, p, ds, _, rfl, hs4, lno (by decide +kernel), _, rfl, pt.x, _, 1, rfl, ⟨by omega, by omega, by omega, by omega⟩, .inl ⟨rfl, fun l2 hl2 => ?_⟩⟩⟩⟩⟩
      refine comp_cells (fun i => (pt.x + (i : Int) * 1, r)) hl2 (by omega) (fun i H R _ k => ⟨_, rfl, _, rfl, (by show 2 ≤ sizeLine; decide), k⟩) fun H5 qs2 s5 hu5 cu5 => ?_
      have c1 : CellsL H5 (Geo.upL pt.x pt.y r) qs1 := by
        have e : Geo.upL pt.x pt.y r = (List.range (r - pt.y).toNat).map fun (i : Nat) => (pt.x, pt.y + (i : Int) * 1) := by unfold Geo.upL Geo.upN Geo.dn; rw [if_pos hd, if_pos hd]
        rw [e]
        exact cu4.keep (Same.tups s5)
      have c2 : CellsL H5 (Geo.lvL pw pt.x false r) qs2 := by
        have e : Geo.lvL pw pt.x false r = (List.range (pw + 1 + 1 - pt.x).toNat).map fun (i : Nat) => (pt.x + (i : Int) * 1, r) := by
          unfold Geo.lvL Geo.lvN Geo.wayI
          simp only [if_true, Bool.false_eq_true, if_false]
          rw [show (pw + 2 - pt.x).toNat = (pw + 1 + 1 - pt.x).toNat from by omega]
        rw [e]
        exact cu5
      have l1' := c1.len
      have l2' := c2.len
      have b1 : (Geo.upL pt.x pt.y r).length < 17 := by unfold Geo.upL Geo.upN; rw [List.length_map, List.length_range]; split <;> omega
      have b2 : (Geo.lvL pw pt.x false r).length < 33 := by unfold Geo.lvL Geo.lvN; rw [List.length_map, List.length_range]; split <;> omega
      refine ⟨_, rfl, _, rfl, l1, l2, _, _, rfl, rfl, s5 _ _ hu4, hu5, (by rw [List.length_map, List.length_map]; exact Nat.le_of_lt (Nat.lt_trans (by omega : qs1.length + qs2.length < 100) (by decide))), fun p6 hp6 => ?_⟩
      refine q _ p6 (qs1 ++ qs2) ((((s1.trans s2).trans s3).trans (s4.trans s5)).free hp6) (same_upd (((s1.trans s2).trans s3).trans (s4.trans s5)) hp6) (by rw [List.map_append]; exact upd_same) ((c1.append c2).keep (Same.tups (same_upd (Same.refl _) hp6))) (by rw [List.length_append]; omega)
    · -- down left
      refine ⟨_, rfl, a, dx, _, rfl, hp, lk_no (by decide +kernel), _, rfl, _, rfl, _, rfl, a, dp, do_, pw, ph, ps, nm, pt, true, r, rfl, pic, hn, hf, r1, r2, fun H1 s1 => ?_⟩
      refine ⟨_, rfl, a, dx, _, rfl, s1 _ _ hp, lk_no (by decide +kernel), _, rfl, a, dp, do_, pw, ph, ps, nm, pt, rfl, Pic.same s1 pic, hn, hf, fun H2 q2 s2 hq2 => ⟨q2, _, rfl, SqT.of hq2, rfl, _, _, rfl, _, _, rfl, rfl, ?_⟩⟩
      refine ⟨_, rfl, _, rfl, a, _, dx, _, _, rfl, (s2 _ _ (s1 _ _ hp)), T.c_Picture, T.n_Picture_width, lkW, true, pw, rfl, fun p H3 hp3 sd3 s3 => ?_⟩
      refine ⟨_, rfl, _, rfl, _, _, rfl, rfl, _, rfl, ifP (decide_eq_true hd) ?_⟩
      refine ⟨_, rfl, _, rfl, _, rfl, pt.y, r, 1, rfl, ⟨by omega, by omega, by omega, by omega⟩, .inl ⟨rfl, fun l1 hl1 => ?_⟩⟩
      refine comp_cells (fun i => (pt.x, pt.y + (i : Int) * 1)) hl1 (by omega) (fun i H R _ k => ⟨_, rfl, _, rfl, (by show 2 ≤ sizeLine; decide), k⟩) fun H4 qs1 s4 hu4 cu4 => ?_
      obtain ⟨ds, hs⟩ := id sd3
      have hs4 : H4 p = some (.ins t.C_LeftSide ds [("width", .int pw)]) := s4 _ _ hs
      have sd4 : SideAt t H4 p true pw := ⟨ds, hs4⟩
      refine ⟨_, rfl, .inl ⟨_, rfl, p, ds, _, rfl, hs4, lno (by decide +kernel), _, rfl, .inl ⟨_, rfl, p, ds, _, rfl, hs4, lno (by decide +kernel), _, rfl, _, _, rfl, rfl, .inl ⟨_, rfl, p, ds, _, rfl, hs4, lno (by decide +kernel), _, rfl, pt.x, _, (-1), rfl, ⟨by omega, by omega, by omega, by omega⟩, .inr ⟨rfl, fun l2 hl2 => ?_⟩⟩⟩⟩⟩
      refine comp_cells (fun i => (pt.x + (i : Int) * (-1), r)) hl2 (by omega) (fun i H R _ k => ⟨_, rfl, _, rfl, (by show 2 ≤ sizeLine; decide), k⟩) fun H5 qs2 s5 hu5 cu5 => ?_
      have c1 : CellsL H5 (Geo.upL pt.x pt.y r) qs1 := by
        have e : Geo.upL pt.x pt.y r = (List.range (r - pt.y).toNat).map fun (i : Nat) => (pt.x, pt.y + (i : Int) * 1) := by unfold Geo.upL Geo.upN Geo.dn; rw [if_pos hd, if_pos hd]
        rw [e]
        exact cu4.keep (Same.tups s5)
      have c2 : CellsL H5 (Geo.lvL pw pt.x true r) qs2 := by
        have e : Geo.lvL pw pt.x true r = (List.range (pt.x - (0 + -1)).toNat).map fun (i : Nat) => (pt.x + (i : Int) * (-1), r) := by
          unfold Geo.lvL Geo.lvN Geo.wayI
          simp only [if_true, Bool.false_eq_true, if_false]
          rw [show (pt.x + 1).toNat = (pt.x - (0 + -1)).toNat from by omega]
        rw [e]
        exact cu5
      have l1' := c1.len
      have l2' := c2.len
      have b1 : (Geo.upL pt.x pt.y r).length < 17 := by unfold Geo.upL Geo.upN; rw [List.length_map, List.length_range]; split <;> omega
      have b2 : (Geo.lvL pw pt.x true r).length < 33 := by unfold Geo.lvL Geo.lvN; rw [List.length_map, List.length_range]; split <;> omega
      refine ⟨_, rfl, _, rfl, l1, l2, _, _, rfl, rfl, s5 _ _ hu4, hu5, (by rw [List.length_map, List.length_map]; exact Nat.le_of_lt (Nat.lt_trans (by omega : qs1.length + qs2.length < 100) (by decide))), fun p6 hp6 => ?_⟩
      refine q _ p6 (qs1 ++ qs2) ((((s1.trans s2).trans s3).trans (s4.trans s5)).free hp6) (same_upd (((s1.trans s2).trans s3).trans (s4.trans s5)) hp6) (by rw [List.map_append]; exact upd_same) ((c1.append c2).keep (Same.tups (same_upd (Same.refl _) hp6))) (by rw [List.length_append]; omega)
    · -- up right
      refine ⟨_, rfl, a, dx, _, rfl, hp, lk_no (by decide +kernel), _, rfl, _, rfl, _, rfl, a, dp, do_, pw, ph, ps, nm, pt, false, r, rfl, pic, hn, hf, r1, r2, fun H1 s1 => ?_⟩
      refine ⟨_, rfl, a, dx, _, rfl, s1 _ _ hp, lk_no (by decide +kernel), _, rfl, a, dp, do_, pw, ph, ps, nm, pt, rfl, Pic.same s1 pic, hn, hf, fun H2 q2 s2 hq2 => ⟨q2, _, rfl, SqT.of hq2, rfl, _, _, rfl, _, _, rfl, rfl, ?_⟩⟩
      refine ⟨_, rfl, _, rfl, a, _, dx, _, _, rfl, (s2 _ _ (s1 _ _ hp)), T.c_Picture, T.n_Picture_width, lkW, false, pw, rfl, fun p H3 hp3 sd3 s3 => ?_⟩
      refine ⟨_, rfl, _, rfl, _, _, rfl, rfl, _, rfl, ifN (decide_eq_false hd) ⟨1, rfl, ?_⟩⟩
      refine ⟨_, rfl, _, rfl, _, rfl, pt.y, r, (-1), rfl, ⟨by omega, by omega, by omega, by omega⟩, .inr ⟨rfl, fun l1 hl1 => ?_⟩⟩
      refine comp_cells (fun i => (pt.x, pt.y + (i : Int) * (-1))) hl1 (by omega) (fun i H R _ k => ⟨_, rfl, _, rfl, (by show 2 ≤ sizeLine; decide), k⟩) fun H4 qs1 s4 hu4 cu4 => ?_
      obtain ⟨ds, hs⟩ := id sd3
      have hs4 : H4 p = some (.ins t.C_RightSide ds [("width", .int pw)]) := s4 _ _ hs
      have sd4 : SideAt t H4 p false pw := ⟨ds, hs4⟩
      refine ⟨_, rfl, .inr ⟨_, rfl, p, ds, _, rfl, hs4, lno (by decide +kernel), p, pw, rfl, sd4, .inr ⟨_, rfl, p, ds, _, rfl, hs4, lno (by decide +kernel), _, rfl, _, _, rfl, rfl, .inr ⟨_, rfl, p, ds, _, rfl, hs4, lno (by decide +kernel), _, rfl, pt.x, _, 1, rfl, ⟨by omega, by omega, by omega, by omega⟩, .inl ⟨rfl, fun l2 hl2 => ?_⟩⟩⟩⟩⟩
      refine comp_cells (fun i => (pt.x + (i : Int) * 1, r)) hl2 (by omega) (fun i H R _ k => ⟨_, rfl, _, rfl, (by show 2 ≤ sizeLine; decide), k⟩) fun H5 qs2 s5 hu5 cu5 => ?_
      have c1 : CellsL H5 (Geo.upL pt.x pt.y r) qs1 := by
        have e : Geo.upL pt.x pt.y r = (List.range (pt.y - r).toNat).map fun (i : Nat) => (pt.x, pt.y + (i : Int) * (-1)) := by unfold Geo.upL Geo.upN Geo.dn; rw [if_neg hd, if_neg hd]
        rw [e]
        exact cu4.keep (Same.tups s5)
      have c2 : CellsL H5 (Geo.lvL pw pt.x false r) qs2 := by
        have e : Geo.lvL pw pt.x false r = (List.range (pw + 1 + 1 - pt.x).toNat).map fun (i : Nat) => (pt.x + (i : Int) * 1, r) := by
          unfold Geo.lvL Geo.lvN Geo.wayI
          simp only [if_true, Bool.false_eq_true, if_false]
          rw [show (pw + 2 - pt.x).toNat = (pw + 1 + 1 - pt.x).toNat from by omega]
        rw [e]
        exact cu5
      have l1' := c1.len
      have l2' := c2.len
      have b1 : (Geo.upL pt.x pt.y r).length < 17 := by unfold Geo.upL Geo.upN; rw [List.length_map, List.length_range]; split <;> omega
      have b2 : (Geo.lvL pw pt.x false r).length < 33 := by unfold Geo.lvL Geo.lvN; rw [List.length_map, List.length_range]; split <;> omega
      refine ⟨_, rfl, _, rfl, l1, l2, _, _, rfl, rfl, s5 _ _ hu4, hu5, (by rw [List.length_map, List.length_map]; exact Nat.le_of_lt (Nat.lt_trans (by omega : qs1.length + qs2.length < 100) (by decide))), fun p6 hp6 => ?_⟩
      refine q _ p6 (qs1 ++ qs2) ((((s1.trans s2).trans s3).trans (s4.trans s5)).free hp6) (same_upd (((s1.trans s2).trans s3).trans (s4.trans s5)) hp6) (by rw [List.map_append]; exact upd_same) ((c1.append c2).keep (Same.tups (same_upd (Same.refl _) hp6))) (by rw [List.length_append]; omega)
    · -- up left
      refine ⟨_, rfl, a, dx, _, rfl, hp, lk_no (by decide +kernel), _, rfl, _, rfl, _, rfl, a, dp, do_, pw, ph, ps, nm, pt, true, r, rfl, pic, hn, hf, r1, r2, fun H1 s1 => ?_⟩
      refine ⟨_, rfl, a, dx, _, rfl, s1 _ _ hp, lk_no (by decide +kernel), _, rfl, a, dp, do_, pw, ph, ps, nm, pt, rfl, Pic.same s1 pic, hn, hf, fun H2 q2 s2 hq2 => ⟨q2, _, rfl, SqT.of hq2, rfl, _, _, rfl, _, _, rfl, rfl, ?_⟩⟩
      refine ⟨_, rfl, _, rfl, a, _, dx, _, _, rfl, (s2 _ _ (s1 _ _ hp)), T.c_Picture, T.n_Picture_width, lkW, true, pw, rfl, fun p H3 hp3 sd3 s3 => ?_⟩
      refine ⟨_, rfl, _, rfl, _, _, rfl, rfl, _, rfl, ifN (decide_eq_false hd) ⟨1, rfl, ?_⟩⟩
      refine ⟨_, rfl, _, rfl, _, rfl, pt.y, r, (-1), rfl, ⟨by omega, by omega, by omega, by omega⟩, .inr ⟨rfl, fun l1 hl1 => ?_⟩⟩
      refine comp_cells (fun i => (pt.x, pt.y + (i : Int) * (-1))) hl1 (by omega) (fun i H R _ k => ⟨_, rfl, _, rfl, (by show 2 ≤ sizeLine; decide), k⟩) fun H4 qs1 s4 hu4 cu4 => ?_
      obtain ⟨ds, hs⟩ := id sd3
      have hs4 : H4 p = some (.ins t.C_LeftSide ds [("width", .int pw)]) := s4 _ _ hs
      have sd4 : SideAt t H4 p true pw := ⟨ds, hs4⟩
      refine ⟨_, rfl, .inl ⟨_, rfl, p, ds, _, rfl, hs4, lno (by decide +kernel), _, rfl, .inl ⟨_, rfl, p, ds, _, rfl, hs4, lno (by decide +kernel), _, rfl, _, _, rfl, rfl, .inl ⟨_, rfl, p, ds, _, rfl, hs4, lno (by decide +kernel), _, rfl, pt.x, _, (-1), rfl, ⟨by omega, by omega, by omega, by omega⟩, .inr ⟨rfl, fun l2 hl2 => ?_⟩⟩⟩⟩⟩
      refine comp_cells (fun i => (pt.x + (i : Int) * (-1), r)) hl2 (by omega) (fun i H R _ k => ⟨_, rfl, _, rfl, (by show 2 ≤ sizeLine; decide), k⟩) fun H5 qs2 s5 hu5 cu5 => ?_
      have c1 : CellsL H5 (Geo.upL pt.x pt.y r) qs1 := by
        have e : Geo.upL pt.x pt.y r = (List.range (pt.y - r).toNat).map fun (i : Nat) => (pt.x, pt.y + (i : Int) * (-1)) := by unfold Geo.upL Geo.upN Geo.dn; rw [if_neg hd, if_neg hd]
        rw [e]
        exact cu4.keep (Same.tups s5)
      have c2 : CellsL H5 (Geo.lvL pw pt.x true r) qs2 := by
        have e : Geo.lvL pw pt.x true r = (List.range (pt.x - (0 + -1)).toNat).map fun (i : Nat) => (pt.x + (i : Int) * (-1), r) := by
          unfold Geo.lvL Geo.lvN Geo.wayI
          simp only [if_true, Bool.false_eq_true, if_false]
          rw [show (pt.x + 1).toNat = (pt.x - (0 + -1)).toNat from by omega]
        rw [e]
        exact cu5
      have l1' := c1.len
      have l2' := c2.len
      have b1 : (Geo.upL pt.x pt.y r).length < 17 := by unfold Geo.upL Geo.upN; rw [List.length_map, List.length_range]; split <;> omega
      have b2 : (Geo.lvL pw pt.x true r).length < 33 := by unfold Geo.lvL Geo.lvN; rw [List.length_map, List.length_range]; split <;> omega
      refine ⟨_, rfl, _, rfl, l1, l2, _, _, rfl, rfl, s5 _ _ hu4, hu5, (by rw [List.length_map, List.length_map]; exact Nat.le_of_lt (Nat.lt_trans (by omega : qs1.length + qs2.length < 100) (by decide))), fun p6 hp6 => ?_⟩
      refine q _ p6 (qs1 ++ qs2) ((((s1.trans s2).trans s3).trans (s4.trans s5)).free hp6) (same_upd (((s1.trans s2).trans s3).trans (s4.trans s5)) hp6) (by rw [List.map_append]; exact upd_same) ((c1.append c2).keep (Same.tups (same_upd (Same.refl _) hp6))) (by rw [List.length_append]; omega)
end
end S11

set_option maxRecDepth 100000
set_option maxHeartbeats 4000000
namespace S11
open PySem L2 XL PyProof.Rows
def scalV : V → Bool
  | .int _ => true
  | .bl _ => true
  | .str _ => true
  | .non => true
  | _ => false
def wholeB : V → Int → Int → Bool
  | .int i, lo, hi => decide (lo ≤ i) && decide (i ≤ hi)
  | _, _, _ => false
def Thing (v : V) : Prop := (∃ s : Str, v = .str s ∧ s ≠ "left" ∧ s ≠ "right") ∨ v = .non ∨ ∃ b, v = .bl b
def BadNm (H : Hp) (ps : List Pt) (v : V) : Prop := (∃ s : Str, v = .str s ∧ s.length ≤ 1000 ∧ (isNm s = false ∨ ∀ p ∈ ps, p.nm ≠ s)) ∨ v = .non ∨ (∃ i : Int, v = .int i) ∨ ∃ q xs, v = .ref q ∧ H q = some (.tup xs)
theorem BadNm.same {H H' : Hp} {ps : List Pt} {v : V} (s : Same H H') (h : BadNm H ps v) : BadNm H' ps v := by
  rcases h with h | h | h | ⟨q, xs, e, hq⟩
  · exact .inl h
  · exact .inr (.inl h)
  · exact .inr (.inr (.inl h))
  · exact .inr (.inr (.inr ⟨q, xs, e, s _ _ hq⟩))
def Good (ps : List Pt) (n : V) : Prop := ∃ nm pt, n = .str nm ∧ isNm nm = true ∧ ps.find? (fun p => decide (p.nm = nm)) = some pt
/-- what is wrong, and how it is told -/
def Trb (t : Adr) (H : Hp) (ps : List Pt) (ph : Int) (n v r : V) (C : Addr) (f : Str) (x : V) (wd : Str) : Prop :=
  (C = t.C_NoPoint ∧ f = "name" ∧ wd = "point" ∧ x = n ∧ BadNm H ps n) ∨ (C = t.C_NoSide ∧ f = "side" ∧ wd = "side" ∧ x = v ∧ Good ps n ∧ Thing v) ∨
  (C = t.C_NoRow ∧ f = "row" ∧ wd = "row" ∧ x = r ∧ Good ps n ∧ (∃ b, v = .str (sideW b)) ∧ scalV r = true ∧ wholeB r 1 ph = false)
theorem Trb.same {t : Adr} {H H' : Hp} {ps : List Pt} {ph : Int} {n v r : V} {C : Addr} {f : Str} {x : V} {wd : Str} (s : Same H H') (h : Trb t H ps ph n v r C f x wd) : Trb t H' ps ph n v r C f x wd := by
  rcases h with ⟨a, b, c, d, e⟩ | h | h
  · exact .inl ⟨a, b, c, d, e.same s⟩
  · exact .inr (.inl h)
  · exact .inr (.inr h)
def Raised (H H' : Hp) (e C : Addr) (f : Str) (v : V) : Prop := ∃ dx, Same H H' ∧ H' e = some (XO e C (some dx)) ∧ H' dx = some (XD dx [(f, v)])
theorem Raised.trans {H H1 H' : Hp} {e C : Addr} {f : Str} {v : V} (s : Same H H1) (h : Raised H1 H' e C f v) : Raised H H' e C f v := by
  obtain ⟨dx, s', a, b⟩ := h
  exact ⟨dx, s.trans s', a, b⟩
theorem raised_mk {H : Hp} {e dx C : Addr} {f : Str} {v : V} (he : H e = none) (hdx : upd H e (XN e C none) dx = none) : Raised H (upd (upd (upd (upd H e (XN e C none)) dx (XD dx [(f, v)])) e (XN e C (some dx))) e (XO e C (some dx))) e C f v := by
  have ne : dx ≠ e := fun z => by rw [z, upd_same] at hdx; cases hdx
  rw [upd_ne ne] at hdx
  refine ⟨dx, fun y o q => ?_, upd_same, ?_⟩
  · rw [upd_ne (ne_of_none q he), upd_ne (ne_of_none q he), upd_ne (ne_of_none q hdx), upd_ne (ne_of_none q he)]
    exact q
  · rw [upd_ne ne, upd_ne ne, upd_same]
def spX1 (C : Addr) (f : Str) : Sp := fun vs H Q _ => ∃ (e : Addr) (v : V), vs = [.ref e, v] ∧ H e = some (XN e C none) ∧ ∀ dx, H dx = none → Q .non (upd (upd H dx (XD dx [(f, v)])) e (XN e C (some dx)))
def spWG : Sp := fun vs H Q _ => ∃ (x : V) (lo hi : Int), vs = [x, .int lo, .int hi] ∧ scalV x = true ∧ Q (.bl (wholeB x lo hi)) H
def spIsNG : Sp := fun vs H Q _ => ∃ (v : V) (b : Bool), vs = [v] ∧ ((∃ s : Str, v = .str s ∧ s.length ≤ 1000 ∧ b = isNm s) ∨ (b = false ∧ (v = .non ∨ (∃ i : Int, v = .int i) ∨ ∃ q xs, v = .ref q ∧ H q = some (.tup xs)))) ∧ Q (.bl b) H
def spSideE (t : Adr) : Sp := fun vs H Q E => ∃ (v : V) (n : Int), vs = [v, .int n] ∧ Thing v ∧ ∀ e H', Raised H H' e t.C_NoSide "side" v → E e t.C_NoSide H'
def spCNE (t : Adr) : Sp := fun vs H Q E => ∃ (a dp do_ : Addr) (pw ph : Int) (ps : List Pt) (v : V), vs = [.ref a, v] ∧ Pic t H a dp do_ pw ph ps ∧ BadNm H ps v ∧ ∀ e H', Raised H H' e t.C_NoPoint "name" v → E e t.C_NoPoint H'
def spCSE (t : Adr) : Sp := fun vs H Q E => ∃ (a dp do_ : Addr) (pw ph : Int) (ps : List Pt) (v r : V), vs = [.ref a, v, r] ∧ Pic t H a dp do_ pw ph ps ∧ ((Thing v ∧ ∀ e H', Raised H H' e t.C_NoSide "side" v → E e t.C_NoSide H') ∨
  (∃ b, v = .str (sideW b) ∧ scalV r = true ∧ wholeB r 1 ph = false ∧ ∀ e H', Raised H H' e t.C_NoRow "row" r → E e t.C_NoRow H'))
def spTrbE (t : Adr) : Sp := fun vs H Q E => ∃ (a dp do_ : Addr) (pw ph : Int) (ps : List Pt) (n v r : V) (C : Addr) (f : Str) (x : V) (wd : Str), vs = [.ref a, n, v, r] ∧ Pic t H a dp do_ pw ph ps ∧ Trb t H ps ph n v r C f x wd ∧ ∀ e H', Raised H H' e C f x → E e C H'
section
variable {P : Program} {w : World} {K : PySem.W.Frag} {mg : Str → Option Value} {base : Heap} {t : Adr}
theorem ok_NoPoint_init (T : Txt w K mg t) : FnOk true P w K mg base (CXo P w) 1 t.f_NoPoint_init t.d_NoPoint_init ["self", "name"] (spX1 t.C_NoPoint "name") := by
  refine T.F_NoPoint_init.okn (k := 0) sc_NoPoint_init (fun vs H Q E h => ?_) (fun cdv A outer s H vs Q E hr h => ?_)
  · obtain ⟨e, v, rfl, _⟩ := h
    rfl
  · obtain ⟨e, v, rfl, h⟩ := h
    refine ⟨_, pss_one (ps_xfld (pv 0) (pv 1) rfl), ?_⟩
    obtain ⟨he, q⟩ := h
    exact ⟨_, rfl, _, rfl, e, t.C_NoPoint, rfl, T.x_NoPoint, T.n_NoPoint_name, .inl ⟨he, q⟩⟩
theorem ok_NoSide_init (T : Txt w K mg t) : FnOk true P w K mg base (CXo P w) 1 t.f_NoSide_init t.d_NoSide_init ["self", "side"] (spX1 t.C_NoSide "side") := by
  refine T.F_NoSide_init.okn (k := 0) sc_NoSide_init (fun vs H Q E h => ?_) (fun cdv A outer s H vs Q E hr h => ?_)
  · obtain ⟨e, v, rfl, _⟩ := h
    rfl
  · obtain ⟨e, v, rfl, h⟩ := h
    refine ⟨_, pss_one (ps_xfld (pv 0) (pv 1) rfl), ?_⟩
    obtain ⟨he, q⟩ := h
    exact ⟨_, rfl, _, rfl, e, t.C_NoSide, rfl, T.x_NoSide, T.n_NoSide_side, .inl ⟨he, q⟩⟩
theorem ok_NoRow_init (T : Txt w K mg t) : FnOk true P w K mg base (CXo P w) 1 t.f_NoRow_init t.d_NoRow_init ["self", "row"] (spX1 t.C_NoRow "row") := by
  refine T.F_NoRow_init.okn (k := 0) sc_NoRow_init (fun vs H Q E h => ?_) (fun cdv A outer s H vs Q E hr h => ?_)
  · obtain ⟨e, v, rfl, _⟩ := h
    rfl
  · obtain ⟨e, v, rfl, h⟩ := h
    refine ⟨_, pss_one (ps_xfld (pv 0) (pv 1) rfl), ?_⟩
    obtain ⟨he, q⟩ := h
    exact ⟨_, rfl, _, rfl, e, t.C_NoRow, rfl, T.x_NoRow, T.n_NoRow_row, .inl ⟨he, q⟩⟩
theorem okE_side_of (T : Txt w K mg t) : FnOk true P w K mg base (CXo P w) 3 t.f_side_of t.d_side_of ["word", "width"] (spSideE t) := by
  refine T.F_side_of.okx (k := 2) sc_side_of (fun vs H Q E h => ?_) (fun cdv A outer s H vs Q E hr h => ?_)
  · obtain ⟨v, n, rfl, _⟩ := h
    rfl
  · obtain ⟨v, n, rfl, h⟩ := h
    refine ⟨_, pss_cons (ps_if (pt_val (pe_callB call_isin rfl T.n_isinstance boot_isinstance (pa_cons (pv 0) (pa_cons (pe_bltn (v := .ty "str") rfl T.n_str boot_str rfl) (pa_nil))))) (pss_cons (ps_if (pt_cmpR op_eq (pv 0) (pe_str) (nomark _)) (pss_one (ps_ret (pe_make T.k_LeftSide (ok_Side_init T) (hr.mono (by decide)) rfl T.g_LeftSide T.b_Side_init .nil pass_none (pa_cons (pv 1) (pa_nil))))) (pss_nil))
      (pss_one (ps_if (pt_cmpR op_eq (pv 0) (pe_str) (nomark _)) (pss_one (ps_ret (pe_make T.k_RightSide (ok_Side_init T) (hr.mono (by decide)) rfl T.g_RightSide T.b_Side_init .nil pass_none (pa_cons (pv 1) (pa_nil))))) (pss_nil)))) (pss_nil))
      (pss_one (ps_raise (hr.hd rfl) takes_def (pe_xmake T.k_NoSide (ok_NoSide_init T) (hr.mono (by decide)) rfl T.g_NoSide T.b_NoSide_init .nil (pa_cons (pv 0) (pa_nil))))), ?_⟩
    obtain ⟨th, hE⟩ := h
    rcases th with ⟨z, rfl, z1, z2⟩ | rfl | ⟨b, rfl⟩
    · refine ⟨_, rfl, _, _, rfl, .inl ⟨_, _, true, .str _, rfl, kit_same, true, rfl, iteT ?_⟩⟩
      refine ⟨_, rfl, rfl, _, rfl, ?_⟩
      refine ifN (decide_eq_false fun q => z1 (V.str.inj q)) ?_
      refine ⟨_, rfl, rfl, _, rfl, ?_⟩
      refine ifN (decide_eq_false fun q => z2 (V.str.inj q)) ?_
      exact ⟨_, rfl, (by show 1 ≤ 1000; decide), fun e he => ⟨e, _, rfl, upd_same, fun dx hdx => ⟨rfl, e, t.C_NoSide, some dx, rfl, upd_same, T.mk_NoSide, hE e _ (raised_mk he hdx)⟩⟩⟩
    · exact ⟨_, rfl, _, _, rfl, .inl ⟨_, _, false, .non, rfl, (by rfl), false, rfl, iteF ⟨_, rfl, (by show 1 ≤ 1000; decide), fun e he => ⟨e, _, rfl, upd_same, fun dx hdx => ⟨rfl, e, t.C_NoSide, some dx, rfl, upd_same, T.mk_NoSide, hE e _ (raised_mk he hdx)⟩⟩⟩⟩⟩
    · exact ⟨_, rfl, _, _, rfl, .inl ⟨_, _, false, .bl b, rfl, (by rfl), false, rfl, iteF ⟨_, rfl, (by show 1 ≤ 1000; decide), fun e he => ⟨e, _, rfl, upd_same, fun dx hdx => ⟨rfl, e, t.C_NoSide, some dx, rfl, upd_same, T.mk_NoSide, hE e _ (raised_mk he hdx)⟩⟩⟩⟩⟩
theorem okE_is_whole (T : Txt w K mg t) : FnOk true P w K mg base (CXo P w) 1 t.f_is_whole t.d_is_whole ["thing", "low", "high"] (spWG) := by
  refine T.F_is_whole.okn (k := 0) sc_is_whole (fun vs H Q E h => ?_) (fun cdv A outer s H vs Q E hr h => ?_)
  · obtain ⟨x, lo, hi, rfl, _⟩ := h
    rfl
  · obtain ⟨x, lo, hi, rfl, h⟩ := h
    refine ⟨_, pss_one (ps_ret (pe_and (pe_callB call_isin rfl T.n_isinstance boot_isinstance (pa_cons (pv 0) (pa_cons (pe_bltn (v := .ty "int") rfl T.n_int boot_int rfl) (pa_nil)))) (pe_and (pe_not (pe_callB call_isin rfl T.n_isinstance boot_isinstance (pa_cons (pv 0) (pa_cons (pe_bltn (v := .ty "bool") rfl T.n_bool boot_bool rfl) (pa_nil))))) (pe_one (pe_chain op_le op_le (pv 1) (pv 0) (pv 2)))))), ?_⟩
    obtain ⟨sx, q⟩ := h
    cases x with
    | int i =>
      refine ⟨_, rfl, _, _, rfl, .inl ⟨_, _, true, .int i, rfl, kit_same, true, rfl, iteT ?_⟩⟩
      refine ⟨_, rfl, _, _, rfl, .inl ⟨_, _, false, .int i, rfl, (by rfl), false, rfl, true, rfl, iteT ?_⟩⟩
      refine ⟨_, rfl, _, rfl, _, _, rfl, rfl, _, rfl, ite2 (fun c => ?_) (fun c => ?_)⟩
      · refine ⟨_, rfl, _, _, rfl, rfl, ?_⟩
        change Q (.bl (decide (lo ≤ i) && decide (i ≤ hi))) H at q
        rw [c, Bool.true_and] at q
        exact q
      · change Q (.bl (decide (lo ≤ i) && decide (i ≤ hi))) H at q
        rw [Bool.eq_false_iff.mpr c, Bool.false_and] at q
        exact q
    | bl b =>
      refine ⟨_, rfl, _, _, rfl, .inl ⟨_, _, true, .bl b, rfl, (by rfl), true, rfl, iteT ?_⟩⟩
      exact ⟨_, rfl, _, _, rfl, .inl ⟨_, _, true, .bl b, rfl, kit_same, true, rfl, false, rfl, iteF q⟩⟩
    | str y => exact ⟨_, rfl, _, _, rfl, .inl ⟨_, _, false, .str y, rfl, (by rfl), false, rfl, iteF q⟩⟩
    | non => exact ⟨_, rfl, _, _, rfl, .inl ⟨_, _, false, .non, rfl, (by rfl), false, rfl, iteF q⟩⟩
    | _ => cases sx
theorem okE_is_name (T : Txt w K mg t) : FnOk true P w K mg base (CXo P w) 1 t.f_is_name t.d_is_name ["thing"] (spIsNG) := by
  refine T.F_is_name.okn (k := 0) sc_is_name (fun vs H Q E h => ?_) (fun cdv A outer s H vs Q E hr h => ?_)
  · obtain ⟨v, b, rfl, _⟩ := h
    rfl
  · obtain ⟨v, b, rfl, h⟩ := h
    refine ⟨_, pss_one (ps_ret (pe_and (pe_callB call_isin rfl T.n_isinstance boot_isinstance (pa_cons (pv 0) (pa_cons (pe_bltn (v := .ty "str") rfl T.n_str boot_str rfl) (pa_nil)))) (pe_and (pe_cmpR op_eq (pe_callB call_len_str rfl T.n_len boot_len (pa_cons (pv 0) (pa_nil))) (pe_int) (nomark _)) (pe_one (pe_chain op_le_str op_le_str (pe_str) (pv 0) (pe_str)))))), ?_⟩
    obtain ⟨hv, q⟩ := h
    rcases hv with ⟨x, rfl, xl, rfl⟩ | ⟨rfl, hv⟩
    · refine ⟨_, rfl, _, _, rfl, .inl ⟨_, _, true, .str x, rfl, kit_same, true, rfl, iteT ?_⟩⟩
      refine ⟨_, rfl, _, rfl, (by first | exact Nat.lt_of_le_of_lt xl (by decide) | exact Nat.le_trans xl (by decide) | omega), rfl, _, rfl, ite2 (fun c => ?_) (fun c => ?_)⟩
      · have l1 : x.length = 1 := by
          have z : (x.length : Int) = 1 := by simpa using c
          omega
        unfold isNm at q
        rw [decide_eq_true l1, Bool.true_and] at q
        refine ⟨_, rfl, _, _, rfl, rfl, _, rfl, ite2 (fun d => ?_) (fun d => ?_)⟩
        · refine ⟨_, _, rfl, rfl, ?_⟩
          rw [a_cps] at d
          rw [z_cps]
          rw [d, Bool.true_and] at q
          exact q
        · rw [a_cps] at d
          rw [Bool.eq_false_iff.mpr d, Bool.false_and] at q
          exact q
      · have l1 : ¬ x.length = 1 := fun z => c (by rw [z]; rfl)
        unfold isNm at q
        rw [decide_eq_false l1, Bool.false_and] at q
        exact q
    · rcases hv with rfl | ⟨i, rfl⟩ | ⟨p, xs, rfl, hp⟩
      · exact ⟨_, rfl, _, _, rfl, .inl ⟨_, _, false, .non, rfl, (by rfl), false, rfl, iteF q⟩⟩
      · exact ⟨_, rfl, _, _, rfl, .inl ⟨_, _, false, .int i, rfl, (by rfl), false, rfl, iteF q⟩⟩
      · exact ⟨_, rfl, _, _, rfl, .inl ⟨_, _, false, .tup hp, rfl, (by rfl), false, rfl, iteF q⟩⟩
theorem okE_Picture_check_name (T : Txt w K mg t) : FnOk true P w K mg base (CXo P w) 3 t.f_Picture_check_name t.d_Picture_check_name ["self", "name"] (spCNE t) := by
  refine T.F_Picture_check_name.okx (k := 2) sc_Picture_check_name (fun vs H Q E h => ?_) (fun cdv A outer s H vs Q E hr h => ?_)
  · obtain ⟨a, dp, do_, pw, ph, ps, v, rfl, _⟩ := h
    rfl
  · obtain ⟨a, dp, do_, pw, ph, ps, v, rfl, h⟩ := h
    refine ⟨_, pss_one (ps_if (PW.pt (pw_or (pt_not (pt_val (pe_call (okE_is_name T) (hr.mono (by decide)) rfl T.g_is_name T.F_is_name.kp T.b_is_name .nil pass_none (pa_cons (pv 1) (pa_nil))))) (pw_or1 (pt_cmp (pc_dnotin (hu_of hr) (pv 1) (pe_fld (pv 0) rfl)))))) (pss_one (ps_raise (hr.hd rfl) takes_def (pe_xmake T.k_NoPoint (ok_NoPoint_init T) (hr.mono (by decide)) rfl T.g_NoPoint T.b_NoPoint_init .nil (pa_cons (pv 1) (pa_nil))))) (pss_nil)), ?_⟩
    obtain ⟨pic, bad, hE⟩ := h
    obtain ⟨⟨dx0, hp⟩, ⟨kvs, hk, pl⟩, _⟩ := id pic
    rcases bad with ⟨x, rfl, xl, hx⟩ | bad
    · cases hb : isNm x with
      | false => exact ⟨_, rfl, .str x, false, rfl, .inl ⟨x, rfl, xl, hb.symm⟩, false, rfl, iteT (iteT ⟨_, rfl, (by show 1 ≤ 1000; decide), fun e he => ⟨e, _, rfl, upd_same, fun dx hdx => ⟨rfl, e, t.C_NoPoint, some dx, rfl, upd_same, T.mk_NoPoint, hE e _ (raised_mk he hdx)⟩⟩⟩)⟩
      | true =>
        have no : ∀ p ∈ ps, p.nm ≠ x := by
          rcases hx with hx | hx
          · rw [hb] at hx; cases hx
          · exact hx
        exact ⟨_, rfl, .str x, true, rfl, .inl ⟨x, rfl, xl, hb.symm⟩, true, rfl, iteF ⟨_, rfl, _, rfl, a, _, dx0, _, _, rfl, hp, T.c_Picture, T.n_Picture_placed, lkP, dp, none, rfl, (by rw [← pl.no (nm := x) no]; exact DGet.k (k := .inr x) hk), true, rfl, iteT ⟨_, rfl, (by show 1 ≤ 1000; decide), fun e he => ⟨e, _, rfl, upd_same, fun dx hdx => ⟨rfl, e, t.C_NoPoint, some dx, rfl, upd_same, T.mk_NoPoint, hE e _ (raised_mk he hdx)⟩⟩⟩⟩⟩
    · exact ⟨_, rfl, v, false, rfl, .inr ⟨rfl, bad⟩, false, rfl, iteT (iteT ⟨_, rfl, (by show 1 ≤ 1000; decide), fun e he => ⟨e, _, rfl, upd_same, fun dx hdx => ⟨rfl, e, t.C_NoPoint, some dx, rfl, upd_same, T.mk_NoPoint, hE e _ (raised_mk he hdx)⟩⟩⟩)⟩
theorem okE_Picture_check_seat (T : Txt w K mg t) : FnOk true P w K mg base (CXo P w) 4 t.f_Picture_check_seat t.d_Picture_check_seat ["self", "side", "row"] (spCSE t) := by
  refine T.F_Picture_check_seat.okx (k := 3) sc_Picture_check_seat (fun vs H Q E h => ?_) (fun cdv A outer s H vs Q E hr h => ?_)
  · obtain ⟨a, dp, do_, pw, ph, ps, v, r, rfl, _⟩ := h
    rfl
  · obtain ⟨a, dp, do_, pw, ph, ps, v, r, rfl, h⟩ := h
    refine ⟨_, pss_cons (ps_expr (pe_call ((ok_side_of T).or (okE_side_of T)) (hr.mono (by decide)) rfl T.g_side_of T.F_side_of.kp T.b_side_of .nil takes_def.pass (pa_cons (pv 1) (pa_cons (pe_fld (pv 0) rfl) (pa_nil)))))
      (pss_one (ps_if (pt_not (pt_val (pe_call (okE_is_whole T) (hr.mono (by decide)) rfl T.g_is_whole T.F_is_whole.kp T.b_is_whole .nil pass_none (pa_cons (pv 2) (pa_cons (pe_int) (pa_cons (pe_fld (pv 0) rfl) (pa_nil))))))) (pss_one (ps_raise (hr.hd rfl) takes_def (pe_xmake T.k_NoRow (ok_NoRow_init T) (hr.mono (by decide)) rfl T.g_NoRow T.b_NoRow_init .nil (pa_cons (pv 2) (pa_nil))))) (pss_nil))), ?_⟩
    obtain ⟨pic, h⟩ := h
    obtain ⟨⟨dx0, hp⟩, _, _⟩ := id pic
    rcases h with ⟨th, hE⟩ | ⟨b, rfl, sr, wr, hE⟩
    · exact ⟨_, rfl, _, rfl, a, _, dx0, _, _, rfl, hp, T.c_Picture, T.n_Picture_width, lkW, .inr ⟨v, pw, rfl, th, hE⟩⟩
    · refine ⟨_, rfl, _, rfl, a, _, dx0, _, _, rfl, hp, T.c_Picture, T.n_Picture_width, lkW, .inl ⟨b, pw, rfl, fun p H1 hp1 sd1 s1 => ?_⟩⟩
      refine ⟨_, rfl, _, rfl, a, _, dx0, _, _, rfl, (s1 _ _ hp), T.c_Picture, T.n_Picture_height, lkH, r, 1, ph, rfl, sr, wholeB r 1 ph, rfl, ?_⟩
      rw [wr]
      exact iteT ⟨_, rfl, (by show 1 ≤ 1000; decide), fun e he => ⟨e, _, rfl, upd_same, fun dx hdx => ⟨rfl, e, t.C_NoRow, some dx, rfl, upd_same, T.mk_NoRow, hE e _ ((raised_mk he hdx).trans s1)⟩⟩⟩
theorem okE_Picture_place_of (T : Txt w K mg t) : FnOk true P w K mg base (CXo P w) 4 t.f_Picture_place_of t.d_Picture_place_of ["self", "name"] (spCNE t) := by
  refine T.F_Picture_place_of.okx (k := 3) sc_Picture_place_of (fun vs H Q E h => ?_) (fun cdv A outer s H vs Q E hr h => ?_)
  · obtain ⟨a, dp, do_, pw, ph, ps, v, rfl, _⟩ := h
    rfl
  · obtain ⟨a, dp, do_, pw, ph, ps, v, rfl, h⟩ := h
    refine ⟨_, pss_cons (ps_expr (pe_meth (pv 0) T.c_Picture T.m_Picture_check_name (okE_Picture_check_name T) (hr.mono (by decide)) T.b_Picture_check_name .nil takes_def.pass (pa_cons (pv 1) (pa_nil))))
      (pss_one (ps_ret (pe_slice sl_tup (pe_dget (hu_of hr) (pe_fld (pv 0) rfl) (pv 1) (fun _ _ => rfl)) po_none (po_some (pe_int))))), ?_⟩
    obtain ⟨pic, bad, hE⟩ := h
    obtain ⟨⟨dx, hp⟩, _, _⟩ := id pic
    exact ⟨_, rfl, a, dx, _, rfl, hp, lk_no (by decide +kernel), _, rfl, a, dp, do_, pw, ph, ps, v, rfl, pic, bad, hE⟩
theorem okE_Picture_length (T : Txt w K mg t) : FnOk true P w K mg base (CXo P w) 5 t.f_Picture_length t.d_Picture_length ["self", "name", "side", "row"] (spTrbE t) := by
  refine T.F_Picture_length.okx (k := 4) sc_Picture_length (fun vs H Q E h => ?_) (fun cdv A outer s H vs Q E hr h => ?_)
  · obtain ⟨a, dp, do_, pw, ph, ps, n, v, r, C, f, x, wd, rfl, _⟩ := h
    rfl
  · obtain ⟨a, dp, do_, pw, ph, ps, n, v, r, C, f, x, wd, rfl, h⟩ := h
    refine ⟨_, pss_cons (ps_asg (pe_meth (pv 0) T.c_Picture T.m_Picture_place_of (((ok_Picture_place_of T).up (by decide)).or (okE_Picture_place_of T)) (hr.mono (by decide)) T.b_Picture_place_of .nil takes_def.pass (pa_cons (pv 1) (pa_nil))) (pg_tup rfl (pgs_cons (pg_name (i := 4) sc_Picture_length.nd rfl (Or.inl rfl)) (pgs_cons (pg_name (i := 5) sc_Picture_length.nd rfl (Or.inl rfl)) (pgs_nil)))))
      (pss_cons (ps_expr (pe_meth (pv 0) T.c_Picture T.m_Picture_check_seat (okE_Picture_check_seat T) (hr.mono (by decide)) T.b_Picture_check_seat .nil takes_def.pass (pa_cons (pv 2) (pa_cons (pv 3) (pa_nil)))))
      (pss_one (ps_ret (pe_op op_add (pe_alt (pe_meth (pe_call (ok_side_of T) (hr.mono (by decide)) rfl T.g_side_of T.F_side_of.kp T.b_side_of .nil pass_none (pa_cons (pv 2) (pa_cons (pe_fld (pv 0) rfl) (pa_nil)))) T.c_LeftSide T.m_LeftSide_across (ok_LeftSide_across T) (hr.mono (by decide)) T.b_LeftSide_across .nil pass_none (pa_cons (pv 4) (pa_nil))) (pe_meth (pe_call (ok_side_of T) (hr.mono (by decide)) rfl T.g_side_of T.F_side_of.kp T.b_side_of .nil pass_none (pa_cons (pv 2) (pa_cons (pe_fld (pv 0) rfl) (pa_nil)))) T.c_RightSide T.m_RightSide_across (ok_RightSide_across T) (hr.mono (by decide)) T.b_RightSide_across .nil pass_none (pa_cons (pv 4) (pa_nil)))) (pe_callB call_abs rfl T.n_abs boot_abs (pa_cons (pe_op op_sub (pv 5) (pv 3)) (pa_nil))))))), ?_⟩
    obtain ⟨pic, trb, hE⟩ := h
    obtain ⟨⟨dx, hp⟩, _, _⟩ := id pic
    rcases trb with ⟨rfl, rfl, _, rfl, bad⟩ | ⟨rfl, rfl, _, rfl, ⟨nm, pt, rfl, hn, hf⟩, th⟩ | ⟨rfl, rfl, _, rfl, ⟨nm, pt, rfl, hn, hf⟩, ⟨b, rfl⟩, sr, wr⟩
    · exact ⟨_, rfl, a, dx, _, rfl, hp, lk_no (by decide +kernel), _, rfl, .inr ⟨a, dp, do_, pw, ph, ps, _, rfl, pic, bad, hE⟩⟩
    · refine ⟨_, rfl, a, dx, _, rfl, hp, lk_no (by decide +kernel), _, rfl, .inl ⟨a, dp, do_, pw, ph, ps, nm, pt, rfl, pic, hn, hf, fun H1 q1 s1 hq1 => ⟨q1, _, rfl, SqT.of hq1, rfl, _, _, rfl, _, _, rfl, rfl, ?_⟩⟩⟩
      exact ⟨_, rfl, a, dx, _, rfl, s1 _ _ hp, lk_no (by decide +kernel), _, rfl, _, rfl, a, dp, do_, pw, ph, ps, _, r, rfl, Pic.same s1 pic, .inl ⟨th, fun e H' z => hE e H' (z.trans s1)⟩⟩
    · refine ⟨_, rfl, a, dx, _, rfl, hp, lk_no (by decide +kernel), _, rfl, .inl ⟨a, dp, do_, pw, ph, ps, nm, pt, rfl, pic, hn, hf, fun H1 q1 s1 hq1 => ⟨q1, _, rfl, SqT.of hq1, rfl, _, _, rfl, _, _, rfl, rfl, ?_⟩⟩⟩
      exact ⟨_, rfl, a, dx, _, rfl, s1 _ _ hp, lk_no (by decide +kernel), _, rfl, _, rfl, a, dp, do_, pw, ph, ps, _, _, rfl, Pic.same s1 pic, .inr ⟨b, rfl, sr, wr, fun e H' z => hE e H' (z.trans s1)⟩⟩
theorem okE_cells_of (T : Txt w K mg t) : FnOk true P w K mg base (CXo P w) 6 t.f_cells_of t.d_cells_of ["picture", "name", "side", "row"] (spTrbE t) := by
  refine T.F_cells_of.okx (k := 5) sc_cells_of (fun vs H Q E h => ?_) (fun cdv A outer s H vs Q E hr h => ?_)
  · obtain ⟨a, dp, do_, pw, ph, ps, n, v, r, C, f, x, wd, rfl, _⟩ := h
    rfl
  · obtain ⟨a, dp, do_, pw, ph, ps, n, v, r, C, f, x, wd, rfl, h⟩ := h
    refine ⟨_, pss_cons (ps_expr (pe_meth (pv 0) T.c_Picture T.m_Picture_length (okE_Picture_length T) (hr.mono (by decide)) T.b_Picture_length .nil takes_def.pass (pa_cons (pv 1) (pa_cons (pv 2) (pa_cons (pv 3) (pa_nil))))))
      (pss_cons (ps_asg (pe_meth (pv 0) T.c_Picture T.m_Picture_place_of (ok_Picture_place_of T) (hr.mono (by decide)) T.b_Picture_place_of .nil pass_none (pa_cons (pv 1) (pa_nil))) (pg_tup rfl (pgs_cons (pg_name (i := 4) sc_cells_of.nd rfl (Or.inr rfl)) (pgs_cons (pg_name (i := 5) sc_cells_of.nd rfl (Or.inl rfl)) (pgs_nil)))))
      (pss_cons (ps_set (i := 6) sc_cells_of.nd rfl (Or.inl rfl) (pe_call (ok_side_of T) (hr.mono (by decide)) rfl T.g_side_of T.F_side_of.kp T.b_side_of .nil pass_none (pa_cons (pv 2) (pa_cons (pe_fld (pv 0) rfl) (pa_nil)))))
      (pss_cons (ps_set (i := 7) sc_cells_of.nd rfl (Or.inl rfl) (pe_ifExp (pt_cmpR op_lt (pv 5) (pv 3) (nomark _)) (pe_int) (pe_un un_neg (pe_int))))
      (pss_cons (ps_setcG rfl (blkG_of (zs := ["at"]) (ys := ["x"]) (fr := [4]) (N0 := ["picture", "name", "side", "row", "x", "y", "toward", "down", "upright", "level"]) (sc0 := defScope s_cells_of) (by decide +kernel) rfl rfl rfl) (pi_range3 rfl T.n_range (pa_cons (pv 5) (pa_cons (pv 3) (pa_cons (pv 7) (pa_nil))))) (fun _ _ _ _ _ ow nd => pg_name (i := 0) nd rfl (Or.inl (ow _ (by simp))) (Or.inr (ow _ (by simp)))) (gok_name (by decide)) (fun _ _ _ _ _ => pif_nil) (fun _ _ _ _ _ => pe_tup (pa_cons (pv 1) (pa_cons (pv 0) (pa_nil)))) (j := 8) rfl (Or.inl rfl))
      (pss_cons (ps_setcG rfl (blkG_of (zs := ["at"]) (ys := ["row"]) (fr := [3]) (N0 := ["picture", "name", "side", "row", "x", "y", "toward", "down", "upright", "level"]) (sc0 := defScope s_cells_of) (by decide +kernel) rfl rfl rfl) (pi_range3 rfl T.n_range (pa_cons (pv 4) (pa_cons (pe_op op_add (pe_alt (pe_meth0 (pv 6) T.c_LeftSide T.m_LeftSide_rim (ok_LeftSide_rim T) (hr.mono (by decide)) T.b_LeftSide_rim .nil pass_none) (pe_meth0 (pv 6) T.c_RightSide T.m_RightSide_rim (ok_RightSide_rim T) (hr.mono (by decide)) T.b_RightSide_rim .nil pass_none)) (pe_alt (pe_meth0 (pv 6) T.c_LeftSide T.m_LeftSide_way (ok_LeftSide_way T) (hr.mono (by decide)) T.b_LeftSide_way .nil pass_none) (pe_meth0 (pv 6) T.c_RightSide T.m_RightSide_way (ok_RightSide_way T) (hr.mono (by decide)) T.b_RightSide_way .nil pass_none))) (pa_cons (pe_alt (pe_meth0 (pv 6) T.c_LeftSide T.m_LeftSide_way (ok_LeftSide_way T) (hr.mono (by decide)) T.b_LeftSide_way .nil pass_none) (pe_meth0 (pv 6) T.c_RightSide T.m_RightSide_way (ok_RightSide_way T) (hr.mono (by decide)) T.b_RightSide_way .nil pass_none)) (pa_nil))))) (fun _ _ _ _ _ ow nd => pg_name (i := 0) nd rfl (Or.inl (ow _ (by simp))) (Or.inr (ow _ (by simp)))) (gok_name (by decide)) (fun _ _ _ _ _ => pif_nil) (fun _ _ _ _ _ => pe_tup (pa_cons (pv 0) (pa_cons (pv 1) (pa_nil)))) (j := 9) rfl (Or.inl rfl))
      (pss_one (ps_ret (pe_op op_cat (pv 8) (pv 9))))))))), ?_⟩
    obtain ⟨pic, trb, hE⟩ := h
    obtain ⟨⟨dx, hp⟩, _, _⟩ := id pic
    exact ⟨_, rfl, a, dx, _, rfl, hp, lk_no (by decide +kernel), _, rfl, _, rfl, _, rfl, a, dp, do_, pw, ph, ps, n, v, r, C, f, x, wd, rfl, pic, trb, hE⟩
end
end S11

set_option maxRecDepth 100000
set_option maxHeartbeats 4000000
namespace S11
open PySem L2 XL PyProof.Rows
def cellOf (ns : List Int) (k : Int) : Int := if k < (ns.length : Int) then (ns[k.toNat]?).getD 0 else 7919 * k + 13
theorem cm_mod {x d : Int} (h : 0 < d) (h2 : d ≤ 4294967296) : -(2 ^ 64) < x % d ∧ x % d < 2 ^ 64 := by
  have a := Int.emod_nonneg x (show d ≠ 0 by omega)
  have b := Int.emod_lt_of_pos x h
  exact ⟨by omega, by omega⟩
theorem mod_in (x : Int) {d : Int} (h : 0 < d) : 0 ≤ x % d ∧ x % d < d := ⟨Int.emod_nonneg _ (by omega), Int.emod_lt_of_pos _ h⟩
def spCell (K : PySem.W.Frag) : Sp := fun vs H Q _ => ∃ (a : Addr) (ns : List Int) (k : Int), vs = [.ref a, .int k] ∧ SqL K H a (ns.map V.int) ∧ 0 ≤ k ∧ k < 2 ^ 62 ∧ ∀ c : Int, c = cellOf ns k → Q (.int c) H
def spMix : Sp := fun vs H Q _ => ∃ c k : Int, vs = [.int c, .int k] ∧ ∀ m : Int, 0 ≤ m → m < 2147483587 → Q (.int m) H
def spWhole : Sp := fun vs H Q _ => ∃ i : Int, vs = [.int i] ∧ Q (.bl true) H
def abc : Str := "abcdefghijklmnopqrstuvwxyz"
theorem abc_cps : abc.cps.toList = (List.range 26).map (97 + ·) := by decide +kernel
/-- the letter of a number -/
def ltr (i : Int) : Str := ⟨#[97 + i.toNat]⟩
theorem abc_ltr {i : Int} (h0 : 0 ≤ i) (h1 : i < 26) : atI abc.cps.toList i = some (97 + i.toNat) := by
  obtain ⟨j, rfl⟩ := Int.eq_ofNat_of_zero_le h0
  have lt : j < 26 := by omega
  refine atI_nat ?_
  rw [abc_cps, List.getElem?_map, List.getElem?_range lt]
  rfl
theorem ltr_inj {i j : Int} (hi : 0 ≤ i) (hj : 0 ≤ j) (h : ltr i = ltr j) : i = j := by
  unfold ltr at h
  have := congrArg (fun s : Str => s.cps.toList) h
  simp at this
  omega
theorem isNm_ltr {i : Int} (h0 : 0 ≤ i) (h1 : i < 26) : isNm (ltr i) = true := by
  unfold isNm ltr
  have g1 : ¬ ([97 + i.toNat] < [97]) := by rw [List.cons_lt_cons_iff]; rintro (z | ⟨_, z⟩); omega; cases z
  have g2 : ¬ ([122] < [97 + i.toNat]) := by rw [List.cons_lt_cons_iff]; rintro (z | ⟨_, z⟩); omega; cases z
  show (decide (1 = 1) && (!decide ([97 + i.toNat] < [97]) && !decide ([122] < [97 + i.toNat]))) = true
  rw [decide_eq_false g1, decide_eq_false g2]
  rfl
def steps : List Int := [1, 3, 5, 7, 9, 11, 15, 17, 19, 21, 23, 25]
theorem step_at (m : Int) : ∃ s : Int, atI (steps.map V.int) (m % 12) = some (.int s) ∧ s ∈ steps := by
  obtain ⟨h0, h1⟩ := mod_in m (show (0 : Int) < 12 by decide)
  obtain ⟨j, hj⟩ := Int.eq_ofNat_of_zero_le h0
  rw [hj] at h1 ⊢
  have lt : j < steps.length := by show j < 12; omega
  exact ⟨steps[j], atI_nat (by rw [List.getElem?_map, List.getElem?_eq_getElem lt]; rfl), List.getElem_mem lt⟩
def spNames : Sp := fun vs H Q _ => ∃ (c : Int) (n : Nat), vs = [.int c, .int n] ∧ n ≤ 26 ∧ ∀ (s : Int) (H' : Hp) (l : Addr), atI (steps.map V.int) (c / 26 % 12) = some (.int s) → s ∈ steps → Same H H' → H' l = some (.lst ((List.range n).map fun (k : Nat) => V.str (ltr ((c + s * (k : Int)) % 26)))) → Q (.ref l) H'
def spPlaces : Sp := fun vs H Q _ => ∃ (c sz : Int) (n : Nat), vs = [.int c, .int sz, .int n] ∧ (n : Int) ≤ sz ∧ sz ≤ 30 ∧ ∀ (zs : List Int) (H' : Hp) (l : Addr), zs.length = n → zs.Nodup → (∀ z ∈ zs, 1 ≤ z ∧ z ≤ sz) → Same H H' → H' l = some (.lst (zs.map V.int)) → Q (.ref l) H'
def spSize : Sp := fun vs H Q _ => ∃ c : Int, vs = [.int c] ∧ ∀ (w h : Int) (H' : Hp) (p : Addr), 1 ≤ w → w ≤ 30 → 1 ≤ h → h ≤ 16 → Same H H' → H' p = some (.tup [.int w, .int h]) → Q (.ref p) H'
section
variable {P : Program} {w : World} {K : PySem.W.Frag} {mg : Str → Option Value} {base : Heap} {t : Adr}
theorem ok_law_cell (T : Txt w K mg t) : FnOk true P w K mg base (CXo P w) 1 t.f_law_cell t.d_law_cell ["_law_script", "_law_k"] (spCell K) := by
  refine T.F_law_cell.okn (k := 0) sc_law_cell (fun vs H Q E h => ?_) (fun cdv A outer s H vs Q E hr h => ?_)
  · obtain ⟨a, ns, k, rfl, _⟩ := h
    rfl
  · obtain ⟨a, ns, k, rfl, h⟩ := h
    refine ⟨_, pss_cons (ps_if (pt_cmpR op_lt (pv 1) (pe_callB call_len_seq rfl T.n_len boot_len (pa_cons (pv 0) (pa_nil))) (nomark _)) (pss_one (ps_ret (pe_ix ix_list (pv 0) (pv 1) (fun _ _ => rfl)))) (pss_nil))
      (pss_one (ps_ret (pe_op op_add (pe_op op_mul (pe_int) (pv 1)) (pe_int)))), ?_⟩
    obtain ⟨hs, k0, k1, q⟩ := h
    refine ⟨_, rfl, _, rfl, a, _, rfl, .inl hs, _, _, rfl, rfl, _, rfl, ?_⟩
    refine ite2 (fun c => ?_) (fun c => ?_)
    · have c' : k < (ns.length : Int) := by simpa using c
      obtain ⟨j, rfl⟩ := Int.eq_ofNat_of_zero_le k0
      have lt : j < ns.length := by omega
      exact ⟨_, rfl, _, rfl, a, _, _, _, rfl, rfl, hs, atI_nat (by rw [List.getElem?_map, List.getElem?_eq_getElem lt]; rfl), q _ (by unfold cellOf; rw [if_pos c']; simp [List.getElem?_eq_getElem lt])⟩
    · exact ⟨_, rfl, _, _, rfl, rfl, .inl ⟨by decide, by decide⟩, _, _, rfl, rfl, q _ (by unfold cellOf; rw [if_neg (by simpa using c)])⟩
theorem ok_law_mix (T : Txt w K mg t) : FnOk true P w K mg base (CXo P w) 1 t.f_law_mix t.d_law_mix ["_law_cell_here", "_law_k"] (spMix) := by
  refine T.F_law_mix.okn (k := 0) sc_law_mix (fun vs H Q E h => ?_) (fun cdv A outer s H vs Q E hr h => ?_)
  · obtain ⟨c, k, rfl, _⟩ := h
    rfl
  · obtain ⟨c, k, rfl, h⟩ := h
    refine ⟨_, pss_cons (ps_set (i := 2) sc_law_mix.nd rfl (Or.inl rfl) (pe_op op_mod (pe_op op_mul (pe_op op_add (pv 0) (pe_op op_mul (pe_int) (pv 1))) (pe_int)) (pe_int)))
      (pss_cons (ps_set (i := 2) sc_law_mix.nd rfl (Or.inl rfl) (pe_op op_mod (pe_op op_mul (pv 2) (pv 2)) (pe_int)))
      (pss_one (ps_ret (pe_op op_mod (pe_op op_add (pe_op op_add (pe_op op_mul (pv 2) (pv 2)) (pe_op op_mul (pe_int) (pv 2))) (pv 1)) (pe_int))))), ?_⟩
    refine ⟨_, rfl, _, rfl, _, _, rfl, rfl, .inl ⟨by decide, by decide⟩, _, _, rfl, rfl, _, _, rfl, rfl, .inr ⟨by decide, by decide⟩, _, _, rfl, rfl, (by show (0 : Int) < 2147483647; decide), ?_⟩
    refine ⟨_, rfl, _, rfl, _, _, rfl, rfl, .inl (cm_mod (by decide) (by decide)), _, _, rfl, rfl, (by show (0 : Int) < 2147483629; decide), ?_⟩
    refine ⟨_, rfl, _, rfl, _, _, rfl, rfl, .inl (cm_mod (by decide) (by decide)), _, rfl, _, _, rfl, rfl, .inl ⟨by decide, by decide⟩, _, _, rfl, rfl, _, rfl, _, _, rfl, rfl, _, _, rfl, rfl, (by show (0 : Int) < 2147483587; decide), ?_⟩
    exact h _ (mod_in _ (by decide)).1 (mod_in _ (by decide)).2
theorem ok_law_whole (T : Txt w K mg t) : FnOk true P w K mg base (CXo P w) 1 t.f_law_whole t.d_law_whole ["_law_found"] (spWhole) := by
  refine T.F_law_whole.okn (k := 0) sc_law_whole (fun vs H Q E h => ?_) (fun cdv A outer s H vs Q E hr h => ?_)
  · obtain ⟨i, rfl, _⟩ := h
    rfl
  · obtain ⟨i, rfl, h⟩ := h
    refine ⟨_, pss_one (ps_ret (pe_and (pe_callB call_isin rfl T.n_isinstance boot_isinstance (pa_cons (pv 0) (pa_cons (pe_bltn (v := .ty "int") rfl T.n_int boot_int rfl) (pa_nil)))) (pe_one (pe_not (pe_callB call_isin rfl T.n_isinstance boot_isinstance (pa_cons (pv 0) (pa_cons (pe_bltn (v := .ty "bool") rfl T.n_bool boot_bool rfl) (pa_nil)))))))), ?_⟩
    refine ⟨_, rfl, _, _, rfl, .inl ⟨_, _, true, .int i, rfl, kit_same, true, rfl, iteT ?_⟩⟩
    exact ⟨_, rfl, _, _, rfl, .inl ⟨_, _, false, .int i, rfl, (by rfl), false, rfl, h⟩⟩
end
end S11

set_option maxRecDepth 100000
set_option maxHeartbeats 4000000
namespace S11
open PySem L2 XL PyProof.Rows
section
variable {P : Program} {w : World} {K : PySem.W.Frag} {mg : Str → Option Value} {base : Heap} {t : Adr}
theorem ok_law_names (T : Txt w K mg t) : FnOk true P w K mg base (CXo P w) 1 t.f_law_names t.d_law_names ["_law_cell_here", "_law_many"] (spNames) := by
  refine T.F_law_names.okn (k := 0) sc_law_names (fun vs H Q E h => ?_) (fun cdv A outer s H vs Q E hr h => ?_)
  · obtain ⟨c, n, rfl, _⟩ := h
    rfl
  · obtain ⟨c, n, rfl, h⟩ := h
    refine ⟨_, pss_cons (ps_set (i := 2) sc_law_names.nd rfl (Or.inr rfl) (pe_str))
      (by
      with_reducible refine' pss_cons ?a ?b
      case a =>
        with_reducible refine' ps_set (i := 3) ?n ?i ?x ?e ?s ?f
        case n => exact sc_law_names.nd
        case i => rfl
        case x => exact Or.inr rfl
        case f => exact Or.inl rfl
        case e =>
          with_reducible refine' pe_ix (r := rIxL K) ?r ?l ?j ?p
          case r => exact ix_list
          case j => exact pe_op op_mod (pe_op op_fdiv (pv 0) (pe_int)) (pe_int)
          case p => exact fun _ _ => rfl
          case l =>
            with_reducible refine' pe_lst ?pa
            case pa =>
              with_reducible refine' pa_cons pe_int ?q1 rfl
              case q1 =>
                with_reducible refine' pa_cons pe_int ?q2 rfl
                case q2 =>
                  with_reducible refine' pa_cons pe_int ?q3 rfl
                  case q3 =>
                    with_reducible refine' pa_cons pe_int ?q4 rfl
                    case q4 =>
                      with_reducible refine' pa_cons pe_int ?q5 rfl
                      case q5 =>
                        with_reducible refine' pa_cons pe_int ?q6 rfl
                        case q6 =>
                          with_reducible refine' pa_cons pe_int ?q7 rfl
                          case q7 =>
                            with_reducible refine' pa_cons pe_int ?q8 rfl
                            case q8 =>
                              with_reducible refine' pa_cons pe_int ?q9 rfl
                              case q9 =>
                                with_reducible refine' pa_cons pe_int ?q10 rfl
                                case q10 =>
                                  with_reducible refine' pa_cons pe_int ?q11 rfl
                                  case q11 =>
                                    with_reducible refine' pa_cons pe_int ?q12 rfl
                                    case q12 =>
                                      exact pa_nil
        case s => rfl
      case b =>
        exact (pss_one (ps_ret (pe_compG rfl (blkG_of (zs := ["_law_k"]) (ys := ["_law_letters", "_law_cell_here", "_law_step"]) (fr := [2, 0, 3]) (N0 := ["_law_cell_here", "_law_many", "_law_letters", "_law_step"]) (sc0 := defScope s_law_names) (by decide +kernel) rfl rfl rfl) (pi_range1 rfl T.n_range (pa_cons (pv 1) (pa_nil))) (fun _ _ _ _ _ ow nd => pg_name (i := 0) nd rfl (Or.inl (ow _ (by simp))) (Or.inr (ow _ (by simp)))) (gok_name (by decide)) (fun _ _ _ _ _ => pif_nil) (fun _ _ _ _ _ => pe_ix ix_str (pv 1) (pe_op op_mod (pe_op op_add (pv 2) (pe_op op_mul (pv 3) (pv 0))) (pe_int)) (fun _ _ => rfl)))))), ?_⟩
    obtain ⟨hn, q⟩ := h
    obtain ⟨s, es, ms⟩ := step_at (c / 26)
    refine ⟨(by show 12 ≤ sizeLine; decide), fun q0 hq0 => ⟨_, rfl, _, _, rfl, rfl, ⟨by decide, by decide⟩, _, _, rfl, rfl, (by show (0 : Int) < 12; decide), q0, _, _, .int s, rfl, rfl, SqL.of upd_same, es, ?_⟩⟩
    refine ⟨_, rfl, (n : Int), rfl, by omega, by omega, fun l hl => ?_⟩
    have s1 : Same H (upd H q0 (.lst (steps.map V.int))) := same_upd (Same.refl _) hq0
    refine compG_by n (fun i xs H2 => xs = (List.range i).map (fun (k : Nat) => V.str (ltr ((c + s * (k : Int)) % 26))) ∧ Same H H2 ∧ H2 l = some (.lst xs)) ?_ ?_ ?_ ?_
    · exact ⟨rfl, same_upd s1 hl, upd_same⟩
    · rintro i xs H2 lt _
      show i < ((n : Nat) : Int).toNat
      simpa using lt
    · rintro i xs H2 v H3 lt ⟨rfl, s2, hl2⟩ ⟨rfl, rfl⟩ N hN
      refine gT_if ?_
      refine ⟨_, rfl, _, rfl, _, rfl, _, rfl, _, _, rfl, rfl, .inl ?_, _, _, rfl, rfl, _, _, rfl, rfl, (by show (0 : Int) < 26; decide), abc, _, _, rfl, rfl, (by decide +kernel), abc_ltr (mod_in _ (by decide)).1 (mod_in _ (by decide)).2, hl2, ?_, ?_⟩
      · have hs : ∀ z ∈ steps, 1 ≤ z ∧ z ≤ 25 := by decide
        have := hs s ms
        constructor <;> omega
      · rw [List.length_map, List.length_range]
        exact Nat.lt_trans (by omega : i < 27) (by decide)
      · refine hN _ _ ⟨?_, fun b u e => ?_, upd_same⟩
        · rw [List.range_succ, List.map_append]
          simp [ltr]
        · rw [upd_ne (ne_of_none (s1 _ _ e) hl)]
          exact s2 b u e
    · rintro xs H2 ⟨rfl, s2, hl2⟩
      exact ⟨by simp [Itr], q s H2 l es ms s2 (by simpa using hl2)⟩
end
end S11

set_option maxRecDepth 100000
set_option maxHeartbeats 4000000
namespace S11
open PySem L2 XL PyProof.Rows
section
variable {P : Program} {w : World} {K : PySem.W.Frag} {mg : Str → Option Value} {base : Heap} {t : Adr}
theorem ok_law_places (T : Txt w K mg t) : FnOk true P w K mg base (CXo P w) 2 t.f_law_places t.d_law_places ["_law_cell_here", "_law_size_here", "_law_many"] (spPlaces) := by
  refine T.F_law_places.okn (k := 1) sc_law_places (fun vs H Q E h => ?_) (fun cdv A outer s H vs Q E hr h => ?_)
  · obtain ⟨c, sz, n, rfl, _⟩ := h
    rfl
  · obtain ⟨c, sz, n, rfl, h⟩ := h
    refine ⟨_, pss_cons (ps_set (i := 3) sc_law_places.nd rfl (Or.inl rfl) (pe_callTy (call_list_rng rfl) rfl T.n_list boot_list (pa_cons (pe_callTy call_range2 rfl T.n_range boot_range (pa_cons (pe_int) (pa_cons (pe_op op_add (pv 1) (pe_int)) (pa_nil)))) (pa_nil))))
      (pss_cons (ps_set (i := 4) sc_law_places.nd rfl (Or.inl rfl) (pe_lst (pa_nil)))
      (pss_cons (ps_for PassesOwn.never rfl (pi_range1 rfl T.n_range (pa_cons (pv 2) (pa_nil))) (pg_name (i := 5) sc_law_places.nd rfl (Or.inl rfl)) (pss_one (ps_expr (pe_bm PySem.F.plainAttrs_list PySem.F.slot_list_append PySem.F.type_list_append mt_append (pv 4) (pa_cons (pe_bm PySem.F.plainAttrs_list PySem.F.slot_list_pop PySem.F.type_list_pop mt_popAt (pv 3) (pa_cons (pe_op op_mod (pe_call (ok_law_mix T) (hr.mono (by decide)) rfl T.g_law_mix T.F_law_mix.kp T.b_law_mix .nil pass_none (pa_cons (pv 0) (pa_cons (pv 5) (pa_nil)))) (pe_callB call_len_seq rfl T.n_len boot_len (pa_cons (pv 3) (pa_nil)))) (pa_nil))) (pa_nil))))))
      (pss_one (ps_ret (pv 4))))), ?_⟩
    obtain ⟨n1, n2, q⟩ := h
    refine ⟨_, rfl, _, _, rfl, rfl, 1, sz + 1, rfl, fun p hp => ⟨p, 1, sz + 1, rfl, upd_same, ⟨by decide, by decide, by omega, by omega⟩, by omega, fun lf hlf => ?_⟩⟩
    refine ⟨(by show 0 ≤ sizeLine; exact Nat.zero_le _), fun fd hfd => ?_⟩
    have hr0 : rngL 1 (sz + 1) = ((List.range sz.toNat).map fun (i : Nat) => (1 : Int) + (i : Int)).map V.int := by
      unfold rngL
      rw [List.map_map, show (sz + 1 - 1).toNat = sz.toNat from by omega]
      rfl
    rw [hr0] at hfd ⊢
    have nfd : fd ≠ lf := Ne.symm (ne_of_none upd_same hfd)
    refine ⟨_, rfl, (n : Int), rfl, by omega, by omega, ?_⟩
    refine for_range (Pv := fun i σ H2 => ∃ (zs ls : List Int) (v5 : Option V), σ = [some (.int c), some (.int sz), some (.int n), some (.ref lf), some (.ref fd), v5] ∧ H2 lf = some (.lst (ls.map V.int)) ∧ H2 fd = some (.lst (zs.map V.int)) ∧
      zs.length = i ∧ ls.length + i = sz.toNat ∧ zs.Nodup ∧ ls.Nodup ∧ (∀ z ∈ zs, z ∉ ls) ∧ (∀ z ∈ zs, 1 ≤ z ∧ z ≤ sz) ∧ (∀ z ∈ ls, 1 ≤ z ∧ z ≤ sz) ∧ Same H H2) ?_ ?_ ?_
    · refine ⟨[], (List.range sz.toNat).map fun (i : Nat) => (1 : Int) + (i : Int), _, rfl, ?_, upd_same, rfl, by simp, List.nodup_nil, ?_, (fun z h => nomatch h), (fun z h => nomatch h), fun z hz => ?_, same_upd (same_upd (same_upd (Same.refl _) hp) hlf) hfd⟩
      · rw [upd_ne (Ne.symm nfd)]
        exact upd_same
      · refine List.Pairwise.map _ (fun a b h => ?_) List.nodup_range
        intro z
        apply h
        omega
      · obtain ⟨i, hi, rfl⟩ := List.mem_map.mp hz
        rw [List.mem_range] at hi
        omega
    · rintro i σ H2 hi ⟨zs, ls, v5, rfl, h1, h2, e1, e2, d1, d2, d3, b1, b2, s2⟩
      have hi' : i < n := by simpa using hi
      have lp : 0 < ls.length := by omega
      refine ⟨_, rfl, .inl ⟨rfl, _, SqL.of h2⟩, _, rfl, .inl ⟨rfl, _, SqL.of h1⟩, _, rfl, _, rfl, c, _, rfl, fun m m0 m1 => ?_⟩
      have lp' : (0 : Int) < ((ls.map V.int).length : Int) := by rw [List.length_map]; omega
      obtain ⟨k0, k1⟩ := mod_in m lp'
      obtain ⟨j, hj⟩ := Int.eq_ofNat_of_zero_le k0
      have jl : j < ls.length := by
        have z := k1
        rw [hj, List.length_map] at z
        omega
      have gy : (ls.map V.int)[j]? = some (V.int ls[j]) := by rw [List.getElem?_map, List.getElem?_eq_getElem jl]; rfl
      refine ⟨_, rfl, lf, _, rfl, .inl (SqL.of h1), _, _, rfl, rfl, lp', lf, _, _, j, _, rfl, rfl, h1, by omega, ?_, ?_, gy, fd, zs.map V.int, _, rfl, rfl, ?_, ?_, ?_⟩
      · rw [List.length_map] at k1
        have : (ls.length : Int) < 2 ^ 63 := by omega
        omega
      · rw [seqIndex_of k0 k1, hj]
        rfl
      · rw [upd_ne nfd]
        exact h2
      · rw [List.length_map]
        exact Nat.lt_trans (by omega : zs.length < 31) (by decide)
      · obtain ⟨a1, a2, a3, a4⟩ := Geo.erase_ok d2 (List.getElem?_eq_getElem jl)
        have em : (ls.map V.int).eraseIdx j = (ls.eraseIdx j).map V.int := by simp [List.eraseIdx_eq_take_drop_succ, List.map_take, List.map_drop]
        have el := List.length_eraseIdx_of_lt jl
        refine ⟨zs ++ [ls[j]], ls.eraseIdx j, _, rfl, ?_, ?_, ?_, ?_, ?_, a1, ?_, ?_, fun z hz => b2 z (a3 z hz), ?_⟩
        · rw [upd_ne (Ne.symm nfd), upd_same, em]
        · rw [upd_same, List.map_append]
          rfl
        · rw [List.length_append, e1]
          rfl
        · omega
        · rw [List.nodup_append]
          exact ⟨d1, by simp, fun a ha b hb => by
            have := List.mem_singleton.mp hb
            subst this
            intro z
            exact d3 a ha (z ▸ a4)⟩
        · intro z hz
          rcases List.mem_append.mp hz with y | y
          · exact fun k => d3 z y (a3 z k)
          · have := List.mem_singleton.mp y
            subst this
            exact a2
        · intro z hz
          rcases List.mem_append.mp hz with y | y
          · exact b1 z y
          · have := List.mem_singleton.mp y
            subst this
            exact b2 _ a4
        · intro b u e
          have nb1 : b ≠ lf := fun z => by
            subst z
            rw [upd_ne (ne_of_none e hp)] at hlf
            rw [e] at hlf
            cases hlf
          have nb2 : b ≠ fd := fun z => by
            subst z
            rw [upd_ne nb1, upd_ne (ne_of_none e hp)] at hfd
            rw [e] at hfd
            cases hfd
          rw [upd_ne nb2, upd_ne nb1]
          exact s2 b u e
    · rintro σ H2 ⟨zs, ls, v5, rfl, h1, h2, e1, e2, d1, d2, d3, b1, b2, s2⟩
      exact ⟨_, rfl, q zs H2 fd (by simpa using e1) d1 b1 s2 h2⟩
end
end S11

set_option maxRecDepth 100000
set_option maxHeartbeats 4000000
namespace S11
open PySem L2 XL PyProof.Rows
section
variable {P : Program} {w : World} {K : PySem.W.Frag} {mg : Str → Option Value} {base : Heap} {t : Adr}
theorem ok_law_size (T : Txt w K mg t) : FnOk true P w K mg base (CXo P w) 1 t.f_law_size t.d_law_size ["_law_cell_here"] (spSize) := by
  refine T.F_law_size.okn (k := 0) sc_law_size (fun vs H Q E h => ?_) (fun cdv A outer s H vs Q E hr h => ?_)
  · obtain ⟨c, rfl, _⟩ := h
    rfl
  · obtain ⟨c, rfl, h⟩ := h
    refine ⟨_, pss_cons (ps_if (pt_cmpR op_eq (pe_op op_mod (pv 0) (pe_int)) (pe_int) (nomark _)) (pss_one (ps_ret (pe_tup (pa_cons (pe_op op_add (pe_int) (pe_op op_mod (pe_op op_fdiv (pv 0) (pe_int)) (pe_int))) (pa_cons (pe_op op_add (pe_int) (pe_op op_mod (pe_op op_fdiv (pv 0) (pe_int)) (pe_int))) (pa_nil)))))) (pss_nil))
      (pss_one (ps_ret (pe_tup (pa_cons (pe_op op_add (pe_int) (pe_op op_mod (pe_op op_fdiv (pv 0) (pe_int)) (pe_int))) (pa_cons (pe_op op_add (pe_int) (pe_op op_mod (pe_op op_fdiv (pv 0) (pe_int)) (pe_int))) (pa_nil)))))), ?_⟩
    refine ⟨_, rfl, _, _, rfl, rfl, (by show (0 : Int) < 8; decide), rfl, _, rfl, ite2 (fun d => ?_) (fun d => ?_)⟩
    · refine ⟨_, rfl, _, _, rfl, rfl, ⟨by decide, by decide⟩, _, _, rfl, rfl, (by show (0 : Int) < 30; decide), _, _, rfl, rfl, _, rfl, _, _, rfl, rfl, ⟨by decide, by decide⟩, _, _, rfl, rfl, (by show (0 : Int) < 16; decide), _, _, rfl, rfl, (by show 2 ≤ sizeLine; decide), fun p hp => h _ _ _ p ?_ ?_ ?_ ?_ (same_upd (Same.refl _) hp) upd_same⟩
      · have := (mod_in (c / 8) (show (0 : Int) < 30 by decide)).1; omega
      · have := (mod_in (c / 8) (show (0 : Int) < 30 by decide)).2; omega
      · have := (mod_in (c / 240) (show (0 : Int) < 16 by decide)).1; omega
      · have := (mod_in (c / 240) (show (0 : Int) < 16 by decide)).2; omega
    · refine ⟨_, rfl, _, _, rfl, rfl, ⟨by decide, by decide⟩, _, _, rfl, rfl, (by show (0 : Int) < 9; decide), _, _, rfl, rfl, _, rfl, _, _, rfl, rfl, ⟨by decide, by decide⟩, _, _, rfl, rfl, (by show (0 : Int) < 7; decide), _, _, rfl, rfl, (by show 2 ≤ sizeLine; decide), fun p hp => h _ _ _ p ?_ ?_ ?_ ?_ (same_upd (Same.refl _) hp) upd_same⟩
      · have := (mod_in (c / 8) (show (0 : Int) < 9 by decide)).1; omega
      · have := (mod_in (c / 8) (show (0 : Int) < 9 by decide)).2; omega
      · have := (mod_in (c / 72) (show (0 : Int) < 7 by decide)).1; omega
      · have := (mod_in (c / 72) (show (0 : Int) < 7 by decide)).2; omega
end
end S11

set_option maxRecDepth 100000
set_option maxHeartbeats 4000000
namespace S11
open PySem L2 XL PyProof.Rows
/-- the spots that the law keeps -/
inductive Sps (H : Hp) : List Pt → List Addr → Prop
  | nil : Sps H [] []
  | cons {p : Pt} {q : Addr} {ps : List Pt} {qs : List Addr} (h : H q = some (.tup [.int p.x, .int p.y])) (r : Sps H ps qs) : Sps H (p :: ps) (q :: qs)
theorem Sps.keep {H H' : Hp} (s : Tups H H') {ps : List Pt} {qs : List Addr} (h : Sps H ps qs) : Sps H' ps qs := by
  induction h with
  | nil => exact .nil
  | cons h _ ih => exact .cons (s _ _ h) ih
theorem Sps.snoc {H : Hp} {ps : List Pt} {qs : List Addr} (h : Sps H ps qs) {p : Pt} {q : Addr} (e : H q = some (.tup [.int p.x, .int p.y])) : Sps H (ps ++ [p]) (qs ++ [q]) := by
  induction h with
  | nil => exact .cons e .nil
  | cons h _ ih => exact .cons h ih
theorem Sps.len {H : Hp} {ps : List Pt} {qs : List Addr} (h : Sps H ps qs) : qs.length = ps.length := by
  induction h with
  | nil => rfl
  | cons _ _ ih => simp [ih]
theorem Sps.get {H : Hp} {ps : List Pt} {qs : List Addr} (h : Sps H ps qs) {i : Nat} {p : Pt} (e : ps[i]? = some p) : ∃ q, qs[i]? = some q ∧ H q = some (.tup [.int p.x, .int p.y]) := by
  induction h generalizing i with
  | nil => simp at e
  | @cons p' q' ps qs h _ ih =>
    cases i with
    | zero =>
      simp at e
      subst e
      exact ⟨q', rfl, h⟩
    | succ j => exact ih (by simpa using e)
/-- a picture with its points, as the law has made it -/
structure PicL (t : Adr) (H : Hp) (a ln ls : Addr) (w h : Int) (ps : List Pt) : Prop where
  pic : ∃ dp do_, Pic t H a dp do_ w h ps
  ln : H ln = some (.lst (ps.map fun p => V.str p.nm))
  ls : ∃ qs, H ls = some (.lst (qs.map V.ref)) ∧ Sps H ps qs
  nm : ∀ p ∈ ps, isNm p.nm = true
  nd : (ps.map (·.nm)).Nodup
  xy : ∀ p ∈ ps, 1 ≤ p.x ∧ p.x ≤ w ∧ 1 ≤ p.y ∧ p.y ≤ h
  pos : 0 < ps.length
  le : (ps.length : Int) ≤ h
theorem PicL.same {t : Adr} {H H' : Hp} {a ln ls : Addr} {w h : Int} {ps : List Pt} (s : Same H H') (z : PicL t H a ln ls w h ps) : PicL t H' a ln ls w h ps :=
  ⟨let ⟨dp, do_, p⟩ := z.pic; ⟨dp, do_, Pic.same s p⟩, s _ _ z.ln, let ⟨qs, e, r⟩ := z.ls; ⟨qs, s _ _ e, r.keep (Same.tups s)⟩, z.nm, z.nd, z.xy, z.pos, z.le⟩
def spPicture (K : PySem.W.Frag) (t : Adr) : Sp := fun vs H Q _ => ∃ (sc : Addr) (ns : List Int), vs = [.ref sc] ∧ SqL K H sc (ns.map V.int) ∧ ∀ (H' : Hp) (tp a ln ls : Addr) (w h : Int) (ps : List Pt),
  Same H H' → H' tp = some (.tup [.ref a, .ref ln, .ref ls]) → PicL t H' a ln ls w h ps → (∃ st : Int, st ∈ steps ∧ atI (steps.map V.int) (cellOf ns 1 / 26 % 12) = some (.int st) ∧ ps.map (·.nm) = (List.range ps.length).map fun (k : Nat) => ltr ((cellOf ns 1 + st * (k : Int)) % 26)) → Q (.ref tp) H'
/-- the letters of n names are unlike -/
theorem ltrs_nd {c s : Int} (h : s ∈ steps) {n : Nat} (hn : n ≤ 13) : ((List.range n).map fun (k : Nat) => ltr ((c + s * (k : Int)) % 26)).Nodup := by
  rw [List.nodup_iff_pairwise_ne, List.pairwise_map]
  refine List.Pairwise.imp_of_mem (fun {i j} hi hj hij e => ?_) (List.pairwise_lt_range (n := n))
  rw [List.mem_range] at hi hj
  have e' := ltr_inj (mod_in _ (by decide)).1 (mod_in _ (by decide)).1 e
  have hj' : j < 13 := by omega
  obtain ⟨d, rfl⟩ : ∃ d, j = i + d := ⟨j - i, by omega⟩
  have hd : 0 < d ∧ d < 13 := by omega
  have hs : ∀ z ∈ steps, z = 1 ∨ z = 3 ∨ z = 5 ∨ z = 7 ∨ z = 9 ∨ z = 11 ∨ z = 15 ∨ z = 17 ∨ z = 19 ∨ z = 21 ∨ z = 23 ∨ z = 25 := by decide
  rw [Int.natCast_add, Int.mul_add] at e'
  rcases hs s h with rfl | rfl | rfl | rfl | rfl | rfl | rfl | rfl | rfl | rfl | rfl | rfl <;> omega
theorem sd_at (m : Int) : ∃ x : Str, atI [V.str "left", V.str "both", V.str "right"] (m % 3) = some (.str x) ∧ (x = "left" ∨ x = "right" ∨ x = "both") := by
  obtain ⟨h0, h1⟩ := mod_in m (show (0 : Int) < 3 by decide)
  have : m % 3 = 0 ∨ m % 3 = 1 ∨ m % 3 = 2 := by omega
  rcases this with e | e | e <;> rw [e]
  · exact ⟨"left", rfl, .inl rfl⟩
  · exact ⟨"both", rfl, .inr (.inr rfl)⟩
  · exact ⟨"right", rfl, .inr (.inl rfl)⟩
theorem six_at (k : Bool) : ∃ x : Int, atI [V.int 6, V.int 12] (if k = true then 1 else 0) = some (.int x) ∧ 1 ≤ x ∧ x ≤ 12 := by
  cases k
  · exact ⟨6, rfl, by decide, by decide⟩
  · exact ⟨12, rfl, by decide, by decide⟩
section
variable {P : Program} {w : World} {K : PySem.W.Frag} {mg : Str → Option Value} {base : Heap} {t : Adr}
theorem ok_law_picture (T : Txt w K mg t) : FnOk true P w K mg base (CXo P w) 5 t.f_law_picture t.d_law_picture ["_law_script"] (spPicture K t) := by
  refine T.F_law_picture.okn (k := 4) sc_law_picture (fun vs H Q E h => ?_) (fun cdv A outer s H vs Q E hr h => ?_)
  · obtain ⟨sc, ns, rfl, _⟩ := h
    rfl
  · obtain ⟨sc, ns, rfl, h⟩ := h
    refine ⟨_, pss_cons (ps_asg (pe_call (ok_law_size T) (hr.mono (by decide)) rfl T.g_law_size T.F_law_size.kp T.b_law_size .nil pass_none (pa_cons (pe_call (ok_law_cell T) (hr.mono (by decide)) rfl T.g_law_cell T.F_law_cell.kp T.b_law_cell .nil pass_none (pa_cons (pv 0) (pa_cons (pe_int) (pa_nil)))) (pa_nil))) (pg_tup rfl (pgs_cons (pg_name (i := 1) sc_law_picture.nd rfl (Or.inl rfl)) (pgs_cons (pg_name (i := 2) sc_law_picture.nd rfl (Or.inl rfl)) (pgs_nil)))))
      (pss_cons (ps_set (i := 3) sc_law_picture.nd rfl (Or.inl rfl) (pe_callB (call_min3 rfl) rfl T.n_min boot_min (pa_cons (pe_ix ix_list (pe_lst (pa_cons (pe_int) (pa_cons (pe_int) (pa_nil)))) (pe_callTy call_int1 rfl T.n_int boot_int (pa_cons (pe_cmpR op_eq (pe_op op_mod (pe_call (ok_law_cell T) (hr.mono (by decide)) rfl T.g_law_cell T.F_law_cell.kp T.b_law_cell .nil pass_none (pa_cons (pv 0) (pa_cons (pe_int) (pa_nil)))) (pe_int)) (pe_int) (nomark _)) (pa_nil))) (fun _ _ => rfl)) (pa_cons (pv 1) (pa_cons (pv 2) (pa_nil))))))
      (pss_cons (ps_set (i := 4) sc_law_picture.nd rfl (Or.inl rfl) (pe_op op_add (pe_int) (pe_op op_mod (pe_op op_fdiv (pe_call (ok_law_cell T) (hr.mono (by decide)) rfl T.g_law_cell T.F_law_cell.kp T.b_law_cell .nil pass_none (pa_cons (pv 0) (pa_cons (pe_int) (pa_nil)))) (pe_int)) (pv 3))))
      (pss_cons (ps_set (i := 5) sc_law_picture.nd rfl (Or.inl rfl) (pe_call (ok_law_names T) (hr.mono (by decide)) rfl T.g_law_names T.F_law_names.kp T.b_law_names .nil pass_none (pa_cons (pe_call (ok_law_cell T) (hr.mono (by decide)) rfl T.g_law_cell T.F_law_cell.kp T.b_law_cell .nil pass_none (pa_cons (pv 0) (pa_cons (pe_int) (pa_nil)))) (pa_cons (pv 4) (pa_nil)))))
      (pss_cons (ps_set (i := 6) sc_law_picture.nd rfl (Or.inr rfl) (pe_call (ok_law_places T) (hr.mono (by decide)) rfl T.g_law_places T.F_law_places.kp T.b_law_places .nil pass_none (pa_cons (pe_call (ok_law_cell T) (hr.mono (by decide)) rfl T.g_law_cell T.F_law_cell.kp T.b_law_cell .nil pass_none (pa_cons (pv 0) (pa_cons (pe_int) (pa_nil)))) (pa_cons (pv 1) (pa_cons (pv 4) (pa_nil))))))
      (pss_cons (ps_set (i := 7) sc_law_picture.nd rfl (Or.inr rfl) (pe_call (ok_law_places T) (hr.mono (by decide)) rfl T.g_law_places T.F_law_places.kp T.b_law_places .nil pass_none (pa_cons (pe_op op_fdiv (pe_call (ok_law_cell T) (hr.mono (by decide)) rfl T.g_law_cell T.F_law_cell.kp T.b_law_cell .nil pass_none (pa_cons (pv 0) (pa_cons (pe_int) (pa_nil)))) (pe_int)) (pa_cons (pv 2) (pa_cons (pv 4) (pa_nil))))))
      (pss_cons (ps_set (i := 8) sc_law_picture.nd rfl (Or.inl rfl) (pe_make T.k_Picture (ok_Picture_init T) (hr.mono (by decide)) rfl T.g_Picture T.b_Picture_init .nil pass_none (pa_cons (pv 1) (pa_cons (pv 2) (pa_nil)))))
      (pss_cons (ps_for PassesOwn.never rfl (pi_range1 rfl T.n_range (pa_cons (pv 4) (pa_nil))) (pg_name (i := 9) sc_law_picture.nd rfl (Or.inl rfl)) (pss_cons (ps_set (i := 10) sc_law_picture.nd rfl (Or.inl rfl) (pe_call (ok_law_mix T) (hr.mono (by decide)) rfl T.g_law_mix T.F_law_mix.kp T.b_law_mix .nil pass_none (pa_cons (pe_call (ok_law_cell T) (hr.mono (by decide)) rfl T.g_law_cell T.F_law_cell.kp T.b_law_cell .nil pass_none (pa_cons (pv 0) (pa_cons (pe_int) (pa_nil)))) (pa_cons (pv 9) (pa_nil)))))
      (pss_cons (ps_set (i := 11) sc_law_picture.nd rfl (Or.inl rfl) (pe_op op_add (pe_int) (pe_op op_mod (pe_op op_fdiv (pv 10) (pe_int)) (pv 2))))
      (pss_cons (ps_set (i := 12) sc_law_picture.nd rfl (Or.inl rfl) (pe_op op_add (pv 11) (pe_op op_mod (pe_op op_fdiv (pv 10) (pe_int)) (pe_op op_sub (pe_op op_add (pv 2) (pe_int)) (pv 11)))))
      (pss_one (ps_expr (pe_meth (pv 8) T.c_Picture T.m_Picture_put (ok_Picture_put T) (hr.mono (by decide)) T.b_Picture_put .nil pass_none (pa_cons (pe_ix ix_list (pv 5) (pv 9) (fun _ _ => rfl)) (pa_cons (pe_ix ix_list (pv 6) (pv 9) (fun _ _ => rfl)) (pa_cons (pe_ix ix_list (pv 7) (pv 9) (fun _ _ => rfl)) (pa_cons (pe_ix ix_list (pe_lst (pa_cons (pe_str) (pa_cons (pe_str) (pa_cons (pe_str) (pa_nil))))) (pe_op op_mod (pv 10) (pe_int)) (fun _ _ => rfl)) (pa_cons (pv 11) (pa_cons (pv 12) (pa_nil))))))))))))))
      (pss_one (ps_ret (pe_tup (pa_cons (pv 8) (pa_cons (pv 5) (pa_cons (pe_compG rfl (blkG_of (zs := ["_law_k"]) (ys := ["_law_xs", "_law_ys"]) (fr := [6, 7]) (N0 := ["_law_script", "_law_width", "_law_height", "_law_most", "_law_many", "_law_names_here", "_law_xs", "_law_ys", "_law_picture_here", "_law_k", "_law_number", "_law_low", "_law_high"]) (sc0 := defScope s_law_picture) (by decide +kernel) rfl rfl rfl) (pi_range1 rfl T.n_range (pa_cons (pv 4) (pa_nil))) (fun _ _ _ _ _ ow nd => pg_name (i := 0) nd rfl (Or.inl (ow _ (by simp))) (Or.inr (ow _ (by simp)))) (gok_name (by decide)) (fun _ _ _ _ _ => pif_nil) (fun _ _ _ _ _ => pe_tup (pa_cons (pe_ix (r := rIxL K) ix_list (pv 1) (pv 0) (fun _ _ => rfl)) (pa_cons (pe_ix (r := rIxL K) ix_list (pv 2) (pv 0) (fun _ _ => rfl)) (pa_nil))))) (pa_nil)))))))))))))), ?_⟩
    obtain ⟨hs, q⟩ := h
    refine ⟨_, rfl, sc, ns, 0, rfl, hs, by decide, by decide, fun c0 ec0 => ⟨c0, rfl, fun w ph H1 p1 w1 w2 h1 h2 s1 hp1 => ⟨p1, _, rfl, SqT.of hp1, rfl, _, _, rfl, _, _, rfl, rfl, ?_⟩⟩⟩
    refine ⟨(by show 2 ≤ sizeLine; decide), fun q0 hq0 => ?_⟩
    have s2 : Same H (upd H1 q0 (.lst [.int 6, .int 12])) := s1.trans (same_upd (Same.refl _) hq0)
    refine ⟨_, rfl, sc, ns, 1, rfl, s2.seq hs, by decide, by decide, fun c1 ec1 => ⟨_, _, rfl, rfl, (by show (0 : Int) < 8; decide), rfl, .inr ⟨_, rfl, ?_⟩⟩⟩
    obtain ⟨mx, emx, mx1, mx2⟩ := six_at (decide (V.int (c1 % 8) = V.int 3))
    refine ⟨q0, _, _, .int mx, rfl, rfl, SqL.of upd_same, emx, _, rfl, _, rfl, _, _, _, rfl, fun m m1 m2 m3 mo => ?_⟩
    have mp : 1 ≤ m := by rcases mo with rfl | rfl | rfl <;> omega
    refine ⟨_, rfl, sc, ns, 1, rfl, s2.seq hs, by decide, by decide, fun c1' ec1' => ⟨_, _, rfl, rfl, ⟨by decide, by decide⟩, _, rfl, _, _, rfl, rfl, (by show 0 < m; omega), _, _, rfl, rfl, ?_⟩⟩
    have bm := mod_in (c1' / 8) (show 0 < m by omega)
    obtain ⟨n, hn⟩ : ∃ n : Nat, 1 + c1' / 8 % m = (n : Int) := ⟨(1 + c1' / 8 % m).toNat, by omega⟩
    have n1 : 1 ≤ n ∧ (n : Int) ≤ m := by omega
    refine ⟨_, rfl, sc, ns, 1, rfl, s2.seq hs, by decide, by decide, fun c1b ec1b => ⟨_, rfl, c1b, n, (by show [V.int c1b, V.int (1 + c1' / 8 % m)] = _; rw [hn]), by omega, fun st H2 ln est ms s3 hln => ?_⟩⟩
    refine ⟨_, rfl, sc, ns, 2, rfl, (s2.trans s3).seq hs, by decide, by decide, fun c2 ec2 => ⟨_, rfl, _, rfl, c2, w, n, (by show [V.int c2, V.int w, V.int (1 + c1' / 8 % m)] = _; rw [hn]), by omega, by omega, fun xs H3 lx lx2 ndx bx s4 hlx => ?_⟩⟩
    refine ⟨_, rfl, sc, ns, 2, rfl, ((s2.trans s3).trans s4).seq hs, by decide, by decide, fun c2b ec2b => ⟨_, _, rfl, rfl, ⟨by decide, by decide⟩, _, rfl, _, rfl, c2b / 7, ph, n, (by show [V.int (c2b / 7), V.int ph, V.int (1 + c1' / 8 % m)] = _; rw [hn]), by omega, by omega, fun ys H4 ly ly2 ndy by_ s5 hly => ?_⟩⟩
    refine ⟨_, rfl, _, rfl, fun a dx hx hdx ne => ⟨a, dx, w, ph, rfl, upd_same, by omega, by omega, by omega, by omega, fun H5 dp do_ hdp5 s6 pic5 _ => ⟨rfl, ?_⟩⟩⟩
    have k5 : Same H4 H5 := fun b u e => s6 b u (ne_of_none e hx) (by rw [upd_ne (ne_of_none e hx), upd_ne (ne_of_none e hdx)]; exact e)
    have s14 : Same H H4 := ((s2.trans s3).trans s4).trans s5
    have ndp : ∀ b u, H b = some u → b ≠ dp := fun b u e => by
      have e4 := s14 b u e
      exact ne_of_none (by rw [upd_ne (ne_of_none e4 hx), upd_ne (ne_of_none e4 hdx)]; exact e4) hdp5
    have sAll : Same H H5 := s14.trans k5
    obtain ⟨nms, hnms⟩ : ∃ nms : List Str, nms = (List.range n).map fun (k : Nat) => ltr ((c1b + st * (k : Int)) % 26) := ⟨_, rfl⟩
    have ln2 : nms.length = n := by rw [hnms]; simp
    have ndn : nms.Nodup := by rw [hnms]; exact ltrs_nd ms (by omega)
    have isn : ∀ z ∈ nms, isNm z = true := fun z hz => by
      rw [hnms] at hz
      obtain ⟨k, _, rfl⟩ := List.mem_map.mp hz
      exact isNm_ltr (mod_in _ (by decide)).1 (mod_in _ (by decide)).2
    have hln' : H2 ln = some (.lst (nms.map V.str)) := by
      rw [hln, hnms, List.map_map]
      rfl
    refine ⟨_, rfl, (n : Int), (by show [V.int (1 + c1' / 8 % m)] = _; rw [hn]), by omega, by omega, ?_⟩
    refine for_range (Pv := fun i σ H6 => ∃ (v9 v10 v11 v12 : Option V) (ps : List Pt), σ = [some (.ref sc), some (.int w), some (.int ph), some (.int m), some (.int (1 + c1' / 8 % m)), some (.ref ln), some (.ref lx), some (.ref ly), some (.ref a), v9, v10, v11, v12] ∧ Same H H6 ∧ H6 ln = some (.lst (nms.map V.str)) ∧ H6 lx = some (.lst (xs.map V.int)) ∧ H6 ly = some (.lst (ys.map V.int)) ∧
      Pic t H6 a dp do_ w ph ps ∧ ps.length = i ∧ ps.map (·.nm) = nms.take i ∧ ps.map (·.x) = xs.take i ∧ ps.map (·.y) = ys.take i) ?_ ?_ ?_
    · exact ⟨_, _, _, _, [], rfl, sAll, k5 _ _ (s5 _ _ (s4 _ _ hln')), k5 _ _ (s5 _ _ hlx), k5 _ _ hly, pic5, rfl, rfl, rfl, rfl⟩
    · rintro i σ H6 hi ⟨v9, v10, v11, v12, ps, rfl, s7, g1, g2, g3, pic6, pl, pn, px, py⟩
      have hi' : i < n := by simpa using hi
      obtain ⟨dx6, hp6⟩ := pic6.ins
      refine ⟨_, rfl, sc, ns, 3, rfl, s7.seq hs, by decide, by decide, fun c3 ec3 => ⟨_, rfl, c3, (0 + (i : Int)), rfl, fun m0 m00 m01 => ?_⟩⟩
      refine ⟨_, rfl, _, _, rfl, rfl, ⟨by decide, by decide⟩, _, rfl, _, _, rfl, rfl, (by show 0 < ph; omega), _, _, rfl, rfl, ?_⟩
      have b1 := mod_in (m0 / 3) (show 0 < ph by omega)
      refine ⟨_, rfl, _, rfl, _, _, rfl, rfl, ⟨by decide, by decide⟩, _, rfl, _, _, rfl, rfl, _, rfl, _, _, rfl, rfl, _, _, rfl, rfl, (by show 0 < ph + 1 - (1 + m0 / 3 % ph); omega), _, _, rfl, rfl, ?_⟩
      have b2 := mod_in (m0 / 64) (show 0 < ph + 1 - (1 + m0 / 3 % ph) by omega)
      have at_ : ∀ {α : Type} (zs : List α) (f : α → V) (hz : zs.length = n), atI (zs.map f) (0 + (i : Int)) = some (f (zs[i]'(by omega))) := fun {α} zs f hz => by
        rw [Int.zero_add]
        exact atI_nat (by rw [List.getElem?_map, List.getElem?_eq_getElem (by omega)]; rfl)
      obtain ⟨sd, esd, hsd⟩ := sd_at m0
      have mem_ : ∀ p ∈ ps, p.nm ≠ nms[i]'(by omega) ∧ p.x ≠ xs[i]'(by omega) ∧ p.y ≠ ys[i]'(by omega) := fun p hp => by
        have no : ∀ {α : Type} {zs : List α} (hz : i < zs.length), zs.Nodup → ∀ z ∈ zs.take i, z ≠ zs[i] := fun {α} {zs} hz nd z hm e => by
          have h1 := List.take_append_drop i zs
          rw [List.drop_eq_getElem_cons hz] at h1
          rw [← h1, List.nodup_append] at nd
          exact nd.2.2 z hm _ List.mem_cons_self e
        refine ⟨no _ ndn _ ?_, no _ ndx _ ?_, no _ ndy _ ?_⟩
        · rw [← pn]; exact List.mem_map.mpr ⟨p, hp, rfl⟩
        · rw [← px]; exact List.mem_map.mpr ⟨p, hp, rfl⟩
        · rw [← py]; exact List.mem_map.mpr ⟨p, hp, rfl⟩
      have bxi := bx (xs[i]'(by omega)) (List.getElem_mem _)
      have byi := by_ (ys[i]'(by omega)) (List.getElem_mem _)
      refine ⟨_, rfl, a, dx6, _, rfl, hp6, lk_no (by decide +kernel), _, rfl, _, rfl, ln, _, _, _, rfl, rfl, SqL.of g1, at_ nms V.str ln2, _, rfl, _, rfl, lx, _, _, _, rfl, rfl, SqL.of g2, at_ xs V.int lx2, _, rfl, _, rfl, ly, _, _, _, rfl, rfl, SqL.of g3, at_ ys V.int ly2, (by show 3 ≤ sizeLine; decide), fun q3 hq3 => ?_⟩
      have s8 : Same H6 (upd H6 q3 (.lst [.str "left", .str "both", .str "right"])) := same_upd (Same.refl _) hq3
      refine ⟨_, rfl, _, _, rfl, rfl, (by show (0 : Int) < 3; decide), q3, _, _, .str sd, rfl, rfl, SqL.of upd_same, esd, _, rfl, _, rfl, ?_⟩
      refine ⟨a, dp, do_, w, ph, ps, nms[i]'(by omega), xs[i]'(by omega), ys[i]'(by omega), sd, 1 + m0 / 3 % ph, 1 + m0 / 3 % ph + m0 / 64 % (ph + 1 - (1 + m0 / 3 % ph)), .int _, rfl, Pic.same s8 pic6, .inr rfl, isn _ (List.getElem_mem _), bxi.1, bxi.2, byi.1, byi.2, hsd, by omega, by omega, by omega, mem_, by omega, fun H7 k7 pic7 => ?_⟩
      obtain ⟨kvs, hk, _⟩ := pic6.pl
      have tk : ∀ {α : Type} {zs : List α} (hz : i < zs.length), zs.take (i + 1) = zs.take i ++ [zs[i]] := fun {α} {zs} hz => by
        rw [List.take_add_one, List.getElem?_eq_getElem hz]
        rfl
      refine ⟨_, _, _, _, _, rfl, fun b u e => k7 b u (ndp b u e) (s8 _ _ (s7 b u e)), k7 _ _ (ne_of g1 hk (fun z => nomatch z)) (s8 _ _ g1), k7 _ _ (ne_of g2 hk (fun z => nomatch z)) (s8 _ _ g2), k7 _ _ (ne_of g3 hk (fun z => nomatch z)) (s8 _ _ g3), pic7, by simp [pl], ?_, ?_, ?_⟩
      · rw [List.map_append, pn, tk (by omega)]; rfl
      · rw [List.map_append, px, tk (by omega)]; rfl
      · rw [List.map_append, py, tk (by omega)]; rfl
    · rintro σ H6 ⟨v9, v10, v11, v12, ps, rfl, s7, g1, g2, g3, pic6, pl, pn, px, py⟩
      have pl' : ps.length = n := by simpa using pl
      have tkn : ∀ {α : Type} {zs : List α}, zs.length = n → zs.take ((n : Int).toNat) = zs := fun {α} {zs} hz => by
        rw [List.take_of_length_le (by omega)]
      rw [tkn ln2] at pn
      rw [tkn lx2] at px
      rw [tkn ly2] at py
      refine ⟨_, rfl, _, rfl, _, rfl, (n : Int), (by show [V.int (1 + c1' / 8 % m)] = _; rw [hn]), by omega, by omega, fun l hl => ?_⟩
      refine compG_by n (fun i zs H2 => ∃ qs : List Addr, zs = qs.map V.ref ∧ qs.length = i ∧ Same H6 H2 ∧ H2 l = some (.lst zs) ∧ Sps H2 (ps.take i) qs) ?_ ?_ ?_ ?_
      · exact ⟨[], rfl, rfl, same_upd (Same.refl _) hl, upd_same, by simpa using Sps.nil⟩
      · rintro i zs H2 lt _
        show i < ((n : Nat) : Int).toNat
        simpa using lt
      · rintro i zs H2 v H3 lt ⟨qs, rfl, ql, s8, hl2, sp⟩ ⟨rfl, rfl⟩ N hN
        refine gT_if ?_
        have at_ : ∀ {α : Type} (zs : List α) (f : α → V) (hz : zs.length = n), atI (zs.map f) (0 + (i : Int)) = some (f (zs[i]'(by omega))) := fun {α} zs f hz => by
          rw [Int.zero_add]
          exact atI_nat (by rw [List.getElem?_map, List.getElem?_eq_getElem (by omega)]; rfl)
        refine ⟨_, rfl, _, rfl, lx, _, _, _, rfl, rfl, SqL.of (s8 _ _ g2), at_ xs V.int lx2, _, rfl, _, rfl, ly, _, _, _, rfl, rfl, SqL.of (s8 _ _ g3), at_ ys V.int ly2, (by show 2 ≤ sizeLine; decide), fun q3 hq3 => ?_⟩
        have up : Same H3 (upd H3 q3 (.tup [.int (xs[i]'(by omega)), .int (ys[i]'(by omega))])) := same_upd (Same.refl _) hq3
        have pi : ps[i]? = some (ps[i]'(by omega)) := List.getElem?_eq_getElem _
        have ex : (ps[i]'(by omega)).x = xs[i]'(by omega) := by
          have : (ps.map (·.x))[i]? = xs[i]? := by rw [px]
          rw [List.getElem?_map, pi, List.getElem?_eq_getElem (by omega)] at this
          simpa using this
        have ey : (ps[i]'(by omega)).y = ys[i]'(by omega) := by
          have : (ps.map (·.y))[i]? = ys[i]? := by rw [py]
          rw [List.getElem?_map, pi, List.getElem?_eq_getElem (by omega)] at this
          simpa using this
        have nq : l ≠ q3 := ne_of_none hl2 hq3
        refine ⟨up _ _ hl2, by rw [List.length_map]; exact Nat.lt_trans (by omega : qs.length < 13) (by decide), hN _ _ ⟨qs ++ [q3], by simp, by simp [ql], fun b u e => ?_, upd_same, ?_⟩⟩
        · rw [upd_ne (ne_of_none e hl)]
          exact up _ _ (s8 b u e)
        · rw [List.take_add_one, pi]
          refine Sps.snoc (Sps.keep (fun b xs e => ?_) sp) ?_
          · have e2 := up _ _ e
            rw [upd_ne (ne_of e2 (up _ _ hl2) (fun z => nomatch z))]
            exact e2
          · rw [upd_ne (Ne.symm nq), upd_same, ex, ey]
      · rintro zs H2 ⟨qs, rfl, ql, s8, hl2, sp⟩
        refine ⟨by simp [Itr], (by show 3 ≤ sizeLine; decide), fun tp htp => ?_⟩
        have s9 : Same H2 (upd H2 tp (.tup [.ref a, .ref ln, .ref l])) := same_upd (Same.refl _) htp
        rw [← pl', List.take_length] at sp
        refine q _ tp a ln l w ph ps ((s7.trans s8).trans s9) upd_same (PicL.same s9 ⟨⟨dp, do_, Pic.same s8 pic6⟩, ?_, ⟨qs, hl2, sp⟩, ?_, ?_, ?_, by omega, by omega⟩) ⟨st, ms, ec1b ▸ est, ?_⟩
        · show _ = some (HO.lst (ps.map fun p => V.str p.nm))
          rw [s8 _ _ g1, ← pn, List.map_map]
          rfl
        · intro p hp
          exact isn _ (by rw [← pn]; exact List.mem_map.mpr ⟨p, hp, rfl⟩)
        · rw [pn]
          exact ndn
        · intro p hp
          have h1 := bx p.x (by rw [← px]; exact List.mem_map.mpr ⟨p, hp, rfl⟩)
          have h2 := by_ p.y (by rw [← py]; exact List.mem_map.mpr ⟨p, hp, rfl⟩)
          exact ⟨h1.1, h1.2, h2.1, h2.2⟩

        · rw [pn, hnms, pl', ← ec1b]
end
end S11

set_option maxRecDepth 100000
set_option maxHeartbeats 4000000
namespace S11
open PySem L2 XL PyProof.Rows
/-- a comprehension over a plain range whose element is a new cell -/
theorem comp_cellsR {σ : L2.St} {fr : List Nat} {te : TE} {l : Addr} {H1 : Hp} {Q : VK} {lo : Int} {n : Nat} (f : Nat → Int × Int) (hl : H1 l = none) (hn : n < 1000)
    (hte : ∀ (i : Nat) (H2 : Hp) (R : VK), i < n → (∀ p, H2 p = none → R (.ref p) (upd H2 p (.tup [.int (f i).1, .int (f i).2]))) → te ((blk0 σ fr 1).set 0 (some (.int (lo + (i : Int))))) H2 R)
    (fin : ∀ (H2 : Hp) (qs : List Addr), Same H1 H2 → H2 l = some (.lst (qs.map V.ref)) → CellsL H2 ((List.range n).map f) qs → Q (.ref l) H2) : CompG (Itr lo n) 1 (gName 0) σ fr tTrue te l H1 Q := by
  refine compG_by n (fun i xs H2 => ∃ qs : List Addr, xs = qs.map V.ref ∧ qs.length ≤ i ∧ Same H1 H2 ∧ H2 l = some (.lst xs) ∧ CellsL H2 ((List.range i).map f) qs) ?_ ?_ ?_ ?_
  · exact ⟨[], rfl, Nat.le_refl _, same_upd (Same.refl _) hl, upd_same, .nil⟩
  · rintro i xs H2 lt _
    exact lt
  · rintro i xs H2 v H3 lt ⟨qs, rfl, ql, s2, hl2, cl⟩ ⟨rfl, rfl⟩ N hN
    refine gT_if ?_
    refine hte i _ _ lt fun p hp => ⟨?_, ?_, hN _ _ ⟨qs ++ [p], by simp, by simp; omega, ?_, upd_same, ?_⟩⟩
    · rw [upd_ne (ne_of_none hl2 hp)]
      exact hl2
    · rw [List.length_map]
      exact Nat.lt_of_le_of_lt ql (Nat.lt_trans lt (Nat.lt_of_lt_of_le hn (by decide)))
    · intro b u e
      have nb : b ≠ l := ne_of_none e hl
      rw [upd_ne nb, upd_ne (ne_of_none (s2 _ _ e) hp)]
      exact s2 _ _ e
    · rw [List.range_succ, List.map_append]
      refine CellsL.snoc (CellsL.keep (fun b xs e => ?_) cl) ?_
      · rw [upd_ne (ne_of e hl2 (fun z => nomatch z)), upd_ne (ne_of_none e hp)]
        exact e
      · rw [upd_ne (Ne.symm (ne_of_none hl2 hp))]
        exact upd_same
  · rintro xs H2 ⟨qs, rfl, _, s2, hl2, cl⟩
    exact ⟨Nat.le_refl _, fin H2 qs s2 hl2 cl⟩
theorem due_up {x y r s : Int} {n : Nat} (hn : (n : Int) = if r - y < 0 then -(r - y) else r - y) (hs : s = if r < y then -1 else 1) :
    (List.range (n + 1)).map (fun (k : Nat) => (x, y + s * (0 + (k : Int)))) = Geo.upL x y r ++ [(x, r)] := by
  have e : Geo.upL x y r = (List.range n).map (fun (k : Nat) => (x, y + s * (0 + (k : Int)))) := by
    unfold Geo.upL
    have hu : Geo.upN y r = n := by unfold Geo.upN; split <;> split at hn <;> omega
    rw [hu]
    refine List.map_congr_left fun k hk => ?_
    rw [List.mem_range] at hk
    have hd : Geo.dn y r = s := by unfold Geo.dn; rw [hs]; split <;> split <;> (try rfl) <;> (split at hn <;> omega)
    rw [hd, Int.zero_add, Int.mul_comm]
  rw [List.range_succ, List.map_append, ← e]
  have h2 : y + s * (0 + (n : Int)) = r := by
    rw [hs, Int.zero_add]
    split <;> split at hn <;> omega
  show _ ++ [(x, y + s * (0 + (n : Int)))] = _
  rw [h2]
theorem due_left {w x r : Int} (h1 : 1 ≤ x) : Geo.lvL w x true r = (x, r) :: (List.range (x + 1 - 1).toNat).map (fun (k : Nat) => (x - (1 + (k : Int)), r)) := by
  unfold Geo.lvL Geo.lvN Geo.wayI
  rw [if_pos rfl, if_pos rfl, show (x + 1).toNat = (x + 1 - 1).toNat + 1 from by omega, List.range_succ_eq_map, List.map_cons, List.map_map]
  congr 1
  · simp
  · refine List.map_congr_left fun k _ => ?_
    show (x + ((k + 1 : Nat) : Int) * -1, r) = _
    congr 1
    omega
theorem due_right {w x r : Int} (h1 : x ≤ w) : Geo.lvL w x false r = (x, r) :: (List.range (w + 2 - x - 1).toNat).map (fun (k : Nat) => (x + (1 + (k : Int)), r)) := by
  unfold Geo.lvL Geo.lvN Geo.wayI
  rw [if_neg Bool.false_ne_true, if_neg Bool.false_ne_true, show (w + 2 - x).toNat = (w + 2 - x - 1).toNat + 1 from by omega, List.range_succ_eq_map, List.map_cons, List.map_map]
  congr 1
  · simp
  · refine List.map_congr_left fun k _ => ?_
    show (x + ((k + 1 : Nat) : Int) * 1, r) = _
    congr 1
    omega
def spDue : Sp := fun vs H Q _ => ∃ (w x y r : Int) (b : Bool) (sp : Addr), vs = [.int w, .ref sp, .str (sideW b), .int r] ∧ H sp = some (.tup [.int x, .int y]) ∧ (1 ≤ x ∧ x ≤ w ∧ w ≤ 30) ∧ (1 ≤ y ∧ y ≤ 16) ∧ (1 ≤ r ∧ r ≤ 16) ∧
  ∀ H' l qs, H l = none → Same H H' → H' l = some (.lst (qs.map V.ref)) → CellsL H' (Geo.cells w x y b r) qs → qs.length < 100 → Q (.ref l) H'
section
variable {P : Program} {w : World} {K : PySem.W.Frag} {mg : Str → Option Value} {base : Heap} {t : Adr}
theorem ok_law_due (T : Txt w K mg t) : FnOk true P w K mg base (CXo P w) 1 t.f_law_due t.d_law_due ["_law_width", "_law_spot", "_law_side", "_law_row"] (spDue) := by
  refine T.F_law_due.okn (k := 0) sc_law_due (fun vs H Q E h => ?_) (fun cdv A outer s H vs Q E hr h => ?_)
  · obtain ⟨w, x, y, r, b, sp, rfl, _⟩ := h
    rfl
  · obtain ⟨w, x, y, r, b, sp, rfl, h⟩ := h
    refine ⟨_, pss_cons (ps_asg (pv 1) (pg_tup rfl (pgs_cons (pg_name (i := 4) sc_law_due.nd rfl (Or.inr rfl)) (pgs_cons (pg_name (i := 5) sc_law_due.nd rfl (Or.inr rfl)) (pgs_nil)))))
      (pss_cons (ps_set (i := 6) sc_law_due.nd rfl (Or.inr rfl) (pe_int))
      (pss_cons (ps_if (pt_cmpR op_lt (pv 3) (pv 5) (nomark _)) (pss_one (ps_set (i := 6) sc_law_due.nd rfl (Or.inr rfl) (pe_un un_neg (pe_int)))) (pss_nil))
      (pss_cons (ps_setcG rfl (blkG_of (zs := ["_law_k"]) (ys := ["_law_x", "_law_y", "_law_step"]) (fr := [4, 5, 6]) (N0 := ["_law_width", "_law_spot", "_law_side", "_law_row", "_law_x", "_law_y", "_law_step", "_law_found"]) (sc0 := defScope s_law_due) (by decide +kernel) rfl rfl rfl) (pi_range1 rfl T.n_range (pa_cons (pe_op op_add (pe_callB call_abs rfl T.n_abs boot_abs (pa_cons (pe_op op_sub (pv 3) (pv 5)) (pa_nil))) (pe_int)) (pa_nil))) (fun _ _ _ _ _ ow nd => pg_name (i := 0) nd rfl (Or.inl (ow _ (by simp))) (Or.inr (ow _ (by simp)))) (gok_name (by decide)) (fun _ _ _ _ _ => pif_nil) (fun _ _ _ _ _ => pe_tup (pa_cons (pv 1) (pa_cons (pe_op op_add (pv 2) (pe_op op_mul (pv 3) (pv 0))) (pa_nil)))) (j := 7) rfl (Or.inl rfl))
      (pss_cons (ps_if (pt_cmpR op_eq (pv 2) (pe_str) (nomark _)) (pss_one (ps_ret (pe_op op_cat (pv 7) (pe_compG rfl (blkG_of (zs := ["_law_k"]) (ys := ["_law_row", "_law_x"]) (fr := [3, 4]) (N0 := ["_law_width", "_law_spot", "_law_side", "_law_row", "_law_x", "_law_y", "_law_step", "_law_found"]) (sc0 := defScope s_law_due) (by decide +kernel) rfl rfl rfl) (pi_range2 rfl T.n_range (pa_cons (pe_int) (pa_cons (pe_op op_add (pv 4) (pe_int)) (pa_nil)))) (fun _ _ _ _ _ ow nd => pg_name (i := 0) nd rfl (Or.inl (ow _ (by simp))) (Or.inr (ow _ (by simp)))) (gok_name (by decide)) (fun _ _ _ _ _ => pif_nil) (fun _ _ _ _ _ => pe_tup (pa_cons (pe_op op_sub (pv 2) (pv 0)) (pa_cons (pv 1) (pa_nil)))))))) (pss_nil))
      (pss_one (ps_ret (pe_op op_cat (pv 7) (pe_compG rfl (blkG_of (zs := ["_law_k"]) (ys := ["_law_row", "_law_x"]) (fr := [3, 4]) (N0 := ["_law_width", "_law_spot", "_law_side", "_law_row", "_law_x", "_law_y", "_law_step", "_law_found"]) (sc0 := defScope s_law_due) (by decide +kernel) rfl rfl rfl) (pi_range2 rfl T.n_range (pa_cons (pe_int) (pa_cons (pe_op op_sub (pe_op op_add (pv 0) (pe_int)) (pv 4)) (pa_nil)))) (fun _ _ _ _ _ ow nd => pg_name (i := 0) nd rfl (Or.inl (ow _ (by simp))) (Or.inr (ow _ (by simp)))) (gok_name (by decide)) (fun _ _ _ _ _ => pif_nil) (fun _ _ _ _ _ => pe_tup (pa_cons (pe_op op_add (pv 2) (pv 0)) (pa_cons (pv 1) (pa_nil)))))))))))), ?_⟩
    obtain ⟨hsp, ⟨x1, x2, w2⟩, ⟨y1, y2⟩, ⟨r1, r2⟩, q⟩ := h
    refine ⟨_, rfl, sp, _, rfl, SqT.of hsp, rfl, _, _, rfl, _, _, rfl, rfl, ?_⟩
    refine ⟨_, rfl, _, rfl, _, _, rfl, rfl, _, rfl, ite2 (fun c => ⟨1, rfl, ?_⟩) (fun c => ?_)⟩
    · have c' : r < y := by simpa using c
      refine ⟨_, rfl, _, rfl, _, _, rfl, rfl, _, rfl, _, _, rfl, rfl, _, rfl, ?_, ?_, fun l1 hl1 => ?_⟩
      · split <;> omega
      · split <;> omega
      obtain ⟨n, hn⟩ : ∃ n : Nat, (n : Int) = if r - y < 0 then -(r - y) else r - y := ⟨(if r - y < 0 then -(r - y) else r - y).toNat, by split <;> omega⟩
      have hn' : ((if r - y < 0 then -(r - y) else r - y) + 1).toNat = n + 1 := by omega
      show CompG (Itr 0 ((if r - y < 0 then -(r - y) else r - y) + 1).toNat) _ _ _ _ _ _ _ _ _
      rw [hn']
      have n16 : n < 17 := by split at hn <;> omega
      refine comp_cellsR (fun k => (x, y + (-1) * (0 + (k : Int)))) hl1 (by omega) (fun i H R _ k => ⟨_, rfl, _, rfl, _, rfl, _, rfl, _, _, rfl, rfl, .inl ⟨by decide, by decide⟩, _, _, rfl, rfl, (by show 2 ≤ sizeLine; decide), k⟩) fun H4 qs1 s4 hu4 cu4 => ?_
      rw [due_up (s := (-1)) hn (by rw [if_pos c'])] at cu4
      cases b with
      | true =>
        refine ⟨_, rfl, rfl, _, rfl, ?_⟩
        refine ifP (by decide +kernel) ?_
        refine ⟨_, rfl, _, rfl, _, _, rfl, rfl, 1, x + 1, rfl, ⟨by decide, by decide, by omega, by omega⟩, fun l2 hl2 => ?_⟩
        refine comp_cellsR (fun k => (x - (1 + (k : Int)), r)) hl2 (by omega) (fun i H R _ k => ⟨_, rfl, _, rfl, _, _, rfl, rfl, _, rfl, (by show 2 ≤ sizeLine; decide), k⟩) fun H5 qs2 s5 hu5 cu5 => ?_
        have c1 : CellsL H5 (Geo.cells w x y true r) (qs1 ++ qs2) := by
          have z := (cu4.keep (Same.tups s5)).append cu5
          rw [List.append_assoc, List.singleton_append] at z
          unfold Geo.cells
          rw [due_left x1]
          exact z
        have lq := c1.len
        rw [List.length_append] at lq
        have b1 : (Geo.cells w x y true r).length < 50 := by
          unfold Geo.cells Geo.upL Geo.upN Geo.lvL Geo.lvN
          rw [List.length_append, List.length_map, List.length_range, List.length_map, List.length_range]
          split <;> split <;> omega
        refine ⟨l1, l2, _, _, rfl, rfl, s5 _ _ hu4, hu5, (by rw [List.length_map, List.length_map]; exact Nat.le_of_lt (Nat.lt_trans (by omega : qs1.length + qs2.length < 100) (by decide))), fun p6 hp6 => ?_⟩
        refine q _ p6 (qs1 ++ qs2) ((s4.trans s5).free hp6) (same_upd (s4.trans s5) hp6) (by rw [List.map_append]; exact upd_same) (c1.keep (Same.tups (same_upd (Same.refl _) hp6))) (by rw [List.length_append]; omega)
      | false =>
        refine ⟨_, rfl, rfl, _, rfl, ?_⟩
        refine ifN (by decide +kernel) ?_
        refine ⟨_, rfl, _, rfl, _, _, rfl, rfl, _, rfl, _, _, rfl, rfl, 1, w + 2 - x, rfl, ⟨by decide, by decide, by omega, by omega⟩, fun l2 hl2 => ?_⟩
        refine comp_cellsR (fun k => (x + (1 + (k : Int)), r)) hl2 (by omega) (fun i H R _ k => ⟨_, rfl, _, rfl, _, _, rfl, rfl, _, rfl, (by show 2 ≤ sizeLine; decide), k⟩) fun H5 qs2 s5 hu5 cu5 => ?_
        have c1 : CellsL H5 (Geo.cells w x y false r) (qs1 ++ qs2) := by
          have z := (cu4.keep (Same.tups s5)).append cu5
          rw [List.append_assoc, List.singleton_append] at z
          unfold Geo.cells
          rw [due_right x2]
          exact z
        have lq := c1.len
        rw [List.length_append] at lq
        have b1 : (Geo.cells w x y false r).length < 50 := by
          unfold Geo.cells Geo.upL Geo.upN Geo.lvL Geo.lvN
          rw [List.length_append, List.length_map, List.length_range, List.length_map, List.length_range]
          split <;> split <;> omega
        refine ⟨l1, l2, _, _, rfl, rfl, s5 _ _ hu4, hu5, (by rw [List.length_map, List.length_map]; exact Nat.le_of_lt (Nat.lt_trans (by omega : qs1.length + qs2.length < 100) (by decide))), fun p6 hp6 => ?_⟩
        refine q _ p6 (qs1 ++ qs2) ((s4.trans s5).free hp6) (same_upd (s4.trans s5) hp6) (by rw [List.map_append]; exact upd_same) (c1.keep (Same.tups (same_upd (Same.refl _) hp6))) (by rw [List.length_append]; omega)
    · have c' : ¬ r < y := by simpa using c
      refine ⟨_, rfl, _, rfl, _, _, rfl, rfl, _, rfl, _, _, rfl, rfl, _, rfl, ?_, ?_, fun l1 hl1 => ?_⟩
      · split <;> omega
      · split <;> omega
      obtain ⟨n, hn⟩ : ∃ n : Nat, (n : Int) = if r - y < 0 then -(r - y) else r - y := ⟨(if r - y < 0 then -(r - y) else r - y).toNat, by split <;> omega⟩
      have hn' : ((if r - y < 0 then -(r - y) else r - y) + 1).toNat = n + 1 := by omega
      show CompG (Itr 0 ((if r - y < 0 then -(r - y) else r - y) + 1).toNat) _ _ _ _ _ _ _ _ _
      rw [hn']
      have n16 : n < 17 := by split at hn <;> omega
      refine comp_cellsR (fun k => (x, y + 1 * (0 + (k : Int)))) hl1 (by omega) (fun i H R _ k => ⟨_, rfl, _, rfl, _, rfl, _, rfl, _, _, rfl, rfl, .inl ⟨by decide, by decide⟩, _, _, rfl, rfl, (by show 2 ≤ sizeLine; decide), k⟩) fun H4 qs1 s4 hu4 cu4 => ?_
      rw [due_up (s := 1) hn (by rw [if_neg c'])] at cu4
      cases b with
      | true =>
        refine ⟨_, rfl, rfl, _, rfl, ?_⟩
        refine ifP (by decide +kernel) ?_
        refine ⟨_, rfl, _, rfl, _, _, rfl, rfl, 1, x + 1, rfl, ⟨by decide, by decide, by omega, by omega⟩, fun l2 hl2 => ?_⟩
        refine comp_cellsR (fun k => (x - (1 + (k : Int)), r)) hl2 (by omega) (fun i H R _ k => ⟨_, rfl, _, rfl, _, _, rfl, rfl, _, rfl, (by show 2 ≤ sizeLine; decide), k⟩) fun H5 qs2 s5 hu5 cu5 => ?_
        have c1 : CellsL H5 (Geo.cells w x y true r) (qs1 ++ qs2) := by
          have z := (cu4.keep (Same.tups s5)).append cu5
          rw [List.append_assoc, List.singleton_append] at z
          unfold Geo.cells
          rw [due_left x1]
          exact z
        have lq := c1.len
        rw [List.length_append] at lq
        have b1 : (Geo.cells w x y true r).length < 50 := by
          unfold Geo.cells Geo.upL Geo.upN Geo.lvL Geo.lvN
          rw [List.length_append, List.length_map, List.length_range, List.length_map, List.length_range]
          split <;> split <;> omega
        refine ⟨l1, l2, _, _, rfl, rfl, s5 _ _ hu4, hu5, (by rw [List.length_map, List.length_map]; exact Nat.le_of_lt (Nat.lt_trans (by omega : qs1.length + qs2.length < 100) (by decide))), fun p6 hp6 => ?_⟩
        refine q _ p6 (qs1 ++ qs2) ((s4.trans s5).free hp6) (same_upd (s4.trans s5) hp6) (by rw [List.map_append]; exact upd_same) (c1.keep (Same.tups (same_upd (Same.refl _) hp6))) (by rw [List.length_append]; omega)
      | false =>
        refine ⟨_, rfl, rfl, _, rfl, ?_⟩
        refine ifN (by decide +kernel) ?_
        refine ⟨_, rfl, _, rfl, _, _, rfl, rfl, _, rfl, _, _, rfl, rfl, 1, w + 2 - x, rfl, ⟨by decide, by decide, by omega, by omega⟩, fun l2 hl2 => ?_⟩
        refine comp_cellsR (fun k => (x + (1 + (k : Int)), r)) hl2 (by omega) (fun i H R _ k => ⟨_, rfl, _, rfl, _, _, rfl, rfl, _, rfl, (by show 2 ≤ sizeLine; decide), k⟩) fun H5 qs2 s5 hu5 cu5 => ?_
        have c1 : CellsL H5 (Geo.cells w x y false r) (qs1 ++ qs2) := by
          have z := (cu4.keep (Same.tups s5)).append cu5
          rw [List.append_assoc, List.singleton_append] at z
          unfold Geo.cells
          rw [due_right x2]
          exact z
        have lq := c1.len
        rw [List.length_append] at lq
        have b1 : (Geo.cells w x y false r).length < 50 := by
          unfold Geo.cells Geo.upL Geo.upN Geo.lvL Geo.lvN
          rw [List.length_append, List.length_map, List.length_range, List.length_map, List.length_range]
          split <;> split <;> omega
        refine ⟨l1, l2, _, _, rfl, rfl, s5 _ _ hu4, hu5, (by rw [List.length_map, List.length_map]; exact Nat.le_of_lt (Nat.lt_trans (by omega : qs1.length + qs2.length < 100) (by decide))), fun p6 hp6 => ?_⟩
        refine q _ p6 (qs1 ++ qs2) ((s4.trans s5).free hp6) (same_upd (s4.trans s5) hp6) (by rw [List.map_append]; exact upd_same) (c1.keep (Same.tups (same_upd (Same.refl _) hp6))) (by rw [List.length_append]; omega)
end
end S11

set_option maxRecDepth 100000
set_option maxHeartbeats 4000000
namespace S11
open PySem L2 XL PyProof.Rows
/-- a value that is like itself -/
def OkV (H : Hp) (v : V) : Prop := scalV v = true ∨ ∃ p xs, v = .ref p ∧ H p = some (.tup xs)
def spSame : Sp := fun vs H Q _ => ∃ (v : V), vs = [v, v] ∧ OkV H v ∧ Q (.bl true) H
def spTold (t : Adr) : Sp := fun vs H Q _ => ∃ (a dp do_ : Addr) (pw ph : Int) (ps : List Pt) (n v r : V) (C : Addr) (f : Str) (x : V) (wd : Str), vs = [.ref a, n, v, r] ∧ Pic t H a dp do_ pw ph ps ∧ Trb t H ps ph n v r C f x wd ∧ ∀ H' p, Same H H' → H' p = some (.tup [.str wd, x]) → Q (.ref p) H'
section
variable {P : Program} {w : World} {K : PySem.W.Frag} {mg : Str → Option Value} {base : Heap} {t : Adr}
theorem ok_law_same (T : Txt w K mg t) : FnOk true P w K mg base (CXo P w) 1 t.f_law_same t.d_law_same ["_law_found", "_law_due_here"] (spSame) := by
  refine T.F_law_same.okn (k := 0) sc_law_same (fun vs H Q E h => ?_) (fun cdv A outer s H vs Q E hr h => ?_)
  · obtain ⟨v, rfl, _⟩ := h
    rfl
  · obtain ⟨v, rfl, h⟩ := h
    refine ⟨_, pss_one (ps_ret (pe_and (pe_cmpR op_eq (pe_callB call_isin rfl T.n_isinstance boot_isinstance (pa_cons (pv 0) (pa_cons (pe_bltn (v := .ty "bool") rfl T.n_bool boot_bool rfl) (pa_nil)))) (pe_callB call_isin rfl T.n_isinstance boot_isinstance (pa_cons (pv 1) (pa_cons (pe_bltn (v := .ty "bool") rfl T.n_bool boot_bool rfl) (pa_nil)))) (nomark _)) (pe_one (pe_cmpR (op_eq.or (op_eqS hr.units0)) (pv 0) (pv 1) (nomark _))))), ?_⟩
    obtain ⟨ov, q⟩ := h
    rcases ov with sc | ⟨p, xs, rfl, hp⟩
    · cases v with
      | int i =>
        refine ⟨_, rfl, _, _, rfl, .inl ⟨_, _, false, .int i, rfl, (by rfl), _, rfl, _, _, rfl, .inl ⟨_, _, false, .int i, rfl, (by rfl), rfl, true, rfl, iteT ?_⟩⟩⟩
        exact ⟨_, rfl, _, rfl, .inl ⟨rfl, by rw [decide_eq_true rfl]; exact q⟩⟩
      | bl b =>
        refine ⟨_, rfl, _, _, rfl, .inl ⟨_, _, true, .bl b, rfl, kit_same, _, rfl, _, _, rfl, .inl ⟨_, _, true, .bl b, rfl, kit_same, rfl, true, rfl, iteT ?_⟩⟩⟩
        exact ⟨_, rfl, _, rfl, .inl ⟨rfl, by rw [decide_eq_true rfl]; exact q⟩⟩
      | str y =>
        refine ⟨_, rfl, _, _, rfl, .inl ⟨_, _, false, .str y, rfl, (by rfl), _, rfl, _, _, rfl, .inl ⟨_, _, false, .str y, rfl, (by rfl), rfl, true, rfl, iteT ?_⟩⟩⟩
        exact ⟨_, rfl, _, rfl, .inl ⟨rfl, by rw [decide_eq_true rfl]; exact q⟩⟩
      | non =>
        refine ⟨_, rfl, _, _, rfl, .inl ⟨_, _, false, .non, rfl, (by rfl), _, rfl, _, _, rfl, .inl ⟨_, _, false, .non, rfl, (by rfl), rfl, true, rfl, iteT ?_⟩⟩⟩
        exact ⟨_, rfl, _, rfl, .inl ⟨rfl, by rw [decide_eq_true rfl]; exact q⟩⟩
      | _ => cases sc
    · refine ⟨_, rfl, _, _, rfl, .inl ⟨_, _, false, .tup hp, rfl, (by rfl), _, rfl, _, _, rfl, .inl ⟨_, _, false, .tup hp, rfl, (by rfl), rfl, true, rfl, iteT ?_⟩⟩⟩
      exact ⟨_, rfl, _, rfl, .inr ⟨p, xs, rfl, rfl, .inr (SqT.of hp), q⟩⟩
theorem ok_law_told (T : Txt w K mg t) : FnOk true P w K mg base (CXo P w) 7 t.f_law_told t.d_law_told ["_law_picture_here", "_law_name", "_law_side", "_law_row"] (spTold t) := by
  refine T.F_law_told.okn (k := 6) sc_law_told (fun vs H Q E h => ?_) (fun cdv A outer s H vs Q E hr h => ?_)
  · obtain ⟨a, dp, do_, pw, ph, ps, n, v, r, C, f, x, wd, rfl, _⟩ := h
    rfl
  · obtain ⟨a, dp, do_, pw, ph, ps, n, v, r, C, f, x, wd, rfl, h⟩ := h
    refine ⟨_, pss_cons (ps_set (i := 4) sc_law_told.nd rfl (Or.inl rfl) (pe_tup (pa_cons (pe_str) (pa_cons (pe_non) (pa_nil)))))
      (pss_cons (ps_try3 (E := (fun σ' e C' H' => ∃ v4, σ' = [some (.ref a), some n, some v, some r, some v4, none] ∧ C' = C ∧ Raised H H' e C f x)) rfl T.g_NoPoint T.mk_NoPoint rfl T.g_NoSide T.mk_NoSide rfl T.g_NoRow T.mk_NoRow sc_law_told.nd (j := 5) rfl rfl rfl rfl (fun _ _ tk => pss_one (ps_expr (pe_call (okE_cells_of T) (hr.mono (by decide)) rfl T.g_cells_of T.F_cells_of.kp T.b_cells_of .nil tk.pass (pa_cons (pv 0) (pa_cons (pv 1) (pa_cons (pv 2) (pa_cons (pv 3) (pa_nil)))))))) (fun _ => pss_one (ps_set (i := 4) sc_law_told.nd rfl (Or.inl rfl) (pe_tup (pa_cons (pe_str) (pa_cons ((pe_xfld (pv 5) rfl : PE _ _ (tXF K _ _))) (pa_nil)))))) (fun _ => pss_one (ps_set (i := 4) sc_law_told.nd rfl (Or.inl rfl) (pe_tup (pa_cons (pe_str) (pa_cons ((pe_xfld (pv 5) rfl : PE _ _ (tXF K _ _))) (pa_nil)))))) (fun _ => pss_one (ps_set (i := 4) sc_law_told.nd rfl (Or.inl rfl) (pe_tup (pa_cons (pe_str) (pa_cons ((pe_xfld (pv 5) rfl : PE _ _ (tXF K _ _))) (pa_nil)))))))
      (pss_one (ps_ret (pv 4)))), ?_⟩
    obtain ⟨pic, trb, q⟩ := h
    refine ⟨(by show 2 ≤ sizeLine; decide), fun p0 hp0 => ?_⟩
    have s0 : Same H (upd H p0 (.tup [.str "none", .non])) := same_upd (Same.refl _) hp0
    refine ⟨⟨_, rfl, _, rfl, _, rfl, _, rfl, a, dp, do_, pw, ph, ps, n, v, r, C, f, x, wd, rfl, Pic.same s0 pic, trb.same s0, fun e H' z => ⟨_, rfl, rfl, z.trans s0⟩⟩, ?_⟩
    rintro σ' e C' H' ⟨v4, rfl, rfl, dx, sm, h1, h2⟩
    rcases trb with ⟨rfl, rfl, rfl, rfl, bad⟩ | ⟨rfl, rfl, rfl, rfl, gd, th⟩ | ⟨rfl, rfl, rfl, rfl, gd, b, sr, wr⟩
    · exact ⟨T.mk_NoPoint, .inl ⟨T.mro_NoPoint_NoPoint, _, rfl, e, _, dx, _, _, rfl, h1, h2, T.x_NoPoint, T.n_NoPoint_name, (by simp), (by show 2 ≤ sizeLine; decide), fun p hp => ⟨_, rfl, q _ p (same_upd sm hp) upd_same⟩⟩⟩
    · exact ⟨T.mk_NoSide, .inr (.inl ⟨T.mro_NoSide_NoPoint, T.mro_NoSide_NoSide, _, rfl, e, _, dx, _, _, rfl, h1, h2, T.x_NoSide, T.n_NoSide_side, (by simp), (by show 2 ≤ sizeLine; decide), fun p hp => ⟨_, rfl, q _ p (same_upd sm hp) upd_same⟩⟩)⟩
    · exact ⟨T.mk_NoRow, .inr (.inr ⟨T.mro_NoRow_NoPoint, T.mro_NoRow_NoSide, T.mro_NoRow_NoRow, _, rfl, e, _, dx, _, _, rfl, h1, h2, T.x_NoRow, T.n_NoRow_row, (by simp), (by show 2 ≤ sizeLine; decide), fun p hp => ⟨_, rfl, q _ p (same_upd sm hp) upd_same⟩⟩)⟩
end
end S11

set_option maxRecDepth 100000
set_option maxHeartbeats 4000000
namespace S11
open PySem L2 XL PyProof.Rows
theorem bad_at {H : Hp} {ps : List Pt} {ot : Str} {q : Addr} (m : Int) (hq : H q = some (.tup [.str "a"])) (ol : ot.length ≤ 1000) (no : ∀ p ∈ ps, p.nm ≠ ot) :
    ∃ v, atI [V.str ot, .str "A", .str "", .non, .int 7, .str "ab", .ref q] (m % 7) = some v ∧ BadNm H ps v ∧ OkV H v := by
  obtain ⟨h0, h1⟩ := mod_in m (show (0 : Int) < 7 by decide)
  have : m % 7 = 0 ∨ m % 7 = 1 ∨ m % 7 = 2 ∨ m % 7 = 3 ∨ m % 7 = 4 ∨ m % 7 = 5 ∨ m % 7 = 6 := by omega
  rcases this with e | e | e | e | e | e | e <;> rw [e]
  · exact ⟨_, rfl, .inl ⟨ot, rfl, ol, .inr no⟩, .inl rfl⟩
  · exact ⟨_, rfl, .inl ⟨_, rfl, by decide +kernel, .inl (by decide +kernel)⟩, .inl rfl⟩
  · exact ⟨_, rfl, .inl ⟨_, rfl, by decide +kernel, .inl (by decide +kernel)⟩, .inl rfl⟩
  · exact ⟨_, rfl, .inr (.inl rfl), .inl rfl⟩
  · exact ⟨_, rfl, .inr (.inr (.inl ⟨_, rfl⟩)), .inl rfl⟩
  · exact ⟨_, rfl, .inl ⟨_, rfl, by decide +kernel, .inl (by decide +kernel)⟩, .inl rfl⟩
  · exact ⟨_, rfl, .inr (.inr (.inr ⟨q, _, rfl, hq⟩)), .inr ⟨q, _, rfl, hq⟩⟩
theorem side_bad (m : Int) : ∃ v, atI [V.str "both", .str "", .str "Left", .non, .bl true, .str "left "] (m % 6) = some v ∧ Thing v ∧ scalV v = true := by
  obtain ⟨h0, h1⟩ := mod_in m (show (0 : Int) < 6 by decide)
  have : m % 6 = 0 ∨ m % 6 = 1 ∨ m % 6 = 2 ∨ m % 6 = 3 ∨ m % 6 = 4 ∨ m % 6 = 5 := by omega
  rcases this with e | e | e | e | e | e <;> rw [e]
  · exact ⟨_, rfl, .inl ⟨_, rfl, by decide +kernel, by decide +kernel⟩, rfl⟩
  · exact ⟨_, rfl, .inl ⟨_, rfl, by decide +kernel, by decide +kernel⟩, rfl⟩
  · exact ⟨_, rfl, .inl ⟨_, rfl, by decide +kernel, by decide +kernel⟩, rfl⟩
  · exact ⟨_, rfl, .inr (.inl rfl), rfl⟩
  · exact ⟨_, rfl, .inr (.inr ⟨_, rfl⟩), rfl⟩
  · exact ⟨_, rfl, .inl ⟨_, rfl, by decide +kernel, by decide +kernel⟩, rfl⟩
theorem row_bad (m c ph : Int) : ∃ v, atI [V.int 0, .int (ph + 1), .bl true, .non, .str "1", .int (0 - c % 99)] (m % 6) = some v ∧ scalV v = true ∧ wholeB v 1 ph = false := by
  obtain ⟨h0, h1⟩ := mod_in m (show (0 : Int) < 6 by decide)
  have c0 := (mod_in c (show (0 : Int) < 99 by decide)).1
  have : m % 6 = 0 ∨ m % 6 = 1 ∨ m % 6 = 2 ∨ m % 6 = 3 ∨ m % 6 = 4 ∨ m % 6 = 5 := by omega
  rcases this with e | e | e | e | e | e <;> rw [e]
  · exact ⟨_, rfl, rfl, by simp [wholeB]⟩
  · exact ⟨_, rfl, rfl, by simp [wholeB]; omega⟩
  · exact ⟨_, rfl, rfl, rfl⟩
  · exact ⟨_, rfl, rfl, rfl⟩
  · exact ⟨_, rfl, rfl, rfl⟩
  · refine ⟨_, rfl, rfl, ?_⟩
    show (decide ((1 : Int) ≤ 0 - c % 99) && decide (0 - c % 99 ≤ ph)) = false
    rw [decide_eq_false (by omega), Bool.false_and]
theorem OkV.same {H H' : Hp} {v : V} (s : Same H H') (h : OkV H v) : OkV H' v := by
  rcases h with h | ⟨p, xs, e, hp⟩
  · exact .inl h
  · exact .inr ⟨p, xs, e, s _ _ hp⟩
def spRefused (t : Adr) : Sp := fun vs H Q _ => ∃ (a dp do_ : Addr) (pw ph : Int) (ps : List Pt) (nm ot : Str) (c : Int), vs = [.ref a, .str nm, .str ot, .int c] ∧ Pic t H a dp do_ pw ph ps ∧ Good ps (.str nm) ∧ ot.length ≤ 1000 ∧ (∀ p ∈ ps, p.nm ≠ ot) ∧ ∀ H', Q (.bl true) H'
def RowAt (t : Adr) (H : Hp) (ps : List Pt) (ph : Int) (q : Addr) : Prop := ∃ n v r C f y wd, H q = some (.tup [n, v, r, .str wd, y]) ∧ Trb t H ps ph n v r C f y wd ∧ OkV H y
theorem RowAt.same {t : Adr} {H H' : Hp} {ps : List Pt} {ph : Int} {q : Addr} (s : Same H H') (h : RowAt t H ps ph q) : RowAt t H' ps ph q := by
  obtain ⟨n, v, r, C, f, y, wd, e, tr, o⟩ := h
  exact ⟨n, v, r, C, f, y, wd, s _ _ e, tr.same s, o.same s⟩
section
variable {P : Program} {w : World} {K : PySem.W.Frag} {mg : Str → Option Value} {base : Heap} {t : Adr}
theorem ok_law_refused (T : Txt w K mg t) : FnOk true P w K mg base (CXo P w) 8 t.f_law_refused t.d_law_refused ["_law_picture_here", "_law_name", "_law_other", "_law_cell_here"] (spRefused t) := by
  refine T.F_law_refused.okn (k := 7) sc_law_refused (fun vs H Q E h => ?_) (fun cdv A outer s H vs Q E hr h => ?_)
  · obtain ⟨a, dp, do_, pw, ph, ps, nm, ot, c, rfl, _⟩ := h
    rfl
  · obtain ⟨a, dp, do_, pw, ph, ps, nm, ot, c, rfl, h⟩ := h
    refine ⟨_, pss_cons (ps_set (i := 4) sc_law_refused.nd rfl (Or.inl rfl) (pe_ix ix_list (pe_lst (pa_cons (pv 2) (pa_cons (pe_str) (pa_cons (pe_str) (pa_cons (pe_non) (pa_cons (pe_int) (pa_cons (pe_str) (pa_cons (pe_tup (pa_cons (pe_str) (pa_nil))) (pa_nil))))))))) (pe_op op_mod (pv 3) (pe_int)) (fun _ _ => rfl)))
      (pss_cons (ps_set (i := 5) sc_law_refused.nd rfl (Or.inl rfl) (pe_ix ix_list (pe_lst (pa_cons (pe_str) (pa_cons (pe_str) (pa_cons (pe_str) (pa_cons (pe_non) (pa_cons (pe_bl) (pa_cons (pe_str) (pa_nil)))))))) (pe_op op_mod (pe_op op_fdiv (pv 3) (pe_int)) (pe_int)) (fun _ _ => rfl)))
      (pss_cons (ps_set (i := 6) sc_law_refused.nd rfl (Or.inl rfl) (pe_ix ix_list (pe_lst (pa_cons (pe_int) (pa_cons (pe_op op_add (pe_fld (pv 0) rfl) (pe_int)) (pa_cons (pe_bl) (pa_cons (pe_non) (pa_cons (pe_str) (pa_cons (pe_op op_sub (pe_int) (pe_op op_mod (pv 3) (pe_int))) (pa_nil)))))))) (pe_op op_mod (pe_op op_fdiv (pv 3) (pe_int)) (pe_int)) (fun _ _ => rfl)))
      (pss_cons (ps_set (i := 7) sc_law_refused.nd rfl (Or.inl rfl) (pe_lst (pa_cons (pe_tup (pa_cons (pv 4) (pa_cons (pv 5) (pa_cons (pv 6) (pa_cons (pe_str) (pa_cons (pv 4) (pa_nil))))))) (pa_cons (pe_tup (pa_cons (pv 1) (pa_cons (pv 5) (pa_cons (pv 6) (pa_cons (pe_str) (pa_cons (pv 5) (pa_nil))))))) (pa_cons (pe_tup (pa_cons (pv 1) (pa_cons (pe_str) (pa_cons (pv 6) (pa_cons (pe_str) (pa_cons (pv 6) (pa_nil))))))) (pa_nil))))))
      (pss_cons (ps_set (i := 7) sc_law_refused.nd rfl (Or.inl rfl) (pe_op op_cat (pv 7) (pe_lst (pa_cons (pe_tup (pa_cons (pv 4) (pa_cons (pe_str) (pa_cons (pe_int) (pa_cons (pe_str) (pa_cons (pv 4) (pa_nil))))))) (pa_cons (pe_tup (pa_cons (pv 1) (pa_cons (pv 5) (pa_cons (pe_int) (pa_cons (pe_str) (pa_cons (pv 5) (pa_nil))))))) (pa_cons (pe_tup (pa_cons (pv 1) (pa_cons (pe_str) (pa_cons (pv 6) (pa_cons (pe_str) (pa_cons (pv 6) (pa_nil))))))) (pa_nil)))))))
      (pss_cons (ps_for PassesOwn.never rfl (pi_list (pv 7)) (pg_tup rfl (pgs_cons (pg_name (i := 8) sc_law_refused.nd rfl (Or.inl rfl)) (pgs_cons (pg_name (i := 9) sc_law_refused.nd rfl (Or.inl rfl)) (pgs_cons (pg_name (i := 10) sc_law_refused.nd rfl (Or.inl rfl)) (pgs_cons (pg_name (i := 11) sc_law_refused.nd rfl (Or.inl rfl)) (pgs_cons (pg_name (i := 12) sc_law_refused.nd rfl (Or.inl rfl)) (pgs_nil))))))) (pss_cons (ps_set (i := 13) sc_law_refused.nd rfl (Or.inl rfl) (pe_call (ok_law_told T) (hr.mono (by decide)) rfl T.g_law_told T.F_law_told.kp T.b_law_told .nil pass_none (pa_cons (pv 0) (pa_cons (pv 8) (pa_cons (pv 9) (pa_cons (pv 10) (pa_nil)))))))
      (pss_one (ps_if (PW.pt (pw_or (pt_cmpR op_ne (pe_ix ix_tup (pv 13) (pe_int) (fun _ _ => rfl)) (pv 11) (nomark _)) (pw_or1 (pt_not (pt_val (pe_call (ok_law_same T) (hr.mono (by decide)) rfl T.g_law_same T.F_law_same.kp T.b_law_same .nil pass_none (pa_cons (pe_ix ix_tup (pv 13) (pe_int) (fun _ _ => rfl)) (pa_cons (pv 12) (pa_nil))))))))) (pss_one (ps_ret (pe_bl))) (pss_nil)))))
      (pss_one (ps_ret (pe_bl)))))))), ?_⟩
    obtain ⟨pic, good, ol, no, q⟩ := h
    obtain ⟨⟨dx, hp⟩, _, w1, w2, hh1, hh2, _⟩ := id pic
    refine ⟨_, rfl, (by show 1 ≤ sizeLine; decide), fun pt hpt => ?_⟩
    have s1 : Same H (upd H pt (.tup [.str "a"])) := same_upd (Same.refl _) hpt
    have g1 : upd H pt (.tup [.str "a"]) pt = some (.tup [.str "a"]) := upd_same
    revert s1 g1
    generalize upd H pt (.tup [.str "a"]) = H1
    intro s1 g1

    refine ⟨(by show 7 ≤ sizeLine; decide), fun l1 hl1 => ?_⟩
    obtain ⟨vb, eb, bad, okb⟩ := bad_at (H := H1) c g1 ol no
    refine ⟨_, rfl, _, _, rfl, rfl, (by show (0 : Int) < 7; decide), l1, _, _, vb, rfl, rfl, SqL.of upd_same, eb, ?_⟩
    have s2 : Same H1 (upd H1 l1 (.lst [.str ot, .str "A", .str "", .non, .int 7, .str "ab", .ref pt])) := same_upd (Same.refl _) hl1
    have g2 : upd H1 l1 (.lst [.str ot, .str "A", .str "", .non, .int 7, .str "ab", .ref pt]) l1 = some (.lst [.str ot, .str "A", .str "", .non, .int 7, .str "ab", .ref pt]) := upd_same
    revert s2 g2
    generalize upd H1 l1 (.lst [.str ot, .str "A", .str "", .non, .int 7, .str "ab", .ref pt]) = H2
    intro s2 g2

    refine ⟨(by show 6 ≤ sizeLine; decide), fun l2 hl2 => ?_⟩
    obtain ⟨sb, es, th, sc⟩ := side_bad (c / 7)
    refine ⟨_, rfl, _, _, rfl, rfl, ⟨by decide, by decide⟩, _, _, rfl, rfl, (by show (0 : Int) < 6; decide), l2, _, _, sb, rfl, rfl, SqL.of upd_same, es, ?_⟩
    have s3 : Same H2 (upd H2 l2 (.lst [.str "both", .str "", .str "Left", .non, .bl true, .str "left "])) := same_upd (Same.refl _) hl2
    have g3 : upd H2 l2 (.lst [.str "both", .str "", .str "Left", .non, .bl true, .str "left "]) l2 = some (.lst [.str "both", .str "", .str "Left", .non, .bl true, .str "left "]) := upd_same
    revert s3 g3
    generalize upd H2 l2 (.lst [.str "both", .str "", .str "Left", .non, .bl true, .str "left "]) = H3
    intro s3 g3

    have s03 : Same H H3 := s1.trans (s2.trans s3)
    refine ⟨_, rfl, a, _, dx, _, _, rfl, (s03 _ _ hp), T.c_Picture, T.n_Picture_height, lkH, _, _, rfl, rfl, ?_⟩
    refine ⟨_, rfl, _, _, rfl, rfl, (by show (0 : Int) < 99; decide), _, _, rfl, rfl, (by show 6 ≤ sizeLine; decide), fun l3 hl3 => ?_⟩
    obtain ⟨rb, er, sr, wr⟩ := row_bad (c / 42) c ph
    refine ⟨_, rfl, _, _, rfl, rfl, ⟨by decide, by decide⟩, _, _, rfl, rfl, (by show (0 : Int) < 6; decide), l3, _, _, rb, rfl, rfl, SqL.of upd_same, er, ?_⟩
    have s4 : Same H3 (upd H3 l3 (.lst [.int 0, .int (ph + 1), .bl true, .non, .str "1", .int (0 - c % 99)])) := same_upd (Same.refl _) hl3
    have g4 : upd H3 l3 (.lst [.int 0, .int (ph + 1), .bl true, .non, .str "1", .int (0 - c % 99)]) l3 = some (.lst [.int 0, .int (ph + 1), .bl true, .non, .str "1", .int (0 - c % 99)]) := upd_same
    revert s4 g4
    generalize upd H3 l3 (.lst [.int 0, .int (ph + 1), .bl true, .non, .str "1", .int (0 - c % 99)]) = H4
    intro s4 g4

    have bad4 := bad.same (s2.trans (s3.trans s4))
    have okb4 := okb.same (s2.trans (s3.trans s4))
    refine ⟨_, rfl, _, rfl, _, rfl, _, rfl, (by show 5 ≤ sizeLine; decide), fun t1 ht1 => ?_⟩
    have s5 : Same H4 (upd H4 t1 (.tup [vb, sb, rb, .str "point", vb])) := same_upd (Same.refl _) ht1
    have g5 : upd H4 t1 (.tup [vb, sb, rb, .str "point", vb]) t1 = some (.tup [vb, sb, rb, .str "point", vb]) := upd_same
    revert s5 g5
    generalize upd H4 t1 (.tup [vb, sb, rb, .str "point", vb]) = H5
    intro s5 g5

    refine ⟨_, rfl, _, rfl, _, rfl, _, rfl, (by show 5 ≤ sizeLine; decide), fun t2 ht2 => ?_⟩
    have s6 : Same H5 (upd H5 t2 (.tup [.str nm, sb, rb, .str "side", sb])) := same_upd (Same.refl _) ht2
    have g6 : upd H5 t2 (.tup [.str nm, sb, rb, .str "side", sb]) t2 = some (.tup [.str nm, sb, rb, .str "side", sb]) := upd_same
    revert s6 g6
    generalize upd H5 t2 (.tup [.str nm, sb, rb, .str "side", sb]) = H6
    intro s6 g6

    refine ⟨_, rfl, _, rfl, _, rfl, (by show 5 ≤ sizeLine; decide), fun t3 ht3 => ?_⟩
    have s7 : Same H6 (upd H6 t3 (.tup [.str nm, .str "left", rb, .str "row", rb])) := same_upd (Same.refl _) ht3
    have g7 : upd H6 t3 (.tup [.str nm, .str "left", rb, .str "row", rb]) t3 = some (.tup [.str nm, .str "left", rb, .str "row", rb]) := upd_same
    revert s7 g7
    generalize upd H6 t3 (.tup [.str nm, .str "left", rb, .str "row", rb]) = H7
    intro s7 g7

    refine ⟨(by show 3 ≤ sizeLine; decide), fun lr hlr => ?_⟩
    have s8 : Same H7 (upd H7 lr (.lst [.ref t1, .ref t2, .ref t3])) := same_upd (Same.refl _) hlr
    have g8 : upd H7 lr (.lst [.ref t1, .ref t2, .ref t3]) lr = some (.lst [.ref t1, .ref t2, .ref t3]) := upd_same
    revert s8 g8
    generalize upd H7 lr (.lst [.ref t1, .ref t2, .ref t3]) = H8
    intro s8 g8

    refine ⟨_, rfl, _, rfl, _, rfl, (by show 5 ≤ sizeLine; decide), fun t4 ht4 => ?_⟩
    have s9 : Same H8 (upd H8 t4 (.tup [vb, .str "right", .int 1, .str "point", vb])) := same_upd (Same.refl _) ht4
    have g9 : upd H8 t4 (.tup [vb, .str "right", .int 1, .str "point", vb]) t4 = some (.tup [vb, .str "right", .int 1, .str "point", vb]) := upd_same
    revert s9 g9
    generalize upd H8 t4 (.tup [vb, .str "right", .int 1, .str "point", vb]) = H9
    intro s9 g9

    refine ⟨_, rfl, _, rfl, _, rfl, (by show 5 ≤ sizeLine; decide), fun t5 ht5 => ?_⟩
    have s10 : Same H9 (upd H9 t5 (.tup [.str nm, sb, .int 1, .str "side", sb])) := same_upd (Same.refl _) ht5
    have g10 : upd H9 t5 (.tup [.str nm, sb, .int 1, .str "side", sb]) t5 = some (.tup [.str nm, sb, .int 1, .str "side", sb]) := upd_same
    revert s10 g10
    generalize upd H9 t5 (.tup [.str nm, sb, .int 1, .str "side", sb]) = H10
    intro s10 g10

    refine ⟨_, rfl, _, rfl, _, rfl, (by show 5 ≤ sizeLine; decide), fun t6 ht6 => ?_⟩
    have s11 : Same H10 (upd H10 t6 (.tup [.str nm, .str "right", rb, .str "row", rb])) := same_upd (Same.refl _) ht6
    have g11 : upd H10 t6 (.tup [.str nm, .str "right", rb, .str "row", rb]) t6 = some (.tup [.str nm, .str "right", rb, .str "row", rb]) := upd_same
    revert s11 g11
    generalize upd H10 t6 (.tup [.str nm, .str "right", rb, .str "row", rb]) = H11
    intro s11 g11

    refine ⟨(by show 3 ≤ sizeLine; decide), fun l4 hl4 => ?_⟩
    have s12 : Same H11 (upd H11 l4 (.lst [.ref t4, .ref t5, .ref t6])) := same_upd (Same.refl _) hl4
    have g12 : upd H11 l4 (.lst [.ref t4, .ref t5, .ref t6]) l4 = some (.lst [.ref t4, .ref t5, .ref t6]) := upd_same
    revert s12 g12
    generalize upd H11 l4 (.lst [.ref t4, .ref t5, .ref t6]) = H12
    intro s12 g12

    refine ⟨lr, l4, _, _, rfl, rfl, s12 _ _ (s11 _ _ (s10 _ _ (s9 _ _ g8))), g12, (by show 3 + 3 ≤ sizeLine; decide), fun l5 hl5 => ?_⟩
    have s13 : Same H12 (upd H12 l5 (.lst ([.ref t1, .ref t2, .ref t3] ++ [.ref t4, .ref t5, .ref t6]))) := same_upd (Same.refl _) hl5
    have g13 : upd H12 l5 (.lst ([.ref t1, .ref t2, .ref t3] ++ [.ref t4, .ref t5, .ref t6])) l5 = some (.lst ([.ref t1, .ref t2, .ref t3] ++ [.ref t4, .ref t5, .ref t6])) := upd_same
    revert s13 g13
    generalize upd H12 l5 (.lst ([.ref t1, .ref t2, .ref t3] ++ [.ref t4, .ref t5, .ref t6])) = H13
    intro s13 g13

    have s911 : Same H8 H13 := s9.trans (s10.trans (s11.trans (s12.trans s13)))
    have s513 : Same H4 H13 := s5.trans (s6.trans (s7.trans (s8.trans s911)))
    have bad13 := bad4.same s513
    have okb13 := okb4.same s513
    have lf : ∃ b, V.str "left" = .str (sideW b) := ⟨true, rfl⟩
    have rt : ∃ b, V.str "right" = .str (sideW b) := ⟨false, rfl⟩
    have rows : ∀ z ∈ [t1, t2, t3, t4, t5, t6], RowAt t H13 ps ph z := fun z hz => by
      simp only [List.mem_cons, List.not_mem_nil, or_false] at hz
      rcases hz with rfl | rfl | rfl | rfl | rfl | rfl
      · exact ⟨_, _, _, _, _, _, _, s911 _ _ (s8 _ _ (s7 _ _ (s6 _ _ g5))), .inl ⟨rfl, rfl, rfl, rfl, bad13⟩, okb13⟩
      · exact ⟨_, _, _, _, _, _, _, s911 _ _ (s8 _ _ (s7 _ _ g6)), .inr (.inl ⟨rfl, rfl, rfl, rfl, good, th⟩), .inl sc⟩
      · exact ⟨_, _, _, _, _, _, _, s911 _ _ (s8 _ _ g7), .inr (.inr ⟨rfl, rfl, rfl, rfl, good, lf, sr, wr⟩), .inl sr⟩
      · exact ⟨_, _, _, _, _, _, _, s13 _ _ (s12 _ _ (s11 _ _ (s10 _ _ g9))), .inl ⟨rfl, rfl, rfl, rfl, bad13⟩, okb13⟩
      · exact ⟨_, _, _, _, _, _, _, s13 _ _ (s12 _ _ (s11 _ _ g10)), .inr (.inl ⟨rfl, rfl, rfl, rfl, good, th⟩), .inl sc⟩
      · exact ⟨_, _, _, _, _, _, _, s13 _ _ (s12 _ _ g11), .inr (.inr ⟨rfl, rfl, rfl, rfl, good, rt, sr, wr⟩), .inl sr⟩
    have g13' : H13 l5 = some (.lst (([t1, t2, t3, t4, t5, t6] : List Addr).map V.ref)) := g13
    have pic13 : Pic t H13 a dp do_ pw ph ps := Pic.same (s03.trans (s4.trans s513)) pic
    revert rows g13'
    generalize ([t1, t2, t3, t4, t5, t6] : List Addr) = tz
    intro rows g13'
    refine ⟨_, rfl, l5, rfl, ⟨_, SqL.of g13'⟩, ?_⟩
    refine for_list (xs := tz.map V.ref) (Pv := fun i σ H5 => ∃ v8 v9 v10 v11 v12 v13 : Option V, σ = [some (.ref a), some (.str nm), some (.str ot), some (.int c), some vb, some sb, some rb, some (.ref l5), v8, v9, v10, v11, v12, v13] ∧ Same H13 H5) ⟨_, _, _, _, _, _, rfl, Same.refl _⟩ (fun _ _ _ _ ⟨_, _, _, _, _, _, _, z⟩ => SqL.of (z _ _ g13')) ?_ ?_
    · rintro i v σ H14 hv ⟨v8, v9, v10, v11, v12, v13, rfl, s14⟩
      rw [List.getElem?_map] at hv
      obtain ⟨z, hz, rfl⟩ := Option.map_eq_some_iff.mp hv
      obtain ⟨n, vv, r, C, f, y, wd, ez, trb, oy⟩ := (rows z (List.mem_of_getElem? hz)).same s14
      refine ⟨z, _, rfl, SqT.of ez, rfl, _, _, rfl, _, _, rfl, _, _, rfl, _, _, rfl, _, _, rfl, rfl, ?_⟩
      refine ⟨_, rfl, _, rfl, _, rfl, _, rfl, a, dp, do_, pw, ph, ps, n, vv, r, C, f, y, wd, rfl, Pic.same s14 pic13, trb, fun H15 p15 s15 h15 => ?_⟩
      refine ⟨_, rfl, p15, _, 0, _, rfl, rfl, SqT.of h15, rfl, _, rfl, rfl, _, rfl, ifN (by simp) ?_⟩
      refine ⟨_, rfl, p15, _, 1, _, rfl, rfl, SqT.of h15, rfl, _, rfl, y, rfl, oy.same s15, true, rfl, ifN rfl ?_⟩
      exact ⟨_, _, _, _, _, _, rfl, s14.trans s15⟩
    · rintro σ H14 ⟨v8, v9, v10, v11, v12, v13, rfl, s14⟩
      exact q _
end
end S11

set_option maxRecDepth 100000
set_option maxHeartbeats 4000000
namespace S11
open PySem L2 XL PyProof.Rows
def spLaw (K : PySem.W.Frag) : Sp := fun vs H Q _ => ∃ (a : Addr) (ns : List Int), vs = [.ref a] ∧ SqL K H a (ns.map V.int) ∧ ns.length ≤ 63 ∧ ∀ H', Q (.bl true) H'
/-- two tuples of the same things -/
theorem eqR_same {K : PySem.W.Frag} {H : Hp} {n : Nat} {q d : Addr} {xs ys : List V} (hq : H q = some (.tup xs)) (hd : H d = some (.tup ys)) (hl : xs.length = ys.length) (h : ∀ (j : Nat) (x y : V), xs[j]? = some x → ys[j]? = some y → EqR K H n x y true) : EqR K H (n + 1) (.ref q) (.ref d) true := by
  have z := EqR.tup (fun _ => true) (SqT.of (K := K) hq) (SqT.of hd) h
  have e : ((List.range (min xs.length ys.length)).all (fun _ => true) && xs.length == ys.length) = true := by simp [hl]
  rw [e] at z
  exact z
theorem eqR_sc {K : PySem.W.Frag} {H : Hp} {n : Nat} {x : V} (h : scal x x = true) (hb : ∀ b, x ≠ .byt b := by intro _ z; cases z) : EqR K H n x x true := by
  have z := EqR.sc (K := K) (H := H) (n := n) h hb
  rw [decide_eq_true rfl] at z
  exact z
theorem eqR_up {K : PySem.W.Frag} {H : Hp} {n : Nat} {x y : V} {b : Bool} (h : EqR K H n x y b) : ∀ {m : Nat}, n ≤ m → EqR K H m x y b := by
  induction h with
  | sc h hb => exact fun _ => EqR.sc h hb
  | tup e ha hb h ih =>
    intro m hm
    cases m with
    | zero => omega
    | succ m => exact EqR.tup e ha hb fun j x y hx hy => ih j x y hx hy (by omega)
  | lst e ha hb hl h ih =>
    intro m hm
    cases m with
    | zero => omega
    | succ m => exact EqR.lst e ha hb hl fun j x y hx hy => ih j x y hx hy (by omega)

theorem eqR_cellsL {K : PySem.W.Frag} {H : Hp} {cs : List (Int × Int)} {qs qs' : List Addr} (h : CellsL H cs qs) (h' : CellsL H cs qs') : ∀ (j : Nat) (x y : V), (qs.map V.ref)[j]? = some x → (qs'.map V.ref)[j]? = some y → EqR K H 2 x y true := by
  intro j x y hx hy
  rw [List.getElem?_map] at hx hy
  obtain ⟨q, hq, rfl⟩ := Option.map_eq_some_iff.mp hx
  obtain ⟨q', hq', rfl⟩ := Option.map_eq_some_iff.mp hy
  obtain ⟨p, hp, e⟩ := h.get hq
  obtain ⟨p', hp', e'⟩ := h'.get hq'
  rw [hp] at hp'
  cases hp'
  refine eqR_same e e' rfl fun j x y hx hy => ?_
  rw [hx] at hy
  cases hy
  match j, hx with
  | 0, hx => cases hx; exact eqR_sc rfl
  | 1, hx => cases hx; exact eqR_sc rfl
  | j + 2, hx => simp at hx
def spLCells : Sp := fun vs H Q _ => ∃ (l m : Addr) (cs : List (Int × Int)) (qs rs : List Addr), vs = [.ref l, .ref m] ∧ H l = some (.lst (qs.map V.ref)) ∧ H m = some (.lst (rs.map V.ref)) ∧ CellsL H cs qs ∧ CellsL H cs rs ∧ Q (.bl true) H
theorem cells_len {w x y r : Int} {b : Bool} (x1 : 1 ≤ x) (x2 : x ≤ w) : lenI w x y b r + 1 = ((Geo.cells w x y b r).length : Int) := by
  unfold lenI Geo.cells Geo.upL Geo.upN Geo.lvL Geo.lvN
  rw [List.length_append, List.length_map, List.length_range, List.length_map, List.length_range]
  split <;> split <;> split <;> omega
theorem two_at (m : Int) : ∃ b, atI [V.str "left", V.str "right"] (m % 2) = some (.str (sideW b)) := by
  obtain ⟨h0, h1⟩ := mod_in m (show (0 : Int) < 2 by decide)
  have : m % 2 = 0 ∨ m % 2 = 1 := by omega
  rcases this with e | e <;> rw [e]
  · exact ⟨true, rfl⟩
  · exact ⟨false, rfl⟩
theorem find_nm : ∀ {ps : List Pt}, (ps.map (·.nm)).Nodup → ∀ {p : Pt}, p ∈ ps → ps.find? (fun z => decide (z.nm = p.nm)) = some p
  | [], _, p, hp => nomatch hp
  | r :: ps, nd, p, hp => by
    rw [List.map_cons, List.nodup_cons] at nd
    rcases List.mem_cons.mp hp with rfl | h
    · simp
    · have ne : ¬ r.nm = p.nm := fun e => nd.1 (by rw [e]; exact List.mem_map.mpr ⟨p, h, rfl⟩)
      rw [List.find?_cons_of_neg (by simpa using ne)]
      exact find_nm nd.2 h
section
variable {P : Program} {w : World} {K : PySem.W.Frag} {mg : Str → Option Value} {base : Heap} {t : Adr}
theorem ok_law_cells (T : Txt w K mg t) : FnOk true P w K mg base (CXo P w) 2 t.f_law_cells t.d_law_cells ["_law_found", "_law_due_here"] (spLCells) := by
  refine T.F_law_cells.okn (k := 1) sc_law_cells (fun vs H Q E h => ?_) (fun cdv A outer s H vs Q E hr h => ?_)
  · obtain ⟨l, m, cs, qs, rs, rfl, _⟩ := h
    rfl
  · obtain ⟨l, m, cs, qs, rs, rfl, h⟩ := h
    refine ⟨_, pss_cons (ps_if (PW.pt (pw_or (pt_not (pt_val (pe_callB call_isin rfl T.n_isinstance boot_isinstance (pa_cons (pv 0) (pa_cons (pe_bltn (v := .ty "list") rfl T.n_list boot_list rfl) (pa_nil)))))) (pw_or1 (pt_cmpR (op_neD (hu20_of hr)) (pv 0) (pv 1) (nomark _))))) (pss_one (ps_ret (pe_bl))) (pss_nil))
      (pss_cons (ps_for PassesOwn.never rfl (pi_list (pv 0)) (pg_name (i := 2) sc_law_cells.nd rfl (Or.inl rfl)) (pss_one (ps_if (PW.pt (pw_or (pt_not (pt_val (pe_callB call_isin rfl T.n_isinstance boot_isinstance (pa_cons (pv 2) (pa_cons (pe_bltn (v := .ty "tuple") rfl T.n_tuple boot_tuple rfl) (pa_nil)))))) (pw_or (pt_not (pt_val (pe_call (ok_law_whole T) (hr.mono (by decide)) rfl T.g_law_whole T.F_law_whole.kp T.b_law_whole .nil pass_none (pa_cons (pe_ix ix_tup (pv 2) (pe_int) (fun _ _ => rfl)) (pa_nil))))) (pw_or1 (pt_not (pt_val (pe_call (ok_law_whole T) (hr.mono (by decide)) rfl T.g_law_whole T.F_law_whole.kp T.b_law_whole .nil pass_none (pa_cons (pe_ix ix_tup (pv 2) (pe_int) (fun _ _ => rfl)) (pa_nil))))))))) (pss_one (ps_ret (pe_bl))) (pss_nil))))
      (pss_one (ps_ret (pe_bl)))), ?_⟩
    obtain ⟨hl, hm, cl, cm, q⟩ := h
    refine ⟨_, rfl, _, _, rfl, .inl ⟨_, _, true, .lst hl, rfl, kit_same, true, rfl, ifN rfl ?_⟩⟩
    refine ⟨_, rfl, _, rfl, l, m, _, _, fun _ => true, rfl, rfl, SqL.of hl, SqL.of hm, by rw [List.length_map, List.length_map, cl.len, cm.len], fun j x y hx hy => eqR_up (eqR_cellsL cl cm j x y hx hy) (by decide), _, rfl, ifN (by simp) ?_⟩
    refine ⟨_, rfl, l, rfl, ⟨_, SqL.of hl⟩, ?_⟩
    refine for_list (xs := qs.map V.ref) (Pv := fun i σ H2 => ∃ v2 : Option V, σ = [some (.ref l), some (.ref m), v2] ∧ H = H2) ⟨_, rfl, rfl⟩ (fun _ _ _ _ ⟨_, _, z⟩ => by rw [← z]; exact SqL.of hl) ?_ ?_
    · rintro i v σ _ hv ⟨v2, rfl, rfl⟩
      rw [List.getElem?_map] at hv
      obtain ⟨z, hz, rfl⟩ := Option.map_eq_some_iff.mp hv
      obtain ⟨c, _, hc⟩ := cl.get hz
      refine ⟨_, rfl, _, _, rfl, .inl ⟨_, _, true, .tup hc, rfl, kit_same, true, rfl, ifN rfl ?_⟩⟩
      refine ⟨_, rfl, z, _, 0, _, rfl, rfl, SqT.of hc, rfl, _, rfl, true, rfl, ifN rfl ?_⟩
      refine ⟨_, rfl, z, _, 1, _, rfl, rfl, SqT.of hc, rfl, _, rfl, true, rfl, ifN rfl ?_⟩
      exact ⟨_, rfl, rfl⟩
    · rintro σ _ ⟨v2, rfl, rfl⟩
      exact q
end
end S11

set_option maxRecDepth 100000
set_option maxHeartbeats 4000000
namespace S11
open PySem L2 XL PyProof.Rows
section
variable {P : Program} {w : World} {K : PySem.W.Frag} {mg : Str → Option Value} {base : Heap} {t : Adr}
theorem ok_law (T : Txt w K mg t) : FnOk true P w K mg base (CXo P w) 9 t.f_law t.d_law ["_law_script"] (spLaw K) := by
  refine T.F_law.okn (k := 8) sc_law (fun vs H Q E h => ?_) (fun cdv A outer s H vs Q E hr h => ?_)
  · obtain ⟨sc, ns, rfl, _⟩ := h
    rfl
  · obtain ⟨sc, ns, rfl, h⟩ := h
    refine ⟨_, pss_cons (ps_asg (pe_call (ok_law_picture T) (hr.mono (by decide)) rfl T.g_law_picture T.F_law_picture.kp T.b_law_picture .nil pass_none (pa_cons (pv 0) (pa_nil))) (pg_tup rfl (pgs_cons (pg_name (i := 1) sc_law.nd rfl (Or.inl rfl)) (pgs_cons (pg_name (i := 2) sc_law.nd rfl (Or.inl rfl)) (pgs_cons (pg_name (i := 3) sc_law.nd rfl (Or.inl rfl)) (pgs_nil))))))
      (pss_cons (ps_for PassesOwn.never rfl (pi_list (pe_op op_cat (pe_slice sl_list (pv 0) (po_some (pe_int)) (po_some (pe_int))) (pe_lst (pa_cons (pe_call (ok_law_cell T) (hr.mono (by decide)) rfl T.g_law_cell T.F_law_cell.kp T.b_law_cell .nil pass_none (pa_cons (pv 0) (pa_cons (pe_int) (pa_nil)))) (pa_cons (pe_int) (pa_nil)))))) (pg_name (i := 4) sc_law.nd rfl (Or.inl rfl)) (pss_cons (ps_set (i := 5) sc_law.nd rfl (Or.inl rfl) (pe_op op_mod (pv 4) (pe_callB call_len_seq rfl T.n_len boot_len (pa_cons (pv 2) (pa_nil)))))
      (pss_cons (ps_set (i := 6) sc_law.nd rfl (Or.inl rfl) (pe_ix ix_list (pe_lst (pa_cons (pe_str) (pa_cons (pe_str) (pa_nil)))) (pe_op op_mod (pe_op op_fdiv (pv 4) (pe_int)) (pe_int)) (fun _ _ => rfl)))
      (pss_cons (ps_set (i := 7) sc_law.nd rfl (Or.inl rfl) (pe_op op_add (pe_int) (pe_op op_mod (pe_op op_fdiv (pv 4) (pe_int)) (pe_fld (pv 1) rfl))))
      (pss_cons (ps_set (i := 8) sc_law.nd rfl (Or.inl rfl) (pe_call (ok_law_due T) (hr.mono (by decide)) rfl T.g_law_due T.F_law_due.kp T.b_law_due .nil pass_none (pa_cons (pe_fld (pv 1) rfl) (pa_cons (pe_ix ix_list (pv 3) (pv 5) (fun _ _ => rfl)) (pa_cons (pv 6) (pa_cons (pv 7) (pa_nil)))))))
      (pss_cons (ps_set (i := 9) sc_law.nd rfl (Or.inl rfl) (pe_call (ok_cells_of T) (hr.mono (by decide)) rfl T.g_cells_of T.F_cells_of.kp T.b_cells_of .nil pass_none (pa_cons (pv 1) (pa_cons (pe_ix ix_list (pv 2) (pv 5) (fun _ _ => rfl)) (pa_cons (pv 6) (pa_cons (pv 7) (pa_nil)))))))
      (pss_cons (ps_if (PW.pt (pw_or (pt_not (pt_val (pe_call (ok_law_cells T) (hr.mono (by decide)) rfl T.g_law_cells T.F_law_cells.kp T.b_law_cells .nil pass_none (pa_cons (pv 9) (pa_cons (pv 8) (pa_nil)))))) (pw_or1 (pt_cmpR op_ne (pe_callB call_len_seq rfl T.n_len boot_len (pa_cons (pv 9) (pa_nil))) (pe_op op_add (pe_meth (pv 1) T.c_Picture T.m_Picture_length (ok_Picture_length T) (hr.mono (by decide)) T.b_Picture_length .nil pass_none (pa_cons (pe_ix ix_list (pv 2) (pv 5) (fun _ _ => rfl)) (pa_cons (pv 6) (pa_cons (pv 7) (pa_nil))))) (pe_int)) (nomark _))))) (pss_one (ps_ret (pe_bl))) (pss_nil))
      (pss_cons (ps_expr (pe_bm0 PySem.F.plainAttrs_list PySem.F.slot_list_clear PySem.F.type_list_clear mt_clear (pv 9)))
      (pss_one (ps_if (pt_not (pt_val (pe_call (ok_law_cells T) (hr.mono (by decide)) rfl T.g_law_cells T.F_law_cells.kp T.b_law_cells .nil pass_none (pa_cons (pe_call (ok_cells_of T) (hr.mono (by decide)) rfl T.g_cells_of T.F_cells_of.kp T.b_cells_of .nil pass_none (pa_cons (pv 1) (pa_cons (pe_ix ix_list (pv 2) (pv 5) (fun _ _ => rfl)) (pa_cons (pv 6) (pa_cons (pv 7) (pa_nil)))))) (pa_cons (pv 8) (pa_nil)))))) (pss_one (ps_ret (pe_bl))) (pss_nil)))))))))))
      (pss_cons (ps_set (i := 4) sc_law.nd rfl (Or.inl rfl) (pe_call (ok_law_cell T) (hr.mono (by decide)) rfl T.g_law_cell T.F_law_cell.kp T.b_law_cell .nil pass_none (pa_cons (pv 0) (pa_cons (pe_int) (pa_nil)))))
      (pss_one (ps_ret (pe_call (ok_law_refused T) (hr.mono (by decide)) rfl T.g_law_refused T.F_law_refused.kp T.b_law_refused .nil pass_none (pa_cons (pv 1) (pa_cons (pe_ix ix_list (pv 2) (pe_int) (fun _ _ => rfl)) (pa_cons (pe_ix ix_list (pe_call (ok_law_names T) (hr.mono (by decide)) rfl T.g_law_names T.F_law_names.kp T.b_law_names .nil pass_none (pa_cons (pv 4) (pa_cons (pe_op op_add (pe_callB call_len_seq rfl T.n_len boot_len (pa_cons (pv 2) (pa_nil))) (pe_int)) (pa_nil)))) (pe_un un_neg (pe_int)) (fun _ _ => rfl)) (pa_cons (pe_call (ok_law_mix T) (hr.mono (by decide)) rfl T.g_law_mix T.F_law_mix.kp T.b_law_mix .nil pass_none (pa_cons (pe_call (ok_law_cell T) (hr.mono (by decide)) rfl T.g_law_cell T.F_law_cell.kp T.b_law_cell .nil pass_none (pa_cons (pv 0) (pa_cons (pe_int) (pa_nil)))) (pa_cons (pe_int) (pa_nil)))) (pa_nil)))))))))), ?_⟩
    obtain ⟨hs, nl, q⟩ := h
    refine ⟨_, rfl, sc, ns, rfl, hs, fun H1 tp a ln ls w ph ps s1 htp pl hnm => ⟨tp, _, rfl, SqT.of htp, rfl, _, _, rfl, _, _, rfl, _, _, rfl, rfl, ?_⟩⟩
    obtain ⟨qs0, hls, sps⟩ := pl.ls
    have ql0 := sps.len
    obtain ⟨dp, do_, pic⟩ := pl.pic
    obtain ⟨⟨dx, hp⟩, _, w1, w2, hh1, hh2, len12⟩ := id pic
    have pos := pl.pos
    obtain ⟨zs, ezs⟩ : ∃ zs : List Int, cutV (ns.map V.int) (some 4) (some 16) = zs.map V.int := ⟨_, by unfold cutV; rw [← List.map_drop, ← List.map_take]⟩
    have zl : zs.length ≤ 63 := by
      have z := cutV_length (ns.map V.int) (some 4) (some 16)
      rw [ezs, List.length_map, List.length_map] at z
      omega
    refine ⟨_, rfl, 4, rfl, 16, rfl, sc, _, rfl, s1.seq hs, fun p4 hp4 => ?_⟩
    rw [ezs]
    have s2 : Same H1 (upd H1 p4 (.lst (zs.map V.int))) := same_upd (Same.refl _) hp4
    have g2 : upd H1 p4 (.lst (zs.map V.int)) p4 = some (.lst (zs.map V.int)) := upd_same
    revert s2 g2
    generalize upd H1 p4 (.lst (zs.map V.int)) = H2
    intro s2 g2

    refine ⟨_, rfl, sc, ns, 1, rfl, (s1.trans s2).seq hs, by decide, by decide, fun c0 ec0 => ?_⟩
    refine ⟨(by show 2 ≤ sizeLine; decide), fun l2 hl2 => ?_⟩
    have s3 : Same H2 (upd H2 l2 (.lst [.int c0, .int 1])) := same_upd (Same.refl _) hl2
    have g3 : upd H2 l2 (.lst [.int c0, .int 1]) l2 = some (.lst [.int c0, .int 1]) := upd_same
    revert s3 g3
    generalize upd H2 l2 (.lst [.int c0, .int 1]) = H3
    intro s3 g3

    refine ⟨p4, l2, _, _, rfl, rfl, s3 _ _ g2, g3, (by rw [List.length_map]; exact Nat.le_of_lt (Nat.lt_trans (by show zs.length + 2 < 100; omega) (by decide))), fun l3 hl3 => ?_⟩
    have s4 : Same H3 (upd H3 l3 (.lst (zs.map V.int ++ [.int c0, .int 1]))) := same_upd (Same.refl _) hl3
    have g4 : upd H3 l3 (.lst (zs.map V.int ++ [.int c0, .int 1])) l3 = some (.lst (zs.map V.int ++ [.int c0, .int 1])) := upd_same
    revert s4 g4
    generalize upd H3 l3 (.lst (zs.map V.int ++ [.int c0, .int 1])) = H4
    intro s4 g4

    have g4' : H4 l3 = some (.lst ((zs ++ [c0, 1]).map V.int)) := by rw [g4, List.map_append]; rfl
    have s14 : Same H1 H4 := s2.trans (s3.trans s4)
    refine ⟨l3, rfl, ⟨_, SqL.of g4'⟩, ?_⟩
    refine for_list (xs := (zs ++ [c0, 1]).map V.int) (Pv := fun i σ H5 => ∃ v4 v5 v6 v7 v8 v9 : Option V, σ = [some (.ref sc), some (.ref a), some (.ref ln), some (.ref ls), v4, v5, v6, v7, v8, v9] ∧ Same H4 H5) ⟨_, _, _, _, _, _, rfl, Same.refl _⟩ (fun _ _ _ _ ⟨_, _, _, _, _, _, _, z⟩ => SqL.of (z _ _ g4')) ?_ ?_
    · rintro i v σ H5 hv ⟨v4, v5, v6, v7, v8, v9, rfl, s5⟩
      rw [List.getElem?_map] at hv
      obtain ⟨c, hc, rfl⟩ := Option.map_eq_some_iff.mp hv
      have s15 : Same H1 H5 := s14.trans s5
      have nlen : ((ps.map fun p => V.str p.nm).length : Int) = (ps.length : Int) := by rw [List.length_map]
      refine ⟨_, rfl, _, rfl, ln, _, rfl, .inl (SqL.of (s15 _ _ pl.ln)), _, _, rfl, rfl, (by show (0 : Int) < _; rw [nlen]; omega), ?_⟩
      obtain ⟨k0, k1⟩ := mod_in c (show (0 : Int) < ((ps.map fun p => V.str p.nm).length : Int) by rw [nlen]; omega)
      obtain ⟨k, hk⟩ := Int.eq_ofNat_of_zero_le k0
      have kl : k < ps.length := by omega
      obtain ⟨pt, hpt⟩ : ∃ pt, ps[k]? = some pt := ⟨_, List.getElem?_eq_getElem kl⟩
      have pm : pt ∈ ps := List.mem_of_getElem? hpt
      obtain ⟨sp, hsp1, hsp⟩ := sps.get hpt
      have atn : atI (ps.map fun p => V.str p.nm) (c % ((ps.map fun p => V.str p.nm).length : Int)) = some (.str pt.nm) := by
        rw [hk]
        exact atI_nat (by rw [List.getElem?_map, hpt]; rfl)
      have ats : atI (qs0.map V.ref) (c % ((ps.map fun p => V.str p.nm).length : Int)) = some (.ref sp) := by
        rw [hk]
        exact atI_nat (by rw [List.getElem?_map, hsp1]; rfl)
      obtain ⟨x1, x2, y1, y2⟩ := pl.xy pt pm
      have fd := find_nm pl.nd pm
      have isn := pl.nm pt pm
      refine ⟨(by show 2 ≤ sizeLine; decide), fun l4 hl4 => ?_⟩
      obtain ⟨b, eb⟩ := two_at (c / 12)
      refine ⟨_, rfl, _, _, rfl, rfl, ⟨by decide, by decide⟩, _, _, rfl, rfl, (by show (0 : Int) < 2; decide), l4, _, _, _, rfl, rfl, SqL.of upd_same, eb, ?_⟩
      have s6 : Same H5 (upd H5 l4 (.lst [.str "left", .str "right"])) := same_upd (Same.refl _) hl4
      have g6 : upd H5 l4 (.lst [.str "left", .str "right"]) l4 = some (.lst [.str "left", .str "right"]) := upd_same
      revert s6 g6
      generalize upd H5 l4 (.lst [.str "left", .str "right"]) = H6
      intro s6 g6

      have s16 : Same H1 H6 := s15.trans s6
      refine ⟨_, rfl, _, _, rfl, rfl, ⟨by decide, by decide⟩, _, rfl, a, _, dx, _, _, rfl, (s16 _ _ hp), T.c_Picture, T.n_Picture_height, lkH, _, _, rfl, rfl, (by show 0 < ph; omega), _, _, rfl, rfl, ?_⟩
      have br := mod_in (c / 24) (show 0 < ph by omega)
      have r1 : 1 ≤ 1 + c / 24 % ph := by omega
      have r2 : 1 + c / 24 % ph ≤ ph := by omega
      refine ⟨_, rfl, a, _, dx, _, _, rfl, (s16 _ _ hp), T.c_Picture, T.n_Picture_width, lkW, _, rfl, _, rfl, ls, _, _, _, rfl, rfl, SqL.of (s16 _ _ hls), ats, _, rfl, _, rfl, w, pt.x, pt.y, 1 + c / 24 % ph, b, sp, rfl, s16 _ _ hsp, ⟨x1, x2, w2⟩, ⟨y1, by omega⟩, ⟨r1, by omega⟩, fun H7 l7 cs7 f7 s7 h7 cl7 len7 => ?_⟩
      have s17 : Same H1 H7 := s16.trans s7
      refine ⟨_, rfl, _, rfl, _, rfl, ln, _, _, _, rfl, rfl, SqL.of (s17 _ _ pl.ln), atn, _, rfl, _, rfl, a, dp, do_, w, ph, ps, pt.nm, pt, b, 1 + c / 24 % ph, rfl, Pic.same s17 pic, isn, fd, r1, r2, ⟨x1, x2, y1, y2⟩, fun H8 l8 cs8 f8 s8 h8 cl8 len8 => ?_⟩
      have s18 : Same H1 H8 := s17.trans s8
      refine ⟨_, rfl, _, rfl, l8, l7, _, cs8, cs7, rfl, h8, s8 _ _ h7, cl8, cl7.keep (Same.tups s8), true, rfl, ifN rfl ?_⟩
      refine ⟨_, rfl, l8, _, rfl, .inl (SqL.of h8), _, rfl, a, dx, _, rfl, s18 _ _ hp, lk_no (by decide +kernel), _, rfl, _, rfl, ln, _, _, _, rfl, rfl, SqL.of (s18 _ _ pl.ln), atn, _, rfl, _, rfl, a, dp, do_, w, ph, ps, pt.nm, pt, b, 1 + c / 24 % ph, rfl, Pic.same s18 pic, isn, fd, r1, r2, fun H9 s9 => ?_⟩
      have clen : ((cs8.map V.ref).length : Int) = lenI w pt.x pt.y b (1 + c / 24 % ph) + 1 := by
        rw [List.length_map, cl8.len, cells_len x1 x2]
      refine ⟨_, _, rfl, rfl, rfl, _, rfl, ifN (by show (!decide (V.int ((cs8.map V.ref).length : Int) = V.int (lenI w pt.x pt.y b (1 + c / 24 % ph) + 1))) = false; rw [clen]; simp) ?_⟩
      refine ⟨_, rfl, .inl ⟨rfl, _, SqL.of (s9 _ _ h8)⟩, l8, _, rfl, rfl, s9 _ _ h8, ?_⟩
      have s710 : Same H7 (upd H9 l8 (.lst [])) := fun b u e => by
        rw [upd_ne (ne_of_none e f8)]
        exact s9 _ _ (s8 _ _ e)
      revert s710
      generalize upd H9 l8 (.lst []) = H10
      intro s710
      have s110 : Same H1 H10 := s17.trans s710
      refine ⟨_, rfl, _, rfl, _, rfl, ln, _, _, _, rfl, rfl, SqL.of (s110 _ _ pl.ln), atn, _, rfl, _, rfl, a, dp, do_, w, ph, ps, pt.nm, pt, b, 1 + c / 24 % ph, rfl, Pic.same s110 pic, isn, fd, r1, r2, ⟨x1, x2, y1, y2⟩, fun H11 l11 cs11 f11 s11 h11 cl11 len11 => ?_⟩
      refine ⟨_, rfl, l11, l7, _, cs11, cs7, rfl, h11, s11 _ _ (s710 _ _ h7), cl11, cl7.keep (Same.tups (s710.trans s11)), true, rfl, ifN rfl ?_⟩
      exact ⟨_, _, _, _, _, _, rfl, s5.trans (s6.trans (s7.trans (s710.trans s11)))⟩
    · rintro σ H5 ⟨v4, v5, v6, v7, v8, v9, rfl, s5⟩
      have s15 : Same H1 H5 := s14.trans s5
      obtain ⟨st, ms, est, enm⟩ := hnm
      refine ⟨_, rfl, sc, ns, 1, rfl, (s1.trans s15).seq hs, by decide, by decide, fun c1 ec1 => ?_⟩
      obtain ⟨pt, hpt⟩ : ∃ pt, ps[0]? = some pt := ⟨_, List.getElem?_eq_getElem pos⟩
      have pm : pt ∈ ps := List.mem_of_getElem? hpt
      refine ⟨_, rfl, _, rfl, ln, _, 0, .str pt.nm, rfl, rfl, SqL.of (s15 _ _ pl.ln), atI_nat (j := 0) (by rw [List.getElem?_map, hpt]; rfl), _, rfl, _, rfl, ln, _, rfl, .inl (SqL.of (s15 _ _ pl.ln)), _, _, rfl, rfl, ?_⟩
      refine ⟨c1, ps.length + 1, (by show [V.int c1, V.int (((ps.map fun p => V.str p.nm).length : Int) + 1)] = _; rw [List.length_map]; rfl), by omega, fun st' H6 l6 est' ms' s6 h6 => ?_⟩
      have est2 : st' = st := by
        rw [ec1, est] at est'
        injection est' with z
        injection z with z
        exact z.symm
      subst est2
      rw [List.range_succ, List.map_append] at h6
      refine ⟨1, rfl, l6, _, -1, _, rfl, rfl, SqL.of h6, atI_last _ _, ?_⟩
      have s16 : Same H1 H6 := s15.trans s6
      refine ⟨_, rfl, sc, ns, 3, rfl, (s1.trans s16).seq hs, by decide, by decide, fun c3 ec3 => ?_⟩
      refine ⟨c3, 99, rfl, fun m m0 m1 => ?_⟩
      refine ⟨a, dp, do_, w, ph, ps, pt.nm, ltr ((c1 + st' * (ps.length : Int)) % 26), m, rfl, Pic.same s16 pic, ⟨pt.nm, pt, rfl, pl.nm pt pm, find_nm pl.nd pm⟩, ?_, fun p hp' e => ?_, fun H' => q H'⟩
      · show 1 ≤ 1000
        decide
      · have nd := ltrs_nd (c := c1) ms' (n := ps.length + 1) (by omega)
        rw [List.range_succ, List.map_append, List.nodup_append] at nd
        refine nd.2.2 p.nm ?_ _ (by simp) e
        have z : p.nm ∈ ps.map (·.nm) := List.mem_map.mpr ⟨p, hp', rfl⟩
        rw [enm, ← ec1] at z
        exact z
end
end S11

-- the head makes no twins where their names are taken: the twins of whole trees and heaps are what makes its compiled file large, and it does without them
def PySem.W.Fast.tw13509864207665274009 : Nat := 0
def PySem.W.Fast.tw17092152406735920825 : Nat := 0
def PySem.W.Fast.tw345783242951288966 : Nat := 0
def PySem.W.Fast.tw16178022723757595611 : Nat := 0
def PySem.W.Fast.tw1461444518225340614 : Nat := 0
def PySem.W.Fast.tw12753894357907418117 : Nat := 0
def PySem.W.Fast.tw4227379088364992394 : Nat := 0
def PySem.W.Fast.tw11716062317933120005 : Nat := 0
def PySem.W.Fast.tw4558184964892831556 : Nat := 0
def PySem.W.Fast.tw17916385201498521285 : Nat := 0
def PySem.W.Fast.tw12383546730214533392 : Nat := 0
def PySem.W.Fast.tw12139407928300401688 : Nat := 0
def PySem.W.Fast.tw16124525270285192410 : Nat := 0
def PySem.W.Fast.tw7275638773201044797 : Nat := 0
def PySem.W.Fast.tw10337891511735943793 : Nat := 0
def PySem.W.Fast.tw7014388723728050206 : Nat := 0
def PySem.W.Fast.tw10582550339639165174 : Nat := 0
def PySem.W.Fast.tw11412505508425578056 : Nat := 0
def PySem.W.Fast.tw14642995589058865680 : Nat := 0
def PySem.W.Fast.tw7991726182987728164 : Nat := 0
def PySem.W.Fast.tw11996471207502068547 : Nat := 0
def PySem.W.Fast.tw8556863715402281542 : Nat := 0
def PySem.W.Fast.tw16093694775781904721 : Nat := 0
def PySem.W.Fast.tw4249268230842801702 : Nat := 0
def PySem.W.Fast.tw390157173503648395 : Nat := 0
namespace S11
open PySem L2 XL
theorem walk {l : PySem.W.OpenLaw} {q : Program} {loose : List Str} {XP : (Str → Option Value) → Heap → Prop} {YP : World → Heap → Prop} {d : DefRec} {K : Params → PySem.W.Frag} (hn : l.most = some 63) (hdf : d.params.defaults = [])
    (hY : ∀ (w : World) (h : Heap), YP w h → (K w.params).In h)
    (F : ∀ (w : World) (mg : Str → Option Value) (fa : Addr) (h : Heap), (K w.params).In h → h.Ns mainGlobals mg → mg d.name = some (.ref fa) →
      ∃ fd : FuncData, (∀ (s : Shared) (u : Value), BindsTo s fd ⟨[u], []⟩ [("_law_script", u)]) ∧ ∀ base : Heap, (K w.params).In base → base.Ns mainGlobals mg → FnOk true l.prog w (K w.params) mg base (CXo l.prog w) 9 fa fd ["_law_script"] (spLaw (K w.params))) :
    PySem.W.WalkO q loose XP YP l.row.toRowW d [] (fun f vs => PySem.call f vs) :=
  L2.walk_of (q0 := true) (n := 63) (k := 9) (x := "_law_script") (CX := fun w => CXo l.prog w) (sp := fun w => spLaw (K w.params)) hn (by decide) hdf ⟨fun _ => rfl, by decide, by decide⟩ hY F (fun _ _ a ns hl _ hS => ⟨a, ns, rfl, hS, hl, fun _ => rfl⟩)
    fun w H s e s' z => by obtain ⟨_, _, _, _, _, _, _, _, _, _, _, _, _, _, q⟩ := z; exact q
theorem all_mk {l : PySem.W.OpenLaw} {w : World} {K : PySem.W.Frag} {h : Heap} {mg : Str → Option Value} {fa : Addr} (hfa : mg "law" = some (.ref fa)) (TT : ∃ t, Txt w K mg t) :
    ∃ fd : FuncData, (∀ (s : Shared) (v : Value), BindsTo s fd ⟨[v], []⟩ [("_law_script", v)]) ∧ ∀ base : Heap, K.In base → base.Ns mainGlobals mg → FnOk true l.prog w K mg base (CXo l.prog w) 9 fa fd ["_law_script"] (spLaw K) := by
  obtain ⟨t, T⟩ := TT
  have e := hfa.symm.trans T.g_law
  cases e
  refine ⟨t.d_law, fun s v => ?_, fun base _ _ => ok_law T⟩
  obtain ⟨oc, od, kV, doc, pm, an, cdv, ct, osl, e, lk, hcd⟩ := T.F_law.ex
  rw [e]
  exact .of_eq rfl
end S11
open PySem PySem.W PyProof.Rows
set_option maxRecDepth 100000 in
set_option maxHeartbeats 0 in
theorem PySem.Challenge.cw_rimnotes_k11_leaders_walked_holds : PySem.Challenge.rw_rimnotes_k11_leaders_walked.Holds := by
  w_on; o_law; k_head; (case hw => w_witness2)
  k_fill
  refine S11.walk (l := PySem.Challenge.rw_rimnotes_k11_leaders_walked) rfl rfl (fun w h Y => PySem.W.kIn_of Y) ?F
  case F =>
    intro w mg fa h KX G hmg
    refine S11.all_mk (h := h) hmg ?TT
    refine' S11.txt_mk (w := w) KX G ?g_RimError ?g_NoPoint ?g_NoSide ?g_NoRow ?g_Side ?g_LeftSide ?g_RightSide ?g_Picture ?a_NoPoint_init ?l_NoPoint_init ?c_NoPoint_init ?k_NoPoint_init ?i_NoPoint_init ?a_NoSide_init ?l_NoSide_init ?c_NoSide_init ?k_NoSide_init ?i_NoSide_init ?a_NoRow_init ?l_NoRow_init ?c_NoRow_init ?k_NoRow_init ?i_NoRow_init ?a_Side_init ?l_Side_init ?c_Side_init ?k_Side_init ?i_Side_init ?a_LeftSide_rim ?l_LeftSide_rim ?c_LeftSide_rim ?k_LeftSide_rim ?i_LeftSide_rim ?a_LeftSide_way ?l_LeftSide_way ?c_LeftSide_way ?k_LeftSide_way ?i_LeftSide_way ?a_LeftSide_across ?l_LeftSide_across ?c_LeftSide_across ?k_LeftSide_across ?i_LeftSide_across ?a_RightSide_rim ?l_RightSide_rim ?c_RightSide_rim ?k_RightSide_rim ?i_RightSide_rim ?a_RightSide_way ?l_RightSide_way ?c_RightSide_way ?k_RightSide_way ?i_RightSide_way ?a_RightSide_across ?l_RightSide_across ?c_RightSide_across ?k_RightSide_across ?i_RightSide_across ?a_side_of ?l_side_of ?c_side_of ?k_side_of ?i_side_of ?a_cells_of ?l_cells_of ?c_cells_of ?k_cells_of ?i_cells_of ?a_is_whole ?l_is_whole ?c_is_whole ?k_is_whole ?i_is_whole ?a_is_name ?l_is_name ?c_is_name ?k_is_name ?i_is_name ?a_Picture_init ?l_Picture_init ?c_Picture_init ?k_Picture_init ?i_Picture_init ?a_Picture_put ?l_Picture_put ?c_Picture_put ?k_Picture_put ?i_Picture_put ?t_Picture_put ?a_Picture_points ?l_Picture_points ?c_Picture_points ?k_Picture_points ?i_Picture_points ?a_Picture_place_of ?l_Picture_place_of ?c_Picture_place_of ?k_Picture_place_of ?i_Picture_place_of ?a_Picture_length ?l_Picture_length ?c_Picture_length ?k_Picture_length ?i_Picture_length ?a_Picture_check_name ?l_Picture_check_name ?c_Picture_check_name ?k_Picture_check_name ?i_Picture_check_name ?a_Picture_check_cell ?l_Picture_check_cell ?c_Picture_check_cell ?k_Picture_check_cell ?i_Picture_check_cell ?a_Picture_check_lines ?l_Picture_check_lines ?c_Picture_check_lines ?k_Picture_check_lines ?i_Picture_check_lines ?a_Picture_check_seat ?l_Picture_check_seat ?c_Picture_check_seat ?k_Picture_check_seat ?i_Picture_check_seat ?a_law_cell ?l_law_cell ?c_law_cell ?k_law_cell ?i_law_cell ?a_law_mix ?l_law_mix ?c_law_mix ?k_law_mix ?i_law_mix ?a_law_whole ?l_law_whole ?c_law_whole ?k_law_whole ?i_law_whole ?a_law_names ?l_law_names ?c_law_names ?k_law_names ?i_law_names ?a_law_places ?l_law_places ?c_law_places ?k_law_places ?i_law_places ?a_law_size ?l_law_size ?c_law_size ?k_law_size ?i_law_size ?a_law_picture ?l_law_picture ?c_law_picture ?k_law_picture ?i_law_picture ?a_law_due ?l_law_due ?c_law_due ?k_law_due ?i_law_due ?a_law_same ?l_law_same ?c_law_same ?k_law_same ?i_law_same ?a_law_told ?l_law_told ?c_law_told ?k_law_told ?i_law_told ?a_law_refused ?l_law_refused ?c_law_refused ?k_law_refused ?i_law_refused ?a_law_cells ?l_law_cells ?c_law_cells ?k_law_cells ?i_law_cells ?a_law ?l_law ?c_law ?k_law ?i_law ?kc_RimError ?ov_RimError ?hd_RimError ?sa_RimError ?ga_RimError ?gh_RimError ?ca_RimError ?mk_RimError ?kc_NoPoint ?ov_NoPoint ?hd_NoPoint ?sa_NoPoint ?ga_NoPoint ?gh_NoPoint ?ca_NoPoint ?mk_NoPoint ?kc_NoSide ?ov_NoSide ?hd_NoSide ?sa_NoSide ?ga_NoSide ?gh_NoSide ?ca_NoSide ?mk_NoSide ?kc_NoRow ?ov_NoRow ?hd_NoRow ?sa_NoRow ?ga_NoRow ?gh_NoRow ?ca_NoRow ?mk_NoRow ?kc_Side ?pg_Side ?hd_Side ?po_Side ?sa_Side ?mk_Side ?ca_Side ?mo_Side ?kc_LeftSide ?pg_LeftSide ?hd_LeftSide ?po_LeftSide ?sa_LeftSide ?mk_LeftSide ?ca_LeftSide ?mo_LeftSide ?a_LeftSide_init ?kc_RightSide ?pg_RightSide ?hd_RightSide ?po_RightSide ?sa_RightSide ?mk_RightSide ?ca_RightSide ?mo_RightSide ?a_RightSide_init ?kc_Picture ?pg_Picture ?hd_Picture ?po_Picture ?sa_Picture ?mk_Picture ?ca_Picture ?mo_Picture ?cg ?ct ?n_RightSide_width ?n_Picture_placed ?n_Picture_height ?n_Picture_width ?n_Picture_opened ?n_NoPoint_name ?n_NoPoint_side ?n_NoPoint_row ?n_NoSide_name ?n_NoSide_side ?n_NoSide_row ?n_NoRow_name ?n_NoRow_side ?n_NoRow_row ?n_Side_width ?n_LeftSide_width ?n_abs ?n_bool ?n_int ?n_isinstance ?n_len ?n_list ?n_min ?n_range ?n_str ?n_tuple ?mro_NoPoint_NoPoint ?mro_NoSide_NoPoint ?mro_NoSide_NoSide ?mro_NoRow_NoPoint ?mro_NoRow_NoSide ?mro_NoRow_NoRow ?v_MOST_ROWS ?v_MOST_COLUMNS ?v_MOST_POINTS ?g_MIRRORED_SIDES ?l_MIRRORED_SIDES ?ns_MIRRORED_SIDES
    (case g_RimError => k_is)
    (case g_NoPoint => k_is)
    (case g_NoSide => k_is)
    (case g_NoRow => k_is)
    (case g_Side => k_is)
    (case g_LeftSide => k_is)
    (case g_RightSide => k_is)
    (case g_Picture => k_is)
    (case a_NoPoint_init => k_is)
    (case l_NoPoint_init => k_is)
    (case c_NoPoint_init => k_is)
    (case k_NoPoint_init => k_is)
    (case i_NoPoint_init => k_is)
    (case a_NoSide_init => k_is)
    (case l_NoSide_init => k_is)
    (case c_NoSide_init => k_is)
    (case k_NoSide_init => k_is)
    (case i_NoSide_init => k_is)
    (case a_NoRow_init => k_is)
    (case l_NoRow_init => k_is)
    (case c_NoRow_init => k_is)
    (case k_NoRow_init => k_is)
    (case i_NoRow_init => k_is)
    (case a_Side_init => k_is)
    (case l_Side_init => k_is)
    (case c_Side_init => k_is)
    (case k_Side_init => k_is)
    (case i_Side_init => k_is)
    (case a_LeftSide_rim => k_is)
    (case l_LeftSide_rim => k_is)
    (case c_LeftSide_rim => k_is)
    (case k_LeftSide_rim => k_is)
    (case i_LeftSide_rim => k_is)
    (case a_LeftSide_way => k_is)
    (case l_LeftSide_way => k_is)
    (case c_LeftSide_way => k_is)
    (case k_LeftSide_way => k_is)
    (case i_LeftSide_way => k_is)
    (case a_LeftSide_across => k_is)
    (case l_LeftSide_across => k_is)
    (case c_LeftSide_across => k_is)
    (case k_LeftSide_across => k_is)
    (case i_LeftSide_across => k_is)
    (case a_RightSide_rim => k_is)
    (case l_RightSide_rim => k_is)
    (case c_RightSide_rim => k_is)
    (case k_RightSide_rim => k_is)
    (case i_RightSide_rim => k_is)
    (case a_RightSide_way => k_is)
    (case l_RightSide_way => k_is)
    (case c_RightSide_way => k_is)
    (case k_RightSide_way => k_is)
    (case i_RightSide_way => k_is)
    (case a_RightSide_across => k_is)
    (case l_RightSide_across => k_is)
    (case c_RightSide_across => k_is)
    (case k_RightSide_across => k_is)
    (case i_RightSide_across => k_is)
    (case a_side_of => k_is)
    (case l_side_of => k_is)
    (case c_side_of => k_is)
    (case k_side_of => k_is)
    (case i_side_of => k_is)
    (case a_cells_of => k_is)
    (case l_cells_of => k_is)
    (case c_cells_of => k_is)
    (case k_cells_of => k_is)
    (case i_cells_of => k_is)
    (case a_is_whole => k_is)
    (case l_is_whole => k_is)
    (case c_is_whole => k_is)
    (case k_is_whole => k_is)
    (case i_is_whole => k_is)
    (case a_is_name => k_is)
    (case l_is_name => k_is)
    (case c_is_name => k_is)
    (case k_is_name => k_is)
    (case i_is_name => k_is)
    (case a_Picture_init => k_is)
    (case l_Picture_init => k_is)
    (case c_Picture_init => k_is)
    (case k_Picture_init => k_is)
    (case i_Picture_init => k_is)
    (case a_Picture_put => k_is)
    (case l_Picture_put => k_is)
    (case c_Picture_put => k_is)
    (case k_Picture_put => k_is)
    (case i_Picture_put => k_is)
    (case t_Picture_put => k_is)
    (case a_Picture_points => k_is)
    (case l_Picture_points => k_is)
    (case c_Picture_points => k_is)
    (case k_Picture_points => k_is)
    (case i_Picture_points => k_is)
    (case a_Picture_place_of => k_is)
    (case l_Picture_place_of => k_is)
    (case c_Picture_place_of => k_is)
    (case k_Picture_place_of => k_is)
    (case i_Picture_place_of => k_is)
    (case a_Picture_length => k_is)
    (case l_Picture_length => k_is)
    (case c_Picture_length => k_is)
    (case k_Picture_length => k_is)
    (case i_Picture_length => k_is)
    (case a_Picture_check_name => k_is)
    (case l_Picture_check_name => k_is)
    (case c_Picture_check_name => k_is)
    (case k_Picture_check_name => k_is)
    (case i_Picture_check_name => k_is)
    (case a_Picture_check_cell => k_is)
    (case l_Picture_check_cell => k_is)
    (case c_Picture_check_cell => k_is)
    (case k_Picture_check_cell => k_is)
    (case i_Picture_check_cell => k_is)
    (case a_Picture_check_lines => k_is)
    (case l_Picture_check_lines => k_is)
    (case c_Picture_check_lines => k_is)
    (case k_Picture_check_lines => k_is)
    (case i_Picture_check_lines => k_is)
    (case a_Picture_check_seat => k_is)
    (case l_Picture_check_seat => k_is)
    (case c_Picture_check_seat => k_is)
    (case k_Picture_check_seat => k_is)
    (case i_Picture_check_seat => k_is)
    (case a_law_cell => k_is)
    (case l_law_cell => k_is)
    (case c_law_cell => k_is)
    (case k_law_cell => k_is)
    (case i_law_cell => k_is)
    (case a_law_mix => k_is)
    (case l_law_mix => k_is)
    (case c_law_mix => k_is)
    (case k_law_mix => k_is)
    (case i_law_mix => k_is)
    (case a_law_whole => k_is)
    (case l_law_whole => k_is)
    (case c_law_whole => k_is)
    (case k_law_whole => k_is)
    (case i_law_whole => k_is)
    (case a_law_names => k_is)
    (case l_law_names => k_is)
    (case c_law_names => k_is)
    (case k_law_names => k_is)
    (case i_law_names => k_is)
    (case a_law_places => k_is)
    (case l_law_places => k_is)
    (case c_law_places => k_is)
    (case k_law_places => k_is)
    (case i_law_places => k_is)
    (case a_law_size => k_is)
    (case l_law_size => k_is)
    (case c_law_size => k_is)
    (case k_law_size => k_is)
    (case i_law_size => k_is)
    (case a_law_picture => k_is)
    (case l_law_picture => k_is)
    (case c_law_picture => k_is)
    (case k_law_picture => k_is)
    (case i_law_picture => k_is)
    (case a_law_due => k_is)
    (case l_law_due => k_is)
    (case c_law_due => k_is)
    (case k_law_due => k_is)
    (case i_law_due => k_is)
    (case a_law_same => k_is)
    (case l_law_same => k_is)
    (case c_law_same => k_is)
    (case k_law_same => k_is)
    (case i_law_same => k_is)
    (case a_law_told => k_is)
    (case l_law_told => k_is)
    (case c_law_told => k_is)
    (case k_law_told => k_is)
    (case i_law_told => k_is)
    (case a_law_refused => k_is)
    (case l_law_refused => k_is)
    (case c_law_refused => k_is)
    (case k_law_refused => k_is)
    (case i_law_refused => k_is)
    (case a_law_cells => k_is)
    (case l_law_cells => k_is)
    (case c_law_cells => k_is)
    (case k_law_cells => k_is)
    (case i_law_cells => k_is)
    (case a_law => k_is)
    (case l_law => k_is)
    (case c_law => k_is)
    (case k_law => k_is)
    (case i_law => k_is)
    (case kc_RimError => k_is)
    (case ov_RimError => kernel_rfl)
    (case hd_RimError => k_is)
    (case sa_RimError => k_is)
    (case ga_RimError => k_is)
    (case gh_RimError => k_is)
    (case ca_RimError => k_is)
    (case mk_RimError => first | k_is | kernel_rfl)
    (case kc_NoPoint => k_is)
    (case ov_NoPoint => kernel_rfl)
    (case hd_NoPoint => k_is)
    (case sa_NoPoint => k_is)
    (case ga_NoPoint => k_is)
    (case gh_NoPoint => k_is)
    (case ca_NoPoint => k_is)
    (case mk_NoPoint => first | k_is | kernel_rfl)
    (case kc_NoSide => k_is)
    (case ov_NoSide => kernel_rfl)
    (case hd_NoSide => k_is)
    (case sa_NoSide => k_is)
    (case ga_NoSide => k_is)
    (case gh_NoSide => k_is)
    (case ca_NoSide => k_is)
    (case mk_NoSide => first | k_is | kernel_rfl)
    (case kc_NoRow => k_is)
    (case ov_NoRow => kernel_rfl)
    (case hd_NoRow => k_is)
    (case sa_NoRow => k_is)
    (case ga_NoRow => k_is)
    (case gh_NoRow => k_is)
    (case ca_NoRow => k_is)
    (case mk_NoRow => first | k_is | kernel_rfl)
    (case kc_Side => k_is)
    (case pg_Side => k_is)
    (case hd_Side => k_is)
    (case po_Side => k_is)
    (case sa_Side => k_is)
    (case mk_Side => first | k_is | kernel_rfl)
    (case ca_Side => k_is)
    (case mo_Side => k_is)
    (case kc_LeftSide => k_is)
    (case pg_LeftSide => k_is)
    (case hd_LeftSide => k_is)
    (case po_LeftSide => k_is)
    (case sa_LeftSide => k_is)
    (case mk_LeftSide => first | k_is | kernel_rfl)
    (case ca_LeftSide => k_is)
    (case mo_LeftSide => k_is)
    (case a_LeftSide_init => k_is)
    (case kc_RightSide => k_is)
    (case pg_RightSide => k_is)
    (case hd_RightSide => k_is)
    (case po_RightSide => k_is)
    (case sa_RightSide => k_is)
    (case mk_RightSide => first | k_is | kernel_rfl)
    (case ca_RightSide => k_is)
    (case mo_RightSide => k_is)
    (case a_RightSide_init => k_is)
    (case kc_Picture => k_is)
    (case pg_Picture => k_is)
    (case hd_Picture => k_is)
    (case po_Picture => k_is)
    (case sa_Picture => k_is)
    (case mk_Picture => first | k_is | kernel_rfl)
    (case ca_Picture => k_is)
    (case mo_Picture => k_is)
    (case cg => k_is)
    (case ct => k_is)
    (case n_RightSide_width => k_is)
    (case n_Picture_placed => k_is)
    (case n_Picture_height => k_is)
    (case n_Picture_width => k_is)
    (case n_Picture_opened => k_is)
    (case n_NoPoint_name => k_is)
    (case n_NoPoint_side => k_is)
    (case n_NoPoint_row => k_is)
    (case n_NoSide_name => k_is)
    (case n_NoSide_side => k_is)
    (case n_NoSide_row => k_is)
    (case n_NoRow_name => k_is)
    (case n_NoRow_side => k_is)
    (case n_NoRow_row => k_is)
    (case n_Side_width => k_is)
    (case n_LeftSide_width => k_is)
    (case n_abs => k_is)
    (case n_bool => k_is)
    (case n_int => k_is)
    (case n_isinstance => k_is)
    (case n_len => k_is)
    (case n_list => k_is)
    (case n_min => k_is)
    (case n_range => k_is)
    (case n_str => k_is)
    (case n_tuple => k_is)
    (case mro_NoPoint_NoPoint => k_is)
    (case mro_NoSide_NoPoint => k_is)
    (case mro_NoSide_NoSide => k_is)
    (case mro_NoRow_NoPoint => k_is)
    (case mro_NoRow_NoSide => k_is)
    (case mro_NoRow_NoRow => k_is)
    (case v_MOST_ROWS => k_is)
    (case v_MOST_COLUMNS => k_is)
    (case v_MOST_POINTS => k_is)
    (case g_MIRRORED_SIDES => k_is)
    (case l_MIRRORED_SIDES => first | k_is | kernel_rfl)
    (case ns_MIRRORED_SIDES => kernel_rfl)
