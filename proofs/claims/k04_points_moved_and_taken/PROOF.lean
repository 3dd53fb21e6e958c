import PyProof.Rows.All
import Wide.All
import OpenK.AllK
import Wide.FinOn
import Lean
import PyProof.EqAt
import PyProof.EqKinds
import PyProof.TupleCall
import PyProof.StationsW
import PyProof.ExcClass2
import PyProof.RulesAs
import PyProof.ExcBaseAll.ValueError
import OpenK.KDescr
import OpenK.KWalk
import PyProof.ExcAttrAll.ValueError
import PyProof.Comp
import PyProof.ListRange
import PyProof.DictItems
import KE.KPairComp
import KE.KDictOf
import PyProof.AttrMissHeap
import PyProof.Rows.Range3
import KE.KRevIter
import PyProof.ZipIter
import OpenK.KEqL
import PyProof.AutoListH
import PyProof.EnumMake
import PyProof.WalksEnum
import PyProof.NeKinds
import PyProof.MaxThree
import KE.KSortTup
import PyProof.StrLawsIn
import PySem.Challenge.RW_rimnotes_k04_points_moved_and_taken
set_option Elab.async false
set_option linter.all false
set_option maxRecDepth 100000
set_option maxHeartbeats 4000000
set_option maxRecDepth 100000
namespace L2
open PySem PySem.Spec PyProof.Rows
variable {q0 : Bool}
abbrev Key := Sum Int Str
def keyIs : Key → Value → Bool
  | .inl k, v => Value.isInt k v
  | .inr x, v => Value.isStrOf x v
def keyH (w : World) : Key → Int
  | .inl k => hashInt k
  | .inr x => hashStr w x
theorem keyIs_shape : ∀ {k : Key} {v : Value}, keyIs k v = true → (∃ i t, k = Sum.inl i ∧ v = Value.int i t) ∨ (∃ x t, k = Sum.inr x ∧ v = Value.str x t)
  | .inl i, v, h => by
    obtain ⟨t, e⟩ := Value.isInt_shape (k := i) (v := v) h
    exact .inl ⟨i, t, rfl, e⟩
  | .inr x, v, h => by
    obtain ⟨t, e⟩ := Value.isStrOf_shape (x := x) (v := v) h
    exact .inr ⟨x, t, rfl, e⟩
theorem keyIs_int (i : Int) (t : Tok) : keyIs (.inl i) (.int i t) = true := by simp [keyIs, Value.isInt]
theorem keyIs_str (x : Str) (t : Tok) : keyIs (.inr x) (.str x t) = true := by simp [keyIs, Value.isStrOf]
theorem key_ll (a b : Int) : decide ((Sum.inl a : Key) = Sum.inl b) = (a == b) := by
  by_cases e : a = b
  · subst e; simp
  · have h : ¬ (Sum.inl a : Key) = Sum.inl b := fun q => e (Sum.inl.inj q)
    rw [decide_eq_false h]
    exact (beq_eq_false_iff_ne.mpr e).symm
theorem key_rr (a b : Str) : decide ((Sum.inr a : Key) = Sum.inr b) = decide (a = b) := by
  by_cases e : a = b
  · subst e; simp
  · have h : ¬ (Sum.inr a : Key) = Sum.inr b := fun q => e (Sum.inr.inj q)
    rw [decide_eq_false h, decide_eq_false e]
theorem key_lr (a : Int) (b : Str) : decide ((Sum.inl a : Key) = Sum.inr b) = false := decide_eq_false (fun q => nomatch q)
theorem key_rl (a : Str) (b : Int) : decide ((Sum.inr a : Key) = Sum.inl b) = false := decide_eq_false (fun q => nomatch q)
def mixKind (prog : Program) (w : World) : PySem.KeyKind prog w Key where
  is := keyIs
  hash := keyH w
  inj := fun v a b ha hb => by
    rcases keyIs_shape ha with ⟨i, t, rfl, rfl⟩ | ⟨x, t, rfl, rfl⟩
    · rcases keyIs_shape hb with ⟨j, u, rfl, e⟩ | ⟨y, u, rfl, e⟩
      · injection e with e1 _; rw [e1]
      · exact nomatch e
    · rcases keyIs_shape hb with ⟨j, u, rfl, e⟩ | ⟨y, u, rfl, e⟩
      · exact nomatch e
      · injection e with e1 _; rw [e1]
  byValue := fun k v h => by
    rcases keyIs_shape h with ⟨i, t, rfl, rfl⟩ | ⟨x, t, rfl, rfl⟩ <;> rfl
  pyHash := fun hv h => by
    rcases keyIs_shape hv with ⟨i, t, rfl, rfl⟩ | ⟨x, t, rfl, rfl⟩
    · exact wpAny_pyHash_int h
    · exact wpAny_pyHash_str h
  eqBool := fun hu hv h => by
    rcases keyIs_shape hu with ⟨i, t, rfl, rfl⟩ | ⟨x, t, rfl, rfl⟩
    · rcases keyIs_shape hv with ⟨j, u, rfl, rfl⟩ | ⟨y, u, rfl, rfl⟩
      · rw [key_ll] at h; exact wpAny_eqBool_int h
      · rw [key_lr] at h; exact SeqAt.EqAt.int_str i t y u _ _ _ _ h
    · rcases keyIs_shape hv with ⟨j, u, rfl, rfl⟩ | ⟨y, u, rfl, rfl⟩
      · rw [key_rl] at h; exact SeqAt.EqAt.str_int x t j u _ _ _ _ h
      · rw [key_rr] at h; exact wpAny_eqBool_str h
  «strs» := fun k x t v h => by
    rcases keyIs_shape h with ⟨i, u, rfl, e⟩ | ⟨y, u, rfl, e⟩
    · exact nomatch e
    · injection e with e1 _
      subst e1
      cases v <;> rfl
theorem mixKind_int (prog : Program) (w : World) (i : Int) (t : Tok) : (mixKind prog w).is (.inl i) (.int i t) = true := keyIs_int i t
theorem mixKind_str (prog : Program) (w : World) (x : Str) (t : Tok) : (mixKind prog w).is (.inr x) (.str x t) = true := keyIs_str x t
end L2
namespace L2
open PySem PySem.Spec PyProof.Rows
variable {q0 : Bool}
inductive V where
  | non | bl (b : Bool) | int (i : Int) | str (x : Str) | byt (b : Array UInt8) | flt (b : UInt64) | ref (a : Addr) | ty (n : String)
  deriving DecidableEq
def RelV : V → Value → Prop
  | .non, u => u = Value.none
  | .bl b, u => u = Value.bool b
  | .int i, u => ∃ t, u = Value.int i t
  | .str x, u => ∃ t, u = Value.str x t
  | .byt b, u => ∃ t, u = Value.bytes b t
  | .flt b, u => ∃ t, u = Value.float b t
  | .ref a, u => u = Value.ref a
  | .ty n, u => u = Value.type n
abbrev Vals : List V → List Value → Prop := Paired RelV
theorem Vals.length {xs : List V} {us : List Value} (r : Vals xs us) : xs.length = us.length := Paired.length r
theorem Vals.get : ∀ {xs : List V} {us : List Value} {i : Nat} {x : V}, Vals xs us → xs[i]? = some x → ∃ u, us[i]? = some u ∧ RelV x u
  | _, _, _, _, .nil, e => by simp at e
  | _, _, 0, _, .cons r _, e => by simp at e; subst e; exact ⟨_, rfl, r⟩
  | _, _, i + 1, x, .cons _ t, e => by
    obtain ⟨u, h1, h2⟩ := Vals.get (i := i) (x := x) t (by simpa using e)
    exact ⟨u, by simpa using h1, h2⟩
theorem Vals.set {x : V} {u : Value} (r : RelV x u) : ∀ {xs : List V} {us : List Value} (i : Nat), Vals xs us → Vals (xs.set i x) (us.set i u)
  | _, _, _, .nil => .nil
  | _, _, 0, .cons _ t => .cons r t
  | _, _, i + 1, .cons q t => .cons q (Vals.set r i t)
theorem Vals.append : ∀ {xs ys : List V} {us ws : List Value}, Vals xs us → Vals ys ws → Vals (xs ++ ys) (us ++ ws)
  | _, _, _, _, .nil, s => s
  | _, _, _, _, .cons r t, s => .cons r (Vals.append t s)
theorem Vals.take : ∀ {xs : List V} {us : List Value} (n : Nat), Vals xs us → Vals (xs.take n) (us.take n)
  | _, _, 0, _ => .nil
  | _, _, _ + 1, .nil => .nil
  | _, _, n + 1, .cons r t => .cons r (Vals.take n t)
theorem Vals.drop : ∀ {xs : List V} {us : List Value} (n : Nat), Vals xs us → Vals (xs.drop n) (us.drop n)
  | _, _, 0, r => r
  | _, _, _ + 1, .nil => .nil
  | _, _, n + 1, .cons _ t => Vals.drop n t
def RelO : Option V → Option Value → Prop
  | some v, some u => RelV v u
  | none, none => True
  | _, _ => False
def KV {κ : Type} : List (κ × V) → List (κ × Value) → Prop := Paired fun (p : κ × V) (q : κ × Value) => p.1 = q.1 ∧ RelV p.2 q.2
def kV : Key → V
  | .inl i => .int i
  | .inr x => .str x
inductive HO where
  /-- a list -/
  | lst (xs : List V)
  /-- a tuple (never changes) -/
  | tup (xs : List V)
  /-- a dict whose keys are ints and texts; one whose keys are tuples of ints and texts (the empty one is both) -/
  | dK (kvs : List (Key × V)) | dT (kvs : List (List Key × V))
  /-- a set of ints: its members, its size -/
  | set (S : Int → Bool) (n : Nat)
  /-- an instance of the class at C, its dict at dx, its attributes -/
  | ins (C dx : Addr) (fs : List (Str × V))
  /-- the dict of the instance at x -/
  | own (x : Addr)
  /-- the dict of an exception -/
  | xd (fs : List (Str × V))
  /-- a bound method, f of x -/
  | met (f x : Addr)
  /-- a range object lo, lo + 1, .. below hi -/
  | rng (lo hi : Int)
  /-- a thing that is known to the object (the script; a dict while a loop walks it): read, never written while it is so -/
  | frz (o : Obj) (u : HO)
  /-- a code object's table -/
  | tbl (ps : Array Value)
  /-- any other thing, by what is true of its one object (a def of one's own: SetO a S n := HO.ext fun h => ..) -/
  | ext (φ : Heap → Prop)
abbrev Hp := Addr → Option HO
def upd (H : Hp) (a : Addr) (o : HO) : Hp := fun b => if b = a then some o else H b
theorem upd_same {H : Hp} {a : Addr} {o : HO} : upd H a o a = some o := by unfold upd; rw [if_pos rfl]
theorem upd_ne {H : Hp} {a b : Addr} {o : HO} (h : b ≠ a) : upd H a o b = H b := by unfold upd; rw [if_neg h]
theorem upd_upd {H : Hp} {a : Addr} {o u : HO} : upd (upd H a o) a u = upd H a u := by
  funext b; unfold upd; split <;> rfl
theorem ne_of {H : Hp} {a b : Addr} {o u : HO} (h : H a = some o) (h' : H b = some u) (d : o ≠ u) : a ≠ b := by
  intro e; subst e; rw [h] at h'; exact d (Option.some.inj h')
theorem ne_of_none {H : Hp} {a b : Addr} {o : HO} (h : H a = some o) (h' : H b = none) : a ≠ b := by
  intro e; subst e; rw [h] at h'; cases h'
section
variable (P : Program) (w : World)
def ObjOk (H : Hp) (h : Heap) (a : Addr) : HO → Prop
  | .lst xs => xs.length ≤ sizeLine ∧ ∃ (its : List Value) (n : Nat), Vals xs its ∧ h.get? a = some { cls := .type "list", data := .seq its.toArray n }
  | .tup xs => xs.length ≤ sizeLine ∧ ∃ its : List Value, Vals xs its ∧ IsTup h a its.toArray
  | .dK kvs => kvs.length ≤ sizeLine ∧ (a == sysModules) = false ∧ ∃ vs, KV kvs vs ∧ h.DictOf (mixKind P w) a vs
  | .dT kvs => kvs.length ≤ sizeLine ∧ (a == sysModules) = false ∧ ∃ xs : List (List Key × Addr × Value),
      Paired (fun (p : List Key × V) (q : List Key × Addr × Value) => p.1 = q.1 ∧ H q.2.1 = some (.tup (p.1.map kV)) ∧ RelV p.2 q.2.2) kvs xs ∧
      ∃ o es ep, h.get? a = some o ∧ o.ExactDict ∧ o.data = .dict es ep ∧ es.toList = xs.map (entryOfKey (tupleKind (mixKind P w))) ∧ (xs.map (·.1)).Nodup
  | .set S n => h.SetOf (intKind P w) a S n
  | .ins C dx fs => H dx = some (.own a) ∧ fs.length ≤ 1000 ∧ dx ≠ a ∧ h.get? a = some (PySem.W.instObj C dx) ∧
      ∃ mA, h.Ns1 dx mA ∧ (∀ f, RelO (fs.lookup f) (mA f)) ∧ PySem.Within mA (fs.map (·.1))
  | .own _ => ∃ o, h.get? a = some o
  | .xd fs => ∃ mA, h.Ns1 a mA ∧ ∀ f, RelO (fs.lookup f) (mA f)
  | .rng lo hi => ∃ t u v, h.get? a = some { cls := .type "range", data := .fields #[.int lo t, .int hi u, .int 1 v] }
  | .frz o u => h.get? a = some o ∧ ObjOk H h a u
  | .tbl ps => h.get? a = some { cls := .none, data := .fields ps }
  | .met f x => h.get? a = some (PySem.W.methodObj (.ref f) (.ref x))
  | .ext φ => φ h ∧ (∃ o, h.get? a = some o) ∧ ∀ h1 h2 : Heap, φ h1 → (∀ o, h1.get? a = some o → h2.get? a = some o) → φ h2
def HOk (H : Hp) (h : Heap) : Prop := ∀ a o, H a = some o → ObjOk P w H h a o
end
section
variable {P : Program} {w : World} {H H' : Hp} {h h' : Heap} {a : Addr} {o : HO}
theorem ObjOk.lt (x : ObjOk P w H h a o) : a < h.objs.size := by
  cases o with
  | lst xs => obtain ⟨_, _, _, _, e⟩ := x; exact Heap.lt_size e
  | tup xs => obtain ⟨_, _, _, p⟩ := x; exact p.lt
  | dK kvs => obtain ⟨_, _, _, _, o, _, _, e, _⟩ := x; exact Heap.lt_size e
  | dT kvs => obtain ⟨_, _, _, _, o, _, _, e, _⟩ := x; exact Heap.lt_size e
  | set S n => obtain ⟨o, _, _, _, e, _⟩ := x; exact Heap.lt_size e
  | ins C dx fs => obtain ⟨_, _, _, e, _⟩ := x; exact Heap.lt_size e
  | own y => obtain ⟨_, e⟩ := x; exact Heap.lt_size e
  | xd fs => obtain ⟨_, ⟨_, _, _, e, _⟩, _⟩ := x; exact Heap.lt_size e
  | rng lo hi => obtain ⟨_, _, _, e⟩ := x; exact Heap.lt_size e
  | frz ob u => obtain ⟨e, _⟩ := x; exact Heap.lt_size e
  | tbl ps => exact Heap.lt_size (show h.get? a = some _ from x)
  | met f y => exact Heap.lt_size (show h.get? a = some _ from x)
  | ext φ => obtain ⟨_, ⟨_, e⟩, _⟩ := x; exact Heap.lt_size e
theorem Paired.mapP {α β : Type} {F G : α → β → Prop} : ∀ {l₁ : List α} {l₂ : List β}, Paired F l₁ l₂ → (∀ a b, F a b → G a b) → Paired G l₁ l₂
  | _, _, .nil, _ => .nil
  | _, _, .cons r t, f => .cons (f _ _ r) (Paired.mapP t f)
theorem ObjOk.stay (x : ObjOk P w H h a o) (k : ∀ b u, (b = a ∨ H b = some (.own a)) → h.get? b = some u → h'.get? b = some u)
    (ho : ∀ b, H b = some (.own a) → H' b = some (.own a)) (ht : ∀ b xs, H b = some (.tup xs) → H' b = some (.tup xs)) : ObjOk P w H' h' a o := by
  induction o with
  | lst xs => obtain ⟨z, its, n, r, e⟩ := x; exact ⟨z, its, n, r, k _ _ (.inl rfl) e⟩
  | tup xs => obtain ⟨z, its, r, ob, e, c⟩ := x; exact ⟨z, its, r, ob, k _ _ (.inl rfl) e, c⟩
  | dK kvs => obtain ⟨z, y, vs, r, ob, es, ep, e, c⟩ := x; exact ⟨z, y, vs, r, ob, es, ep, k _ _ (.inl rfl) e, c⟩
  | dT kvs =>
    obtain ⟨z, y, xs, r, ob, es, ep, e, c⟩ := x
    exact ⟨z, y, xs, Paired.mapP r fun p q z => ⟨z.1, ht _ _ z.2.1, z.2.2⟩, ob, es, ep, k _ _ (.inl rfl) e, c⟩
  | set S n => obtain ⟨ob, es, ep, t, e, c⟩ := x; exact ⟨ob, es, ep, t, k _ _ (.inl rfl) e, c⟩
  | ins C dx fs =>
    obtain ⟨d, z, ne, e, mA, ⟨od, es, ep, e2, c⟩, r⟩ := x
    exact ⟨ho _ d, z, ne, k _ _ (.inl rfl) e, mA, ⟨od, es, ep, k _ _ (.inr d) e2, c⟩, r⟩
  | own y => obtain ⟨ob, e⟩ := x; exact ⟨ob, k _ _ (.inl rfl) e⟩
  | xd fs => obtain ⟨mA, ⟨od, es, ep, e, c⟩, r⟩ := x; exact ⟨mA, ⟨od, es, ep, k _ _ (.inl rfl) e, c⟩, r⟩
  | rng lo hi => obtain ⟨t, u, v, e⟩ := x; exact ⟨t, u, v, k _ _ (.inl rfl) e⟩
  | frz ob u ih => obtain ⟨e, q⟩ := x; exact ⟨k _ _ (.inl rfl) e, ih q⟩
  | tbl ps =>
    have e : h.get? a = some { cls := .none, data := .fields ps } := x
    show h'.get? a = some { cls := .none, data := .fields ps }
    exact k a _ (.inl rfl) e
  | met f y =>
    have e : h.get? a = some (PySem.W.methodObj (.ref f) (.ref y)) := x
    show h'.get? a = some (PySem.W.methodObj (.ref f) (.ref y))
    exact k a _ (.inl rfl) e
  | ext φ => obtain ⟨p, ⟨o, e⟩, st⟩ := x; exact ⟨st _ _ p fun o q => k _ _ (.inl rfl) q, ⟨o, k _ _ (.inl rfl) e⟩, st⟩
theorem HOk.lt (x : HOk P w H h) (e : H a = some o) : a < h.objs.size := (x a o e).lt
theorem HOk.fresh (x : HOk P w H h) (e : h.objs.size ≤ a) : H a = none := by
  cases q : H a with
  | none => rfl
  | some u => exact absurd (Nat.lt_of_lt_of_le (x.lt q) e) (Nat.lt_irrefl _)
theorem HOk.kept (x : HOk P w H h) (k : ∀ b u, h.get? b = some u → h'.get? b = some u) : HOk P w H h' := fun a o e =>
  (x a o e).stay (fun b u _ q => k b u q) (fun _ q => q) fun _ _ q => q
theorem HOk.laid (x : HOk P w H h) (k : ∀ b u, h.get? b = some u → h'.get? b = some u) (hp : h.objs.size ≤ a) (new : ObjOk P w (upd H a o) h' a o) : HOk P w (upd H a o) h' := fun b u e => by
  have hn := x.fresh hp
  by_cases hb : b = a
  · subst hb; rw [upd_same] at e; cases e; exact new
  · rw [upd_ne hb] at e
    exact (x b u e).stay (fun c v _ q => k c v q) (fun c q => by rw [upd_ne (ne_of_none q hn)]; exact q) fun c xs q => by rw [upd_ne (ne_of_none q hn)]; exact q
end
def Rd (H : Hp) (a : Addr) (u : HO) : Prop := H a = some u ∨ ∃ o, H a = some (.frz o u)
theorem Rd.ok {P : Program} {w : World} {H : Hp} {h : Heap} {a : Addr} {u : HO} (r : Rd H a u) (x : HOk P w H h) : ObjOk P w H h a u := by
  rcases r with r | ⟨o, r⟩
  · exact x a u r
  · obtain ⟨_, q⟩ := x a _ r
    exact q
def Mut : Option HO → Prop
  | some (.lst _) => True
  | some (.dK _) => True
  | some (.dT _) => True
  | some (.set _ _) => True
  | some (.ins _ _ _) => True
  | some (.ext _) => True
  | _ => False
section
variable {P : Program} {w : World} {H : Hp} {h h' : Heap} {x e : Addr} {o' : HO}
theorem HOk.write (ok : HOk P w H h) (mu : Mut (H x)) (he : e = x ∨ H e = some (.own x)) (k : ∀ b u, b ≠ e → h.get? b = some u → h'.get? b = some u) (heo : ∃ u, h'.get? e = some u)
    (new : ObjOk P w (upd H x o') h' x o') : HOk P w (upd H x o') h' := fun b u q => by
  have nown : ∀ c y, H c = some (.own y) → c ≠ x := fun c y r z => by subst z; rw [r] at mu; exact mu
  have ntup : ∀ c xs, H c = some (.tup xs) → c ≠ x := fun c xs r z => by subst z; rw [r] at mu; exact mu
  by_cases hb : b = x
  · subst hb; rw [upd_same] at q; cases q; exact new
  · rw [upd_ne hb] at q
    by_cases hbe : b = e
    · have q' : H b = some (.own x) := by
        rcases he with z | z
        · exact absurd (hbe.trans z) hb
        · rw [hbe]; exact z
      rw [q] at q'; cases q'
      obtain ⟨v, hv⟩ := heo
      exact ⟨v, by rw [hbe]; exact hv⟩
    · refine (ok b u q).stay (fun c v hc r => k c v ?_ r) (fun c r => by rw [upd_ne (nown c b r)]; exact r) fun c xs r => by rw [upd_ne (ntup c xs r)]; exact r
      rcases hc with rfl | hc
      · exact hbe
      · rintro rfl
        rcases he with z | z
        · exact nown c b hc z
        · rw [hc] at z; cases z; exact hb rfl
end
structure Un (fs ex : List Addr) (H H' : Hp) (h h' : Heap) : Prop where
  keep : ∀ b o, h.get? b = some o → H b = none → b ∉ fs → b ∉ ex → h'.get? b = some o
  slot : ∀ b o, h.get? b = some o → H b = none → b ∈ fs → b ∉ ex → ∃ sl, h'.get? b = some { o with slots := sl }
  free : ∀ b o, h.get? b = some o → H b = none → b ∉ ex → H' b = none
  there : ∀ b o, h.get? b = some o → b ∉ ex → ∃ o', h'.get? b = some o'
  tups : ∀ b xs, H b = some (.tup xs) → H' b = some (.tup xs)
  frzs : ∀ b o u, H b = some (.frz o u) → H' b = some (.frz o u)
  tbls : ∀ b ps, H b = some (.tbl ps) → ∃ more, H' b = some (.tbl (ps ++ more))
section
variable {fs fs' ex ex' : List Addr} {H H1 H2 : Hp} {h h1 h2 h' : Heap} {a x e : Addr} {o : HO}
theorem Un.any (u : Un fs ex H H1 h h1) {b : Addr} {ob : Obj} (q : h.get? b = some ob) (n : H b = none) (hx : b ∉ ex) : ∃ sl, h1.get? b = some { ob with slots := sl } := by
  by_cases hb : b ∈ fs
  · exact u.slot b ob q n hb hx
  · exact ⟨ob.slots, u.keep b ob q n hb hx⟩
theorem Un.kept (k : ∀ b u, h.get? b = some u → h'.get? b = some u) : Un fs ex H H h h' :=
  ⟨fun b ob q _ _ _ => k b ob q, fun b ob q _ _ _ => ⟨ob.slots, k b ob q⟩, fun _ _ _ n _ => n, fun b ob q _ => ⟨ob, k b ob q⟩, fun _ _ q => q, fun _ _ _ q => q, fun _ ps q => ⟨#[], by rw [q]; simp⟩⟩
theorem Un.refl : Un fs ex H H h h := Un.kept fun _ _ q => q
theorem Un.laid (k : ∀ b u, h.get? b = some u → h'.get? b = some u) (hp : h.objs.size ≤ a) (hn : H a = none) : Un fs ex H (upd H a o) h h' where
  keep := fun b u q _ _ _ => k b u q
  slot := fun b u q _ _ _ => ⟨u.slots, k b u q⟩
  free := fun b u q n _ => by rw [upd_ne (Nat.ne_of_lt (Nat.lt_of_lt_of_le (Heap.lt_size q) hp))]; exact n
  there := fun b u q _ => ⟨u, k b u q⟩
  tups := fun b xs q => by rw [upd_ne (ne_of_none q hn)]; exact q
  frzs := fun b u xs q => by rw [upd_ne (ne_of_none q hn)]; exact q
  tbls := fun b ps q => ⟨#[], by rw [upd_ne (ne_of_none q hn), q]; simp⟩
theorem Un.write (mu : Mut (H x)) (he : e = x ∨ H e = some (.own x)) (k : ∀ b u, b ≠ e → h.get? b = some u → h'.get? b = some u) (heo : ∃ u, h'.get? e = some u) : Un fs ex H (upd H x o) h h' := by
  have hx : ∀ b, H b = none → b ≠ x := fun b n z => by subst z; rw [n] at mu; exact mu
  have hb : ∀ b, H b = none → b ≠ e := fun b n z => by
    subst z
    rcases he with r | r
    · exact hx b n r
    · rw [n] at r; cases r
  have hm : ∀ b u, H b = some u → ¬ Mut (some u) → b ≠ x := fun b u q nm z => by subst z; rw [q] at mu; exact nm mu
  refine ⟨fun b u q n _ _ => k b u (hb b n) q, fun b u q n _ _ => ⟨u.slots, k b u (hb b n) q⟩, fun b u q n _ => by rw [upd_ne (hx b n)]; exact n, fun b u q _ => ?_,
    fun b xs q => by rw [upd_ne (hm b _ q fun z => z)]; exact q, fun b u xs q => by rw [upd_ne (hm b _ q fun z => z)]; exact q, fun b ps q => ⟨#[], by rw [upd_ne (hm b _ q fun z => z), q]; simp⟩⟩
  by_cases hbe : b = e
  · subst hbe; exact heo
  · exact ⟨u, k b u hbe q⟩
end
def trk (h : Heap) (H : Hp) : List Addr := (List.range h.objs.size).filter fun a => (H a).isSome
def hidT (h : Heap) (H : Hp) : Heap := PySem.W.hideAll h (trk h H)
theorem hidT_size (h : Heap) (H : Hp) : (hidT h H).objs.size = h.objs.size := PySem.W.hideAll_size _ _
theorem hidT_get {h : Heap} {H : Hp} {b : Addr} {o : Obj} (e : h.get? b = some o) (n : H b = none) : (hidT h H).get? b = some o :=
  PySem.W.hideAll_get _ e fun hm => by
    have q : (H b).isSome = true := (List.mem_filter.mp hm).2
    rw [n] at q; simp at q
theorem of_hidT {h : Heap} {H : Hp} {b : Addr} {o : Obj} (e : (hidT h H).get? b = some o) : h.get? b = some o ∧ H b = none := by
  have e' : h.get? b = some o := PySem.W.of_hideAll (trk h H) e
  refine ⟨e', ?_⟩
  cases q : H b with
  | none => rfl
  | some x =>
    have hm : b ∈ trk h H := List.mem_filter.mpr ⟨List.mem_range.mpr (Heap.lt_size e'), by simp [q]⟩
    have z : (hidT h H).get? b = none := PySem.W.hideAll_none (trk h H) hm
    rw [z] at e; cases e
def allNews (g h : Heap) (L : Addr) : List (Addr × Obj) := (List.range h.objs.size).filterMap fun a => if a = L ∨ (g.get? a).isSome = true then none else (h.get? a).map fun o => (a, o)
def rest (g h : Heap) (L d : Addr) : List (Addr × Obj) := (allNews g h L).filter fun p => decide (p.1 ≠ d)
end L2
namespace L2
open PySem PySem.Spec PyProof.Rows
variable {q0 : Bool}
structure Mod (K : PySem.W.Frag) (mg : Str → Option Value) (base : Heap) : Prop where
  kin : K.In base
  glob : base.Ns mainGlobals mg
  blt : ∃ mb, base.Ns builtinsNs mb ∧ ∀ x : Str, x ≠ "__name__" → mb x = bootBuiltins x
  nolimit : base.NoLimit
structure Cx where
  prog : Program
  w : World
  K : PySem.W.Frag
  mg : Str → Option Value
  base : Heap
  A : Around
  N : List Str
  s₀ : Shared
  H₀ : Hp
  env : Env
  outer : List Env
  stack : List Env
  ex : List Addr
  fn : Str → Bool
  calm : Bool
  pn : List (Addr × Obj)
  xe : Value → Shared → Prop
def frs (l : List Env) : List Addr := l.filterMap (·.frame)
abbrev Cx.fs (X : Cx) : List Addr := frs X.outer
def Vis (sc : Scope) (x : Str) : Prop := sc.names.lookup x = some .local ∨ sc.names.lookup x = some .cell ∨ sc.names.lookup x = some .free
def Loc (sc : Scope) (x : Str) : Prop := sc.names.lookup x = some .local ∨ sc.names.lookup x = some .cell
def Look (env : Env) (h : Heap) (m : Str → Option Value) (x : Str) (u : Value) : Prop :=
  (env.kindOf x = some .local ∧ m x = some u) ∨ ((env.kindOf x = some .cell ∨ env.kindOf x = some .free) ∧ ∃ c, env.cells.lookup x = some c ∧ h.IsCell c (some u))
structure Cx.Ok (X : Cx) : Prop where
  mod : Mod X.K X.mg X.base
  kind : X.env.scope.kind = .function
  glob : X.env.globals = mainGlobals
  blt : X.env.builtins = builtinsNs
  above : X.s₀.heap.objs.size ≤ X.env.locals
  inj : ∀ x y c, X.env.cells.lookup x = some c → X.env.cells.lookup y = some c → x = y
  has : ∀ x, (X.env.kindOf x = some .cell ∨ X.env.kindOf x = some .free) → ∃ c, X.env.cells.lookup x = some c
  cab : ∀ x c, X.fn x = true → X.env.cells.lookup x = some c → X.s₀.heap.objs.size ≤ c
  hd : X.calm = true → X.A.handled = none
  frames : X.A.frames = some X.stack
  stk : X.stack = X.outer ∨ (X.stack = X.env :: X.outer ∧ X.env.frame = some X.env.locals)
  exf : ∀ b ∈ X.ex, b ≠ X.env.locals ∧ ∀ x c, X.env.cells.lookup x = some c → c ≠ b
  bs : ∀ b o, X.base.get? b = some o → X.s₀.heap.get? b = some o ∧ X.H₀ b = none
  bsz : X.base.objs.size ≤ X.s₀.heap.objs.size
  noex : ∀ b o, X.base.get? b = some o → b ∉ X.ex
  exfs : ∀ b ∈ X.ex, b ∉ X.fs
  funs : X.s₀.heap.FunFrames X.base X.outer
  frf : ∀ b ∈ X.fs, X.H₀ b = none
structure Inv (X : Cx) (pins : List (Addr × Obj)) (σ : List (Option V)) (H : Hp) (s : Shared) : Prop where
  ok : X.Ok
  os : s.os = X.s₀.os
  bare : AllBare s.gens
  base : Un X.fs X.ex X.H₀ H X.s₀.heap s.heap
  loc : ∃ m, s.heap.Ns X.env.locals m ∧ ∀ (i : Nat) (x : Str) (v : V), X.N[i]? = some x → σ[i]? = some (some v) → Vis X.env.scope x → ∃ u, RelV v u ∧ Look X.env s.heap m x u
  cell : ∀ x c, X.env.cells.lookup x = some c → ∃ v, s.heap.IsCell c v
  free : H X.env.locals = none
  freeC : ∀ x c, X.env.cells.lookup x = some c → H c = none
  pin : ∀ p ∈ X.pn ++ pins, s.heap.get? p.1 = some p.2 ∧ H p.1 = none ∧ p.1 ≠ X.env.locals ∧ p.1 ∉ X.fs ∧ ∀ v, p.2.data ≠ .cell v
  hok : HOk X.prog X.w H s.heap
  len : σ.length = X.N.length
section
variable {X : Cx} {pins : List (Addr × Obj)} {σ : List (Option V)} {H H' : Hp} {s : Shared} {h' : Heap}
theorem Cx.Ok.nofr (ok : X.Ok) {b : Addr} {o : Obj} (e : X.base.get? b = some o) : b ∉ X.fs := fun hb => by
  have := (ok.funs.mem hb).1
  rw [e] at this; cases this
theorem Inv.bs (I : Inv X pins σ H s) : ∀ b o, X.base.get? b = some o → s.heap.get? b = some o ∧ H b = none := fun b o e =>
  ⟨I.base.keep b o (I.ok.bs b o e).1 (I.ok.bs b o e).2 (I.ok.nofr e) (I.ok.noex b o e), I.base.free b o (I.ok.bs b o e).1 (I.ok.bs b o e).2 (I.ok.noex b o e)⟩
theorem Inv.bk (I : Inv X pins σ H s) : ∀ b o, X.base.get? b = some o → s.heap.get? b = some o := fun b o e => (I.bs b o e).1
theorem Inv.mod (I : Inv X pins σ H s) : Mod X.K X.mg X.base := I.ok.mod
theorem Inv.kIn (I : Inv X pins σ H s) : X.K.In s.heap := I.ok.mod.kin.keeps I.bk
theorem Inv.fr (I : Inv X pins σ H s) : ∃ m, Fr X.base X.env.locals s.heap m :=
  let ⟨m, hn, _⟩ := I.loc
  ⟨m, hn, I.bk, Nat.le_trans I.ok.bsz I.ok.above⟩
theorem Inv.lt (I : Inv X pins σ H s) : X.env.locals < s.heap.objs.size := let ⟨_, hn, _⟩ := I.loc; hn.lt
theorem Inv.sz (I : Inv X pins σ H s) : X.s₀.heap.objs.size ≤ s.heap.objs.size := Nat.le_trans I.ok.above (Nat.le_of_lt I.lt)
theorem Inv.nofs (I : Inv X pins σ H s) {a : Addr} (h : s.heap.objs.size ≤ a) : a ∉ X.fs := fun hb => by
  obtain ⟨_, o, ho, _⟩ := I.ok.funs.mem hb
  exact absurd (Nat.lt_of_lt_of_le (Heap.lt_size ho) (Nat.le_trans I.sz h)) (Nat.lt_irrefl _)
theorem Inv.cne (I : Inv X pins σ H s) : ∀ x c, X.env.cells.lookup x = some c → c ≠ X.env.locals := fun x c e z => by
  obtain ⟨v, o, ho, hd⟩ := I.cell x c e
  obtain ⟨m, ⟨o', es, ep, ho', hd', _⟩, _⟩ := I.loc
  rw [z, ho'] at ho; cases ho; rw [hd'] at hd; cases hd
theorem Inv.funs (I : Inv X pins σ H s) : s.heap.FunFrames X.base X.outer := by
  have all : ∀ (l : List Env), (∀ b ∈ frs l, b ∈ X.fs) → X.s₀.heap.FunFrames X.base l → s.heap.FunFrames X.base l := by
    intro l
    induction l with
    | nil => intro _ _; trivial
    | cons env r ih =>
      intro hs hl
      obtain ⟨hk, ⟨L, o, hf, hn, ho, hd⟩, hr⟩ := hl
      have hL : L ∈ X.fs := hs L (by unfold frs; rw [List.filterMap_cons, hf]; exact List.mem_cons_self)
      obtain ⟨sl, e⟩ := I.base.slot L o ho (I.ok.frf L hL) hL fun z => I.ok.exfs L z hL
      exact ⟨hk, ⟨L, _, hf, hn, e, hd⟩, ih (fun b hb => hs b (by unfold frs; rw [List.filterMap_cons, hf]; exact List.mem_cons_of_mem _ hb)) hr⟩
  exact all X.outer (fun _ hb => hb) I.ok.funs
theorem Inv.stack (I : Inv X pins σ H s) : s.heap.FunFrames X.base X.stack := by
  rcases I.ok.stk with e | ⟨e, hf⟩
  · rw [e]; exact I.funs
  · rw [e]
    obtain ⟨m, hn, _⟩ := I.loc
    refine .cons (by rw [I.ok.kind]; decide) hf hn ?_ I.funs
    exact Heap.get?_none_of_le (Nat.le_trans I.ok.bsz I.ok.above)
theorem Inv.stkSub (I : Inv X pins σ H s) : ∀ b ∈ frs X.stack, b ∈ X.env.locals :: X.fs := fun b hb => by
  rcases I.ok.stk with e | ⟨e, hf⟩
  · rw [e] at hb; exact List.mem_cons_of_mem _ hb
  · rw [e] at hb
    unfold frs at hb
    rw [List.filterMap_cons, hf] at hb
    exact hb
theorem Inv.stkFree (I : Inv X pins σ H s) : ∀ b ∈ frs X.stack, H b = none := fun b hb => by
  rcases List.mem_cons.mp (I.stkSub b hb) with e | hb
  · rw [e]; exact I.free
  · obtain ⟨_, o, ho, _⟩ := I.ok.funs.mem hb
    exact I.base.free b o ho (I.ok.frf b hb) fun z => I.ok.exfs b z hb
theorem Inv.step {g' : Array GenState} {t' : Nat} {d' : Drawn} {ch : List Addr} (I : Inv X pins σ H s)
    (hch : ∀ b ∈ ch, (b ∈ X.ex ∨ X.s₀.heap.objs.size ≤ b) ∧ b ≠ X.env.locals ∧ (∀ x c, X.env.cells.lookup x = some c → c ≠ b) ∧ ∀ p ∈ X.pn ++ pins, p.1 ≠ b)
    (keep : ∀ b o, b ≠ X.env.locals → b ∉ X.fs → b ∉ ch → s.heap.get? b = some o → H b = none → h'.get? b = some o)
    (slot : ∀ b o, b ≠ X.env.locals → b ∈ X.fs → b ∉ ch → s.heap.get? b = some o → H b = none → ∃ sl, h'.get? b = some { o with slots := sl }) (free : ∀ b o, b ∉ ch → s.heap.get? b = some o → H b = none → H' b = none)
    (there : ∀ b o, b ∉ ch → s.heap.get? b = some o → ∃ o', h'.get? b = some o')
    (tups : ∀ b xs, H b = some (.tup xs) → H' b = some (.tup xs)) (frzs : ∀ b o u, H b = some (.frz o u) → H' b = some (.frz o u)) (tbls : ∀ b ps, H b = some (.tbl ps) → ∃ more, H' b = some (.tbl (ps ++ more)))
    (ns : ∀ m, s.heap.Ns X.env.locals m → h'.Ns X.env.locals m) (hok : HOk X.prog X.w H' h') (hg : AllBare g') :
    Inv X pins σ H' { s with heap := h', gens := g', drawn := d', toks := t' } := by
  have neL : ∀ b o, X.s₀.heap.get? b = some o → b ≠ X.env.locals := fun b o e => Nat.ne_of_lt (Nat.lt_of_lt_of_le (Heap.lt_size e) I.ok.above)
  have neC : ∀ b o, X.s₀.heap.get? b = some o → b ∉ X.ex → b ∉ ch := fun b o e hx hb => by
    rcases (hch b hb).1 with z | z
    · exact hx z
    · exact absurd (Nat.lt_of_lt_of_le (Heap.lt_size e) z) (Nat.lt_irrefl _)
  have cellK : ∀ x c, X.env.cells.lookup x = some c → ∀ v, s.heap.IsCell c v → h'.IsCell c v := fun x c e v ⟨o, ho, hd⟩ => by
    have nch : c ∉ ch := fun z => (hch c z).2.2.1 x c e rfl
    by_cases hc : c ∈ X.fs
    · obtain ⟨sl, q⟩ := slot c o (I.cne x c e) hc nch ho (I.freeC x c e)
      exact ⟨_, q, hd⟩
    · exact ⟨o, keep c o (I.cne x c e) hc nch ho (I.freeC x c e), hd⟩
  refine ⟨I.ok, I.os, hg, ⟨fun b o e n hb hx => ?_, fun b o e n hb hx => ?_, fun b o e n hx => ?_, fun b o e hx => ?_, fun b xs e => tups b xs (I.base.tups b xs e), fun b o xs e => frzs b o xs (I.base.frzs b o xs e), fun b ps e => ?_⟩, ?_, fun x c e => ?_, ?_, fun x c e => ?_, fun p hp => ?_, hok, I.len⟩
  · exact keep b o (neL b o e) hb (neC b o e hx) (I.base.keep b o e n hb hx) (I.base.free b o e n hx)
  · obtain ⟨sl, e1⟩ := I.base.slot b o e n hb hx
    obtain ⟨sl', e2⟩ := slot b _ (neL b o e) hb (neC b o e hx) e1 (I.base.free b o e n hx)
    exact ⟨sl', e2⟩
  · obtain ⟨o', e1⟩ := I.base.there b o e hx
    exact free b o' (neC b o e hx) e1 (I.base.free b o e n hx)
  · obtain ⟨o', e1⟩ := I.base.there b o e hx
    exact there b o' (neC b o e hx) e1
  · obtain ⟨m1, e1⟩ := I.base.tbls b ps e
    obtain ⟨m2, e2⟩ := tbls b _ e1
    exact ⟨m1 ++ m2, by rw [e2, Array.append_assoc]⟩
  · obtain ⟨m, hn, hl⟩ := I.loc
    refine ⟨m, ns m hn, fun i x v e1 e2 e3 => ?_⟩
    obtain ⟨u, r, l⟩ := hl i x v e1 e2 e3
    refine ⟨u, r, ?_⟩
    rcases l with l | ⟨k, c, e, z⟩
    · exact .inl l
    · exact .inr ⟨k, c, e, cellK x c e _ z⟩
  · obtain ⟨v, z⟩ := I.cell x c e
    exact ⟨v, cellK x c e v z⟩
  · obtain ⟨m, ⟨o, _, _, ho, _⟩, _⟩ := I.loc
    exact free _ o (fun z => (hch _ z).2.1 rfl) ho I.free
  · obtain ⟨v, o, ho, hd⟩ := I.cell x c e
    exact free c o (fun z => (hch c z).2.2.1 x c e rfl) ho (I.freeC x c e)
  · obtain ⟨e, n, ne, nf, d⟩ := I.pin p hp
    have nch : p.1 ∉ ch := fun z => (hch p.1 z).2.2.2 p hp rfl
    exact ⟨keep p.1 p.2 ne nf nch e n, free p.1 p.2 nch e n, ne, nf, d⟩
theorem Inv.un {t' : Nat} (I : Inv X pins σ H s) (u : Un X.fs [] H H' s.heap h') (hok : HOk X.prog X.w H' h') : Inv X pins σ H' { s with heap := h', toks := t' } := by
  obtain ⟨m, ⟨o, es, ep, ho, r⟩, _⟩ := id I.loc
  obtain ⟨sl, hL⟩ := u.any ho I.free (by simp)
  exact I.step (g' := s.gens) (d' := s.drawn) (ch := []) (fun _ z => nomatch z) (fun b o _ hb _ e n => u.keep b o e n hb (by simp)) (fun b o _ hb _ e n => u.slot b o e n hb (by simp)) (fun b o _ e n => u.free b o e n (by simp)) (fun b o _ e => u.there b o e (by simp)) u.tups u.frzs u.tbls (fun m' hm => by
    obtain ⟨o', es', ep', ho', r'⟩ := hm
    rw [ho] at ho'; cases ho'
    exact ⟨_, es', ep', hL, r'⟩) hok I.bare
theorem Inv.call {g' : Array GenState} {t' : Nat} {d' : Drawn} {ch : List Addr} (I : Inv X pins σ H s) (u : Un (frs X.stack) ch H H' s.heap h') (hok : HOk X.prog X.w H' h') (hg : AllBare g')
    (hch : ∀ b ∈ ch, (b ∈ X.ex ∨ X.s₀.heap.objs.size ≤ b) ∧ b ≠ X.env.locals ∧ (∀ x c, X.env.cells.lookup x = some c → c ≠ b) ∧ ∀ p ∈ X.pn ++ pins, p.1 ≠ b) :
    Inv X pins σ H' { s with heap := h', gens := g', drawn := d', toks := t' } := by
  obtain ⟨m, ⟨o, es, ep, ho, r⟩, _⟩ := id I.loc
  obtain ⟨sl, hL⟩ := u.any ho I.free fun z => (hch _ z).2.1 rfl
  exact I.step (ch := ch) hch (fun b o hL hb hc e n => u.keep b o e n (fun z => (List.mem_cons.mp (I.stkSub b z)).elim hL hb) hc) (fun b o _ _ hc e n => u.any e n hc) (fun b o hc e n => u.free b o e n hc) (fun b o hc e => u.there b o e hc) u.tups u.frzs u.tbls (fun m' hm => by
    obtain ⟨o', es', ep', ho', r'⟩ := hm
    rw [ho] at ho'; cases ho'
    exact ⟨_, es', ep', hL, r'⟩) hok hg
theorem Inv.turned {t' : Nat} {it : Addr} (I : Inv X pins σ H s) (k : ∀ b o, b ≠ it → s.heap.get? b = some o → h'.get? b = some o) (hn : H it = none) (hL : it ≠ X.env.locals)
    (h1 : it ∈ X.ex ∨ X.s₀.heap.objs.size ≤ it) (h2 : ∀ x c, X.env.cells.lookup x = some c → c ≠ it) (h3 : ∀ p ∈ X.pn ++ pins, p.1 ≠ it) : Inv X pins σ H { s with heap := h', toks := t' } := by
  have nit : ∀ b u, H b = some u → b ≠ it := fun b u e z => by rw [z, hn] at e; cases e
  refine I.step (g' := s.gens) (d' := s.drawn) (ch := [it]) (fun b hb => ?_) (fun b o _ _ hc e _ => k b o (fun z => hc (by simp [z])) e) (fun b o _ _ hc e _ => ⟨o.slots, k b o (fun z => hc (by simp [z])) e⟩) (fun _ _ _ _ n => n)
    (fun b o hc e => ⟨o, k b o (fun z => hc (by simp [z])) e⟩) (fun _ _ e => e) (fun _ _ _ e => e) (fun b ps e => ⟨#[], by rw [e]; simp⟩) (fun m hm => ?_) (fun b u e => ?_) I.bare
  · have e : b = it := by simpa using hb
    subst e
    exact ⟨h1, hL, h2, h3⟩
  · obtain ⟨o, es, ep, ho, r⟩ := hm
    exact ⟨o, es, ep, k _ o (Ne.symm hL) ho, r⟩
  · refine (I.hok b u e).stay (fun c v hc q => k c v ?_ q) (fun _ q => q) fun _ _ q => q
    rcases hc with z | z
    · rw [z]; exact nit b u e
    · exact nit c _ z
theorem Inv.tok (I : Inv X pins σ H s) (t : Nat) : Inv X pins σ H { s with toks := t } := I.un (h' := s.heap) (t' := t) Un.refl I.hok
theorem Inv.kept {t' : Nat} (I : Inv X pins σ H s) (k : ∀ b u, s.heap.get? b = some u → h'.get? b = some u) : Inv X pins σ H { s with heap := h', toks := t' } := I.un (Un.kept k) (I.hok.kept k)
theorem Inv.laid {a : Addr} {o : HO} {t' : Nat} (I : Inv X pins σ H s) (k : ∀ b u, s.heap.get? b = some u → h'.get? b = some u) (hp : s.heap.objs.size ≤ a) (new : ObjOk X.prog X.w (upd H a o) h' a o) :
    Inv X pins σ (upd H a o) { s with heap := h', toks := t' } := I.un (Un.laid k hp (I.hok.fresh hp)) (I.hok.laid k hp new)
theorem Inv.write {x e : Addr} {o : HO} {t' : Nat} (I : Inv X pins σ H s) (mu : Mut (H x)) (he : e = x ∨ H e = some (.own x)) (k : ∀ b u, b ≠ e → s.heap.get? b = some u → h'.get? b = some u) (heo : ∃ u, h'.get? e = some u)
    (new : ObjOk X.prog X.w (upd H x o) h' x o) : Inv X pins σ (upd H x o) { s with heap := h', toks := t' } := I.un (Un.write mu he k heo) (I.hok.write mu he k heo new)
theorem Inv.weak {σ' : List (Option V)} (I : Inv X pins σ H s) (hl : σ'.length = σ.length) (w : ∀ (i : Nat) v, σ'[i]? = some (some v) → σ[i]? = some (some v)) : Inv X pins σ' H s :=
  ⟨I.ok, I.os, I.bare, I.base, let ⟨m, hn, hl'⟩ := I.loc; ⟨m, hn, fun i x v e1 e2 e3 => hl' i x v e1 (w i v e2) e3⟩, I.cell, I.free, I.freeC, I.pin, I.hok, hl.trans I.len⟩
theorem Inv.pins_of {pins' : List (Addr × Obj)} (I : Inv X pins σ H s) (h : ∀ p ∈ pins', s.heap.get? p.1 = some p.2 ∧ H p.1 = none ∧ p.1 ≠ X.env.locals ∧ p.1 ∉ X.fs ∧ ∀ v, p.2.data ≠ .cell v) : Inv X pins' σ H s :=
  ⟨I.ok, I.os, I.bare, I.base, I.loc, I.cell, I.free, I.freeC, fun p hp => (List.mem_append.mp hp).elim (fun z => I.pin p (List.mem_append_left _ z)) (h p), I.hok, I.len⟩
theorem nodup_ix {N : List Str} (hN : N.Nodup) {i j : Nat} {x : Str} (a : N[i]? = some x) (b : N[j]? = some x) : i = j := by
  obtain ⟨h1, e1⟩ := List.getElem?_eq_some_iff.mp a
  obtain ⟨h2, e2⟩ := List.getElem?_eq_some_iff.mp b
  exact (List.getElem_inj hN).mp (e1.trans e2.symm)
theorem store_ok2 {M : Model} {A : Around} {E : Value → Shared → Prop} {i : Nat} {x : Str} {v : V} {u : Value} {Q : Unit → Shared → Prop} (I : Inv X pins σ H s) (hN : X.N.Nodup) (hi : X.N[i]? = some x) (hx : Loc X.env.scope x) (r : RelV v u)
    (h : ∀ s', Inv X pins (σ.set i (some v)) H s' → (∃ a, Heap.SameBut a s.heap s'.heap ∧ (a = X.env.locals ∨ X.env.cells.lookup x = some a)) → Q () s') (hf : X.fn x = true ∨ X.env.scope.names.lookup x = some .local := by first | exact .inl rfl | exact .inr rfl | assumption) : wpAny M A (storeName X.env x u) Q E s := by
  obtain ⟨m, hn, hl⟩ := id I.loc
  have hcls : (X.env.scope.kind == .class || (X.env.scope.kind == .module && X.env.locals != X.env.globals)) = false := by rw [I.ok.kind]; rfl
  have hiσ : i < σ.length := by rw [I.len]; exact (List.getElem?_eq_some_iff.mp hi).1
  have cne := I.cne
  have tracked : ∀ {a : Addr} {h' : Heap}, (∃ o, s.heap.get? a = some o ∧ H a = none) → Heap.SameBut a s.heap h' → HOk X.prog X.w H h' := fun {a h'} ha hs b ob e => by
    obtain ⟨_, _, hfree⟩ := ha
    refine (I.hok b ob e).stay (fun c w' hc q => (hs.2 c ?_).trans q) (fun _ q => q) fun _ _ q => q
    rintro rfl
    rcases hc with rfl | hc
    · rw [hfree] at e; cases e
    · rw [hfree] at hc; cases hc
  rcases hx with hk | hk
  · refine wpAny_storeName_local hk hn (fun h' hn' hs => ?_) hcls
    obtain ⟨oL, _, _, hoL, _⟩ := id hn
    refine h _ ⟨I.ok, I.os, I.bare, ⟨fun b o e n hb hx => ?_, fun b o e n hb hx => ?_, I.base.free, fun b o e hx => ?_, I.base.tups, I.base.frzs, I.base.tbls⟩, ⟨_, hn', fun j y v' e1 e2 e3 => ?_⟩, fun y c e => ?_, I.free, I.freeC, fun p hp => ?_, tracked ⟨oL, hoL, I.free⟩ hs, by simpa using I.len⟩ ⟨_, hs, .inl rfl⟩
    · exact (hs.2 b (Nat.ne_of_lt (Nat.lt_of_lt_of_le (Heap.lt_size e) I.ok.above))).trans (I.base.keep b o e n hb hx)
    · obtain ⟨sl, e1⟩ := I.base.slot b o e n hb hx
      exact ⟨sl, (hs.2 b (Nat.ne_of_lt (Nat.lt_of_lt_of_le (Heap.lt_size e) I.ok.above))).trans e1⟩
    · obtain ⟨o', e1⟩ := I.base.there b o e hx
      exact ⟨o', (hs.2 b (Nat.ne_of_lt (Nat.lt_of_lt_of_le (Heap.lt_size e) I.ok.above))).trans e1⟩
    · by_cases hj : j = i
      · subst hj
        rw [hi] at e1; cases e1
        rw [List.getElem?_set_self hiσ] at e2
        cases e2
        exact ⟨u, r, .inl ⟨hk, by simp⟩⟩
      · rw [List.getElem?_set_ne (Ne.symm hj)] at e2
        obtain ⟨u', r', q⟩ := hl j y v' e1 e2 e3
        refine ⟨u', r', ?_⟩
        rcases q with ⟨k, e⟩ | ⟨k, c, e, z⟩
        · refine .inl ⟨k, ?_⟩
          have : y ≠ x := fun e => hj (nodup_ix hN e1 (e ▸ hi))
          simp [this, e]
        · exact .inr ⟨k, c, e, z.sameBut hs (cne y c e)⟩
    · obtain ⟨w', z⟩ := I.cell y c e
      exact ⟨w', z.sameBut hs (cne y c e)⟩
    · obtain ⟨e, n, ne, nf, d⟩ := I.pin p hp
      exact ⟨(hs.2 p.1 ne).trans e, n, ne, nf, d⟩
  · have hfn : X.fn x = true := by
      rcases hf with z | z
      · exact z
      · rw [z] at hk; cases hk
    obtain ⟨c, hc⟩ := I.ok.has x (.inl hk)
    obtain ⟨w', z⟩ := I.cell x c hc
    refine wpAny_storeName_cell I.ok.kind hk hc z (fun h' hc' hs => ?_)
    obtain ⟨oc, hoc, hocd⟩ := id z
    refine h { s with heap := h' } ⟨I.ok, I.os, I.bare, ⟨fun b o e n hb hx => ?_, fun b o e n hb hx => ?_, I.base.free, fun b o e hx => ?_, I.base.tups, I.base.frzs, I.base.tbls⟩, ⟨m, hn.sameBut hs (Ne.symm (cne x c hc)), fun j y v' e1 e2 e3 => ?_⟩, fun y c' e => ?_, I.free, I.freeC, fun p hp => ?_, tracked ⟨oc, hoc, I.freeC x c hc⟩ hs, by simpa using I.len⟩ ⟨c, hs, .inr hc⟩
    · exact (hs.2 b (Nat.ne_of_lt (Nat.lt_of_lt_of_le (Heap.lt_size e) (I.ok.cab x c hfn hc)))).trans (I.base.keep b o e n hb hx)
    · obtain ⟨sl, e1⟩ := I.base.slot b o e n hb hx
      exact ⟨sl, (hs.2 b (Nat.ne_of_lt (Nat.lt_of_lt_of_le (Heap.lt_size e) (I.ok.cab x c hfn hc)))).trans e1⟩
    · obtain ⟨o', e1⟩ := I.base.there b o e hx
      exact ⟨o', (hs.2 b (Nat.ne_of_lt (Nat.lt_of_lt_of_le (Heap.lt_size e) (I.ok.cab x c hfn hc)))).trans e1⟩
    · by_cases hj : j = i
      · subst hj
        rw [hi] at e1; cases e1
        rw [List.getElem?_set_self hiσ] at e2
        cases e2
        exact ⟨u, r, .inr ⟨.inl hk, c, hc, hc'⟩⟩
      · rw [List.getElem?_set_ne (Ne.symm hj)] at e2
        obtain ⟨u', r', q⟩ := hl j y v' e1 e2 e3
        refine ⟨u', r', ?_⟩
        rcases q with q | ⟨k, c', e, z'⟩
        · exact .inl q
        · refine .inr ⟨k, c', e, z'.sameBut hs ?_⟩
          rintro rfl
          exact hj (nodup_ix hN e1 (I.ok.inj _ _ _ e hc ▸ hi))
    · by_cases hcc : c' = c
      · subst hcc; exact ⟨_, hc'⟩
      · obtain ⟨w2, z2⟩ := I.cell y c' e
        exact ⟨w2, z2.sameBut hs hcc⟩
    · obtain ⟨e, n, ne, nf, d⟩ := I.pin p hp
      refine ⟨(hs.2 p.1 ?_).trans e, n, ne, nf, d⟩
      intro q
      rw [q, hoc] at e
      have q' : oc = p.2 := Option.some.inj e
      exact d w' (by rw [← q']; exact hocd)
theorem store_ok {M : Model} {A : Around} {E : Value → Shared → Prop} {i : Nat} {x : Str} {v : V} {u : Value} {Q : Unit → Shared → Prop} (I : Inv X pins σ H s) (hN : X.N.Nodup) (hi : X.N[i]? = some x) (hx : Loc X.env.scope x) (r : RelV v u)
    (h : ∀ s', Inv X pins (σ.set i (some v)) H s' → Q () s') (hf : X.fn x = true ∨ X.env.scope.names.lookup x = some .local := by first | exact .inl rfl | exact .inr rfl | assumption) : wpAny M A (storeName X.env x u) Q E s :=
  store_ok2 I hN hi hx r (fun s' I' _ => h s' I') hf
theorem Inv.call' {s' : Shared} {ch : List Addr} (I : Inv X pins σ H s) (ho : s'.os = s.os) (u : Un (frs X.stack) ch H H' s.heap s'.heap) (hok : HOk X.prog X.w H' s'.heap) (hg : AllBare s'.gens)
    (hch : ∀ b ∈ ch, (b ∈ X.ex ∨ X.s₀.heap.objs.size ≤ b) ∧ b ≠ X.env.locals ∧ (∀ x c, X.env.cells.lookup x = some c → c ≠ b) ∧ ∀ p ∈ X.pn ++ pins, p.1 ≠ b) : Inv X pins σ H' s' := by
  obtain ⟨h', g', d', t', o'⟩ := s'
  have e : o' = s.os := ho
  subst e
  exact I.call (g' := g') (t' := t') (d' := d') u hok hg hch
end
abbrev XK := Addr → Addr → Hp → Prop
abbrev St := List (Option V)
abbrev VK := V → Hp → Prop
abbrev TE := St → Hp → VK → Prop
abbrev TT := St → Hp → (Bool → Hp → Prop) → Prop
abbrev TA := St → Hp → (List V → Hp → Prop) → Prop
structure Ends where
  nx : St → Hp → Prop
  rt : VK
  bk : St → Hp → Prop := fun _ _ => False
  ct : St → Hp → Prop := fun _ _ => False
abbrev TS := Ends → St → Hp → Prop
def EP (X : Cx) (pins : List (Addr × Obj)) (σ : St) (Q : VK) (u : Value) (s' : Shared) : Prop := ∃ v H', Inv X pins σ H' s' ∧ RelV v u ∧ Q v H'
def TP (X : Cx) (pins : List (Addr × Obj)) (σ : St) (Q : Bool → Hp → Prop) (b : Bool) (s' : Shared) : Prop := ∃ H', Inv X pins σ H' s' ∧ Q b H'
def AP (X : Cx) (pins : List (Addr × Obj)) (σ : St) (Q : List V → Hp → Prop) (us : List Value) (s' : Shared) : Prop := ∃ vs H', Inv X pins σ H' s' ∧ Vals vs us ∧ Q vs H'
def SP (X : Cx) (pins : List (Addr × Obj)) (D : Ends) (f : Flow) (s' : Shared) : Prop :=
  match f with
  | .next => ∃ σ' H', Inv X pins σ' H' s' ∧ D.nx σ' H'
  | .brk => ∃ σ' H', Inv X pins σ' H' s' ∧ D.bk σ' H'
  | .cont => ∃ σ' H', Inv X pins σ' H' s' ∧ D.ct σ' H'
  | .ret u => ∃ v σ' H', Inv X pins σ' H' s' ∧ RelV v u ∧ D.rt v H'
def PE (X : Cx) (e : Expr) (t : TE) : Prop :=
  ∀ (pins : List (Addr × Obj)) (s : Shared) (σ : St) (H : Hp) (Q : VK), Inv X pins σ H s → t σ H Q → wpAny (model X.prog X.w) X.A (eval e X.env) (EP X pins σ Q) X.xe s
def PT (X : Cx) (e : Expr) (t : TT) : Prop :=
  ∀ (pins : List (Addr × Obj)) (s : Shared) (σ : St) (H : Hp) (Q : Bool → Hp → Prop), Inv X pins σ H s → t σ H Q → wpAny (model X.prog X.w) X.A (isTrue e X.env (eval e X.env)) (TP X pins σ Q) X.xe s
def PW (X : Cx) (e : Expr) (t : TT) : Prop :=
  ∀ (whole : Sem Value) (pins : List (Addr × Obj)) (s : Shared) (σ : St) (H : Hp) (Q : Bool → Hp → Prop), Inv X pins σ H s → t σ H Q → wpAny (model X.prog X.w) X.A (isTrue e X.env whole) (TP X pins σ Q) X.xe s
theorem PW.pt {X : Cx} {e : Expr} {t : TT} (h : PW X e t) : PT X e t := h _
def PA (X : Cx) (es : List Expr) (t : TA) : Prop :=
  ∀ (pos : Pos) (pins : List (Addr × Obj)) (s : Shared) (σ : St) (H : Hp) (Q : List V → Hp → Prop), Inv X pins σ H s → t σ H Q → wpAny (model X.prog X.w) X.A (spliced (backTo pos (starEach es X.env))) (AP X pins σ Q) X.xe s
def PS (X : Cx) (st : Stmt) (t : TS) : Prop :=
  ∀ (pins : List (Addr × Obj)) (s : Shared) (σ : St) (H : Hp) (D : Ends), Inv X pins σ H s → t D σ H → wpAny (model X.prog X.w) X.A (exec st X.env) (SP X pins D) X.xe s
def PSs (X : Cx) (st : List Stmt) (t : TS) : Prop :=
  ∀ (pins : List (Addr × Obj)) (s : Shared) (σ : St) (H : Hp) (D : Ends), Inv X pins σ H s → t D σ H → wpAny (model X.prog X.w) X.A (execs st X.env) (SP X pins D) X.xe s
theorem thn {α : Type} {t : Sem α} {Q Q' : α → Shared → Prop} {M : Model} {A : Around} {E : Value → Shared → Prop} {s : Shared} (h : wpAny M A t Q E s) (hQ : ∀ a s, Q a s → Q' a s) : wpAny M A t Q' E s := wpAny_mono h hQ fun _ _ x => x
end L2
namespace L2
open PySem PySem.Spec PyProof.Rows
variable {q0 : Bool}
section
variable {X : Cx}
def tVar (i : Nat) : TE := fun σ H Q => ∃ v, σ[i]? = some (some v) ∧ Q v H
def tC (v : V) : TE := fun _ H Q => Q v H
theorem pe_var {i : Nat} {x : Str} {pos : Pos} (hN : X.N[i]? = some x) (hv : Vis X.env.scope x) (hd : (x == ("__debug__" : Str)) = false := by decide) (hcd : (x == ("__classdict__" : Str)) = false := by decide) : PE X (.Name x pos) (tVar i) := by
  intro pins s σ H Q I h
  obtain ⟨v, e, h⟩ := h
  obtain ⟨m, hn, hl⟩ := I.loc
  obtain ⟨u, r, l⟩ := hl i x v hN e hv
  have fin : EP X pins σ Q u s := ⟨v, H, I, r, h⟩
  rcases l with ⟨hk, hm⟩ | ⟨hk, c, hc, hcell⟩
  · exact wpAny_Name (wpAny_loadName_local I.ok.kind hk hn hm fin) hd
  · rcases hk with hk | hk
    · exact wpAny_Name (wpAny_loadName_cell I.ok.kind hk hc hcell fin) hd
    · exact wpAny_Name (wpAny_loadName_free I.ok.kind hk hc hcell fin hcd) hd
theorem pe_int {i j pos} : PE X (.Constant (.int i) j pos) (tC (.int i)) := fun _ _ _ H _ I h => wpAny_Constant_int ⟨.int i, H, I.tok _, ⟨_, rfl⟩, h⟩
theorem pe_bl {b j pos} : PE X (.Constant (.bool b) j pos) (tC (.bl b)) := fun _ _ _ H _ I h => Constant_bool ⟨.bl b, H, I, rfl, h⟩
theorem pe_non {j pos} : PE X (.Constant .none j pos) (tC .non) := fun _ _ _ H _ I h => Constant_none ⟨.non, H, I, rfl, h⟩
theorem pe_str {x j pos} : PE X (.Constant (.str x) j pos) (tC (.str x)) := fun _ _ _ H _ I h => Calls.Constant_str ⟨.str x, H, I.tok _, ⟨_, rfl⟩, h⟩
def Gl (X : Cx) (x : Str) : Prop := X.env.kindOf x = some .globalImplicit
theorem ld_glob {E : Value → Shared → Prop} {pins : List (Addr × Obj)} {s : Shared} {σ : St} {H : Hp} {x : Str} {u : Value} {pos : Pos} {Q : Value → Shared → Prop} (I : Inv X pins σ H s) (hg : Gl X x) (hm : X.mg x = some u) (h : Q u s)
    (hd : (x == ("__debug__" : Str)) = false := by decide) : wpAny (model X.prog X.w) X.A (eval (.Name x pos) X.env) Q E s :=
  Calls.Name_function_global I.ok.kind hg (Calls.loadGlobal_global (by rw [I.ok.glob]; exact I.mod.glob.keeps I.bk) hm h) hd
theorem ld_blt {E : Value → Shared → Prop} {pins : List (Addr × Obj)} {s : Shared} {σ : St} {H : Hp} {x : Str} {u : Value} {pos : Pos} {Q : Value → Shared → Prop} (I : Inv X pins σ H s) (hg : Gl X x) (hm : X.mg x = none) (hv : bootBuiltins x = some u) (h : Q u s)
    (hn : x ≠ "__name__" := by decide) (hd : (x == ("__debug__" : Str)) = false := by decide) : wpAny (model X.prog X.w) X.A (eval (.Name x pos) X.env) Q E s := by
  obtain ⟨mb, h1, h2⟩ := I.mod.blt
  exact Calls.Name_function_global I.ok.kind hg (Calls.loadGlobal_builtin (by rw [I.ok.glob]; exact I.mod.glob.keeps I.bk) hm (by rw [I.ok.blt]; exact h1.keeps I.bk) ((h2 x hn).trans hv) h) hd
theorem pe_glob {x : Str} {v : V} {u : Value} {pos : Pos} (hg : Gl X x) (hm : X.mg x = some u) (r : RelV v u) (hd : (x == ("__debug__" : Str)) = false := by decide) : PE X (.Name x pos) (tC v) :=
  fun _ _ _ H _ I h => ld_glob I hg hm ⟨v, H, I, r, h⟩ hd
theorem pe_bltn {x : Str} {v : V} {u : Value} {pos : Pos} (hg : Gl X x) (hm : X.mg x = none) (hv : bootBuiltins x = some u) (r : RelV v u) (hn : x ≠ "__name__" := by decide) (hd : (x == ("__debug__" : Str)) = false := by decide) : PE X (.Name x pos) (tC v) :=
  fun _ _ _ H _ I h => ld_blt I hg hm hv ⟨v, H, I, r, h⟩ hn hd
variable {a b : Expr} {ta tb : TE} {pos : Pos}
def PC (X : Cx) (op : CmpOp) (a b : Expr) (t : TE) : Prop :=
  ∀ (pins : List (Addr × Obj)) (s : Shared) (σ : St) (H : Hp) (Q : VK), Inv X pins σ H s → t σ H Q →
    wpAny (model X.prog X.w) X.A (eval a X.env) (fun v s₁ => wpAny (model X.prog X.w) X.A (eval b X.env) (fun u s₂ => wpAny (model X.prog X.w) X.A (compareOp op v u) (EP X pins σ Q) X.xe s₂) X.xe s₁) X.xe s
theorem nobehind (b : Expr) {op : CmpOp} (h : op ≠ .In) (h2 : op ≠ .NotIn) : behindInMarks op b = false := by
  have e1 : (op == CmpOp.In) = false := by cases op <;> first | rfl | exact absurd rfl h
  have e2 : (op == CmpOp.NotIn) = false := by cases op <;> first | rfl | exact absurd rfl h2
  cases b <;> simp [behindInMarks, e1, e2]
def tB (t : TE) : TT := fun σ H Q => t σ H fun x H1 => ∃ c, x = .bl c ∧ Q c H1
theorem pt_cmp {op : CmpOp} {t : TE} (h : PC X op a b t) (h1 : behindInMarks op b = false := by first | exact nobehind _ (by decide) (by decide) | rfl) : PT X (.Compare a [op] [b] pos) (tB t) := by
  intro pins s σ H Q I hw
  refine wpAny_isTrue_Compare1 (thn (h pins s σ H _ I hw) fun v s1 h1 => thn h1 fun u s2 h2 => thn h2 fun c s3 ⟨x, H1, I1, r1, q1⟩ => ?_) h1
  obtain ⟨d, rfl, q⟩ := q1
  cases r1
  exact wpAny_truthy_bool ⟨H1, I1, q⟩
theorem pt_val {e : Expr} {t : TE} (h : PE X e t) (he : ∀ whole, isTrue e X.env whole = (do let v ← whole; standAt e.pos; holding [v] (truthy v)) := by intro _; rfl) : PT X e (tB t) := by
  intro pins s σ H Q I hw
  refine isTrue_plain (thn (h pins s σ H _ I hw) fun v s1 ⟨x, H1, I1, r1, q1⟩ => ?_) (he _)
  obtain ⟨d, rfl, q⟩ := q1
  cases r1
  exact wpAny_truthy_bool ⟨H1, I1, q⟩
variable {tA tB' : TT} {rest : List Expr}
def tAnd (t u : TT) : TT := fun σ H Q => t σ H fun c H1 => if c = true then u σ H1 Q else Q false H1
def tOr (t u : TT) : TT := fun σ H Q => t σ H fun c H1 => if c = true then Q true H1 else u σ H1 Q
def tNot (t : TT) : TT := fun σ H Q => t σ H fun c H1 => Q (!c) H1
theorem pw_and1 (ha : PT X a tA) : PW X (.BoolOp .And [a] pos) tA := by
  intro wh pins s σ H Q I h
  refine isTrue_and (thn (ha pins s σ H Q I h) fun c s1 e => ?_)
  cases c with
  | true => exact isTrue_and_nil e
  | false => exact e
theorem pw_or1 (ha : PT X a tA) : PW X (.BoolOp .Or [a] pos) tA := by
  intro wh pins s σ H Q I h
  refine isTrue_or (thn (ha pins s σ H Q I h) fun c s1 e => ?_)
  cases c with
  | false => exact isTrue_or_nil e
  | true => exact e
theorem pw_and (ha : PT X a tA) (hb : PW X (.BoolOp .And (b :: rest) pos) tB') : PW X (.BoolOp .And (a :: b :: rest) pos) (tAnd tA tB') := by
  intro wh pins s σ H Q I h
  refine isTrue_and (thn (ha pins s σ H _ I h) fun c s1 ⟨H1, I1, q1⟩ => ?_)
  cases c with
  | true => exact hb wh pins s1 σ H1 Q I1 q1
  | false => exact ⟨H1, I1, q1⟩
theorem pw_or (ha : PT X a tA) (hb : PW X (.BoolOp .Or (b :: rest) pos) tB') : PW X (.BoolOp .Or (a :: b :: rest) pos) (tOr tA tB') := by
  intro wh pins s σ H Q I h
  refine isTrue_or (thn (ha pins s σ H _ I h) fun c s1 ⟨H1, I1, q1⟩ => ?_)
  cases c with
  | true => exact ⟨H1, I1, q1⟩
  | false => exact hb wh pins s1 σ H1 Q I1 q1
theorem pt_not (ha : PT X a tA) : PT X (.UnaryOp .Not a pos) (tNot tA) := by
  intro pins s σ H Q I h
  exact isTrue_not (ha pins s σ H (fun c H1 => Q (!c) H1) I h)
def tAndV (ta tb : TE) : TE := fun σ H Q => ta σ H fun x H1 => ∃ c, x = .bl c ∧ if c = true then tb σ H1 Q else Q (.bl false) H1
def tNotV (ta : TE) : TE := fun σ H Q => ta σ H fun x H1 => ∃ c, x = .bl c ∧ Q (.bl (!c)) H1
theorem pe_one {op} {t : TE} (h : PE X a t) : PE X (.BoolOp op [a] pos) t := fun pins s σ H Q I hw => BoolOp_one (h pins s σ H Q I hw)
theorem pe_and (ha : PE X a ta) (hb : PE X (.BoolOp .And (b :: rest) pos) tb) : PE X (.BoolOp .And (a :: b :: rest) pos) (tAndV ta tb) := by
  intro pins s σ H Q I h
  refine BoolOp_and (thn (ha pins s σ H _ I h) fun v s1 ⟨x, H1, I1, r1, q1⟩ => ?_)
  obtain ⟨c, rfl, q1⟩ := q1
  cases r1
  refine wpAny_truthy_bool ?_
  cases c with
  | true => exact hb pins s1 σ H1 Q I1 q1
  | false => exact ⟨.bl false, H1, I1, rfl, q1⟩
theorem pe_not (ha : PE X a ta) : PE X (.UnaryOp .Not a pos) (tNotV ta) := by
  intro pins s σ H Q I h
  refine UnaryOp_ (thn (ha pins s σ H _ I h) fun v s1 ⟨x, H1, I1, r1, q1⟩ => ?_)
  obtain ⟨c, rfl, q1⟩ := q1
  cases r1
  exact not_of (wpAny_truthy_bool ⟨.bl (!c), H1, I1, rfl, q1⟩)
def tIf (t : TT) (ta tb : TE) : TE := fun σ H Q => t σ H fun c H1 => if c = true then ta σ H1 Q else tb σ H1 Q
theorem pe_ifExp {c : Expr} (hc : PT X c tA) (ha : PE X a ta) (hb : PE X b tb) : PE X (.IfExp c a b pos) (tIf tA ta tb) := by
  intro pins s σ H Q I h
  refine wpAny_IfExp (thn (hc pins s σ H _ I h) fun d s1 ⟨H1, I1, q1⟩ => ?_)
  cases d with
  | true => exact ha pins s1 σ H1 Q I1 q1
  | false => exact hb pins s1 σ H1 Q I1 q1
end
end L2
namespace L2
open PySem PySem.Spec PyProof.Rows
variable {q0 : Bool}
def SqL (K : PySem.W.Frag) (H : Hp) (a : Addr) (xs : List V) : Prop :=
  Rd H a (.lst xs) ∨
    ∃ (o : Obj) (its : Array Value) (n : Nat), K.lookup a = some o ∧ o.cls = .type "list" ∧ o.dict = none ∧ o.data = .seq its n ∧ its.size ≤ sizeLine ∧ Vals xs its.toList
def SqT (K : PySem.W.Frag) (H : Hp) (a : Addr) (xs : List V) : Prop :=
  Rd H a (.tup xs) ∨
    ∃ (o : Obj) (its : Array Value) (n : Nat), K.lookup a = some o ∧ o.cls = .type "tuple" ∧ o.data = .seq its n ∧ its.size ≤ sizeLine ∧ Vals xs its.toList
def absV : Value → Option V
  | .none => some .non
  | .bool b => some (.bl b)
  | .int i _ => some (.int i)
  | .str x _ => some (.str x)
  | .bytes b _ => some (.byt b)
  | .float b _ => some (.flt b)
  | .ref a => some (.ref a)
  | .type n => some (.ty n)
  | _ => none
theorem RelV.abs {x : V} {u : Value} (r : RelV x u) : absV u = some x := by
  cases x with
  | non => cases r; rfl
  | bl _ => cases r; rfl
  | int _ => obtain ⟨t, rfl⟩ := r; rfl
  | str _ => obtain ⟨t, rfl⟩ := r; rfl
  | byt _ => obtain ⟨t, rfl⟩ := r; rfl
  | flt _ => obtain ⟨t, rfl⟩ := r; rfl
  | ref _ => cases r; rfl
  | ty _ => cases r; rfl
theorem RelV.inj {x y : V} {u : Value} (r : RelV x u) (q : RelV y u) : x = y := Option.some.inj (r.abs.symm.trans q.abs)
theorem Vals.inj : ∀ {xs ys : List V} {us : List Value}, Vals xs us → Vals ys us → xs = ys
  | _, _, _, .nil, .nil => rfl
  | _, _, _, .cons r t, .cons r' t' => by rw [r.inj r', Vals.inj t t']
section
variable {X : Cx} {pins : List (Addr × Obj)} {σ : St} {H : Hp} {s : Shared} {a : Addr} {xs ys : List V}
theorem SqL.of {K : PySem.W.Frag} (h : H a = some (.lst xs)) : SqL K H a xs := .inl (.inl h)
theorem SqT.of {K : PySem.W.Frag} (h : H a = some (.tup xs)) : SqT K H a xs := .inl (.inl h)
theorem Inv.list (I : Inv X pins σ H s) (h : SqL X.K H a xs) : ∃ its : List Value, Vals xs its ∧ PlainL s.heap a its.toArray ∧ xs.length ≤ sizeLine := by
  rcases h with h | ⟨o, its, n, hk, hc, hd, hs, hz, r⟩
  · obtain ⟨z, its, n, r, e⟩ := h.ok I.hok
    exact ⟨its, r, ⟨_, n, e, rfl, rfl, rfl⟩, z⟩
  · refine ⟨its.toList, r, ⟨o, n, I.kIn a o hk, hc, hd, by simpa using hs⟩, ?_⟩
    have e := r.length
    simp only [Array.length_toList] at e
    omega
theorem Inv.tuple (I : Inv X pins σ H s) (h : SqT X.K H a xs) : ∃ its : List Value, Vals xs its ∧ IsTup s.heap a its.toArray ∧ xs.length ≤ sizeLine := by
  rcases h with h | ⟨o, its, n, hk, hc, hs, hz, r⟩
  · obtain ⟨z, its, r, p⟩ := h.ok I.hok
    exact ⟨its, r, p, z⟩
  · refine ⟨its.toList, r, ⟨o, I.kIn a o hk, hc, n, by simpa using hs⟩, ?_⟩
    have e := r.length
    simp only [Array.length_toList] at e
    omega
theorem Inv.list_inj (I : Inv X pins σ H s) (h : SqL X.K H a xs) (h' : SqL X.K H a ys) : xs = ys := by
  obtain ⟨its, r, ⟨o, n, e, _, _, d⟩, _⟩ := I.list h
  obtain ⟨its', r', ⟨o', n', e', _, _, d'⟩, _⟩ := I.list h'
  rw [e] at e'; cases e'
  rw [d] at d'
  injection d' with d1 _
  have : its = its' := by simpa using congrArg Array.toList d1
  subst this
  exact r.inj r'
theorem Inv.tuple_inj (I : Inv X pins σ H s) (h : SqT X.K H a xs) (h' : SqT X.K H a ys) : xs = ys := by
  obtain ⟨its, r, ⟨o, e, _, n, d⟩, _⟩ := I.tuple h
  obtain ⟨its', r', ⟨o', e', _, n', d'⟩, _⟩ := I.tuple h'
  rw [e] at e'; cases e'
  rw [d] at d'
  injection d' with d1 _
  have : its = its' := by simpa using congrArg Array.toList d1
  subst this
  exact r.inj r'
end
abbrev Cx.wish (X : Cx) (E : Value → Shared → Prop) : Cx := { X with xe := E }
abbrev Cx.nox (X : Cx) : Cx := X.wish fun _ _ => False
theorem Cx.Ok.wish {X : Cx} (ok : X.Ok) (E : Value → Shared → Prop) : (X.wish E).Ok :=
  ⟨ok.mod, ok.kind, ok.glob, ok.blt, ok.above, ok.inj, ok.has, ok.cab, ok.hd, ok.frames, ok.stk, ok.exf, ok.bs, ok.bsz, ok.noex, ok.exfs, ok.funs, ok.frf⟩
theorem Cx.Ok.unwish {X : Cx} {E : Value → Shared → Prop} (ok : (X.wish E).Ok) : X.Ok :=
  ⟨ok.mod, ok.kind, ok.glob, ok.blt, ok.above, ok.inj, ok.has, ok.cab, ok.hd, ok.frames, ok.stk, ok.exf, ok.bs, ok.bsz, ok.noex, ok.exfs, ok.funs, ok.frf⟩
section
variable {X : Cx} {pins : List (Addr × Obj)} {σ : St} {H : Hp} {s : Shared} {E : Value → Shared → Prop}
theorem Inv.wish (I : Inv X pins σ H s) (E : Value → Shared → Prop) : Inv (X.wish E) pins σ H s := ⟨I.ok.wish E, I.os, I.bare, I.base, I.loc, I.cell, I.free, I.freeC, I.pin, I.hok, I.len⟩
theorem Inv.unwish (I : Inv (X.wish E) pins σ H s) : Inv X pins σ H s := ⟨I.ok.unwish, I.os, I.bare, I.base, I.loc, I.cell, I.free, I.freeC, I.pin, I.hok, I.len⟩
theorem SP.unwish {D : Ends} {f : Flow} {s' : Shared} (h : SP (X.wish E) pins D f s') : SP X pins D f s' := by
  cases f with
  | next => obtain ⟨σ', H', I, q⟩ := h; exact ⟨σ', H', I.unwish, q⟩
  | brk => obtain ⟨σ', H', I, q⟩ := h; exact ⟨σ', H', I.unwish, q⟩
  | cont => obtain ⟨σ', H', I, q⟩ := h; exact ⟨σ', H', I.unwish, q⟩
  | ret u => obtain ⟨v, σ', H', I, r, q⟩ := h; exact ⟨v, σ', H', I.unwish, r, q⟩
theorem PSs.nox {st : List Stmt} {t : TS} (h : PSs X.nox st t) : PSs X st t := fun pins s σ H D I hw =>
  wpAny_mono (h pins s σ H D (I.wish _) hw) (fun _ _ q => q.unwish) fun _ _ z => False.elim z
end
section
variable {X : Cx} {st : Stmt} {rest : List Stmt} {t u : TS} {e : Expr} {te : TE} {pos : Pos}
def tNext : TS := fun D σ H => D.nx σ H
def tSeq (t u : TS) : TS := fun D σ H => t { D with nx := u D } σ H
theorem pss_nil : PSs X [] tNext := fun _ _ σ H _ I h => wpAny_execs_nil ⟨σ, H, I, h⟩
theorem pss_cons (h1 : PS X st t) (h2 : PSs X rest u) : PSs X (st :: rest) (tSeq t u) := by
  intro pins s σ H D I h
  refine wpAny_execs_cons (thn (h1 pins s σ H { D with nx := u D } I h) fun f s1 q => ?_)
  cases f with
  | next =>
    obtain ⟨σ', H', I', q⟩ := q
    exact h2 pins s1 σ' H' D I' q
  | ret v => exact q
  | brk => exact q
  | cont => exact q
theorem pss_one (h1 : PS X st t) : PSs X [st] t := by
  intro pins s σ H D I h
  refine wpAny_execs_cons (thn (h1 pins s σ H D I h) fun f s1 q => ?_)
  cases f with
  | next => exact wpAny_execs_nil q
  | ret v => exact q
  | brk => exact q
  | cont => exact q
theorem Inv.quiet {pins : List (Addr × Obj)} {σ : St} {H : Hp} {s : Shared} (I : Inv X pins σ H s) : interactive X.env = false := by simp [interactive, I.ok.kind]
def tDrop (te : TE) : TS := fun D σ H => te σ H fun _ H1 => D.nx σ H1
theorem ps_expr (he : PE X e te) (hs : swapsWith e none pos.line X.env = pure false := by rfl) : PS X (.Expr e pos) (tDrop te) := by
  intro pins s σ H D I h
  exact wpAny_Expr_any (thn (he pins s σ H _ I h) fun v s1 ⟨x, H1, I1, r1, q1⟩ => ⟨σ, H1, I1, q1⟩) I.quiet hs
def tRet (te : TE) : TS := fun D σ H => te σ H D.rt
theorem ps_ret (he : PE X e te) : PS X (.Return (some e) pos) (tRet te) := by
  intro pins s σ H D I h
  exact wpAny_Return_some (thn (he pins s σ H _ I h) fun v s1 ⟨x, H1, I1, r1, q1⟩ => ⟨x, σ, H1, I1, r1, q1⟩)
def tIfS (c : TT) (t u : TS) : TS := fun D σ H => c σ H fun b H1 => if b = true then t D σ H1 else u D σ H1
theorem ps_if {c : Expr} {a b : List Stmt} {tc : TT} (hc : PT X c tc) (ha : PSs X a t) (hb : PSs X b u) : PS X (.If c a b pos) (tIfS tc t u) := by
  intro pins s σ H D I h
  refine wpAny_If (thn (hc pins s σ H _ I h) fun d s1 ⟨H1, I1, q1⟩ => ?_)
  cases d with
  | true => exact ha pins s1 σ H1 D I1 q1
  | false => exact hb pins s1 σ H1 D I1 q1
def tNever : TS := fun _ _ _ => False
theorem ps_never : PS X st tNever := fun _ _ _ _ _ _ h => h.elim
end
abbrev TG := V → St → Hp → (St → Hp → Prop) → Prop
abbrev TGs := List V → St → Hp → (St → Hp → Prop) → Prop
def PG (X : Cx) (target : Expr) (t : TG) : Prop :=
  ∀ (pins : List (Addr × Obj)) (s : Shared) (σ : St) (H : Hp) (v : V) (u : Value) (Q : St → Hp → Prop), Inv X pins σ H s → RelV v u → t v σ H Q →
    wpAny (model X.prog X.w) X.A (assign target X.env u) (fun _ s' => ∃ σ' H', Inv X pins σ' H' s' ∧ Q σ' H') X.xe s
def PGs (X : Cx) (ts : List Expr) (t : TGs) : Prop :=
  ∀ (pins : List (Addr × Obj)) (s : Shared) (σ : St) (H : Hp) (vs : List V) (us : List Value) (Q : St → Hp → Prop), Inv X pins σ H s → Vals vs us → t vs σ H Q →
    wpAny (model X.prog X.w) X.A (assignInOrder ((assignEach ts X.env).map (·.2)) us) (fun _ s' => ∃ σ' H', Inv X pins σ' H' s' ∧ Q σ' H') X.xe s
abbrev TSet := V → V → V → Hp → (Hp → Prop) → Prop
def PSet (X : Cx) (t : TSet) : Prop :=
  ∀ (pins : List (Addr × Obj)) (s : Shared) (σ : St) (H : Hp) (o i v : V) (ov iv u : Value) (Q : Hp → Prop), Inv X pins σ H s → RelV o ov → RelV i iv → RelV v u → t o i v H Q →
    wpAny (model X.prog X.w) X.A (setItem ov iv u) (fun _ s' => ∃ H', Inv X pins σ H' s' ∧ Q H') X.xe s
section
variable {X : Cx} {pos : Pos}
def gName (i : Nat) : TG := fun v σ H Q => Q (σ.set i (some v)) H
theorem pg_name {i : Nat} {x : Str} (hN : X.N.Nodup) (hi : X.N[i]? = some x) (hx : Loc X.env.scope x) (hf : X.fn x = true ∨ X.env.scope.names.lookup x = some .local := by first | exact .inl rfl | exact .inr rfl | assumption) : PG X (.Name x pos) (gName i) := by
  intro pins s σ H v u Q I r h
  exact wpAny_assign_Name (store_ok I hN hi hx r (fun s' I' => ⟨_, H, I', h⟩) hf)
def gNil : TGs := fun vs σ H Q => vs = [] ∧ Q σ H
def gCons (t : TG) (u : TGs) : TGs := fun vs σ H Q => ∃ v r, vs = v :: r ∧ t v σ H fun σ' H' => u r σ' H' Q
theorem pgs_nil : PGs X [] gNil := by
  intro pins s σ H vs us Q I r h
  obtain ⟨e, h⟩ := h
  subst e
  cases r
  exact assignInOrder_nil ⟨σ, H, I, h⟩
theorem pgs_cons {e : Expr} {es : List Expr} {t : TG} {u : TGs} (h1 : PG X e t) (h2 : PGs X es u)
    (hs : (assignEach (e :: es) X.env).map (·.2) = assign e X.env :: (assignEach es X.env).map (·.2) := by rfl) : PGs X (e :: es) (gCons t u) := by
  intro pins s σ H vs us Q I r h
  obtain ⟨v, vr, e1, h⟩ := h
  subst e1
  cases r with
  | cons r rr =>
    rw [hs]
    refine assignInOrder_cons (thn (h1 pins s σ H _ _ _ I r h) fun _ s1 ⟨σ1, H1, I1, q1⟩ => ?_)
    exact h2 pins s1 σ1 H1 _ _ Q I1 rr q1
def gTup (K : PySem.W.Frag) (n : Nat) (t : TGs) : TG := fun v σ H Q => ∃ a xs, v = .ref a ∧ SqT K H a xs ∧ xs.length = n ∧ t xs σ H Q
theorem pg_tup {es : List Expr} {k : Nat} {t : TGs} {n : Nat} (hc : X.calm = true) (h : PGs X es t)
    (hn : (assignEach es X.env).length = n := by rfl) (hst : (assignEach es X.env).findIdx? (·.1) = none := by rfl) : PG X (.Tuple es k pos) (gTup X.K n t) := by
  intro pins s σ H v u Q I r hw
  obtain ⟨a, xs, e1, hq, hl, hw⟩ := hw
  subst e1
  cases r
  obtain ⟨its, rv, ht, hz⟩ := I.tuple hq
  refine assign_Tuple_tuple (I.ok.hd hc) ht (by simp [hn, ← hl, rv.length]) hst fun h' hx => ?_
  have I1 : Inv X pins σ H { s with heap := h' } := I.kept (t' := s.toks) fun b o e => hx b o (Nat.ne_of_lt (Heap.lt_size e)) e
  exact h pins _ σ H xs _ Q I1 (by simpa using rv) hw
def gSub (to ti : TE) (t : TSet) : TG := fun v σ H Q => to σ H fun o H1 => ti σ H1 fun i H2 => t o i v H2 fun H3 => Q σ H3
theorem pg_sub {o i : Expr} {to ti : TE} {t : TSet} (ho : PE X o to) (hi : PE X i ti) (hs : PSet X t)
    (ha : ∀ v, assign (.Subscript o i pos) X.env v = (do
      let ov ← holding [v] (eval o X.env)
      let iv ← holding [v, ov] (eval i X.env)
      standAt pos
      holding [v, ov, iv] (setItem ov iv v)
      release [v, ov, iv] []) := by intro _; rfl) : PG X (.Subscript o i pos) (gSub to ti t) := by
  intro pins s σ H v u Q I r h
  rw [ha]
  refine wpAny_bind (wpAny_holding (thn (ho pins s σ H _ I h) fun ov s1 ⟨x, H1, I1, r1, q1⟩ => ?_))
  refine wpAny_bind (wpAny_holding (thn (hi pins s1 σ H1 _ I1 q1) fun iv s2 ⟨y, H2, I2, r2, q2⟩ => ?_))
  refine wpAny_bind (wpAny_standAt (wpAny_bind (wpAny_holding (thn (hs pins s2 σ H2 x y v ov iv u _ I2 r1 r2 r q2) fun _ s3 ⟨H3, I3, q3⟩ => ?_))))
  exact wpAny_release ⟨σ, H3, I3, q3⟩
def tAsg (te : TE) (g : TG) : TS := fun D σ H => te σ H fun x H1 => g x σ H1 D.nx
theorem ps_asg {tg e : Expr} {te : TE} {g : TG} (he : PE X e te) (hg : PG X tg g) (hs : swapsWithSole [tg] e pos.line X.env = pure false := by rfl) (hw : swappedStores [tg] e X.env = pure none := by rfl)
    (h1 : (assignEach [tg] X.env).map (·.2) = [assign tg X.env] := by rfl) : PS X (.Assign [tg] e pos) (tAsg te g) := by
  intro pins s σ H D I h
  refine wpAny_Assign_stores (thn (he pins s σ H _ I h) fun v s1 ⟨x, H1, I1, r1, q1⟩ => ?_) hs hw
  rw [h1]
  exact thn (hg pins s1 σ H1 x v _ I1 r1 q1) fun _ s2 q => q
theorem ps_set {i : Nat} {x : Str} {e : Expr} {te : TE} {pos' : Pos} (hN : X.N.Nodup) (hi : X.N[i]? = some x) (hx : Loc X.env.scope x) (he : PE X e te) (hs : swapsWith e (some (.Name x pos')) pos.line X.env = pure false := by rfl) (hf : X.fn x = true ∨ X.env.scope.names.lookup x = some .local := by first | exact .inl rfl | exact .inr rfl | assumption) :
    PS X (.Assign [.Name x pos'] e pos) (tAsg te (gName i)) := by
  intro pins s σ H D I h
  refine wpAny_Assign_Name (thn (he pins s σ H _ I h) fun v s1 ⟨y, H1, I1, r1, q1⟩ => ?_) hs
  exact store_ok I1 hN hi hx r1 (fun s2 I2 => ⟨_, H1, I2, q1⟩) hf
end
section
variable {X : Cx} {pos : Pos}
end
structure It where
  go : Nat → Hp → Prop
  yld : Nat → Hp → V → Hp → Prop
  stop : Nat → Hp → Prop
def FpOk (X : Cx) (pins : List (Addr × Obj)) (H : Hp) (b : Addr) : Prop :=
  H b = none ∧ b ≠ X.env.locals ∧ b ∉ X.fs ∧ (b ∈ X.ex ∨ X.s₀.heap.objs.size ≤ b) ∧ (∀ x c, X.env.cells.lookup x = some c → c ≠ b) ∧ ∀ p ∈ X.pn ++ pins, p.1 ≠ b
theorem Inv.fpOk {X : Cx} {pins : List (Addr × Obj)} {σ : St} {H H' : Hp} {s : Shared} {b : Addr} (I : Inv X pins σ H s) (hb : s.heap.objs.size ≤ b) (hn : H' b = none) : FpOk X pins H' b := by
  refine ⟨hn, Nat.ne_of_gt (Nat.lt_of_lt_of_le I.lt hb), I.nofs hb, .inr (Nat.le_trans I.sz hb), fun x c e z => ?_, fun p hp z => ?_⟩
  · obtain ⟨v, q⟩ := I.cell x c e
    exact absurd (Nat.lt_of_lt_of_le q.lt (by rw [z]; exact hb)) (Nat.lt_irrefl _)
  · exact absurd (Nat.lt_of_lt_of_le (Heap.lt_size (I.pin p hp).1) (by rw [z]; exact hb)) (Nat.lt_irrefl _)
structure Turn (P : Program) (w : World) (K : PySem.W.Frag) (tg : Expr) (J : It) (fp : List Addr) (it : Addr) (tn : Nat → Heap → Prop) : Prop where
  mem : it ∈ fp
  obj : ∀ i h, tn i h → ∀ b ∈ fp, ∃ o, h.get? b = some o ∧ ∀ v, o.data ≠ .cell v
  keep : ∀ i h h', tn i h → (∀ b ∈ fp, ∀ o, h.get? b = some o → h'.get? b = some o) → tn i h'
  item : ∀ (X : Cx), X.prog = P → X.w = w → X.K = K → X.calm = true → ∀ (i : Nat) (pins : List (Addr × Obj)) (s : Shared) (σ : St) (H : Hp) (E : Value → Shared → Prop), Inv X pins σ H s → (∀ b ∈ fp, FpOk X pins H b) → tn i s.heap → J.go i H →
    wpAny (model P w) X.A (pyNext (.ref it)) (fun r s1 => ∃ u, r = some u ∧
      wpAny (model P w) X.A (letOwnedTupleGo tg (.ref it) u) (fun _ s2 => ∃ x H', Inv X pins σ H' s2 ∧ RelV x u ∧ J.yld i H x H' ∧ tn (i + 1) s2.heap ∧ ∀ b ∈ fp, H' b = none) E s1) E s
  done : ∀ (X : Cx), X.prog = P → X.w = w → X.K = K → X.calm = true → ∀ (i : Nat) (pins : List (Addr × Obj)) (s : Shared) (σ : St) (H : Hp) (E : Value → Shared → Prop), Inv X pins σ H s → (∀ b ∈ fp, FpOk X pins H b) → tn i s.heap → J.stop i H →
    wpAny (model P w) X.A (pyNext (.ref it)) (fun r s1 => r = none ∧ Inv X pins σ H s1) E s
  self : ∀ (A : Around) (i : Nat) (s : Shared) (Q : Value → Shared → Prop) (E : Value → Shared → Prop), tn i s.heap → Q (.ref it) s → wpAny (model P w) A (pyIter (.ref it)) Q E s
abbrev TI := St → Hp → (It → Hp → Prop) → Prop
def PIE (X : Cx) (pins : List (Addr × Obj)) (σ : St) (tg : Expr) (R : It → Hp → Prop) (itv : Value) (s2 : Shared) : Prop :=
  ∃ (it : Addr) (fp : List Addr) (tn : Nat → Heap → Prop) (J : It) (H' : Hp), itv = .ref it ∧ Inv X pins σ H' s2 ∧ Turn X.prog X.w X.K tg J fp it tn ∧ tn 0 s2.heap ∧ (∀ b ∈ fp, FpOk X pins H' b) ∧ R J H'
def PI (X : Cx) (tg iter : Expr) (wi : TI) : Prop :=
  ∀ (pins : List (Addr × Obj)) (s : Shared) (σ : St) (H : Hp) (R : It → Hp → Prop), Inv X pins σ H s → wi σ H R →
    wpAny (model X.prog X.w) X.A (eval iter X.env) (fun v s1 => wpAny (model X.prog X.w) X.A (pyIter v) (PIE X pins σ tg R) X.xe s1) X.xe s
theorem go_of {M : Model} {A : Around} {E : Value → Shared → Prop} {s : Shared} {tg : Expr} {it : Addr} {u : Value} {o : Obj} {n : String} {vs : Array Value} {Q : Unit → Shared → Prop} (ho : s.heap.get? it = some o) (hc : o.cls = .type n) (hd : o.data = .fields vs)
    (hn : ["enumerate", "zip", "dict_itemiterator", "dict_reverseitemiterator", "odict_iterator", "itertools.zip_longest", "itertools.pairwise"].contains n = false) (hQ : Q () s) : wpAny M A (letOwnedTupleGo tg (.ref it) u) Q E s := by
  unfold letOwnedTupleGo
  cases tg <;> first
    | exact wpAny_pure hQ
    | (cases u <;> first
        | exact wpAny_pure hQ
        | (refine wpAny_bind (wpAny_load ho ?_)
           rw [hc, hd]
           show wpAny M A (if (["enumerate", "zip", "dict_itemiterator", "dict_reverseitemiterator", "odict_iterator", "itertools.zip_longest", "itertools.pairwise"].contains n && vs[0]? == some (rawInt _)) = true then _ else _) Q E s
           rw [if_neg (by intro h; rw [hn, Bool.false_and] at h; cases h)]
           exact wpAny_pure hQ))
def Itl (K : PySem.W.Frag) (a : Addr) : It :=
  ⟨fun i H => ∃ xs x, SqL K H a xs ∧ xs[i]? = some x, fun i H x H' => H' = H ∧ ∀ xs, SqL K H a xs → xs[i]? = some x, fun i H => ∃ xs, SqL K H a xs ∧ xs.length ≤ i⟩
def Itr (lo : Int) (n : Nat) : It := ⟨fun i _ => i < n, fun i H x H' => H' = H ∧ x = .int (lo + i), fun i _ => n ≤ i⟩
theorem turn_list {P : Program} {w : World} {K : PySem.W.Frag} {tg : Expr} (a it : Addr) : Turn P w K tg (Itl K a) [it] it (fun i h => h.IsListIter it a i) where
  mem := by simp
  obj := fun i h st b hb => by
    have e : b = it := by simpa using hb
    subst e
    obtain ⟨o, e, c, d⟩ := st
    exact ⟨o, e, fun v z => by rw [d] at z; cases z⟩
  keep := fun i h h' st k => st.at fun o e => k it (by simp) o e
  item := by
    intro X hP hw hK hc i pins s σ H E I hf st hg
    subst hP hw hK
    obtain ⟨xs, x, hq, hx⟩ := hg
    obtain ⟨its, rv, p, hz⟩ := I.list hq
    obtain ⟨u, hu, ru⟩ := rv.get hx
    obtain ⟨f0, f1, f2, f3, f4, f5⟩ := hf it (by simp)
    refine wpAny_pyNext_list_item st p.isList (x := u) (by simpa using hu) fun h' st' sb => ?_
    have I1 : Inv X pins σ H { s with heap := h' } := I.turned (t' := s.toks) (fun b o hb e => (sb.2 b hb).trans e) f0 f1 f3 f4 f5
    obtain ⟨o, e, c, d⟩ := id st'
    exact ⟨u, rfl, go_of (s := { s with heap := h' }) e c d (by decide) ⟨x, H, I1, ru, ⟨rfl, fun ys hy => by rw [I.list_inj hy hq]; exact hx⟩, st', fun b hb => (hf b hb).1⟩⟩
  done := by
    intro X hP hw hK hc i pins s σ H E I hf st hg
    subst hP hw hK
    obtain ⟨xs, hq, hx⟩ := hg
    obtain ⟨its, rv, p, hz⟩ := I.list hq
    obtain ⟨f0, f1, f2, f3, f4, f5⟩ := hf it (by simp)
    have hl := rv.length
    exact wpAny_pyNext_list_end (I.ok.hd hc) st p.isList (by simp; omega) fun h' eb => ⟨rfl, I.turned (t' := s.toks) (fun b o hb e => eb b o hb e) f0 f1 f3 f4 f5⟩
  self := fun _ _ _ _ _ st h => wpAny_pyIter_listiter st h
theorem turn_range {P : Program} {w : World} {K : PySem.W.Frag} {tg : Expr} (it : Addr) (lo : Int) (n : Nat) : Turn P w K tg (Itr lo n) [it] it (fun i h => IsRangeIter h it (lo + (i : Nat) * 1) ((n : Int) - (i : Nat)) 1) where
  mem := by simp
  obj := fun i h st b hb => by
    have e : b = it := by simpa using hb
    subst e
    exact ⟨_, st, fun v z => by
      have z' : Data.fields _ = Data.cell v := z
      cases z'⟩
  keep := fun i h h' st k => k it (by simp) _ st
  item := by
    intro X hP hw hK hc i pins s σ H E I hf st hg
    subst hP hw hK
    obtain ⟨f0, f1, f2, f3, f4, f5⟩ := hf it (by simp)
    have W := Walks.range (prog := X.prog) (w := X.w) (I.ok.hd hc) it lo 1 n
    refine W.item i s _ _ hg st fun v h' tk hv st' kk => ?_
    obtain ⟨t, rfl⟩ := hv
    have I1 : Inv X pins σ H { s with heap := h', toks := tk } := I.turned (fun b o hb e => kk b o (by simpa using hb) e) f0 f1 f3 f4 f5
    refine ⟨_, rfl, go_of (s := { s with heap := h', toks := tk }) (n := "range_iterator") st' rfl rfl (by decide) ⟨.int (lo + i), H, I1, ⟨t, ?_⟩, ⟨rfl, rfl⟩, st', fun b hb => (hf b hb).1⟩⟩
    rw [Int.mul_one]
  done := by
    intro X hP hw hK hc i pins s σ H E I hf st hg
    subst hP hw hK
    obtain ⟨f0, f1, f2, f3, f4, f5⟩ := hf it (by simp)
    exact wpAny_pyNext_range_end (I.ok.hd hc) st (by have : n ≤ i := hg; omega) fun h' eb => ⟨rfl, I.turned (t' := s.toks) (fun b o hb e => eb b o hb e) f0 f1 f3 f4 f5⟩
  self := fun _ _ _ _ _ st h => wpAny_pyIter_rangeiter st h
end L2
namespace L2
open PySem PySem.Spec PyProof.Rows
variable {q0 : Bool}
section
variable {X : Cx} {tg : Expr}
def iList (K : PySem.W.Frag) (tl : TE) : TI := fun σ H R => tl σ H fun x H1 => ∃ a, x = .ref a ∧ (∃ xs, SqL K H1 a xs) ∧ R (Itl K a) H1
theorem pi_list {l : Expr} {tl : TE} (hl : PE X l tl) : PI X tg l (iList X.K tl) := by
  intro pins s σ H R I h
  refine thn (hl pins s σ H _ I h) fun v s1 ⟨x, H1, I1, r1, q1⟩ => ?_
  obtain ⟨a, e, ⟨xs, hq⟩, q⟩ := q1
  subst e
  cases r1
  obtain ⟨its, rv, p, hz⟩ := I1.list hq
  refine wpAny_pyIter_list p.isList ?_
  refine ⟨s1.heap.objs.size, [s1.heap.objs.size], _, _, H1, rfl, I1.kept (t' := s1.toks) fun b o e => Heap.get?_push_of_some _ e, turn_list a _, ⟨_, Heap.get?_push_size _ rfl, rfl, rfl⟩, fun b hb => ?_, q⟩
  have e : b = s1.heap.objs.size := by simpa using hb
  subst e
  exact I1.fpOk (Nat.le_refl _) (I1.hok.fresh (Nat.le_refl _))
theorem range_it {pins : List (Addr × Obj)} {σ : St} {H : Hp} {s : Shared} {R : It → Hp → Prop} {E : Value → Shared → Prop} {lo hi : Int} {t u v : Tok} {tk : Nat} (I : Inv X pins σ H s) (h1 : -(2 ^ 62) ≤ lo) (h2 : lo < 2 ^ 62) (h3 : -(2 ^ 62) ≤ hi) (h4 : hi < 2 ^ 62)
    (q : R (Itr lo (hi - lo).toNat) H) : wpAny (model X.prog X.w) X.A (pyIter (.ref s.heap.objs.size)) (PIE X pins σ tg R) E { s with heap := s.heap.push { cls := .type "range", data := .fields #[.int lo t, .int hi u, .int 1 v] }, toks := tk } := by
  refine wpAny_pyIter_range (IsRange.new ..) (small_one h1 h2 h3 h4) ?_
  have I1 : Inv X pins σ H { s with heap := s.heap.push { cls := .type "range", data := .fields #[.int lo t, .int hi u, .int 1 v] }, toks := tk } := I.kept fun b o e => Heap.get?_push_of_some _ e
  refine ⟨(s.heap.push { cls := .type "range", data := .fields #[.int lo t, .int hi u, .int 1 v] }).objs.size, [(s.heap.push { cls := .type "range", data := .fields #[.int lo t, .int hi u, .int 1 v] }).objs.size], _, _, H, rfl,
    I1.kept (t' := tk) fun b o e => Heap.get?_push_of_some _ e, turn_range _ lo (hi - lo).toNat, ?_, fun b hb => ?_, q⟩
  · have e1 : lo + ((0 : Nat) : Int) * 1 = lo := by simp
    have e2 : (((hi - lo).toNat : Nat) : Int) - ((0 : Nat) : Int) = Builtin.Range.rangeSize lo hi 1 := by rw [rangeSize_one]; split <;> omega
    show IsRangeIter _ _ (lo + ((0 : Nat) : Int) * 1) ((((hi - lo).toNat : Nat) : Int) - ((0 : Nat) : Int)) 1
    rw [e1, e2]
    exact Heap.get?_push_size _ rfl
  · have e : b = (s.heap.push { cls := .type "range", data := .fields #[.int lo t, .int hi u, .int 1 v] }).objs.size := by simpa using hb
    subst e
    exact I1.fpOk (Nat.le_refl _) (I1.hok.fresh (Nat.le_refl _))
def iRng1 (ta : TA) : TI := fun σ H R => ta σ H fun vs H1 => ∃ j : Int, vs = [.int j] ∧ -(2 ^ 62) ≤ j ∧ j < 2 ^ 62 ∧ R (Itr 0 j.toNat) H1
def iRng2 (ta : TA) : TI := fun σ H R => ta σ H fun vs H1 => ∃ i j : Int, vs = [.int i, .int j] ∧ (-(2 ^ 62) ≤ i ∧ i < 2 ^ 62 ∧ -(2 ^ 62) ≤ j ∧ j < 2 ^ 62) ∧ R (Itr i (j - i).toNat) H1
theorem pi_range1 {a : Expr} {ta : TA} {p pos : Pos} (hg : Gl X "range") (hm : X.mg "range" = none) (ha : PA X [a] ta) (hs : starEach [a] X.env = [(false, eval a X.env)] := by rfl) : PI X tg (.Call (.Name "range" p) [a] [] pos) (iRng1 ta) := by
  intro pins s σ H R I h
  refine Call_ (ld_blt I hg hm boot_range (PyProof.Rows.callWith_type1 (thn (ha pos pins s σ H _ I h) fun us s1 ⟨vs, H1, I1, r1, q1⟩ => ?_) hs rfl))
  obtain ⟨j, e, q1, q2, q⟩ := q1
  subst e
  cases r1 with
  | cons r rr =>
    cases rr
    obtain ⟨t, rfl⟩ := r
    exact call_range_1 (range_it I1 (by omega) (by omega) q1 q2 (by simpa using q))
theorem pi_range2 {a b : Expr} {ta : TA} {p pos : Pos} (hg : Gl X "range") (hm : X.mg "range" = none) (ha : PA X [a, b] ta) (hs : starEach [a, b] X.env = [(false, eval a X.env), (false, eval b X.env)] := by rfl) (hs2 : starEach [b] X.env = [(false, eval b X.env)] := by rfl) :
    PI X tg (.Call (.Name "range" p) [a, b] [] pos) (iRng2 ta) := by
  intro pins s σ H R I h
  refine Call_ (ld_blt I hg hm boot_range (PyProof.Rows.callWith_type1 (thn (ha pos pins s σ H _ I h) fun us s1 ⟨vs, H1, I1, r1, q1⟩ => ?_) (by rw [hs, hs2]) (by rw [hs2]; rfl)))
  obtain ⟨i, j, e, ⟨q1, q2, q3, q4⟩, q⟩ := q1
  subst e
  cases r1 with
  | cons r rr =>
    cases rr with
    | cons r' rr =>
      cases rr
      obtain ⟨t, rfl⟩ := r
      obtain ⟨t', rfl⟩ := r'
      exact call_range_2 (range_it I1 q1 q2 q3 q4 q)
def tFor (wi : TI) (g : TG) (tb : TS) : TS := fun D σ H => wi σ H fun J H1 => ∃ W : Nat → Nat → St → Hp → Prop, (∃ m, W 0 m σ H1) ∧ ∀ i m σ H, W i m σ H →
  (J.stop i H ∧ D.nx σ H) ∨ (J.go i H ∧ ∃ N : St → Hp → Prop, (∀ σ' H', N σ' H' → ∃ m', m' < m ∧ W (i + 1) m' σ' H') ∧ ∀ x H', J.yld i H x H' → g x σ H' fun σ2 H2 => tb { D with nx := N, ct := N, bk := D.nx } σ2 H2)
def pinsAt (fp : List Addr) (h : Heap) : List (Addr × Obj) := fp.filterMap fun b => (h.get? b).map fun o => (b, o)
theorem mem_pinsAt {fp : List Addr} {h : Heap} {b : Addr} {o : Obj} (hb : b ∈ fp) (e : h.get? b = some o) : (b, o) ∈ pinsAt fp h := List.mem_filterMap.mpr ⟨b, hb, by rw [e]; rfl⟩
theorem of_pinsAt {fp : List Addr} {h : Heap} {p : Addr × Obj} (hp : p ∈ pinsAt fp h) : p.1 ∈ fp ∧ h.get? p.1 = some p.2 := by
  obtain ⟨b, hb, e⟩ := List.mem_filterMap.mp hp
  cases q : h.get? b with
  | none => rw [q] at e; cases e
  | some o =>
    rw [q] at e
    have e' : (b, o) = p := Option.some.inj e
    subst e'
    exact ⟨hb, q⟩
theorem Inv.pinned {pins : List (Addr × Obj)} {σ : St} {H : Hp} {s : Shared} {fp : List Addr} (I : Inv X pins σ H s) (hf : ∀ b ∈ fp, FpOk X pins H b) (ho : ∀ b ∈ fp, ∃ o, s.heap.get? b = some o ∧ ∀ v, o.data ≠ .cell v) : Inv X (pins ++ pinsAt fp s.heap) σ H s :=
  I.pins_of fun p hp => (List.mem_append.mp hp).elim (fun z => I.pin p (List.mem_append_right _ z)) fun z => by
    obtain ⟨hb, e⟩ := of_pinsAt z
    obtain ⟨f0, f1, f2, _⟩ := hf p.1 hb
    obtain ⟨o, e', d⟩ := ho p.1 hb
    rw [e] at e'; cases e'
    exact ⟨e, f0, f1, f2, d⟩
theorem Inv.unpinned {pins pl : List (Addr × Obj)} {σ : St} {H : Hp} {s : Shared} (I : Inv X (pins ++ pl) σ H s) : Inv X pins σ H s := I.pins_of fun p hp => I.pin p (List.mem_append_right _ (List.mem_append_left _ hp))
theorem ps_for {iter : Expr} {body : List Stmt} {wi : TI} {g : TG} {tb : TS} {pos : Pos} (hp : PassesOwn (model X.prog X.w) X.A X.env X.xe) (hc : X.calm = true) (hi : PI X tg iter wi) (hg : PG X tg g) (hb : PSs X body tb)
    (hs : ∀ x, foldedSetIterable iter X.env x = pure x := by intro _; rfl) : PS X (.For tg iter body [] pos) (tFor wi g tb) := by
  intro pins s σ H D I h
  refine wpAny_For (thn (hi pins s σ H _ I h) fun v s1 h1 => thn h1 fun itv s2 h2 => ?_) hs
  obtain ⟨it, fp, tn, J, H2, e, I2, T, st2, f2, W, ⟨m0, w0⟩, turn⟩ := h2
  subst e
  -- what stays true of the iterator's objects through the loop
  have stat : ∀ {H' : Hp}, (∀ b ∈ fp, H' b = none) → ∀ b ∈ fp, FpOk X pins H' b := fun hn b hb => ⟨hn b hb, (f2 b hb).2⟩
  refine codeAny_forLoop_any (fun n s' => ∃ i σ' H', Inv X pins σ' H' s' ∧ tn i s'.heap ∧ (∀ b ∈ fp, H' b = none) ∧ W i n σ' H') ?_ m0 ⟨0, σ, H2, I2, st2, fun b hb => (f2 b hb).1, w0⟩
  rintro n s3 ⟨i, σ3, H3, I3, st3, fr3, w3⟩
  rcases turn i n σ3 H3 w3 with ⟨stop, qn⟩ | ⟨go, N, hN, step⟩
  · refine wpAny_passesOwn hp (thn (T.done X rfl rfl rfl hc i pins s3 σ3 H3 X.xe I3 (stat fr3) st3 stop) fun r s4 ⟨hr, I4⟩ => ?_)
    subst hr
    exact wpAny_execs_nil ⟨σ3, H3, I4, qn⟩
  · refine wpAny_passesOwn hp (thn (T.item X rfl rfl rfl hc i pins s3 σ3 H3 X.xe I3 (stat fr3) st3 go) fun r s4 ⟨u, hr, h4⟩ => ?_)
    subst hr
    refine wpAny_passesOwn hp (thn h4 fun _ s5 ⟨x, H5, I5, r5, y5, st5, fr5⟩ => ?_)
    have I5' := I5.pinned (stat fr5) (T.obj _ _ st5)
    refine wpAny_passesOwn hp (thn (hg _ s5 σ3 H5 x u _ I5' r5 (step x H5 y5)) fun _ s6 ⟨σ6, H6, I6, q6⟩ => ?_)
    refine wpAny_passesOwn hp (thn (hb _ s6 σ6 H6 _ I6 q6) fun f s7 q7 => ?_)
    have again : ∀ {σ7 : St} {H7 : Hp}, Inv X (pins ++ pinsAt fp s5.heap) σ7 H7 s7 → N σ7 H7 → ∃ m, m < n ∧ ∃ i σ' H', Inv X pins σ' H' s7 ∧ tn i s7.heap ∧ (∀ b ∈ fp, H' b = none) ∧ W i m σ' H' := fun {σ7 H7} I7 n7 => by
      obtain ⟨m', hm, w7⟩ := hN σ7 H7 n7
      refine ⟨m', hm, i + 1, σ7, H7, I7.unpinned, T.keep _ _ _ st5 fun b hb o e => (I7.pin (b, o) (List.mem_append_right _ (List.mem_append_right _ (mem_pinsAt hb e)))).1, fun b hb => ?_, w7⟩
      obtain ⟨o, e, d⟩ := T.obj _ _ st5 b hb
      exact (I7.pin (b, o) (List.mem_append_right _ (List.mem_append_right _ (mem_pinsAt hb e)))).2.1
    cases f with
    | next => obtain ⟨σ7, H7, I7, n7⟩ := q7; exact again I7 n7
    | cont => obtain ⟨σ7, H7, I7, n7⟩ := q7; exact again I7 n7
    | brk => obtain ⟨σ7, H7, I7, q7⟩ := q7; exact ⟨σ7, H7, I7.unpinned, q7⟩
    | ret v => obtain ⟨x7, σ7, H7, I7, r7, q7⟩ := q7; exact ⟨x7, σ7, H7, I7.unpinned, r7, q7⟩
end
theorem for_list {K : PySem.W.Frag} {a : Addr} {xs : List V} {g : TG} {tb : TS} {D : Ends} {σ : St} {H : Hp} (Pv : Nat → St → Hp → Prop) (h0 : Pv 0 σ H) (hl : ∀ i σ H, i ≤ xs.length → Pv i σ H → SqL K H a xs)
    (hs : ∀ i x σ H, xs[i]? = some x → Pv i σ H → g x σ H fun σ2 H2 => tb { D with nx := Pv (i + 1), ct := Pv (i + 1), bk := D.nx } σ2 H2) (hd : ∀ σ H, Pv xs.length σ H → D.nx σ H) :
    ∃ W : Nat → Nat → St → Hp → Prop, (∃ m, W 0 m σ H) ∧ ∀ i m σ H, W i m σ H →
      ((Itl K a).stop i H ∧ D.nx σ H) ∨ ((Itl K a).go i H ∧ ∃ N : St → Hp → Prop, (∀ σ' H', N σ' H' → ∃ m', m' < m ∧ W (i + 1) m' σ' H') ∧ ∀ x H', (Itl K a).yld i H x H' → g x σ H' fun σ2 H2 => tb { D with nx := N, ct := N, bk := D.nx } σ2 H2) := by
  refine ⟨fun i m σ H => m = xs.length - i ∧ i ≤ xs.length ∧ Pv i σ H, ⟨xs.length, by simp, Nat.zero_le _, h0⟩, ?_⟩
  rintro i m σ H ⟨rfl, hi, p⟩
  have q := hl i σ H hi p
  by_cases hlt : i < xs.length
  · refine .inr ⟨⟨xs, xs[i], q, by simp [hlt]⟩, Pv (i + 1), fun σ' H' p' => ⟨xs.length - (i + 1), by omega, rfl, hlt, p'⟩, fun x H' y => ?_⟩
    obtain ⟨e, y⟩ := y
    subst e
    exact hs i x σ _ (y xs q) p
  · have e : i = xs.length := by omega
    subst e
    exact .inl ⟨⟨xs, q, Nat.le_refl _⟩, hd σ H p⟩
theorem for_range {lo : Int} {n : Nat} {g : TG} {tb : TS} {D : Ends} {σ : St} {H : Hp} (Pv : Nat → St → Hp → Prop) (h0 : Pv 0 σ H)
    (hs : ∀ i σ H, i < n → Pv i σ H → g (.int (lo + i)) σ H fun σ2 H2 => tb { D with nx := Pv (i + 1), ct := Pv (i + 1), bk := D.nx } σ2 H2) (hd : ∀ σ H, Pv n σ H → D.nx σ H) :
    ∃ W : Nat → Nat → St → Hp → Prop, (∃ m, W 0 m σ H) ∧ ∀ i m σ H, W i m σ H →
      ((Itr lo n).stop i H ∧ D.nx σ H) ∨ ((Itr lo n).go i H ∧ ∃ N : St → Hp → Prop, (∀ σ' H', N σ' H' → ∃ m', m' < m ∧ W (i + 1) m' σ' H') ∧ ∀ x H', (Itr lo n).yld i H x H' → g x σ H' fun σ2 H2 => tb { D with nx := N, ct := N, bk := D.nx } σ2 H2) := by
  refine ⟨fun i m σ H => m = n - i ∧ i ≤ n ∧ Pv i σ H, ⟨n, by simp, Nat.zero_le _, h0⟩, ?_⟩
  rintro i m σ H ⟨rfl, hi, p⟩
  by_cases hlt : i < n
  · refine .inr ⟨hlt, Pv (i + 1), fun σ' H' p' => ⟨n - (i + 1), by omega, rfl, hlt, p'⟩, fun x H' y => ?_⟩
    obtain ⟨e, y⟩ := y
    subst e y
    exact hs i σ _ hlt p
  · have e : i = n := by omega
    subst e
    exact .inl ⟨Nat.le_refl _, hd σ H p⟩
end L2
namespace L2
open PySem PySem.Spec PyProof.Rows
variable {q0 : Bool}
abbrev R2 := V → V → Hp → VK → Prop
def OpR (X : Cx) (f : Value → Value → Sem Value) (r : R2) : Prop :=
  ∀ (pins : List (Addr × Obj)) (s : Shared) (σ : St) (H : Hp) (x y : V) (v u : Value) (Q : VK), Inv X pins σ H s → RelV x v → RelV y u → r x y H Q →
    wpAny (model X.prog X.w) X.A (f v u) (EP X pins σ Q) X.xe s
def CallR (X : Cx) (f : Value) (r : List V → Hp → VK → Prop) : Prop :=
  ∀ (pins : List (Addr × Obj)) (s : Shared) (σ : St) (H : Hp) (xs : List V) (us : List Value) (Q : VK), Inv X pins σ H s → Vals xs us → r xs H Q →
    wpAny (model X.prog X.w) X.A (call f us) (EP X pins σ Q) X.xe s
def tOp (r : R2) (ta tb : TE) : TE := fun σ H Q => ta σ H fun x H1 => tb σ H1 fun y H2 => r x y H2 Q
def rI (C : Int → Int → Prop) (g : Int → Int → V) : R2 := fun x y H Q => ∃ i j, x = .int i ∧ y = .int j ∧ C i j ∧ Q (g i j) H
def rI0 (g : Int → Int → V) : R2 := fun x y H Q => ∃ i j, x = .int i ∧ y = .int j ∧ Q (g i j) H
section
variable {X : Cx} {a b c : Expr} {ta tb tc : TE} {pos : Pos}
theorem binT (ha : PE X a ta) (hb : PE X b tb) {pins : List (Addr × Obj)} {s : Shared} {σ : St} {H : Hp} {R : V → V → Hp → Prop} (I : Inv X pins σ H s)
    (h : ta σ H fun x H1 => tb σ H1 fun y H2 => R x y H2) {Q : Value → Shared → Prop} {f : Value → Value → Sem Value}
    (hf : ∀ v u s2 x y H2, Inv X pins σ H2 s2 → RelV x v → RelV y u → R x y H2 → wpAny (model X.prog X.w) X.A (f v u) Q X.xe s2) :
    wpAny (model X.prog X.w) X.A (eval a X.env) (fun v s₁ => wpAny (model X.prog X.w) X.A (eval b X.env) (fun u s₂ => wpAny (model X.prog X.w) X.A (f v u) Q X.xe s₂) X.xe s₁) X.xe s := by
  refine thn (ha pins s σ H _ I h) fun v s1 ⟨x, H1, I1, r1, q1⟩ => ?_
  refine thn (hb pins s1 σ H1 _ I1 q1) fun u s2 ⟨y, H2, I2, r2, q2⟩ => ?_
  exact hf v u s2 x y H2 I2 r1 r2 q2
theorem pe_op {op : Operator} {r : R2} (ho : OpR X (binaryOp op) r) (ha : PE X a ta) (hb : PE X b tb) : PE X (.BinOp a op b pos) (tOp r ta tb) := by
  intro pins s σ H Q I h
  exact wpAny_BinOp (binT ha hb I h fun v u s2 x y H2 I2 rx ry q => ho pins s2 σ H2 x y v u Q I2 rx ry q)
theorem opI {f : Value → Value → Sem Value} {C : Int → Int → Prop} {g : Int → Int → Int}
    (rule : ∀ (i j : Int) (t u : Tok) (s : Shared) (Q : Value → Shared → Prop) (E : Value → Shared → Prop), C i j → Q (.int (g i j) s.toks) { s with toks := s.toks + 1 } → wpAny (model X.prog X.w) X.A (f (.int i t) (.int j u)) Q E s) :
    OpR X f (rI C fun i j => .int (g i j)) := by
  intro pins s σ H x y v u Q I rx ry h
  obtain ⟨i, j, rfl, rfl, hc, q⟩ := h
  obtain ⟨t, rfl⟩ := rx
  obtain ⟨t', rfl⟩ := ry
  exact rule i j t t' s _ _ hc ⟨.int (g i j), H, I.tok _, ⟨_, rfl⟩, q⟩
theorem opI0 {f : Value → Value → Sem Value} {g : Int → Int → Int}
    (rule : ∀ (i j : Int) (t u : Tok) (s : Shared) (Q : Value → Shared → Prop) (E : Value → Shared → Prop), Q (.int (g i j) s.toks) { s with toks := s.toks + 1 } → wpAny (model X.prog X.w) X.A (f (.int i t) (.int j u)) Q E s) :
    OpR X f (rI0 fun i j => .int (g i j)) := by
  intro pins s σ H x y v u Q I rx ry h
  obtain ⟨i, j, rfl, rfl, q⟩ := h
  obtain ⟨t, rfl⟩ := rx
  obtain ⟨t', rfl⟩ := ry
  exact rule i j t t' s _ _ ⟨.int (g i j), H, I.tok _, ⟨_, rfl⟩, q⟩
theorem opB0 {f : Value → Value → Sem Value} {g : Int → Int → Bool}
    (rule : ∀ (i j : Int) (t u : Tok) (s : Shared) (Q : Value → Shared → Prop) (E : Value → Shared → Prop), Q (.bool (g i j)) s → wpAny (model X.prog X.w) X.A (f (.int i t) (.int j u)) Q E s) :
    OpR X f (rI0 fun i j => .bl (g i j)) := by
  intro pins s σ H x y v u Q I rx ry h
  obtain ⟨i, j, rfl, rfl, q⟩ := h
  obtain ⟨t, rfl⟩ := rx
  obtain ⟨t', rfl⟩ := ry
  exact rule i j t t' s _ _ ⟨.bl (g i j), H, I, rfl, q⟩
def CDiv (i j : Int) : Prop := 0 < j ∧ j < 1073741824
def CPow (i j : Int) : Prop := 0 ≤ j ∧ j ≤ 1000000 ∧ i.natAbs < 2 ^ 64
def CMul (i j : Int) : Prop := (-(2 ^ 64) < i ∧ i < 2 ^ 64) ∨ (-(2 ^ 64) < j ∧ j < 2 ^ 64)
theorem CMul.ok {i j : Int} (h : CMul i j) : IntMulOk i j := by
  rcases h with ⟨h1, h2⟩ | ⟨h1, h2⟩
  · exact .of_left (intBits_le_64 h1 h2)
  · exact .of_right (intBits_le_64 h1 h2)
theorem op_add : OpR X (binaryOp .Add) (rI0 fun i j => .int (i + j)) := opI0 fun _ _ _ _ _ _ _ q => add_int q
theorem op_sub : OpR X (binaryOp .Sub) (rI0 fun i j => .int (i - j)) := opI0 fun _ _ _ _ _ _ _ q => sub_int q
theorem op_mul : OpR X (binaryOp .Mult) (rI CMul fun i j => .int (i * j)) := opI fun _ _ _ _ _ _ _ hc q => mul_int q hc.ok
theorem op_fdiv : OpR X (binaryOp .FloorDiv) (rI CDiv fun i j => .int (i / j)) := opI fun i j _ _ _ _ _ hc q => by
  have h1 : (0 : Int) < j := hc.1
  have h2 : j < 1073741824 := hc.2
  exact floordiv_int (by omega) (by rw [Int.fdiv_eq_ediv_of_nonneg i (by omega)]; exact q) (.inl (PyProof.noPylong_small (by omega)))
theorem op_mod : OpR X (binaryOp .Mod) (rI (fun _ j => 0 < j) fun i j => .int (i % j)) := opI fun i j _ _ _ _ _ hc q => by
  have h1 : (0 : Int) < j := hc
  exact mod_int' (by omega) (by rw [Int.fmod_eq_emod_of_nonneg i (by omega)]; exact q)
theorem op_pow : OpR X (binaryOp .Pow) (rI CPow fun i j => .int (i ^ j.toNat)) := opI fun _ _ _ _ _ _ _ hc q => pow_int_small hc.1 hc.2.1 hc.2.2 q
end
def scal : V → V → Bool
  | .non, .non => true | .non, .int _ => true | .int _, .non => true | .non, .bl _ => true | .bl _, .non => true | .non, .str _ => true | .str _, .non => true
  | .int _, .int _ => true | .bl _, .bl _ => true | .str _, .str _ => true | .byt _, .byt _ => true
  | .int _, .str _ => true | .str _, .int _ => true | .bl _, .str _ => true | .str _, .bl _ => true
  | _, _ => false
def rEq : R2 := fun x y H Q => scal x y = true ∧ Q (.bl (decide (x = y))) H
def rNe : R2 := fun x y H Q => scal x y = true ∧ Q (.bl (!decide (x = y))) H
theorem dec_int {i j : Int} : decide (V.int i = V.int j) = (i == j) := by
  rw [Bool.eq_iff_iff]
  simp
theorem dec_bl {i j : Bool} : decide (V.bl i = V.bl j) = (i == j) := by
  rw [Bool.eq_iff_iff]
  simp
theorem dec_str {i j : Str} : decide (V.str i = V.str j) = (i == j) := by
  rw [Bool.eq_iff_iff]
  simp
theorem dec_byt {i j : Array UInt8} : decide (V.byt i = V.byt j) = (i.toList == j.toList) := by
  rw [Bool.eq_iff_iff]
  cases i
  cases j
  simp
section
variable {X : Cx} {a b c : Expr} {ta tb tc : TE} {pos : Pos}
theorem fin_bl {pins : List (Addr × Obj)} {σ : St} {H : Hp} {s : Shared} {Q : VK} {k k' : Bool} (I : Inv X pins σ H s) (q : Q (.bl k) H) (e : k = k') : EP X pins σ Q (.bool k') s := by
  subst e
  exact ⟨.bl k, H, I, rfl, q⟩
theorem op_eq : OpR X (compareOp .Eq) rEq := by
  intro pins s σ H x y v u Q I rx ry h
  obtain ⟨hs, q⟩ := h
  cases x with
  | non =>
    cases rx
    cases y with
    | non => cases ry; exact PySem.EqNone.eq_none_none (fin_bl I q (by simp))
    | bl j => cases ry; exact PySem.EqNone.eq_none_bool (fin_bl I q (by simp))
    | int j => obtain ⟨t', rfl⟩ := ry; exact PySem.EqNone.eq_none_int (fin_bl I q (by simp))
    | str j => obtain ⟨t', rfl⟩ := ry; exact PySem.EqNone.eq_none_str (fin_bl I q (by simp))
    | _ => exact absurd (show false = true from hs) Bool.false_ne_true
  | bl i =>
    cases rx
    cases y with
    | non => cases ry; exact PySem.EqNone.eq_bool_none (fin_bl I q (by simp))
    | bl j => cases ry; exact eq_bool (fin_bl I q dec_bl)
    | str j => obtain ⟨t', rfl⟩ := ry; exact PySem.EqMixed.eq_bool_str (fin_bl I q (by simp))
    | _ => exact absurd (show false = true from hs) Bool.false_ne_true
  | int i =>
    obtain ⟨t, rfl⟩ := rx
    cases y with
    | non => cases ry; exact PySem.EqNone.eq_int_none (fin_bl I q (by simp))
    | int j => obtain ⟨t', rfl⟩ := ry; exact eq_int (fin_bl I q dec_int)
    | str j => obtain ⟨t', rfl⟩ := ry; exact PySem.EqMixed.eq_int_str (fin_bl I q (by simp))
    | _ => exact absurd (show false = true from hs) Bool.false_ne_true
  | str i =>
    obtain ⟨t, rfl⟩ := rx
    cases y with
    | non => cases ry; exact PySem.EqNone.eq_str_none (fin_bl I q (by simp))
    | bl j => cases ry; exact PySem.EqMixed.eq_str_bool (fin_bl I q (by simp))
    | int j => obtain ⟨t', rfl⟩ := ry; exact PySem.EqMixed.eq_str_int (fin_bl I q (by simp))
    | str j => obtain ⟨t', rfl⟩ := ry; exact eq_str (fin_bl I q dec_str)
    | _ => exact absurd (show false = true from hs) Bool.false_ne_true
  | byt i =>
    obtain ⟨t, rfl⟩ := rx
    cases y with
    | byt j => obtain ⟨t', rfl⟩ := ry; exact PySem.W.eq_bytes (fin_bl I q dec_byt)
    | _ => exact absurd (show false = true from hs) Bool.false_ne_true
  | _ => cases y <;> exact absurd (show false = true from hs) Bool.false_ne_true
theorem op_ne : OpR X (compareOp .NotEq) rNe := by
  intro pins s σ H x y v u Q I rx ry h
  obtain ⟨hs, q⟩ := h
  cases x with
  | non =>
    cases rx
    cases y with
    | non => cases ry; exact PySem.EqNone.ne_none_none (fin_bl I q (by simp))
    | bl j => cases ry; exact PySem.EqNone.ne_none_bool (fin_bl I q (by simp))
    | int j => obtain ⟨t', rfl⟩ := ry; exact PySem.EqNone.ne_none_int (fin_bl I q (by simp))
    | str j => obtain ⟨t', rfl⟩ := ry; exact PySem.EqNone.ne_none_str (fin_bl I q (by simp))
    | _ => exact absurd (show false = true from hs) Bool.false_ne_true
  | bl i =>
    cases rx
    cases y with
    | non => cases ry; exact PySem.EqNone.ne_bool_none (fin_bl I q (by simp))
    | bl j => cases ry; exact ne_bool (fin_bl I q (congrArg not dec_bl))
    | str j => obtain ⟨t', rfl⟩ := ry; exact PySem.EqMixed.ne_bool_str (fin_bl I q (by simp))
    | _ => exact absurd (show false = true from hs) Bool.false_ne_true
  | int i =>
    obtain ⟨t, rfl⟩ := rx
    cases y with
    | non => cases ry; exact PySem.EqNone.ne_int_none (fin_bl I q (by simp))
    | int j => obtain ⟨t', rfl⟩ := ry; exact ne_int (fin_bl I q (congrArg not dec_int))
    | str j => obtain ⟨t', rfl⟩ := ry; exact PySem.EqMixed.ne_int_str (fin_bl I q (by simp))
    | _ => exact absurd (show false = true from hs) Bool.false_ne_true
  | str i =>
    obtain ⟨t, rfl⟩ := rx
    cases y with
    | non => cases ry; exact PySem.EqNone.ne_str_none (fin_bl I q (by simp))
    | bl j => cases ry; exact PySem.EqMixed.ne_str_bool (fin_bl I q (by simp))
    | int j => obtain ⟨t', rfl⟩ := ry; exact PySem.EqMixed.ne_str_int (fin_bl I q (by simp))
    | str j => obtain ⟨t', rfl⟩ := ry; exact ne_str (fin_bl I q (congrArg not dec_str))
    | _ => exact absurd (show false = true from hs) Bool.false_ne_true
  | byt i =>
    obtain ⟨t, rfl⟩ := rx
    cases y with
    | byt j => obtain ⟨t', rfl⟩ := ry; exact PySem.W.ne_bytes (fin_bl I q (congrArg not dec_byt))
    | _ => exact absurd (show false = true from hs) Bool.false_ne_true
  | _ => cases y <;> exact absurd (show false = true from hs) Bool.false_ne_true
theorem op_lt : OpR X (compareOp .Lt) (rI0 fun i j => .bl (decide (i < j))) := opB0 fun _ _ _ _ _ _ _ q => lt_int q
theorem op_le : OpR X (compareOp .LtE) (rI0 fun i j => .bl (decide (i ≤ j))) := opB0 fun _ _ _ _ _ _ _ q => le_int q
theorem op_gt : OpR X (compareOp .Gt) (rI0 fun i j => .bl (decide (j < i))) := opB0 fun _ _ _ _ _ _ _ q => gt_int q
theorem op_ge : OpR X (compareOp .GtE) (rI0 fun i j => .bl (decide (j ≤ i))) := opB0 fun _ _ _ _ _ _ _ q => ge_int q
theorem op_isN : OpR X (compareOp .Is) (fun x y H Q => y = .non ∧ Q (.bl (decide (x = .non))) H) := by
  intro pins s σ H x y v u Q I rx ry h
  obtain ⟨rfl, q⟩ := h
  cases ry
  refine is_none_gen (fin_bl I q ?_)
  cases x <;> first
    | (cases rx; rfl)
    | (obtain ⟨t, rfl⟩ := rx; rfl)
def isObj : HO → Bool
  | .lst _ => true
  | .ins _ _ _ => true
  | _ => false
theorem nomark (b : Expr) {op : CmpOp} (h : op ≠ .In := by decide) (h2 : op ≠ .NotIn := by decide) : behindInMarks op b = false := by
  have e1 : (op == CmpOp.In) = false := by cases op <;> first | rfl | exact absurd rfl h
  have e2 : (op == CmpOp.NotIn) = false := by cases op <;> first | rfl | exact absurd rfl h2
  cases b <;> simp [behindInMarks, e1, e2]
theorem pe_cmpR {op : CmpOp} {r : R2} (ho : OpR X (compareOp op) r) (ha : PE X a ta) (hb : PE X b tb) (hm : behindInMarks op b = false) : PE X (.Compare a [op] [b] pos) (tOp r ta tb) := by
  intro pins s σ H Q I h
  exact wpAny_Compare1 (binT ha hb I h fun v u s2 x y H2 I2 rx ry q => ho pins s2 σ H2 x y v u Q I2 rx ry q) hm
def tTest (t : TE) : TT := fun σ H Q => t σ H fun x H' => ∃ k, x = .bl k ∧ Q k H'
theorem pt_cmpR {op : CmpOp} {r : R2} (ho : OpR X (compareOp op) r) (ha : PE X a ta) (hb : PE X b tb) (hm : behindInMarks op b = false) : PT X (.Compare a [op] [b] pos) (tTest (tOp r ta tb)) := by
  intro pins s σ H Q I h
  refine wpAny_isTrue_Compare1 (thn (ha pins s σ H _ I h) fun v s1 ⟨x, H1, I1, r1, q1⟩ => thn (hb pins s1 σ H1 _ I1 q1) fun u s2 ⟨y, H2, I2, r2, q2⟩ =>
    thn (ho pins s2 σ H2 x y v u _ I2 r1 r2 q2) fun c s3 ⟨z, H3, I3, r3, k, e, q3⟩ => ?_) hm
  subst e
  cases r3
  exact wpAny_truthy_bool ⟨H3, I3, q3⟩
def tChain (r r' : R2) (ta tb tc : TE) : TE := fun σ H Q => ta σ H fun x H1 => tb σ H1 fun y H2 => r x y H2 fun z H3 => ∃ k, z = .bl k ∧
  (if k = true then tc σ H3 fun w' H4 => r' y w' H4 Q else Q (.bl false) H3)
theorem pe_chain {op op' : CmpOp} {r r' : R2} (ho : OpR X (compareOp op) r) (ho' : OpR X (compareOp op') r') (ha : PE X a ta) (hb : PE X b tb) (hc : PE X c tc)
    (hm : lastMarks [op, op'] [b, c] = false := by with_unfolding_all rfl) : PE X (.Compare a [op, op'] [b, c] pos) (tChain r r' ta tb tc) := by
  intro pins s σ H Q I h
  refine Compare_chain (thn (ha pins s σ H _ I h) fun v s1 ⟨x, H1, I1, r1, q1⟩ => chain_link (thn (hb pins s1 σ H1 _ I1 q1) fun u s2 ⟨y, H2, I2, r2, q2⟩ =>
    thn (ho pins s2 σ H2 x y v u _ I2 r1 r2 q2) fun d s3 ⟨z, H3, I3, r3, k, e, q3⟩ => ?_)) hm
  subst e
  cases r3
  refine wpAny_truthy_bool ?_
  cases k with
  | false => exact ite_ff ⟨.bl false, H3, I3, rfl, q3⟩
  | true => exact ite_tt (chain_last (thn (hc pins s3 σ H3 _ I3 q3) fun w' s4 ⟨z', H4, I4, r4, q4⟩ => ho' pins s4 σ H4 y z' u w' Q I4 r2 r4 q4))
theorem line63 : (sizeLine : Nat) < 2 ^ 63 := by rw [sizeLine_eq]; decide
theorem vals1 {x : V} {us : List Value} (r : Vals [x] us) : ∃ u, us = [u] ∧ RelV x u := by
  cases r with
  | cons r1 r2 => cases r2; exact ⟨_, rfl, r1⟩
theorem vals2 {x y : V} {us : List Value} (r : Vals [x, y] us) : ∃ u w', us = [u, w'] ∧ RelV x u ∧ RelV y w' := by
  cases r with
  | cons r1 r2 =>
    cases r2 with
    | cons r3 r4 => cases r4; exact ⟨_, _, rfl, r1, r3⟩
theorem call_min2 (hc : X.calm = true) : CallR X (.builtin "min") (fun xs H Q => ∃ i j, xs = [.int i, .int j] ∧ Q (.int (if j < i then j else i)) H) := by
  intro pins s σ H xs us Q I r h
  obtain ⟨i, j, rfl, q⟩ := h
  obtain ⟨u, w', rfl, ⟨t, rfl⟩, ⟨t', rfl⟩⟩ := vals2 r
  refine min_two_ints (I.ok.hd hc) fun h' tk k => ⟨_, H, I.kept k, ?_, q⟩
  by_cases hj : j < i
  · rw [if_pos hj, if_pos hj]; exact ⟨_, rfl⟩
  · rw [if_neg hj, if_neg hj]; exact ⟨_, rfl⟩
end
end L2
namespace L2
open PySem PySem.Spec PyProof.Rows
variable {q0 : Bool}
structure ObjM (h : Heap) (x dx C : Addr) (mA : Str → Option Value) : Prop where
  obj : h.get? x = some (PySem.W.instObj C dx)
  ns : h.Ns1 dx mA
  ne : dx ≠ x
theorem lookIn_ns {h : Heap} {dx : Addr} {mA : Str → Option Value} (n : h.Ns1 dx mA) : ∃ od, h.get? dx = some od ∧ ∀ name, PySem.W.lookIn name od = some (mA name) := by
  obtain ⟨o, es, ep, ho, hd, hk, _, hm⟩ := n
  refine ⟨o, ho, fun name => ?_⟩
  have e := hm name
  unfold nsFind findBy at e
  rw [← Array.find?_toList] at e
  unfold PySem.W.lookIn
  rw [hd]
  dsimp only
  split
  · rename_i y q
    rw [q] at e
    exact congrArg some e
  · rename_i q
    rw [q] at e
    have a : es.toList.any (·.refKey) = false := by
      rw [List.any_eq_false]
      intro y hy
      obtain ⟨z, t, hkey⟩ := hk y (Array.mem_toList_iff.mp hy)
      simp [DictEntry.refKey, hkey]
    have a' : ¬ es.toList.any (·.refKey) = true := by rw [a]; exact Bool.false_ne_true
    rw [if_neg a']
    exact congrArg some e
theorem ObjM.look {h : Heap} {x dx C : Addr} {mA : Str → Option Value} (I : ObjM h x dx C mA) : ∃ od, PySem.W.InstAt h x (PySem.W.instObj C dx) C (some od) ∧ ∀ name, PySem.W.lookIn name od = some (mA name) :=
  let ⟨od, ho, hl⟩ := lookIn_ns I.ns
  ⟨od, ⟨I.obj, rfl, rfl, ho⟩, hl⟩
section
variable {prog : Program} {w : World} {A : Around} {E : Value → Shared → Prop} {s : Shared} {K : PySem.W.Frag} {x dx C f : Addr} {mA : Str → Option Value} {name : Str} {v : Value}
theorem get_map {expr : Bool} {Q : Value → Shared → Prop} (X : K.In s.heap) (I : ObjM s.heap x dx C mA) (hg : PySem.W.plainGet K C name = true) (hh : PySem.W.hasDictIn K C = true)
    (ha : PySem.W.findIn K (.ref C) name = some none) (hv : mA name = some v) (hv' : PySem.W.handedIn v = true) (h : Q v { s with toks := s.toks + 1 }) :
    wpAny (model prog w) A (getAttr (.ref x) name expr) Q E s := by
  obtain ⟨od, J, hl⟩ := I.look
  exact PySem.W.get_value X J (PySem.W.plainGet_of hg).1 (PySem.W.findObj_own hh ha rfl (by rw [hl, hv])) hv' h
theorem get_meth {pl : Sem Bool} {Q : Value × List Value → Shared → Prop} (X : K.In s.heap) (I : ObjM s.heap x dx C mA) (hg : PySem.W.plainGet K C name = true)
    (hf : PySem.W.findIn K (.ref C) name = some (some (.ref f))) (ht : PySem.W.isFn K (.ref f) = true) (hv : mA name = none) (h : Q (.ref f, [.ref x]) s) :
    wpAny (model prog w) A (getMethod (.ref x) name pl) Q E s := by
  obtain ⟨od, J, hl⟩ := I.look
  exact PySem.W.method_fn X J (PySem.W.plainGet_of hg).1 (PySem.W.plainGet_of hg).2 hf (beq_iff_eq.mp ht) (by show (PySem.W.lookIn name od).map (·.isSome) = some false; rw [hl, hv]; rfl) h
theorem set_map {ns : List Str} {Q : Unit → Shared → Prop} (X : K.In s.heap) (I : ObjM s.heap x dx C mA)
    (hs : PySem.W.findIn K (.ref C) "__setattr__" = some (some (.builtin "object.__setattr__"))) (hp : PySem.W.plainOver K C = true) (ht : PySem.W.takerIn K C name = some none) (hh : PySem.W.hasDictIn K C = true)
    (hw : PySem.Within mA ns) (hsz : ns.length ≤ sizeLine)
    (h : ∀ h', ObjM h' x dx C (fun y => if y = name then some v else mA y) → Heap.SameBut dx s.heap h' → Q () { s with heap := h', toks := s.toks + 2 }) :
    wpAny (model prog w) A (setAttr (.ref x) name v) Q E s := by
  obtain ⟨od, J, hl⟩ := I.look
  refine PySem.W.set_plain X J hs (PySem.W.osa_open (s := { s with toks := s.toks + 1 }) (r := none) X J hp ht fun b => ?_)
  obtain ⟨cd, hc, hd'⟩ := PySem.W.any_some hh
  have hx : s.heap.get? x = some ⟨.ref C, some dx, .plain, #[]⟩ := I.obj
  refine wpAny_bind (wpAny_pure (wpAny_bind (wpAny_bind (wpAny_loadPart hx (wpAny_bind (PySem.W.Looks.here (s := { s with toks := s.toks + 1 }) (PySem.W.looks_clsIn X hc) ?_))))))
  rw [hd']
  refine wpAny_pure (a := some dx) (wpAny_bind (wpAny_pure (wpAny_bind ?_)))
  refine wpAny_nsSet1 (s := { s with toks := s.toks + 1 }) I.ns fun h' hn2 hs2 => ?_
  obtain ⟨oD, esD, epD, hoD, hdD, hcD⟩ := hn2.count (PySem.Within.cons name v hw)
  refine wpAny_bind (wpAny_lookBehind hoD (by rw [hdD]; exact pastItsLine_dict (Nat.le_trans hcD (by rw [List.length_cons]; omega))) ?_)
  exact wpAny_pure (h _ ⟨(hs2.2 _ (Ne.symm I.ne)).trans I.obj, hn2, I.ne⟩ hs2)
theorem make_map {R : Result → Shared → Prop} {vs : List Value} {kw : List (Str × Value)} (X : K.In s.heap) (hm : PySem.W.makesIn K C = true)
    (hi : PySem.W.findIn K (.ref C) "__init__" = some (some (.ref f))) (hf : PySem.W.typeIn K (.ref f) = some (.type "function"))
    (h : codeAny (model prog w) (A.under (.builtin "type.__call__" ⟨.ref C :: vs, kw⟩)) (.call (.ref f) ⟨.ref (s.heap.objs.size + 1) :: vs, kw⟩) (PySem.W.InitBack (s.heap.objs.size + 1) R)
      { s with heap := (s.heap.push PySem.W.emptyDict).push (PySem.W.instObj C s.heap.objs.size) }) :
    codeAny (model prog w) A (.call (.ref C) ⟨vs, kw⟩) R s := by
  obtain ⟨hh, g, d, t, os⟩ := s
  exact PySem.W.make_core (PySem.W.makes_of X hm) (PySem.W.looks_findIn X hi) (fun self => PySem.W.bind_fn X self hf) (.inl rfl) h
end
def putF (f : Str) (v : V) : List (Str × V) → List (Str × V)
  | [] => [(f, v)]
  | (g, x) :: r => if g = f then (g, v) :: r else (g, x) :: putF f v r
theorem lookup_putF (f g : Str) (v : V) : ∀ fs : List (Str × V), (putF f v fs).lookup g = if g = f then some v else fs.lookup g
  | [] => by
    show List.lookup g [(f, v)] = _
    by_cases h : g = f
    · have hb : (g == f) = true := beq_iff_eq.mpr h
      simp only [List.lookup, hb, if_pos h]
    · have hb : (g == f) = false := beq_eq_false_iff_ne.mpr h
      simp only [List.lookup, hb, if_neg h]
  | (k, x) :: r => by
    have ih := lookup_putF f g v r
    rw [show putF f v ((k, x) :: r) = (if k = f then (k, v) :: r else (k, x) :: putF f v r) from rfl]
    by_cases hk : k = f
    · rw [if_pos hk]
      by_cases h : g = k
      · have hb : (g == k) = true := beq_iff_eq.mpr h
        simp only [List.lookup, hb, if_pos (h.trans hk)]
      · have hb : (g == k) = false := beq_eq_false_iff_ne.mpr h
        simp only [List.lookup, hb, if_neg (fun e : g = f => h (e.trans hk.symm))]
    · rw [if_neg hk]
      by_cases h : g = k
      · have hb : (g == k) = true := beq_iff_eq.mpr h
        simp only [List.lookup, hb, if_neg (fun e : g = f => hk (h.symm.trans e))]
      · have hb : (g == k) = false := beq_eq_false_iff_ne.mpr h
        simp only [List.lookup, hb]
        exact ih
theorem keys_putF (f : Str) (v : V) : ∀ fs : List (Str × V), f ∈ (putF f v fs).map (·.1) ∧ ∀ g, g ∈ fs.map (·.1) → g ∈ (putF f v fs).map (·.1)
  | [] => ⟨by simp [putF], fun g h => by simp at h⟩
  | (k, x) :: r => by
    obtain ⟨i1, i2⟩ := keys_putF f v r
    rw [show putF f v ((k, x) :: r) = (if k = f then (k, v) :: r else (k, x) :: putF f v r) from rfl]
    by_cases hk : k = f
    · rw [if_pos hk]
      subst hk
      exact ⟨by simp, fun g h => by simpa using h⟩
    · rw [if_neg hk]
      refine ⟨?_, fun g h => ?_⟩
      · rw [List.map_cons]
        exact List.mem_cons_of_mem _ i1
      · rw [List.map_cons] at h ⊢
        rcases List.mem_cons.mp h with e | e
        · exact List.mem_cons.mpr (.inl e)
        · exact List.mem_cons_of_mem _ (i2 g e)
theorem length_putF (f : Str) (v : V) : ∀ fs : List (Str × V), (putF f v fs).length ≤ fs.length + 1
  | [] => by simp [putF]
  | (k, x) :: r => by
    have ih := length_putF f v r
    rw [show putF f v ((k, x) :: r) = (if k = f then (k, v) :: r else (k, x) :: putF f v r) from rfl]
    by_cases hk : k = f
    · rw [if_pos hk, List.length_cons, List.length_cons]; omega
    · rw [if_neg hk, List.length_cons, List.length_cons]; omega
theorem RelO.some_of {v : V} {o : Option Value} (r : RelO (some v) o) : ∃ u, o = some u ∧ RelV v u := by
  cases o with
  | none => exact (show False from r).elim
  | some u => exact ⟨u, rfl, r⟩
theorem RelO.none_of {o : Option Value} (r : RelO none o) : o = none := by
  cases o with
  | none => rfl
  | some u => exact (show False from r).elim
theorem handed_of {v : V} {u : Value} (r : RelV v u) : PySem.W.handedIn u = true := by
  cases v with
  | non => cases (show u = Value.none from r); rfl
  | bl b => cases (show u = Value.bool b from r); rfl
  | int i => obtain ⟨t, e⟩ := (show ∃ t, u = Value.int i t from r); cases e; rfl
  | str x => obtain ⟨t, e⟩ := (show ∃ t, u = Value.str x t from r); cases e; rfl
  | byt b => obtain ⟨t, e⟩ := (show ∃ t, u = Value.bytes b t from r); cases e; rfl
  | flt b => obtain ⟨t, e⟩ := (show ∃ t, u = Value.float b t from r); cases e; rfl
  | ref a => cases (show u = Value.ref a from r); rfl
  | ty n => cases (show u = Value.type n from r); rfl
section
variable {P : Program} {w : World} {H H' : Hp} {h h' : Heap} {a C dx : Addr} {fs fs' : List (Str × V)}
theorem ins_get (hok : HOk P w H h) (e : H a = some (.ins C dx fs)) : ∃ mA, ObjM h a dx C mA ∧ (∀ f, RelO (fs.lookup f) (mA f)) ∧ PySem.Within mA (fs.map (·.1)) ∧ fs.length ≤ 1000 ∧ H dx = some (.own a) := by
  obtain ⟨d, z, ne, ob, mA, n, r, q⟩ := (show ObjOk P w H h a (.ins C dx fs) from hok a _ e)
  exact ⟨mA, ⟨ob, n, ne⟩, r, q, z, d⟩
end
structure Cls (K : PySem.W.Frag) (C : Addr) : Prop where
  pg : PySem.W.plainGet K C Str.empty = true
  hd : PySem.W.hasDictIn K C = true
  po : PySem.W.plainOver K C = true
  sa : PySem.W.findIn K (.ref C) "__setattr__" = some (some (.builtin "object.__setattr__"))
theorem Cls.get {K : PySem.W.Frag} {C : Addr} (c : Cls K C) (f : Str) : PySem.W.plainGet K C f = true := c.pg
def NoAttr (K : PySem.W.Frag) (C : Addr) (f : Str) : Prop := PySem.W.findIn K (.ref C) f = some none
theorem NoAttr.taker {K : PySem.W.Frag} {C : Addr} {f : Str} (n : NoAttr K C f) : PySem.W.takerIn K C f = some none := by
  unfold PySem.W.takerIn
  rw [show PySem.W.findIn K (.ref C) f = some none from n]
  rfl
structure Meth (K : PySem.W.Frag) (C : Addr) (m : Str) (f : Addr) : Prop where
  at_ : PySem.W.findIn K (.ref C) m = some (some (.ref f))
  fn : PySem.W.isFn K (.ref f) = true
  kp : PySem.W.keepIn K (.ref f) = true
section
variable {X : Cx} {pins : List (Addr × Obj)} {σ : St} {H : Hp} {s : Shared} {a C dx : Addr} {fs : List (Str × V)} {f : Str} {v : V} {A : Around} {E : Value → Shared → Prop}
theorem getattr_ok {b : Bool} {Q : Value → Shared → Prop} (I : Inv X pins σ H s) (e : H a = some (.ins C dx fs)) (c : Cls X.K C) (n : NoAttr X.K C f) (l : fs.lookup f = some v)
    (h : ∀ u s', Inv X pins σ H s' → RelV v u → Q u s') : wpAny (model X.prog X.w) A (getAttr (.ref a) f b) Q E s := by
  obtain ⟨mA, O, r, _, _, _⟩ := ins_get I.hok e
  obtain ⟨u, hu, ru⟩ := RelO.some_of (v := v) (o := mA f) (by rw [← l]; exact r f)
  exact get_map I.kIn O (c.get f) c.hd n hu (handed_of ru) (h u _ (I.tok _) ru)
theorem getmeth_ok {m : Str} {g : Addr} {pl : Sem Bool} {Q : Value × List Value → Shared → Prop} (I : Inv X pins σ H s) (e : H a = some (.ins C dx fs)) (c : Cls X.K C) (k : Meth X.K C m g) (l : fs.lookup m = none)
    (h : Q (.ref g, [.ref a]) s) : wpAny (model X.prog X.w) A (getMethod (.ref a) m pl) Q E s := by
  obtain ⟨mA, O, r, _, _, _⟩ := ins_get I.hok e
  have hn : mA m = none := RelO.none_of (by rw [← l]; exact r m)
  exact get_meth I.kIn O (c.get m) k.at_ k.fn hn h
theorem setattr_ok {y : V} {u : Value} {Q : Unit → Shared → Prop} (I : Inv X pins σ H s) (e : H a = some (.ins C dx fs)) (c : Cls X.K C) (n : NoAttr X.K C f) (hl : fs.length < 1000) (ry : RelV y u)
    (h : ∀ s', Inv X pins σ (upd H a (.ins C dx (putF f y fs))) s' → Q () s') : wpAny (model X.prog X.w) A (setAttr (.ref a) f u) Q E s := by
  obtain ⟨mA, O, r, wi, _, ho⟩ := ins_get I.hok e
  have hz : (fs.map (·.1)).length ≤ sizeLine := by rw [List.length_map, sizeLine_eq]; omega
  refine set_map I.kIn O c.sa c.po n.taker c.hd wi hz fun h' O' sb => h _ ?_
  have hd : ∃ o, h'.get? dx = some o := let ⟨o, _, _, e', _⟩ := O'.ns; ⟨o, e'⟩
  refine I.write (x := a) (e := dx) (by rw [e]; exact True.intro) (.inr ho) (fun b q hb z => (sb.2 b hb).trans z) hd ?_
  refine ⟨by rw [upd_ne O.ne]; exact ho, ?_, O.ne, O'.obj, _, O'.ns, fun g => ?_, fun g hg => ?_⟩
  · have := length_putF f y fs; omega
  · show RelO ((putF f y fs).lookup g) (if g = f then some u else mA g)
    rw [lookup_putF]
    by_cases q : g = f
    · rw [if_pos q, if_pos q]; exact ry
    · rw [if_neg q, if_neg q]; exact r g
  · by_cases q : g = f
    · rw [q]; exact (keys_putF f y fs).1
    · refine (keys_putF f y fs).2 g (wi g fun z => hg ?_)
      show (if g = f then some u else mA g) = none
      rw [if_neg q]; exact z
theorem Inv.made (I : Inv X pins σ H s) : Inv X pins σ (upd (upd H s.heap.objs.size (.own (s.heap.objs.size + 1))) (s.heap.objs.size + 1) (.ins C s.heap.objs.size []))
    { s with heap := (s.heap.push PySem.W.emptyDict).push (PySem.W.instObj C s.heap.objs.size) } := by
  have e1 : (s.heap.push PySem.W.emptyDict).get? s.heap.objs.size = some PySem.W.emptyDict := Heap.get?_push_size s.heap rfl
  have e2 : ((s.heap.push PySem.W.emptyDict).push (PySem.W.instObj C s.heap.objs.size)).get? (s.heap.objs.size + 1) = some (PySem.W.instObj C s.heap.objs.size) := by
    have := Heap.get?_push_size (s.heap.push PySem.W.emptyDict) (o := PySem.W.instObj C s.heap.objs.size) rfl
    rwa [Heap.size_push] at this
  have e3 : (s.heap.push PySem.W.emptyDict).Ns s.heap.objs.size (fun _ => none) := ⟨PySem.W.emptyDict, #[], _, e1, rfl, (fun e he => absurd he (by simp)), fun _ => rfl⟩
  have I1 := I.laid (a := s.heap.objs.size) (o := .own (s.heap.objs.size + 1)) (h' := s.heap.push PySem.W.emptyDict) (t' := s.toks) (fun b u q => Heap.get?_push_of_some _ q) (Nat.le_refl _) ⟨_, e1⟩
  refine I1.laid (a := s.heap.objs.size + 1) (o := .ins C s.heap.objs.size []) (t' := s.toks) (fun b u q => Heap.get?_push_of_some _ q) (Nat.le_of_eq (Heap.size_push _ _)) ?_
  have ne : s.heap.objs.size ≠ s.heap.objs.size + 1 := Nat.ne_of_lt (Nat.lt_succ_self _)
  refine ⟨by rw [upd_ne ne, upd_same], Nat.zero_le _, ne, e2, fun _ => none, (Heap.Ns1.of_empty e3).at fun o q => Heap.get?_push_of_some _ q, fun _ => True.intro, fun y hy => absurd rfl hy⟩
theorem attr_of {prog : Program} {w : World} {env : Env} {e : Expr} {f : Str} {pos : Pos} {s : Shared} {Q : Value → Shared → Prop} (hb : attributeBase e f env (eval e env) = eval e env)
    (h : wpAny (model prog w) A (eval e env) (fun o s₁ => wpAny (model prog w) A (getAttr o f true) Q E s₁) E s) : wpAny (model prog w) A (eval (.Attribute e f pos) env) Q E s :=
  Attribute_any_ h (by rw [arm_eval_Attribute, hb])
end
def tFld (K : PySem.W.Frag) (ta : TE) (f : Str) : TE := fun σ H Q => ta σ H fun x H1 => ∃ a C dx fs v, x = .ref a ∧ H1 a = some (.ins C dx fs) ∧ Cls K C ∧ NoAttr K C f ∧ fs.lookup f = some v ∧ Q v H1
def sFld (K : PySem.W.Frag) (ta tv : TE) (f : Str) : TS := fun D σ H => tv σ H fun y H1 => ta σ H1 fun x H2 => ∃ a C dx fs, x = .ref a ∧ H2 a = some (.ins C dx fs) ∧ Cls K C ∧ NoAttr K C f ∧ fs.length < 1000 ∧
  D.nx σ (upd H2 a (.ins C dx (putF f y fs)))
section
variable {X : Cx} {o e value : Expr} {f : Str} {pos pos' tpos : Pos} {ta tv : TE}
theorem pe_fld (he : PE X e ta) (hb : attributeBase e f X.env (eval e X.env) = eval e X.env) : PE X (.Attribute e f pos) (tFld X.K ta f) := by
  intro pins s σ H Q I h
  refine attr_of hb (thn (he pins s σ H _ I h) fun u s1 ⟨x, H1, I1, rx, a, C, dx, fs, v, ex, ea, c, n, l, q⟩ => ?_)
  subst ex
  obtain rfl : u = Value.ref a := rx
  exact getattr_ok I1 ea c n l fun u' s2 I2 ru => ⟨v, H1, I2, ru, q⟩
theorem ps_fld (ha : PE X o ta) (hv : PE X value tv) (hs : swapsWith value (some (.Attribute o f pos')) pos.line X.env = pure false) : PS X (.Assign [.Attribute o f pos'] value pos) (sFld X.K ta tv f) := by
  intro pins s σ H D I h
  refine plainObj_wpAny_Assign_Attribute (thn (hv pins s σ H _ I h) fun u s1 ⟨y, H1, I1, ry, q⟩ => thn (ha pins s1 σ H1 _ I1 q) fun ov s2 ⟨x, H2, I2, rx, a, C, dx, fs, ex, ea, c, n, l, q2⟩ => ?_) hs
  subst ex
  obtain rfl : ov = Value.ref a := rx
  exact setattr_ok I2 ea c n l ry fun s3 I3 => ⟨σ, _, I3, q2⟩
end
section
variable {X : Cx} {pins : List (Addr × Obj)} {σ : St} {H : Hp} {s : Shared} {A : Around} {E : Value → Shared → Prop} {Q : Value → Shared → Prop} {c : Value} {b : Bool}
inductive TyOf (K : PySem.W.Frag) (H : Hp) : V → Value → Prop where
  | non : TyOf K H .non (.type "NoneType")
  | bl (x : Bool) : TyOf K H (.bl x) (.type "bool")
  | int (i : Int) : TyOf K H (.int i) (.type "int")
  | str (x : Str) : TyOf K H (.str x) (.type "str")
  | flt (x : UInt64) : TyOf K H (.flt x) (.type "float")
  | lst {a : Addr} {xs : List V} (e : H a = some (.lst xs)) : TyOf K H (.ref a) (.type "list")
  | frz {a : Addr} {o : Obj} {xs : List V} (e : H a = some (.frz o (.lst xs))) : TyOf K H (.ref a) (.type "list")
  | tup {a : Addr} {xs : List V} (e : H a = some (.tup xs)) : TyOf K H (.ref a) (.type "tuple")
  | dK {a : Addr} {kvs : List (Key × V)} (e : H a = some (.dK kvs)) : TyOf K H (.ref a) (.type "dict")
  | dT {a : Addr} {kvs : List (List Key × V)} (e : H a = some (.dT kvs)) : TyOf K H (.ref a) (.type "dict")
  | ins {a C dx : Addr} {fs : List (Str × V)} (e : H a = some (.ins C dx fs)) (cl : Cls K C) (ha : PySem.W.findIn K (.ref C) "__class__" = some (some (.builtin "object.__class__")))
      (hn : PySem.W.specialIn K (.builtin "object.__class__") "__get__" = some (some (.builtin "getset_descriptor.__get__"))) (htk : PySem.W.takesIn K (.builtin "object.__class__") = some true)
      (hm : PySem.W.mroIn K C (.type "object") = some true) : TyOf K H (.ref a) (.ref C)
theorem isinst_ok {x : V} {u t : Value} (I : Inv X pins σ H s) (rx : RelV x u) (ty : TyOf X.K H x t) (e : PySem.W.kitOne X.K t c = some b) (h : ∀ tk, Q (.bool b) { s with toks := tk }) :
    wpAny (model X.prog X.w) A (call (.builtin "isinstance") [u, c]) Q E s := by
  cases ty with
  | non => cases (show u = Value.none from rx); exact PySem.W.kia_one PySem.W.kitx_none I.kIn True.intro e (fun z => nomatch z) h
  | bl y => cases (show u = Value.bool y from rx); exact PySem.W.kia_one PySem.W.kitx_bool I.kIn True.intro e (fun z => nomatch z) h
  | int i => obtain ⟨t, q⟩ := (show ∃ t, u = Value.int i t from rx); cases q; exact PySem.W.kia_one PySem.W.kitx_int I.kIn True.intro e (fun z => nomatch z) h
  | str y => obtain ⟨t, q⟩ := (show ∃ t, u = Value.str y t from rx); cases q; exact PySem.W.kia_one PySem.W.kitx_str I.kIn True.intro e (fun z => nomatch z) h
  | flt y => obtain ⟨t, q⟩ := (show ∃ t, u = Value.float y t from rx); cases q; exact PySem.W.kia_one PySem.W.kitx_float I.kIn True.intro e (fun z => nomatch z) h
  | @lst a xs ea =>
    cases (show u = Value.ref a from rx)
    obtain ⟨_, _, n, _, h1⟩ := (show ObjOk X.prog X.w H s.heap a (.lst xs) from I.hok a _ ea)
    exact PySem.W.kia_one PySem.W.kitx_list I.kIn ⟨_, h1, rfl⟩ e (fun z => nomatch z) h
  | @frz a ob xs ea =>
    cases (show u = Value.ref a from rx)
    obtain ⟨_, _, _, n, _, h1⟩ := (show ObjOk X.prog X.w H s.heap a (.frz ob (.lst xs)) from I.hok a _ ea)
    exact PySem.W.kia_one PySem.W.kitx_list I.kIn ⟨_, h1, rfl⟩ e (fun z => nomatch z) h
  | @tup a xs ea =>
    cases (show u = Value.ref a from rx)
    obtain ⟨_, _, _, p⟩ := (show ObjOk X.prog X.w H s.heap a (.tup xs) from I.hok a _ ea)
    obtain ⟨o, h1, h2, _⟩ := p
    exact PySem.W.kia_one PySem.W.kitx_tuple I.kIn ⟨o, h1, h2⟩ e (fun z => nomatch z) h
  | @dK a kvs ea =>
    cases (show u = Value.ref a from rx)
    obtain ⟨_, _, vs, _, p⟩ := (show ObjOk X.prog X.w H s.heap a (.dK kvs) from I.hok a _ ea)
    obtain ⟨o, es, ep, h1, h2, _⟩ := p
    exact PySem.W.kia_one PySem.W.kitx_dict I.kIn ⟨o, h1, h2.1⟩ e (fun z => nomatch z) h
  | @dT a kvs ea =>
    cases (show u = Value.ref a from rx)
    obtain ⟨_, _, xs, _, o, es, ep, h1, h2, _⟩ := (show ObjOk X.prog X.w H s.heap a (.dT kvs) from I.hok a _ ea)
    exact PySem.W.kia_one PySem.W.kitx_dict I.kIn ⟨o, h1, h2.1⟩ e (fun z => nomatch z) h
  | @ins a C dx fs ea cl ha hn htk hm =>
    cases (show u = Value.ref a from rx)
    obtain ⟨mA, O, _⟩ := ins_get I.hok ea
    obtain ⟨od, J, _⟩ := O.look
    exact PySem.W.kia_one (PySem.W.kitx_own (cl.get _) cl.hd ha hn htk hm) I.kIn J e (fun z => nomatch z) h
end
end L2
namespace L2
open PySem PySem.Spec PyProof.Rows
variable {q0 : Bool}
structure Room (q0 : Bool) (k : Nat) (A : Around) : Prop where
  hd : q0 = true → A.handled = none
  dp : A.depth + 3 * k + 5 < recursionLimit
  un : A.units + 16 * k + 200 < cLine
theorem Room.mono {j k : Nat} {A : Around} (r : Room q0 k A) (h : j ≤ k) : Room q0 j A := ⟨r.hd, by have := r.dp; omega, by have := r.un; omega⟩
theorem Room.deeper {k : Nat} {A : Around} (r : Room q0 (k + 1) A) (env : Env) : Room q0 k (A.deeper env) :=
  ⟨r.hd, by have := r.dp; show A.depth + 1 + 3 * k + 5 < _; omega, by have := r.un; show A.units + 3 + 16 * k + 200 < _; omega⟩
theorem make_depth {A : Around} {C : Addr} {us : List Value} {kw : List (Str × Value)} : (A.under (.builtin "type.__call__" ⟨.ref C :: us, kw⟩)).depth = A.depth + 1 := by
  first | rfl | simp [Around.under, Code.weight, Code.isCreation, Code.isGuard, Code.isCaller, Code.frames, Code.isFrame, guardIds]
theorem make_units {A : Around} {C : Addr} {us : List Value} {kw : List (Str × Value)} : (A.under (.builtin "type.__call__" ⟨.ref C :: us, kw⟩)).units = A.units + 1 := by
  first | rfl | simp [Around.under, Code.cUnits, Code.frames, Code.isFrame]
theorem Room.make {k : Nat} {A : Around} (r : Room q0 (k + 1) A) (C : Addr) (us : List Value) (kw : List (Str × Value)) : Room q0 k (A.under (.builtin "type.__call__" ⟨.ref C :: us, kw⟩)) :=
  ⟨r.hd, by have := r.dp; rw [make_depth]; omega, by have := r.un; rw [make_units]; omega⟩
theorem Room.depth {k : Nat} {A : Around} (r : Room q0 k A) : A.depth < recursionLimit := by have := r.dp; omega
theorem Room.units {k : Nat} {A : Around} (r : Room q0 k A) : A.units + 64 < cLine := by have := r.un; omega
def tNil : TA := fun _ H Q => Q [] H
def tCons (ta : TE) (tr : TA) : TA := fun σ H Q => ta σ H fun x H1 => tr σ H1 fun xs H2 => Q (x :: xs) H2
section
variable {X : Cx} {e : Expr} {es : List Expr} {te : TE} {t : TA} {pos : Pos}
theorem pa_nil : PA X [] tNil := fun _ _ _ _ H Q I h => Calls.spliced_nil ⟨[], H, I, .nil, h⟩
theorem pa_cons (ha : PE X e te) (hr : PA X es t) (hs : starEach (e :: es) X.env = (false, eval e X.env) :: starEach es X.env := by rfl) : PA X (e :: es) (tCons te t) := by
  intro pos pins s σ H Q I h
  rw [hs]
  show wpAny _ _ (spliced ((false, eval e X.env) :: backTo pos (starEach es X.env))) _ _ s
  refine Calls.spliced_cons (thn (ha pins s σ H _ I h) fun u s1 ⟨x, H1, I1, r1, q1⟩ => ?_)
  exact thn (hr pos pins s1 σ H1 _ I1 q1) fun us s2 ⟨xs, H2, I2, r2, q2⟩ => ⟨x :: xs, H2, I2, .cons r1 r2, q2⟩
def tTup (t : TA) : TE := fun σ H Q => t σ H fun xs H1 => xs.length ≤ sizeLine ∧ ∀ p, H1 p = none → Q (.ref p) (upd H1 p (.tup xs))
def tLst (t : TA) : TE := fun σ H Q => t σ H fun xs H1 => xs.length ≤ sizeLine ∧ ∀ p, H1 p = none → Q (.ref p) (upd H1 p (.lst xs))
theorem pe_tup {x1} (h : PA X es t) : PE X (.Tuple es x1 pos) (tTup t) := by
  intro pins s σ H Q I hq
  refine wpAny_Tuple_spliced (thn (h pos pins s σ H _ I hq) fun us s1 ⟨xs, H1, I1, r, z, q⟩ => ⟨by rw [← r.length]; exact z, ?_⟩)
  have hf : H1 s1.heap.objs.size = none := I1.hok.fresh (Nat.le_refl _)
  refine ⟨.ref s1.heap.objs.size, upd H1 s1.heap.objs.size (.tup xs), I1.laid (t' := s1.toks) (fun b u e => Heap.get?_push_of_some _ e) (Nat.le_refl _) ?_, rfl, q _ hf⟩
  exact ⟨z, us, r, ⟨_, Heap.get?_push_size _ rfl, rfl, _, rfl⟩⟩
theorem pe_lst (h : PA X es t) : PE X (.List es pos) (tLst t) := by
  intro pins s σ H Q I hq
  refine wpAny_List_spliced (thn (h pos pins s σ H _ I hq) fun us s1 ⟨xs, H1, I1, r, z, q⟩ => ⟨by rw [← r.length]; exact z, ?_⟩)
  have hf : H1 s1.heap.objs.size = none := I1.hok.fresh (Nat.le_refl _)
  refine ⟨.ref s1.heap.objs.size, upd H1 s1.heap.objs.size (.lst xs), I1.laid (t' := s1.toks) (fun b u e => Heap.get?_push_of_some _ e) (Nat.le_refl _) ?_, rfl, q _ hf⟩
  exact ⟨z, us, 0, r, Heap.get?_push_size _ rfl⟩
end
abbrev Sp := List V → Hp → VK → XK → Prop
abbrev CXT := List Env → Hp → Shared → XK → Value → Shared → Prop
structure Env0 (P : Program) (w : World) (K : PySem.W.Frag) (mg : Str → Option Value) (base : Heap) (A : Around) (outer : List Env) (s : Shared) (H : Hp) : Prop where
  frames : A.frames = some outer
  mod : Mod K mg base
  bs : ∀ b o, base.get? b = some o → s.heap.get? b = some o ∧ H b = none
  bsz : base.objs.size ≤ s.heap.objs.size
  funs : s.heap.FunFrames base outer
  frf : ∀ b ∈ frs outer, H b = none
  hok : HOk P w H s.heap
  bare : AllBare s.gens
def CE (outer : List Env) (P : Program) (w : World) (H : Hp) (s : Shared) (Q : VK) (u : Value) (s' : Shared) : Prop :=
  ∃ v H', s'.os = s.os ∧ AllBare s'.gens ∧ Un (frs outer) [] H H' s.heap s'.heap ∧ HOk P w H' s'.heap ∧ RelV v u ∧ Q v H'
def CR (CX : CXT) (outer : List Env) (P : Program) (w : World) (H : Hp) (s : Shared) (Q : VK) (E : XK) (r : Result) (s' : Shared) : Prop :=
  match r with
  | .ok (.ret u) => CE outer P w H s Q u s'
  | .ok _ => False
  | .error e => CX outer H s E e s'
structure FnOk (q0 : Bool) (P : Program) (w : World) (K : PySem.W.Frag) (mg : Str → Option Value) (base : Heap) (CX : CXT) (k : Nat) (f : Addr) (fd : FuncData) (ps : List Str) (sp : Sp) : Prop where
  len : ∀ vs H Q E, sp vs H Q E → vs.length = ps.length
  run : ∀ (A : Around) (outer : List Env) (s : Shared) (H : Hp) (args : Args) (us : List Value) (vs : List V) (Q : VK) (E : XK), Room q0 k A → Env0 P w K mg base A outer s H → BindsTo s fd args (ps.zip us) → Vals vs us → sp vs H Q E →
    codeAny (model P w) A (.call (.ref f) args) (CR CX outer P w H s Q E) s
theorem Env0.make {P : Program} {w : World} {K : PySem.W.Frag} {mg : Str → Option Value} {base : Heap} {A : Around} {outer : List Env} {s : Shared} {H : Hp} (e : Env0 P w K mg base A outer s H) (C : Addr) (us : List Value) (kw : List (Str × Value)) :
    Env0 P w K mg base (A.under (.builtin "type.__call__" ⟨.ref C :: us, kw⟩)) outer s H := ⟨by first | exact e.frames | (simpa [Around.under, Code.envs, Code.isFrame, pushEnvs] using e.frames), e.mod, e.bs, e.bsz, e.funs, e.frf, e.hok, e.bare⟩
section
variable {X : Cx} {pins : List (Addr × Obj)} {σ : St} {H : Hp} {s s' : Shared}
theorem Inv.env0 (I : Inv X pins σ H s) : Env0 X.prog X.w X.K X.mg X.base X.A X.stack s H :=
  ⟨I.ok.frames, I.ok.mod, I.bs, Nat.le_trans I.ok.bsz I.sz, I.stack, I.stkFree, I.hok, I.bare⟩
theorem Inv.after {Q : VK} {u : Value} (I : Inv X pins σ H s) (h : CE X.stack X.prog X.w H s Q u s') : EP X pins σ Q u s' := by
  obtain ⟨v, H', os, bare, un, hok, r, q⟩ := h
  obtain ⟨hh, g, d, t, os'⟩ := s'
  obtain rfl : os' = s.os := os
  exact ⟨v, H', I.call (h' := hh) (g' := g) (d' := d) (t' := t) (ch := []) un hok bare (fun b z => absurd z (by simp)), r, q⟩
end
def tCall (sp : Sp) (dvs : List V) (E : St → XK) (t : TA) : TE := fun σ H Q => t σ H fun vs H1 => sp (vs ++ dvs) H1 Q (E σ)
def tMeth (C : Addr) (m : Str) (sp : Sp) (dvs : List V) (E : St → XK) (ta : TE) (t : TA) : TE := fun σ H Q => ta σ H fun x H1 => ∃ a dx fs, x = .ref a ∧ H1 a = some (.ins C dx fs) ∧ fs.lookup m = none ∧
  t σ H1 fun vs H2 => sp (x :: (vs ++ dvs)) H2 Q (E σ)
def tMake (C : Addr) (sp : Sp) (dvs : List V) (E : St → XK) (t : TA) : TE := fun σ H Q => t σ H fun vs H1 => ∀ x dx, H1 x = none → H1 dx = none → dx ≠ x →
  sp (.ref x :: (vs ++ dvs)) (upd (upd H1 dx (.own x)) x (.ins C dx [])) (fun v H2 => v = .non ∧ Q (.ref x) H2) (E σ)
def Binds (K : PySem.W.Frag) (fd : FuncData) (ps : List Str) (ds : List Value) : Prop :=
  ∀ (s : Shared) (us : List Value), K.In s.heap → (us ++ ds).length = ps.length → BindsTo s fd ⟨us, []⟩ (ps.zip (us ++ ds))
theorem Binds.all {K : PySem.W.Frag} {fd : FuncData} {ps : List Str} (h : ∀ us : List Value, us.length = ps.length → bindArgs fd ⟨us, []⟩ = pure (ps.zip us)) : Binds K fd ps [] := fun s us _ hl => by
  rw [List.append_nil] at hl ⊢
  exact .of_eq (h us hl)
def Passes (CX : CXT) (X : Cx) (E : St → XK) : Prop := ∀ (pins : List (Addr × Obj)) (σ : St) (H : Hp) (s : Shared) (e : Value) (s' : Shared), Inv X pins σ H s → CX X.stack H s (E σ) e s' → X.xe e s'
section
variable {X : Cx} {CX : CXT} {k : Nat} {f C : Addr} {fd : FuncData} {ps : List Str} {sp : Sp} {dvs : List V} {ds : List Value} {E : St → XK} {x m : Str} {p pos apos : Pos} {e o : Expr} {es : List Expr} {ta : TE} {t : TA}
theorem run_fn {pins : List (Addr × Obj)} {σ : St} {H : Hp} {s : Shared} {Q : VK} {us : List Value} {vs : List V} (F : FnOk q0 X.prog X.w X.K X.mg X.base CX k f fd ps sp) (hr : Room q0 k X.A) (hb : Binds X.K fd ps ds) (hd : Vals dvs ds) (hx : Passes CX X E)
    (I : Inv X pins σ H s) (r : Vals vs us) (h : sp (vs ++ dvs) H Q (E σ)) : wpAny (model X.prog X.w) X.A (call (.ref f) us) (EP X pins σ Q) X.xe s := by
  have r2 : Vals (vs ++ dvs) (us ++ ds) := r.append hd
  have hl : (us ++ ds).length = ps.length := by rw [← r2.length]; exact F.len _ _ _ _ h
  refine wpAny_call (codeAny_mono (F.run X.A X.stack s H ⟨us, []⟩ (us ++ ds) (vs ++ dvs) Q (E σ) hr I.env0 (hb s us I.kIn hl) r2 h) fun r s' hq => ?_)
  cases r with
  | error e => exact hx pins σ H s e s' I hq
  | ok fl =>
    cases fl with
    | ret u => exact I.after hq
    | next => exact False.elim hq
    | brk => exact False.elim hq
    | cont => exact False.elim hq
theorem pe_call (F : FnOk q0 X.prog X.w X.K X.mg X.base CX k f fd ps sp) (hr : Room q0 k X.A) (hg : Gl X x) (hm : X.mg x = some (.ref f)) (hk : PySem.W.keepIn X.K (.ref f) = true) (hb : Binds X.K fd ps ds) (hd : Vals dvs ds) (hx : Passes CX X E)
    (ha : PA X (e :: es) t) (hdb : (x == ("__debug__" : Str)) = false := by decide) (he : starEach (e :: es) X.env = (false, eval e X.env) :: starEach es X.env := by rfl) (hpl : (backTo pos (starEach es X.env)).any (·.1) = false := by rfl) :
    PE X (.Call (.Name x p) (e :: es) [] pos) (tCall sp dvs E t) := by
  intro pins s σ H Q I h
  refine wpAny_Call_Name_kw (ld_glob I hg hm ?_ hdb)
  refine PySem.W.callWith_K (h₀ := X.base) I.ok.mod.kin hk (thn (ha pos pins s σ H _ I h) fun us s1 ⟨vs, H1, I1, r, q⟩ => ⟨I1.kIn, ?_⟩) he hpl
  exact run_fn F hr hb hd hx I1 r q
theorem pe_meth {pl : Sem Bool} (he : PE X o ta) (c : Cls X.K C) (hm : Meth X.K C m f) (F : FnOk q0 X.prog X.w X.K X.mg X.base CX k f fd ps sp) (hr : Room q0 k X.A) (hb : Binds X.K fd ps ds) (hd : Vals dvs ds) (hx : Passes CX X E) (ha : PA X (e :: es) t)
    (hst : starEach (e :: es) X.env = (false, eval e X.env) :: starEach es X.env := by rfl) (hpl : (backTo pos (starEach es X.env)).any (·.1) = false := by rfl)
    (ht : eval (.Call (.Attribute o m apos) (e :: es) [] pos) X.env = (do
      let ov ← eval o X.env
      standAt apos.atName
      let (f, first) ← holding [ov] (getMethod ov m pl)
      callWith pos f first (backTo pos (starEach (e :: es) X.env)) (backToKw pos (keywordEach [] X.env))) := by rfl) :
    PE X (.Call (.Attribute o m apos) (e :: es) [] pos) (tMeth C m sp dvs E ta t) := by
  intro pins s σ H Q I h
  refine PySem.W.methodCall_KW (pl := pl) (thn (he pins s σ H _ I h) fun u s1 ⟨x, H1, I1, rx, a, dx, fs, ex, ea, l, q⟩ => ?_) ht
  subst ex
  obtain rfl : u = Value.ref a := rx
  refine getmeth_ok I1 ea c hm l ?_
  refine PySem.W.callWith_K (first := [.ref a]) (h₀ := X.base) I.ok.mod.kin hm.kp (thn (ha pos pins s1 σ H1 _ I1 q) fun us s2 ⟨vs, H2, I2, r, q2⟩ => ⟨I2.kIn, ?_⟩) hst hpl
  exact run_fn (us := .ref a :: us) (vs := .ref a :: vs) F hr hb hd hx I2 (.cons rfl r) q2
theorem pe_meth0 {pl : Sem Bool} (he : PE X o ta) (c : Cls X.K C) (hm : Meth X.K C m f) (F : FnOk q0 X.prog X.w X.K X.mg X.base CX k f fd ps sp) (hr : Room q0 k X.A) (hb : Binds X.K fd ps ds) (hd : Vals dvs ds) (hx : Passes CX X E)
    (ht : eval (.Call (.Attribute o m apos) [] [] pos) X.env = (do
      let ov ← eval o X.env
      standAt apos.atName
      let (f, first) ← holding [ov] (getMethod ov m pl)
      callWith pos f first (backTo pos (starEach [] X.env)) (backToKw pos (keywordEach [] X.env))) := by rfl) :
    PE X (.Call (.Attribute o m apos) [] [] pos) (tMeth C m sp dvs E ta tNil) := by
  intro pins s σ H Q I h
  refine PySem.W.methodCall_KW (pl := pl) (thn (he pins s σ H _ I h) fun u s1 ⟨x, H1, I1, rx, a, dx, fs, ex, ea, l, q⟩ => ?_) ht
  subst ex
  obtain rfl : u = Value.ref a := rx
  refine getmeth_ok I1 ea c hm l ?_
  exact PySem.W.callWith_K0 (first := [.ref a]) I1.kIn hm.kp (run_fn (us := [.ref a]) (vs := [.ref a]) F hr hb hd hx I1 (.cons rfl .nil) q)
structure Mk (K : PySem.W.Frag) (C f : Addr) : Prop where
  makes : PySem.W.makesIn K C = true
  init : PySem.W.findIn K (.ref C) "__init__" = some (some (.ref f))
  fn : PySem.W.isFn K (.ref f) = true
  kp : PySem.W.keepIn K (.ref C) = true
theorem run_make {pins : List (Addr × Obj)} {σ : St} {H : Hp} {s : Shared} {Q : VK} {us : List Value} {vs : List V} (M : Mk X.K C f) (F : FnOk q0 X.prog X.w X.K X.mg X.base CX k f fd ps sp) (hr : Room q0 (k + 1) X.A) (hb : Binds X.K fd ps ds) (hd : Vals dvs ds)
    (hx : Passes CX X E) (I : Inv X pins σ H s) (r : Vals vs us)
    (h : ∀ x dx, H x = none → H dx = none → dx ≠ x → sp (.ref x :: (vs ++ dvs)) (upd (upd H dx (.own x)) x (.ins C dx [])) (fun v H2 => v = .non ∧ Q (.ref x) H2) (E σ)) :
    wpAny (model X.prog X.w) X.A (call (.ref C) us) (EP X pins σ Q) X.xe s := by
  have hq := h (s.heap.objs.size + 1) s.heap.objs.size (I.hok.fresh (Nat.le_succ _)) (I.hok.fresh (Nat.le_refl _)) (Nat.ne_of_lt (Nat.lt_succ_self _))
  have I2 := Inv.made (C := C) I
  have r2 : Vals (V.ref (s.heap.objs.size + 1) :: (vs ++ dvs)) (Value.ref (s.heap.objs.size + 1) :: (us ++ ds)) := .cons rfl (r.append hd)
  have hl : (Value.ref (s.heap.objs.size + 1) :: us ++ ds).length = ps.length := by
    have e := r2.length
    rw [F.len _ _ _ _ hq] at e
    exact e.symm
  refine wpAny_call (make_map (f := f) I.kIn M.makes M.init (beq_iff_eq.mp M.fn) (codeAny_mono (F.run _ X.stack _ _ ⟨Value.ref (s.heap.objs.size + 1) :: us, []⟩ (Value.ref (s.heap.objs.size + 1) :: (us ++ ds)) _ _ (E σ) (hr.make C us [])
    (I2.env0.make C us []) (hb _ (Value.ref (s.heap.objs.size + 1) :: us) I2.kIn hl) r2 hq) fun r s' hq' => ?_))
  cases r with
  | error e => exact hx pins σ _ _ e s' I2 hq'
  | ok fl =>
    cases fl with
    | ret u =>
      obtain ⟨v, H', I3, rv, ev, q3⟩ := I2.after hq'
      subst ev
      exact ⟨rv, ⟨V.ref (s.heap.objs.size + 1), H', I3, rfl, q3⟩⟩
    | next => exact False.elim hq'
    | brk => exact False.elim hq'
    | cont => exact False.elim hq'
theorem pe_make (M : Mk X.K C f) (F : FnOk q0 X.prog X.w X.K X.mg X.base CX k f fd ps sp) (hr : Room q0 (k + 1) X.A) (hg : Gl X x) (hm : X.mg x = some (.ref C)) (hb : Binds X.K fd ps ds) (hd : Vals dvs ds) (hx : Passes CX X E)
    (ha : PA X (e :: es) t) (hdb : (x == ("__debug__" : Str)) = false := by decide) (he : starEach (e :: es) X.env = (false, eval e X.env) :: starEach es X.env := by rfl) (hpl : (backTo pos (starEach es X.env)).any (·.1) = false := by rfl) :
    PE X (.Call (.Name x p) (e :: es) [] pos) (tMake C sp dvs E t) := by
  intro pins s σ H Q I h
  refine wpAny_Call_Name_kw (ld_glob I hg hm ?_ hdb)
  refine PySem.W.callWith_K (h₀ := X.base) I.ok.mod.kin M.kp (thn (ha pos pins s σ H _ I h) fun us s1 ⟨vs, H1, I1, r, q⟩ => ⟨I1.kIn, ?_⟩) he hpl
  exact run_make M F hr hb hd hx I1 r q
end
section
variable {X : Cx} {CX : CXT} {k : Nat} {f C : Addr} {fd : FuncData} {ps ks : List Str} {sp : Sp} {E : St → XK} {x m : Str} {p pos apos kpos : Pos} {e o : Expr} {es : List Expr} {kws : List Keyword} {te ta : TE} {t tk : TA} {nm : Option Str}
variable {g : List Value → List Value → List Value} {gV : List V → List V → List V}
end
structure FnScope (N P : List Str) (sc : Scope) : Prop where
  kind : sc.kind = .function
  co : sc.isCoroutine = false
  gen : sc.isGenerator = false
  nd : N.Nodup
  pre : N.take P.length = P
  par : ∀ x ∈ P, sc.names.lookup x = some .local ∨ sc.names.lookup x = some .cell
  nofree : ∀ y ∈ sc.names, y.2 ≠ .free
theorem bindL_out {kindOf : Str → Option NameKind} {x : Str} : ∀ {binds : List (Str × Value)} {m : Str → Option Value}, (∀ v, (x, v) ∉ binds) → bindL kindOf binds m x = m x
  | [], _, _ => rfl
  | (n, v) :: r, m, h => by
    unfold bindL
    rw [bindL_out fun w hw => h w (List.mem_cons_of_mem _ hw)]
    split
    · have : x ≠ n := by rintro rfl; exact h v List.mem_cons_self
      simp [this]
    · rfl
theorem bindC_out {kindOf : Str → Option NameKind} {x : Str} : ∀ {binds : List (Str × Value)} {m : Str → Option Value}, (∀ v, (x, v) ∉ binds) → bindC kindOf binds m x = m x
  | [], _, _ => rfl
  | (n, v) :: r, m, h => by
    unfold bindC
    rw [bindC_out fun w hw => h w (List.mem_cons_of_mem _ hw)]
    split
    · rfl
    · have : x ≠ n := by rintro rfl; exact h v List.mem_cons_self
      simp [this]
theorem bindL_get {kindOf : Str → Option NameKind} {x : Str} {v : Value} : ∀ {P : List Str} {vs : List Value} {i : Nat} {m : Str → Option Value}, P.Nodup → P[i]? = some x → vs[i]? = some v → kindOf x = some .local →
    bindL kindOf (P.zip vs) m x = some v
  | [], _, _, _, _, h, _, _ => by simp at h
  | _ :: _, [], _, _, _, _, h, _ => by simp at h
  | p :: P, w :: vs, 0, m, nd, h1, h2, hk => by
    simp at h1 h2; subst h1; subst h2
    show bindL kindOf ((p, w) :: P.zip vs) m p = _
    unfold bindL
    rw [bindL_out fun v hv => (List.nodup_cons.mp nd).1 (List.of_mem_zip hv).1, if_pos hk]
    simp
  | p :: P, w :: vs, i + 1, m, nd, h1, h2, hk => by
    show bindL kindOf ((p, w) :: P.zip vs) m x = _
    unfold bindL
    exact bindL_get (i := i) (List.nodup_cons.mp nd).2 (by simpa using h1) (by simpa using h2) hk
theorem bindC_get {kindOf : Str → Option NameKind} {x : Str} {v : Value} : ∀ {P : List Str} {vs : List Value} {i : Nat} {m : Str → Option Value}, P.Nodup → P[i]? = some x → vs[i]? = some v → kindOf x ≠ some .local →
    bindC kindOf (P.zip vs) m x = some v
  | [], _, _, _, _, h, _, _ => by simp at h
  | _ :: _, [], _, _, _, _, h, _ => by simp at h
  | p :: P, w :: vs, 0, m, nd, h1, h2, hk => by
    simp at h1 h2; subst h1; subst h2
    show bindC kindOf ((p, w) :: P.zip vs) m p = _
    unfold bindC
    rw [bindC_out fun v hv => (List.nodup_cons.mp nd).1 (List.of_mem_zip hv).1, if_neg hk]
    simp
  | p :: P, w :: vs, i + 1, m, nd, h1, h2, hk => by
    show bindC kindOf ((p, w) :: P.zip vs) m x = _
    unfold bindC
    exact bindC_get (i := i) (List.nodup_cons.mp nd).2 (by simpa using h1) (by simpa using h2) hk
def start (N : List Str) (vs : List V) : St := vs.map some ++ List.replicate (N.length - vs.length) none
def cxOf (q0 : Bool) (CX : CXT) (P : Program) (w : World) (K : PySem.W.Frag) (mg : Str → Option Value) (base : Heap) (N : List Str) (qual : Str) (scope : Scope) (f : Addr) (cd : Value) (A : Around) (outer : List Env) (s : Shared) (H : Hp) (E : XK) : Cx where
  prog := P
  w := w
  K := K
  mg := mg
  base := base
  A := A.deeper (envOfC qual scope s.heap.objs.size f cd)
  N := N
  s₀ := s
  H₀ := H
  env := envOfC qual scope s.heap.objs.size f cd
  outer := outer
  stack := envOfC qual scope s.heap.objs.size f cd :: outer
  ex := []
  calm := q0
  fn := fun _ => true
  pn := []
  xe := fun e s' => wpAny (model P w) (A.deeper (envOfC qual scope s.heap.objs.size f cd)) (leaving (envOfC qual scope s.heap.objs.size f cd) e) (fun _ s'' => CX outer H s E e s'') (fun e' s'' => CX outer H s E e' s'') s'
theorem cell_has {sc : Scope} {n : Nat} {x : Str} (h : sc.names.lookup x = some .cell) : ∃ c, (cellsFrom n sc.names []).lookup x = some c := by
  have q := PySem.W.cellsFrom_some sc.names n [] (.inl h)
  exact Option.isSome_iff_exists.mp q
theorem inv_start {CX : CXT} {P : Program} {w : World} {K : PySem.W.Frag} {mg : Str → Option Value} {base : Heap} {N ps : List Str} {qual : Str} {scope : Scope} {f : Addr} {cd : Value} {A : Around} {outer : List Env} {s s1 : Shared} {H : Hp} {E : XK} {us : List Value} {vs : List V}
    (S : FnScope N ps scope) (hd : q0 = true → A.handled = none) (e0 : Env0 P w K mg base A outer s H) (hl : vs.length = ps.length) (r : Vals vs us)
    (x : InCallC s s.heap.objs.size (bindL (envOfC qual scope s.heap.objs.size f cd).kindOf (ps.zip us) fun _ => none) (cellsFrom (s.heap.objs.size + 1) scope.names []) (bindC (envOfC qual scope s.heap.objs.size f cd).kindOf (ps.zip us) fun _ => none) s1) :
    Inv (cxOf q0 CX P w K mg base N qual scope f cd A outer s H E) [] (start N vs) H s1 := by
  have hpl : ps.length ≤ N.length := by have := congrArg List.length S.pre; rw [List.length_take] at this; omega
  obtain ⟨h1, tk, rfl, hk⟩ := x.done
  have noA : ∀ b : Addr, b ∉ (cxOf q0 CX P w K mg base N qual scope f cd A outer s H E).ex := fun b z => absurd (show b ∈ ([] : List Addr) from z) (by simp)
  refine ⟨⟨e0.mod, S.kind, rfl, rfl, Nat.le_refl _, fun y z c h1 h2 => ?_, fun y hy => ?_, fun y c _ h => ?_, hd, Around.frames_deeper e0.frames, .inr ⟨rfl, rfl⟩, fun b z => absurd z (noA b), e0.bs, e0.bsz, fun b _ _ => noA b, fun b z => absurd z (noA b), e0.funs, e0.frf⟩,
    rfl, e0.bare, Un.kept hk, ⟨_, x.toInCall.ns, fun i y v h1 h2 h3 => ?_⟩, fun y c h => ⟨_, x.cell y c h⟩, e0.hok.fresh (Nat.le_refl _), fun y c h => ?_, fun p hp => absurd (show p ∈ ([] : List (Addr × Obj)) from hp) (by simp), e0.hok.kept hk, ?_⟩
  · exact name_of_addr x.apart (PySem.mem_of_lookup h1) (PySem.mem_of_lookup h2)
  · have hy : scope.names.lookup y = some .cell ∨ scope.names.lookup y = some .free := hy
    rcases hy with hy | hy
    · exact cell_has hy
    · exact absurd rfl (S.nofree _ (PySem.mem_of_lookup hy))
  · exact Nat.le_of_lt (x.above y c (PySem.mem_of_lookup h))
  · have hi : i < vs.length := by
      unfold start at h2
      by_cases hi : i < vs.length
      · exact hi
      · rw [List.getElem?_append_right (by simpa using hi)] at h2
        rw [List.getElem?_replicate] at h2
        split at h2 <;> cases h2
    have ha : vs[i]? = some v := by
      unfold start at h2
      rw [List.getElem?_append_left (by simpa using hi), List.getElem?_map] at h2
      cases e : vs[i]? with
      | none => rw [e] at h2; cases h2
      | some a => rw [e] at h2; cases h2; rfl
    obtain ⟨u, hu, rv⟩ := r.get ha
    have hp : ps[i]? = some y := by
      rw [← S.pre, List.getElem?_take_of_lt (by omega)]; exact h1
    have ndP : ps.Nodup := by rw [← S.pre]; exact S.nd.sublist (List.take_sublist _ _)
    refine ⟨u, rv, ?_⟩
    rcases S.par y (List.mem_of_getElem? hp) with k | k
    · exact .inl ⟨k, bindL_get ndP hp hu k⟩
    · obtain ⟨c, e⟩ := cell_has (n := s.heap.objs.size + 1) k
      refine .inr ⟨.inl k, c, e, ?_⟩
      have q := x.cell y c e
      rw [bindC_get ndP hp hu (by show scope.names.lookup y ≠ _; rw [k]; decide)] at q
      exact q
  · exact e0.hok.fresh (Nat.le_of_lt (x.above y c (PySem.mem_of_lookup h)))
  · unfold start
    show _ = N.length
    rw [List.length_append, List.length_map, List.length_replicate]
    omega
theorem fn_of {CX : CXT} {P : Program} {w : World} {K : PySem.W.Frag} {mg : Str → Option Value} {base : Heap} {k : Nat} {f : Addr} {name qual : Str} {params : Arguments} {body : List Stmt} {scope : Scope} {dV kV doc pm cdv ct oc : Value} {an od : Option Addr}
    {osl : Array (Option Value)} {N ps : List Str} {sp : Sp} (lk : K.lookup f = some ⟨oc, od, .func (PySem.W.fnOf name qual params body scope dV kV doc pm an cdv ct), osl⟩) (hcd : PySem.W.codeIn K cdv qual = true) (S : FnScope N ps scope)
    (len : ∀ vs H Q E, sp vs H Q E → vs.length = ps.length)
    (hbody : ∀ (A : Around) (outer : List Env) (s : Shared) (H : Hp) (vs : List V) (Q : VK) (E : XK), Room q0 k (A.deeper (envOfC qual scope s.heap.objs.size f cdv)) → sp vs H Q E →
      ∃ t, PSs (cxOf q0 CX P w K mg base N qual scope f cdv A outer s H E) body t ∧ t { nx := fun _ H' => Q .non H', rt := Q } (start N vs) H) :
    FnOk q0 P w K mg base CX (k + 1) f (PySem.W.fnOf name qual params body scope dV kV doc pm an cdv ct) ps sp := by
  refine ⟨len, fun A outer s H args us vs Q E hr e0 hb r hsp => ?_⟩
  have hl := len _ _ _ _ hsp
  have KX : K.In s.heap := e0.mod.kin.keeps fun b o e => (e0.bs b o e).1
  have lim : s.heap.NoLimit := e0.mod.nolimit.keeps fun b o e => (e0.bs b o e).1
  have hkind : ∀ y ∈ ps.zip us, scope.names.lookup y.1 = some .local ∨ (scope.names.lookup y.1 = some .cell ∧ ((cellsFrom (s.heap.objs.size + 1) scope.names []).lookup y.1).isSome = true) := fun ⟨n, v⟩ hy => by
    rcases S.par n (List.of_mem_zip hy).1 with q | q
    · exact .inl q
    · exact .inr ⟨q, PySem.W.cellsFrom_some _ _ _ (.inl q)⟩
  refine codeAny_call_function hr.depth (KX _ _ lk) rfl S.co S.gen rfl (PySem.W.codeRec_of KX hcd) (hb _ _ _ _ ?_)
  refine wpAny_newFunctionEnv_cells S.kind hkind fun env he s1 x => ?_
  subst he
  refine ⟨lim.keeps x.toInCall.keep, codeAny_func ?_⟩
  obtain ⟨t, ht, hq⟩ := hbody A outer s H vs Q E (hr.deeper _) hsp
  have I : Inv (cxOf q0 CX P w K mg base N qual scope f cdv A outer s H E) [] (start N vs) H s1 := inv_start S hr.hd e0 hl r x
  refine wpAny_mono (ht [] s1 (start N vs) H _ I hq) (fun fl s' hs => ?_) fun e s' hs => hs
  have fin : ∀ {σ' : St} {H' : Hp} {v : V} {u : Value}, Inv (cxOf q0 CX P w K mg base N qual scope f cdv A outer s H E) [] σ' H' s' → RelV v u → Q v H' → CE outer P w H s Q u s' :=
    fun {σ' H' v u} J rv q => ⟨v, H', J.os, J.bare, J.base, J.hok, rv, q⟩
  cases fl with
  | ret u =>
    obtain ⟨v, σ', H', J, rv, q⟩ := hs
    exact fin J rv q
  | next =>
    obtain ⟨σ', H', J, q⟩ := hs
    exact fin (v := V.non) (u := Value.none) J rfl q
  | brk =>
    obtain ⟨_, _, _, q⟩ := hs
    exact False.elim q
  | cont =>
    obtain ⟨_, _, _, q⟩ := hs
    exact False.elim q
end L2
namespace L2
open PySem PySem.Spec PyProof.Rows
variable {q0 : Bool}
section
variable {X : Cx} {x : Str} {p pos : Pos} {e : Expr} {es : List Expr} {t : TA} {id T : String} {r : List V → Hp → VK → Prop}
def tCB (r : List V → Hp → VK → Prop) (t : TA) : TE := fun σ H Q => t σ H fun vs H1 => r vs H1 Q
theorem pe_callB (hc : CallR X (.builtin id) r) (hg : Gl X x) (hm : X.mg x = none) (hv : bootBuiltins x = some (.builtin id)) (ha : PA X (e :: es) t) (hn : x ≠ "__name__" := by decide) (hdb : (x == ("__debug__" : Str)) = false := by decide)
    (he : starEach (e :: es) X.env = (false, eval e X.env) :: starEach es X.env := by rfl) (hpl : (backTo pos (starEach es X.env)).any (·.1) = false := by rfl) : PE X (.Call (.Name x p) (e :: es) [] pos) (tCB r t) := by
  intro pins s σ H Q I h
  refine wpAny_Call_Name_kw (ld_blt I hg hm hv ?_ hn hdb)
  exact PyProof.Rows.callWith_builtin1 (thn (ha pos pins s σ H _ I h) fun us s1 ⟨vs, H1, I1, r1, q1⟩ => hc pins s1 σ H1 vs us Q I1 r1 q1) he hpl
theorem pe_callTy (hc : CallR X (.type T) r) (hg : Gl X x) (hm : X.mg x = none) (hv : bootBuiltins x = some (.type T)) (ha : PA X (e :: es) t) (hn : x ≠ "__name__" := by decide) (hdb : (x == ("__debug__" : Str)) = false := by decide)
    (he : starEach (e :: es) X.env = (false, eval e X.env) :: starEach es X.env := by rfl) (hpl : (backTo pos (starEach es X.env)).any (·.1) = false := by rfl) : PE X (.Call (.Name x p) (e :: es) [] pos) (tCB r t) := by
  intro pins s σ H Q I h
  refine wpAny_Call_Name_kw (ld_blt I hg hm hv ?_ hn hdb)
  exact PyProof.Rows.callWith_type1 (thn (ha pos pins s σ H _ I h) fun us s1 ⟨vs, H1, I1, r1, q1⟩ => hc pins s1 σ H1 vs us Q I1 r1 q1) he hpl
end
end L2
namespace HT
open PySem PyProof.Rows
section
open PySem.SeqAt
open PySem.AutoSeq1 (wpAny_loadPart')
open PySem.MeetsSeq PySem.MeetsSeq2 PySem.MeetsSeq3
end
section
variable {prog : Program} {w : World} {A : Around} {E : Value → Shared → Prop} {s : Shared}
theorem cat_tup {t b : Addr} {vs ws : List Value} {Q : Value → Shared → Prop} (ht : IsTup s.heap t vs.toArray) (hb : IsTup s.heap b ws.toArray) (hv : vs ≠ [])
    (h1 : ws = [] → Q (.ref t) s) (h2 : ws ≠ [] → Q (.ref s.heap.objs.size) { s with heap := s.heap.push { cls := .type "tuple", data := .seq (vs ++ ws).toArray } })
    (hsz : vs.length + ws.length ≤ sizeLine) : wpAny (model prog w) A (binaryOp .Add (.ref t) (.ref b)) Q E s := by
  obtain ⟨⟨cls, dd, data, sl⟩, ho, hc, n, hd⟩ := id ht
  obtain ⟨⟨cls2, dd2, data2, sl2⟩, ho2, hc2, n2, hd2⟩ := id hb
  simp only at hc hd hc2 hd2
  subst hc hd hc2 hd2
  have e : vs.toArray ++ ws.toArray = (vs ++ ws).toArray := by simp
  by_cases hw : ws = []
  · exact concat_meets ⟨_, ho, rfl⟩ ⟨_, ho2, rfl⟩ noFill_tuple_add seq_tuple_add PySem.F.slot_tuple_add PySem.F.entry_tuple_add (PySem.F.args_tuple_add_2 _ _)
      (tuple_addW1 t b vs.toArray ws.toArray n n2 dd dd2 sl sl2 (by simpa using hv) (by simp [hw])) ⟨ho, ho2, h1 hw⟩
  · refine concat_meets ⟨_, ho, rfl⟩ ⟨_, ho2, rfl⟩ noFill_tuple_add seq_tuple_add PySem.F.slot_tuple_add PySem.F.entry_tuple_add (PySem.F.args_tuple_add_2 _ _)
      (tuple_addW2 t b vs.toArray ws.toArray n n2 dd dd2 sl sl2 (by simpa using hv) (by simpa using hw) (by rw [List.size_toArray, List.size_toArray]; exact hsz)) ⟨ho, ho2, ?_⟩
    rw [e]
    exact h2 hw
def sIx (n d : Nat) : Option Int → Nat
  | none => d
  | some v => if v < 0 then (v + (n : Int)).toNat else min v.toNat n
theorem sIx_le (n d : Nat) (hd : d ≤ n) (o : Option Int) : sIx n d o ≤ n := by
  cases o with
  | none => exact hd
  | some v =>
    show (if v < 0 then (v + (n : Int)).toNat else min v.toNat n) ≤ n
    by_cases hv : v < 0
    · rw [if_pos hv]; omega
    · rw [if_neg hv]; exact Nat.min_le_right _ _
theorem clip_eq (v : Int) (n d : Nat) : (if v < 0 then max (v + (n : Int)) 0 else min v (n : Int)) = ((sIx n d (some v) : Nat) : Int) := by
  show (if v < 0 then max (v + (n : Int)) 0 else min v (n : Int)) = (((if v < 0 then (v + (n : Int)).toNat else min v.toNat n) : Nat) : Int)
  by_cases hv : v < 0
  · simp only [if_pos hv]; omega
  · simp only [if_neg hv]; omega
theorem adjust_gen (lo hi : Option Int) (n : Nat) : Builtin.Slice.sliceAdjust lo hi 1 (n : Int) = (((sIx n 0 lo : Nat) : Int), ((sIx n n hi : Nat) : Int)) := by
  have h1 : ¬ ((1 : Int) < 0) := by omega
  unfold Builtin.Slice.sliceAdjust
  simp only [h1, if_false]
  refine Prod.ext ?_ ?_
  · cases lo with
    | none => rfl
    | some v => exact clip_eq v n 0
  · cases hi with
    | none => rfl
    | some v => exact clip_eq v n n
theorem places_gen (i j : Nat) : Builtin.Slice.slicePlaces (i : Int) (j : Int) 1 = j - i := by
  unfold Builtin.Slice.slicePlaces
  have h1 : (1 : Int) > 0 := by omega
  simp only [h1, if_true, Int.ediv_one]
  split <;> omega
theorem slicePart_ {v : Value} {o : Option Int} {Q : Option Int → Shared → Prop} (p : IsPart v o) (h : Q o s) : wpAny (model prog w) A (Builtin.Slice.slicePartIndex v) Q E s := by
  cases p with
  | none => exact slicePart_none h
  | int i t => exact slicePart_int h
theorem sliceApplied_gen {sl : Addr} {vl vu : Value} {lo hi : Option Int} {n : Nat} {Q : Int × Int × Nat → Shared → Prop} (hs : s.heap.IsSliceOf sl vl vu .none) (pl : IsPart vl lo) (pu : IsPart vu hi)
    (h : Q (((sIx n 0 lo : Nat) : Int), 1, sIx n n hi - sIx n 0 lo) s) : wpAny (model prog w) A (Builtin.Slice.sliceApplied (.ref sl) (pure (n : Int))) Q E s := by
  obtain ⟨os, hos, hcs, hds⟩ := id hs
  unfold Builtin.Slice.sliceApplied Builtin.Slice.sliceFields
  refine wpAny_bind (wpAny_bind (wpAny_field hos hds (x := vl) rfl (wpAny_bind (wpAny_field hos hds (x := vu) rfl (wpAny_bind (wpAny_field hos hds (x := .none) rfl (wpAny_pure ?_)))))))
  refine wpAny_bind (slicePart_none ?_)
  show wpAny _ _ (if ((1 : Int) == 0) = true then _ else _) _ _ s
  rw [if_neg (by decide)]
  refine wpAny_bind (slicePart_ pl (wpAny_bind (slicePart_ pu (wpAny_bind (wpAny_pure ?_)))))
  show wpAny _ _ (match Builtin.Slice.sliceAdjust lo hi 1 (n : Int) with | (lo, hi) => pure (lo, (1 : Int), Builtin.Slice.slicePlaces lo hi 1)) _ _ s
  rw [adjust_gen lo hi n]
  show wpAny _ _ (pure (((sIx n 0 lo : Nat) : Int), (1 : Int), Builtin.Slice.slicePlaces ((sIx n 0 lo : Nat) : Int) ((sIx n n hi : Nat) : Int) 1)) _ _ s
  rw [places_gen]
  exact wpAny_pure h
theorem pick_gen (xs : Array Value) (i k : Nat) : ((List.range k).filterMap fun (m : Nat) => xs[((i : Int) + (m : Int) * 1).toNat]?).toArray = ((xs.toList.drop i).take k).toArray := by
  have e : (fun (m : Nat) => xs[((i : Int) + (m : Int) * 1).toNat]?) = fun m => xs[i + m]? := by
    funext m
    have : ((i : Int) + (m : Int) * 1).toNat = i + m := by omega
    rw [this]
  rw [e]
  have := pick_run xs i k
  rw [List.filterMap_map] at this
  have e2 : ((fun x => xs[x]?) ∘ fun x => i + x) = fun m => xs[i + m]? := rfl
  rw [e2] at this
  rw [this]
theorem getItem_tuple_cut {t sl : Addr} {items : Array Value} {vl vu : Value} {lo hi : Option Int} {Q : Value → Shared → Prop} (ht : IsTup s.heap t items) (hs : s.heap.IsSliceOf sl vl vu .none) (pl : IsPart vl lo) (pu : IsPart vu hi)
    (hw : ¬ (sIx items.size 0 lo = 0 ∧ sIx items.size items.size hi = items.size))
    (h : Q (.ref s.heap.objs.size) { s with heap := s.heap.push { cls := .type "tuple", data := .seq ((items.toList.drop (sIx items.size 0 lo)).take (sIx items.size items.size hi - sIx items.size 0 lo)).toArray } })
    (hsz : items.size ≤ sizeLine) : wpAny (model prog w) A (getItem (.ref t) (.ref sl)) Q E s := by
  have htake : sizeOk (.seq ((items.toList.drop (sIx items.size 0 lo)).take (sIx items.size items.size hi - sIx items.size 0 lo)).toArray) := by
    show ((items.toList.drop (sIx items.size 0 lo)).take (sIx items.size items.size hi - sIx items.size 0 lo)).toArray.size ≤ sizeLine
    rw [List.size_toArray, List.length_take, List.length_drop, Array.length_toList]
    omega
  have hj : sIx items.size items.size hi ≤ items.size := sIx_le _ _ (Nat.le_refl _) hi
  obtain ⟨os, hos, hcs, hds⟩ := id hs
  have hTs : s.TypeIs (.ref sl) "slice" := ⟨os, hos, hcs⟩
  unfold getItem
  try with_reducible refine wpAny_holding ?_
  first | refine wpAny_bind (wpAny_pure ?_) | skip
  refine wpAny_bind (wpAny_sequenceKey ht.typeIs (by decide) ?_)
  refine wpAny_bind (wpAny_callSpecial?_slot (name := Str.ofString "__getitem__") ht.typeIs PyProof.Rows.slot_tuple_getitem
    (wpAny_call_entry PyProof.Rows.slot_tuple_getitem ht.typeIs entry_tuple_getitem ?_ (args_tuple_getitem _ _)))
  show wpAny _ _ (Builtin.Tuple.tupleItemsOf (.ref t) >>= _) _ _ s
  refine wpAny_bind (tupleItemsOf_ ht ?_)
  refine wpAny_bind (wpAny_typeOf hTs ?_)
  rw [if_pos (by decide)]
  refine wpAny_bind (sliceApplied_gen hs pl pu ?_)
  have hno : ¬ ((((sIx items.size 0 lo : Nat) : Int) == 0 && (1 : Int) == 1 && (sIx items.size items.size hi - sIx items.size 0 lo) == items.size) = true) := by
    intro q
    rw [Bool.and_eq_true, Bool.and_eq_true] at q
    have q1 : ((sIx items.size 0 lo : Nat) : Int) = 0 := eq_of_beq q.1.1
    have q2 : sIx items.size items.size hi - sIx items.size 0 lo = items.size := eq_of_beq q.2
    exact hw ⟨by omega, by omega⟩
  show wpAny _ _ (if (((sIx items.size 0 lo : Nat) : Int) == 0 && (1 : Int) == 1 && (sIx items.size items.size hi - sIx items.size 0 lo) == items.size) = true then _ else _) _ _ s
  rw [if_neg hno, pick_gen]
  first
    | exact wpAny_bind (m := Builtin.Tuple.tupleExact _) (wpAny_newObj_type (wpAny_pure ⟨_, rfl, wpAny_pure h⟩) htake)
    | exact wpAny_bind (m := Builtin.Tuple.tupleExact _) (wpAny_newObj_type (wpAny_bind (wpAny_pure (wpAny_pure ⟨_, rfl, wpAny_pure h⟩))) htake)
    | exact wpAny_bind (wpAny_bind (m := Builtin.Tuple.tupleExact _) (wpAny_newObj_type (wpAny_pure (wpAny_pure ⟨_, rfl, wpAny_pure h⟩)) htake))
    | exact wpAny_bind (wpAny_bind (m := Builtin.Tuple.tupleExact _) (wpAny_newObj_type (wpAny_pure ⟨_, rfl, wpAny_pure h⟩) htake))
end
end HT
namespace L2
open PySem PySem.Spec PyProof.Rows
variable {q0 : Bool}
abbrev TO := St → Hp → (Option Int → Hp → Prop) → Prop
def PO (X : Cx) (e : Option Expr) (t : TO) : Prop :=
  ∀ (pins : List (Addr × Obj)) (s : Shared) (σ : St) (H : Hp) (Q : Option Int → Hp → Prop), Inv X pins σ H s → t σ H Q →
    wpAny (model X.prog X.w) X.A (evalPart e X.env) (fun u s' => ∃ o H', Inv X pins σ H' s' ∧ IsPart u o ∧ Q o H') X.xe s
def tNoPart : TO := fun _ H Q => Q none H
def tPart (t : TE) : TO := fun σ H Q => t σ H fun x H1 => ∃ i, x = .int i ∧ Q (some i) H1
section
variable {X : Cx} {e : Expr} {te : TE} {lo hi : Option Expr} {tl th : TO} {pos p2 : Pos}
theorem po_none : PO X none tNoPart := by
  intro pins s σ H Q I h
  rw [evalPart_none]
  exact wpAny_pure ⟨none, H, I, .none, h⟩
theorem po_some (h : PE X e te) : PO X (some e) (tPart te) := by
  intro pins s σ H Q I hw
  rw [evalPart_some]
  refine thn (h pins s σ H _ I hw) fun u s1 ⟨x, H1, I1, r1, q1⟩ => ?_
  obtain ⟨i, rfl, q⟩ := q1
  obtain ⟨t, rfl⟩ := r1
  exact ⟨some i, H1, I1, .int i t, q⟩
def SlR (X : Cx) (r : V → Option Int → Option Int → Hp → VK → Prop) : Prop :=
  ∀ (pins : List (Addr × Obj)) (s : Shared) (σ : St) (H : Hp) (x : V) (v vl vu : Value) (lo hi : Option Int) (sl : Addr) (Q : VK), Inv X pins σ H s → RelV x v → s.heap.IsSliceOf sl vl vu .none → IsPart vl lo → IsPart vu hi → r x lo hi H Q →
    ∃ T id, typeLookup (.type T) "__getitem__" = pure (some (.builtin id)) ∧ s.TypeIs v T ∧ wpAny (model X.prog X.w) X.A (getItem v (.ref sl)) (EP X pins σ Q) X.xe s
def tSl (r : V → Option Int → Option Int → Hp → VK → Prop) (te : TE) (tl th : TO) : TE := fun σ H Q => te σ H fun x H1 => tl σ H1 fun l H2 => th σ H2 fun u H3 => r x l u H3 Q
theorem pe_slice {r : V → Option Int → Option Int → Hp → VK → Prop} (hr : SlR X r) (he : PE X e te) (hl : PO X lo tl) (hu : PO X hi th) : PE X (.Subscript e (.Slice lo hi none p2) pos) (tSl r te tl th) := by
  intro pins s σ H Q I h
  refine Subscript_ (thn (he pins s σ H _ I h) fun v s1 ⟨x, H1, I1, r1, q1⟩ => ?_)
  refine wpAny_Slice (thn (hl pins s1 σ H1 _ I1 q1) fun vl s2 ⟨l, H2, I2, pl, q2⟩ => thn (hu pins s2 σ H2 _ I2 q2) fun vu s3 ⟨u, H3, I3, pu, q3⟩ => ?_)
  rw [evalPart_none]
  refine wpAny_pure ?_
  have I4 : Inv X pins σ H3 { s3 with heap := s3.heap.push { cls := .type "slice", data := .fields #[vl, vu, .none] } } := I3.kept (t' := s3.toks) fun b ob q => Heap.get?_push_of_some _ q
  obtain ⟨T, id, hT, ht, hg⟩ := hr pins { s3 with heap := s3.heap.push { cls := .type "slice", data := .fields #[vl, vu, .none] } } σ H3 x v vl vu l u s3.heap.objs.size Q I4 r1 (Heap.IsSliceOf.new ..) pl pu q3
  show wpAny (model X.prog X.w) X.A (subscriptTail e (.Slice lo hi none p2) v (.ref s3.heap.objs.size)) (EP X pins σ Q) X.xe { s3 with heap := s3.heap.push { cls := .type "slice", data := .fields #[vl, vu, .none] } }
  exact tail_any (ops := [.ref s3.heap.objs.size, v]) ht hT hg (by with_unfolding_all rfl)
def cutV (xs : List V) (lo hi : Option Int) : List V := (xs.drop (HT.sIx xs.length 0 lo)).take (HT.sIx xs.length xs.length hi - HT.sIx xs.length 0 lo)
theorem cutV_length (xs : List V) (lo hi : Option Int) : (cutV xs lo hi).length ≤ xs.length := by
  unfold cutV
  rw [List.length_take, List.length_drop]
  omega
def rSlT (K : PySem.W.Frag) : V → Option Int → Option Int → Hp → VK → Prop := fun x lo hi H Q => ∃ a xs, x = .ref a ∧ SqT K H a xs ∧
  ¬ (HT.sIx xs.length 0 lo = 0 ∧ HT.sIx xs.length xs.length hi = xs.length) ∧ ∀ p, H p = none → Q (.ref p) (upd H p (.tup (cutV xs lo hi)))
theorem sl_tup : SlR X (rSlT X.K) := by
  intro pins s σ H x v vl vu lo hi sl Q I rx hs pl pu h
  obtain ⟨a, xs, rfl, hx, hw, q⟩ := h
  cases rx
  obtain ⟨its, r, ht, hz⟩ := I.tuple hx
  have hlen : its.toArray.size = xs.length := by rw [List.size_toArray]; exact r.length.symm
  refine ⟨"tuple", _, PyProof.Rows.slot_tuple_getitem.lookup, ht.typeIs, ?_⟩
  refine HT.getItem_tuple_cut ht hs pl pu (by rw [hlen]; exact hw) ?_ (by rw [hlen]; exact hz)
  rw [hlen]
  refine ⟨.ref s.heap.objs.size, _, I.laid (t' := s.toks) (o := .tup (cutV xs lo hi)) (fun b ob q => Heap.get?_push_of_some _ q) (Nat.le_refl _) ?_, rfl, q _ (I.hok.fresh (Nat.le_refl _))⟩
  exact ⟨Nat.le_trans (cutV_length xs lo hi) hz, _, (r.drop (HT.sIx xs.length 0 lo)).take (HT.sIx xs.length xs.length hi - HT.sIx xs.length 0 lo), IsTup.new _ _⟩
def rCatT (K : PySem.W.Frag) : R2 := fun x y H Q => ∃ a b xs ys, x = .ref a ∧ y = .ref b ∧ SqT K H a xs ∧ SqT K H b ys ∧ xs ≠ [] ∧ xs.length + ys.length ≤ sizeLine ∧
  (ys = [] → Q (.ref a) H) ∧ (ys ≠ [] → ∀ p, H p = none → Q (.ref p) (upd H p (.tup (xs ++ ys))))
theorem Vals.nil_iff {xs : List V} {us : List Value} (r : Vals xs us) : us = [] ↔ xs = [] := by
  cases r with
  | nil => simp
  | cons _ _ => simp
theorem op_catT : OpR X (binaryOp .Add) (rCatT X.K) := by
  intro pins s σ H x y v u Q I rx ry h
  obtain ⟨a, b, xs, ys, rfl, rfl, ha, hb, hx, hz, q1, q2⟩ := h
  cases rx
  cases ry
  obtain ⟨its, r1, p1, _⟩ := I.tuple ha
  obtain ⟨its2, r2, p2, _⟩ := I.tuple hb
  refine HT.cat_tup p1 p2 (fun z => hx (r1.nil_iff.mp z)) (fun z => ⟨.ref a, H, I, rfl, q1 (r2.nil_iff.mp z)⟩) (fun z => ?_) (by rw [← r1.length, ← r2.length]; exact hz)
  refine ⟨.ref s.heap.objs.size, _, I.laid (t' := s.toks) (o := .tup (xs ++ ys)) (fun b ob q => Heap.get?_push_of_some _ q) (Nat.le_refl _) ?_, rfl, q2 (fun w => z (r2.nil_iff.mpr w)) _ (I.hok.fresh (Nat.le_refl _))⟩
  exact ⟨by rw [List.length_append]; exact hz, _, r1.append r2, IsTup.new _ _⟩
end
end L2
namespace L2
open PySem PySem.Spec PyProof.Rows
variable {q0 : Bool}
def ixN (n : Nat) (i : Int) : Option Nat := if 0 ≤ i then (if i < n then some i.toNat else none) else if -(n : Int) ≤ i then some (i + n).toNat else none
def atI {α : Type} (xs : List α) (i : Int) : Option α := (ixN xs.length i).bind fun j => xs[j]?
theorem ixN_seq {n : Nat} {i : Int} {j : Nat} (h : ixN n i = some j) : seqIndex? i n = some j ∧ j < n ∧ -(n : Int) ≤ i ∧ i < n := by
  unfold ixN at h
  by_cases h0 : 0 ≤ i
  · rw [if_pos h0] at h
    by_cases h1 : i < n
    · rw [if_pos h1] at h
      have e : i.toNat = j := Option.some.inj h
      exact ⟨by rw [seqIndex_of h0 h1, e], by omega, by omega, h1⟩
    · rw [if_neg h1] at h; cases h
  · rw [if_neg h0] at h
    by_cases h1 : -(n : Int) ≤ i
    · rw [if_pos h1] at h
      have e : (i + n).toNat = j := Option.some.inj h
      exact ⟨by rw [seqIndex_neg (by omega) h1, e], by omega, h1, by omega⟩
    · rw [if_neg h1] at h; cases h
theorem atI_get {α : Type} {xs : List α} {i : Int} {v : α} (h : atI xs i = some v) : ∃ j, seqIndex? i xs.length = some j ∧ xs[j]? = some v ∧ j < xs.length ∧ -(xs.length : Int) ≤ i ∧ i < xs.length := by
  unfold atI at h
  cases e : ixN xs.length i with
  | none => rw [e] at h; cases h
  | some j =>
    rw [e] at h
    obtain ⟨h1, h2, h3, h4⟩ := ixN_seq e
    exact ⟨j, h1, h, h2, h3, h4⟩
theorem atI_nat {α : Type} {xs : List α} {j : Nat} {v : α} (h : xs[j]? = some v) : atI xs (j : Int) = some v := by
  have hj : j < xs.length := (List.getElem?_eq_some_iff.mp h).1
  have e : ixN xs.length (j : Int) = some j := by
    unfold ixN
    rw [if_pos (by omega), if_pos (by omega)]; simp
  unfold atI; rw [e]; exact h
def PlainIx (b : Expr) : Prop := ∀ o i, subscripted b false o i = operate [o, i] (getItem o i)
def IxR (X : Cx) (r : R2) : Prop :=
  ∀ (value slice : Expr) (pins : List (Addr × Obj)) (s : Shared) (σ : St) (H : Hp) (x y : V) (v u : Value) (Q : VK), Inv X pins σ H s → RelV x v → RelV y u → r x y H Q →
    subscripted slice false v u = operate [v, u] (getItem v u) → wpAny (model X.prog X.w) X.A (subscriptTail value slice v u) (EP X pins σ Q) X.xe s
def MtR (X : Cx) (id : String) (r : V → List V → Hp → VK → Prop) : Prop :=
  ∀ (pins : List (Addr × Obj)) (s : Shared) (σ : St) (H : Hp) (x : V) (xs : List V) (v : Value) (us : List Value) (Q : VK), Inv X pins σ H s → RelV x v → Vals xs us → r x xs H Q →
    wpAny (model X.prog X.w) X.A (call (.builtin id) (v :: us)) (EP X pins σ Q) X.xe s
section
variable {X : Cx} {a b : Expr} {ta tb : TE} {pos : Pos}
theorem pe_ix {r : R2} (hr : IxR X r) (ha : PE X a ta) (hb : PE X b tb) (hs : PlainIx b) : PE X (.Subscript a b pos) (tOp r ta tb) := by
  intro pins s σ H Q I h
  exact Subscript_ (binT ha hb I h fun v u s2 x y H2 I2 rx ry q => hr a b pins s2 σ H2 x y v u Q I2 rx ry q (hs _ _))
def rIxL (K : PySem.W.Frag) : R2 := fun x y H Q => ∃ p xs i v, x = .ref p ∧ y = .int i ∧ SqL K H p xs ∧ atI xs i = some v ∧ Q v H
def rIxT (K : PySem.W.Frag) : R2 := fun x y H Q => ∃ p xs i v, x = .ref p ∧ y = .int i ∧ SqT K H p xs ∧ atI xs i = some v ∧ Q v H
def rIxS : R2 := fun x y H Q => ∃ z i c, x = .str z ∧ y = .int i ∧ z.length ≤ sizeLine ∧ atI z.cps.toList i = some c ∧ Q (.str ⟨#[c]⟩) H
theorem ix_list : IxR X (rIxL X.K) := by
  intro value slice pins s σ H x y v u Q I rx ry h hs
  obtain ⟨p, xs, i, z, rfl, rfl, hq, he, q⟩ := h
  cases rx
  obtain ⟨t, rfl⟩ := ry
  obtain ⟨its, r, pl, hz⟩ := I.list hq
  obtain ⟨j, h1, h2, h3, h4, h5⟩ := atI_get he
  obtain ⟨w, ew, rw'⟩ := r.get h2
  have hl := r.length
  have hn := line63
  have fin : EP X pins σ Q w s := ⟨z, H, I, rw', q⟩
  by_cases h0 : 0 ≤ i
  · have hj : i.toNat = j := by
      rw [seqIndex_of h0 h5] at h1
      exact Option.some.inj h1
    exact item_listR pl.isList h0 (by omega) (by rw [hj]; simpa using ew) fin hs
  · have hj : (i + (its.toArray.size : Int)).toNat = j := by
      rw [seqIndex_neg (by omega) h4] at h1
      rw [List.size_toArray, ← hl]
      exact Option.some.inj h1
    exact subscriptTail_builtinR (x := w) pl.isList.typeIs slot_list_getitem.lookup
      (wpAny_getItem_list_neg (Q := fun r s' => r = w ∧ EP X pins σ Q r s') pl.isList (by omega) (by rw [List.size_toArray] <;> omega) (by omega) (by rw [hj]; simpa using ew) ⟨rfl, fin⟩) hs
theorem ix_tup : IxR X (rIxT X.K) := by
  intro value slice pins s σ H x y v u Q I rx ry h hs
  obtain ⟨p, xs, i, z, rfl, rfl, hq, he, q⟩ := h
  cases rx
  obtain ⟨t, rfl⟩ := ry
  obtain ⟨its, r, pl, hz⟩ := I.tuple hq
  obtain ⟨j, h1, h2, h3, h4, h5⟩ := atI_get he
  obtain ⟨w, ew, rw'⟩ := r.get h2
  have hl := r.length
  have hn := line63
  have fin : EP X pins σ Q w s := ⟨z, H, I, rw', q⟩
  exact subscriptTail_builtinR (x := w) pl.typeIs slot_tuple_getitem.lookup
    (getItem_tuple (j := j) (Q := fun r s' => r = w ∧ EP X pins σ Q r s') pl (by omega) (by omega) (by rw [List.size_toArray, ← hl]; exact h1) (by simpa using ew) ⟨rfl, fin⟩) hs
theorem ix_str : IxR X rIxS := by
  intro value slice pins s σ H x y v u Q I rx ry h hs
  obtain ⟨z, i, c, rfl, rfl, hz, he, q⟩ := h
  obtain ⟨t, rfl⟩ := rx
  obtain ⟨t', rfl⟩ := ry
  obtain ⟨j, h1, h2, h3, h4, h5⟩ := atI_get he
  have hl : z.cps.toList.length = z.length := by simp [Str.length]
  rw [hl] at h1 h4 h5
  have hn := line63
  exact tail_any (typeIs_str s z t) slot_str_getitem.lookup (getItem_str (c := c) (by
    have e1 : decide (i < -(2 ^ 63 : Int)) = false := decide_eq_false (by omega)
    have e2 : decide (i ≥ 2 ^ 63) = false := decide_eq_false (by omega)
    rw [e1, e2, Bool.or_false]) (by rw [h1]; simpa using h2) ⟨.str ⟨#[c]⟩, H, I.tok _, ⟨_, rfl⟩, q⟩) hs
theorem mapSeq_set (its : List Value) (n j : Nat) (u : Value) : Obj.mapSeq (·.setIfInBounds j u) { cls := .type "list", data := .seq its.toArray n } = { cls := .type "list", data := .seq (its.set j u).toArray n } := by
  simp [Obj.mapSeq]
theorem Inv.lst {pins : List (Addr × Obj)} {σ : St} {H : Hp} {s : Shared} {p : Addr} {xs : List V} (I : Inv X pins σ H s) (h : H p = some (.lst xs)) :
    ∃ (its : List Value) (n : Nat), Vals xs its ∧ s.heap.get? p = some { cls := .type "list", data := .seq its.toArray n } ∧ xs.length ≤ sizeLine := by
  obtain ⟨z, its, n, r, e⟩ := I.hok p _ h
  exact ⟨its, n, r, e, z⟩
theorem Inv.lstUpd {pins : List (Addr × Obj)} {σ : St} {H : Hp} {s : Shared} {p : Addr} {xs ys : List V} {its its' : List Value} {n n' : Nat} {f : Obj → Obj} (I : Inv X pins σ H s) (h : H p = some (.lst xs))
    (ho : s.heap.get? p = some { cls := .type "list", data := .seq its.toArray n }) (hf : f { cls := .type "list", data := .seq its.toArray n } = { cls := .type "list", data := .seq its'.toArray n' }) (r : Vals ys its') (hz : ys.length ≤ sizeLine) (t : Nat) :
    Inv X pins σ (upd H p (.lst ys)) { s with heap := s.heap.update p f, toks := t } := by
  have e : (s.heap.update p f).get? p = some { cls := .type "list", data := .seq its'.toArray n' } := by
    rw [Heap.get?_update_self f ho (by rw [hf] <;> rfl), hf]
  refine I.write (x := p) (e := p) (by rw [h]; trivial) (.inl rfl) (fun b u hb q => (Heap.get?_update_other _ _ (Ne.symm hb)).trans q) ⟨_, e⟩ ?_
  exact ⟨hz, its', n', r, e⟩
def rSetL : V → V → V → Hp → (Hp → Prop) → Prop := fun o i v H Q => ∃ p xs k j, o = .ref p ∧ i = .int k ∧ H p = some (.lst xs) ∧ ixN xs.length k = some j ∧ Q (upd H p (.lst (xs.set j v)))
theorem set_list : PSet X rSetL := by
  intro pins s σ H o i v ov iv u Q I ro ri rv h
  obtain ⟨p, xs, k, j, rfl, rfl, hp, hj, q⟩ := h
  cases ro
  obtain ⟨t, rfl⟩ := ri
  obtain ⟨its, n, r, ho, hz⟩ := I.lst hp
  obtain ⟨h1, h2, h3, h4⟩ := ixN_seq hj
  have hl := r.length
  have hn := line63
  have I' : Inv X pins σ (upd H p (.lst (xs.set j v))) { s with heap := s.heap.update p (Obj.mapSeq (·.setIfInBounds j u)) } :=
    I.lstUpd hp ho (mapSeq_set its n j u) (r.set rv j) (by rw [List.length_set]; exact hz) s.toks
  by_cases h0 : 0 ≤ k
  · have hk : k.toNat = j := by
      rw [seqIndex_of h0 h4] at h1
      exact Option.some.inj h1
    exact PySem.W.ki_setAt ho h0 (by omega) (by rw [List.size_toArray, ← hl]; exact h4) (by rw [hk]; exact ⟨_, I', q⟩)
  · have hk : (k + (its.toArray.size : Int)).toNat = j := by
      rw [seqIndex_neg (by omega) h3] at h1
      rw [List.size_toArray, ← hl]
      exact Option.some.inj h1
    exact PySem.W.ki_setBack ho (by omega) (by rw [List.size_toArray, ← hl]; exact h3) (by omega) (by rw [hk]; exact ⟨_, I', q⟩)
def flatV : V → Bool
  | .non => true
  | .bl _ => true
  | .int _ => true
  | .str _ => true
  | _ => false
def eqV : V → V → Bool
  | .non, .non => true
  | .bl a, .bl b => a == b
  | .bl a, .int b => (if a then 1 else 0) == b
  | .int a, .bl b => a == (if b then 1 else 0)
  | .int a, .int b => a == b
  | .str a, .str b => a == b
  | _, _ => false
theorem eqAt_V {A : Around} {s : Shared} {y x : V} {u v : Value} (ry : RelV y u) (rx : RelV x v) (fy : flatV y = true) (fx : flatV x = true) : SeqAt.EqAt A s u v (eqV y x) := by
  cases y with
  | non =>
    cases ry
    cases x with
    | non => cases rx; exact SeqAt.EqAt.same _
    | bl b => cases rx; exact SeqAt.EqAt.none_bool b
    | int b => obtain ⟨t, rfl⟩ := rx; exact SeqAt.EqAt.none_int b t
    | str b => obtain ⟨t, rfl⟩ := rx; exact SeqAt.EqAt.none_str b t
    | _ => exact absurd (show false = true from fx) Bool.false_ne_true
  | bl a =>
    cases ry
    cases x with
    | non => cases rx; exact SeqAt.EqAt.bool_none a
    | bl b => cases rx; exact SeqAt.EqAt.bool_bool a b
    | int b => obtain ⟨t, rfl⟩ := rx; exact SeqAt.EqAt.bool_int a b t
    | str b => obtain ⟨t, rfl⟩ := rx; exact SeqAt.EqAt.bool_str a b t
    | _ => exact absurd (show false = true from fx) Bool.false_ne_true
  | int a =>
    obtain ⟨t', rfl⟩ := ry
    cases x with
    | non => cases rx; exact SeqAt.EqAt.int_none a t'
    | bl b => cases rx; exact SeqAt.EqAt.int_bool a t' b
    | int b => obtain ⟨t, rfl⟩ := rx; exact SeqAt.EqAt.int_int a t' b t
    | str b => obtain ⟨t, rfl⟩ := rx; exact SeqAt.EqAt.int_str a t' b t
    | _ => exact absurd (show false = true from fx) Bool.false_ne_true
  | str a =>
    obtain ⟨t', rfl⟩ := ry
    cases x with
    | non => cases rx; exact SeqAt.EqAt.str_none a t'
    | bl b => cases rx; exact SeqAt.EqAt.str_bool a t' b
    | int b => obtain ⟨t, rfl⟩ := rx; exact SeqAt.EqAt.str_int a t' b t
    | str b => obtain ⟨t, rfl⟩ := rx; exact SeqAt.EqAt.str_str a t' b t
    | _ => exact absurd (show false = true from fx) Bool.false_ne_true
  | _ => exact absurd (show false = true from fy) Bool.false_ne_true
def eqU (x : V) (u : Value) : Bool := match u with
  | .none => eqV .non x
  | .bool b => eqV (.bl b) x
  | .int i _ => eqV (.int i) x
  | .str z _ => eqV (.str z) x
  | _ => false
theorem eqU_of {x y : V} {u : Value} (r : RelV y u) (f : flatV y = true) : eqU x u = eqV y x := by
  cases y with
  | non => cases r; rfl
  | bl b => cases r; rfl
  | int i => obtain ⟨t, rfl⟩ := r; rfl
  | str z => obtain ⟨t, rfl⟩ := r; rfl
  | _ => exact absurd (show false = true from f) Bool.false_ne_true
theorem any_eqU {x : V} : ∀ {xs : List V} {us : List Value}, Vals xs us → xs.all flatV = true → us.any (eqU x) = xs.any fun y => eqV y x
  | _, _, .nil, _ => rfl
  | y :: xs, u :: us, .cons r t, f => by
    rw [List.all_cons, Bool.and_eq_true] at f
    rw [List.any_cons, List.any_cons, eqU_of r f.1, any_eqU t f.2]
theorem mem_eqAt {A : Around} {s : Shared} {x : V} {v : Value} (rx : RelV x v) (fx : flatV x = true) : ∀ {xs : List V} {us : List Value}, Vals xs us → xs.all flatV = true → ∀ u ∈ us, SeqAt.EqAt A s u v (eqU x u)
  | _, _, .nil, _ => fun u hu => by cases hu
  | y :: xs, u :: us, .cons r t, f => fun u' hu => by
    rw [List.all_cons, Bool.and_eq_true] at f
    rcases List.mem_cons.mp hu with rfl | hu
    · rw [eqU_of r f.1]; exact eqAt_V r rx f.1 fx
    · exact mem_eqAt rx fx t f.2 u' hu
def inV (x : V) (xs : List V) : Bool := xs.any fun y => eqV y x
def rIn (K : PySem.W.Frag) (neg : Bool) : R2 := fun x y H Q => ∃ p xs, y = .ref p ∧ (SqL K H p xs ∨ SqT K H p xs) ∧ flatV x = true ∧ xs.all flatV = true ∧ Q (.bl (if neg then !inV x xs else inV x xs)) H
theorem op_notIn_seq : OpR X (compareOp .NotIn) (rIn X.K true) := by
  intro pins s σ H x y v u Q I rx ry h
  obtain ⟨p, xs, rfl, hq, fx, fs, q⟩ := h
  cases ry
  rcases hq with hq | hq
  · obtain ⟨its, r, pl, hz⟩ := I.list hq
    refine SeqAt.notIn_listAt (eqU x) pl.isList (fun w hw => mem_eqAt rx fx r fs w (by simpa using hw)) ⟨.bl _, H, I, rfl, ?_⟩
    rw [show its.toArray.any (eqU x) = its.any (eqU x) by simp, any_eqU r fs]
    exact q
  · obtain ⟨its, r, pl, hz⟩ := I.tuple hq
    refine SeqAt.notIn_tupleAt (eqU x) pl (fun w hw => mem_eqAt rx fx r fs w (by simpa using hw)) ⟨.bl _, H, I, rfl, ?_⟩
    rw [show its.toArray.any (eqU x) = its.any (eqU x) by simp, any_eqU r fs]
    exact q
theorem call_len_seq : CallR X (.builtin "len") (fun xs H Q => ∃ p ys, xs = [.ref p] ∧ (SqL X.K H p ys ∨ SqT X.K H p ys) ∧ Q (.int ys.length) H) := by
  intro pins s σ H xs us Q I r h
  obtain ⟨p, ys, rfl, hq, q⟩ := h
  obtain ⟨u, rfl, rx⟩ := vals1 r
  cases rx
  have hn := line63
  rcases hq with hq | hq
  · obtain ⟨its, r', pl, hz⟩ := I.list hq
    have hlen := r'.length
    exact Calls.call_len_list pl.isList (by simp only [List.size_toArray] <;> omega) ⟨.int ys.length, H, I.tok _, ⟨s.toks + 1, by rw [List.size_toArray, hlen]⟩, q⟩
  · obtain ⟨its, r', pl, hz⟩ := I.tuple hq
    have hlen := r'.length
    exact len_tuple pl (by simp only [List.size_toArray] <;> omega) ⟨.int ys.length, H, I.tok _, ⟨s.toks + 1, by rw [List.size_toArray, hlen]⟩, q⟩
theorem call_len_str : CallR X (.builtin "len") (fun xs H Q => ∃ z, xs = [.str z] ∧ z.length ≤ sizeLine ∧ Q (.int z.length) H) := by
  intro pins s σ H xs us Q I r h
  obtain ⟨z, rfl, hz, q⟩ := h
  obtain ⟨u, rfl, t, rfl⟩ := vals1 r
  have hn := line63
  exact len_str (by omega) ⟨.int z.length, H, I.tok _, ⟨_, rfl⟩, q⟩
theorem call_list_of : CallR X (.type "list") (fun xs H Q => ∃ p ys, xs = [.ref p] ∧ (SqL X.K H p ys ∨ SqT X.K H p ys) ∧ ∀ l, H l = none → Q (.ref l) (upd H l (.lst ys))) := by
  intro pins s σ H xs us Q I r h
  obtain ⟨p, ys, rfl, hq, q⟩ := h
  obtain ⟨u, rfl, rx⟩ := vals1 r
  cases rx
  have fin : ∀ (its : List Value), Vals ys its → ys.length ≤ sizeLine → ∀ (h' : Heap) (c' : Nat), (∀ b o', s.heap.get? b = some o' → h'.get? b = some o') →
      h'.get? s.heap.objs.size = some { cls := .type "list", dict := none, data := .seq its.toArray c', slots := #[] } → EP X pins σ Q (.ref s.heap.objs.size) { s with heap := h' } := fun its r' hz h' c' kp e =>
    ⟨.ref s.heap.objs.size, _, I.laid (t' := s.toks) kp (Nat.le_refl _) (show ObjOk X.prog X.w _ h' _ (.lst ys) from ⟨hz, its, c', r', e⟩), rfl, q _ (I.hok.fresh (Nat.le_refl _))⟩
  rcases hq with hq | hq
  · obtain ⟨its, r', pl, hz⟩ := I.list hq
    have hlen := r'.length
    obtain ⟨o, ho, hc, n, hd⟩ := pl.isList
    exact call_list_seq p (.inl rfl) ho hc hd (fun h' c' kp e => fin its r' hz h' c' kp e) (by simp only [List.size_toArray] <;> omega)
  · obtain ⟨its, r', pl, hz⟩ := I.tuple hq
    have hlen := r'.length
    obtain ⟨o, ho, hc, n, hd⟩ := pl
    exact call_list_seq p (.inr rfl) ho hc hd (fun h' c' kp e => fin its r' hz h' c' kp e) (by simp only [List.size_toArray] <;> omega)
def tyV (K : PySem.W.Frag) (T : String) (x : V) (H : Hp) : Prop := match x with
  | .str _ => T = "str"
  | .int _ => T = "int"
  | .ref p => (T = "list" ∧ ∃ xs, SqL K H p xs) ∨ (T = "tuple" ∧ ∃ o, K.lookup p = some o ∧ o.cls = .type "tuple" ∧ o.dict = none) ∨
      (T = "dict" ∧ ((∃ kvs, H p = some (.dK kvs)) ∨ ∃ kvs, H p = some (.dT kvs))) ∨ (T = "set" ∧ ∃ S n, H p = some (.set S n))
  | _ => False
theorem tyV_is {pins : List (Addr × Obj)} {σ : St} {H : Hp} {s : Shared} {T : String} {x : V} {v : Value} (I : Inv X pins σ H s) (r : RelV x v) (ty : tyV X.K T x H) :
    s.TypeIs v T ∧ ∀ a, v = .ref a → ∃ ob, s.heap.get? a = some ob ∧ ob.dict = none := by
  cases x with
  | str z =>
    obtain ⟨t, rfl⟩ := r
    cases (show T = "str" from ty)
    exact ⟨typeIs_str s z t, fun _ e => nomatch e⟩
  | int i =>
    obtain ⟨t, rfl⟩ := r
    cases (show T = "int" from ty)
    exact ⟨typeIs_int s i t, fun _ e => nomatch e⟩
  | ref p =>
    cases r
    rcases ty with ⟨rfl, xs, hq⟩ | ⟨rfl, o, hk, hc, hd⟩ | ⟨rfl, hk⟩ | ⟨rfl, S, n, hk⟩
    · obtain ⟨its, _, pl, _⟩ := I.list hq
      refine ⟨pl.isList.typeIs, fun a e => ?_⟩
      cases e
      obtain ⟨o, n, e, c, hd, _⟩ := pl
      exact ⟨o, e, hd⟩
    · refine ⟨⟨o, I.kIn p o hk, hc⟩, fun a e => ?_⟩
      cases e
      exact ⟨o, I.kIn _ o hk, hd⟩
    · have z : ∃ o, s.heap.get? p = some o ∧ o.ExactDict := by
        rcases hk with ⟨kvs, hk⟩ | ⟨kvs, hk⟩
        · obtain ⟨_, _, _, _, o, _, _, e, ex, _⟩ := I.hok p _ hk
          exact ⟨o, e, ex⟩
        · obtain ⟨_, _, _, _, o, _, _, e, ex, _⟩ := I.hok p _ hk
          exact ⟨o, e, ex⟩
      obtain ⟨o, e, ex⟩ := z
      refine ⟨⟨o, e, ex.1⟩, fun a e2 => ?_⟩
      cases e2
      exact ⟨o, e, ex.2.1⟩
    · obtain ⟨o, _, _, _, e, ex, _⟩ := I.hok p _ hk
      refine ⟨⟨o, e, ex.1⟩, fun a e2 => ?_⟩
      cases e2
      exact ⟨o, e, ex.2.1⟩
  | _ => exact False.elim ty
def tBM (K : PySem.W.Frag) (T : String) (r : V → List V → Hp → VK → Prop) (to : TE) (t : TA) : TE := fun σ H Q => to σ H fun x H1 => tyV K T x H1 ∧ t σ H1 fun xs H2 => r x xs H2 Q
variable {o e : Expr} {es : List Expr} {to : TE} {t : TA} {name : Str} {apos cpos : Pos} {T id : String} {r : V → List V → Hp → VK → Prop}
theorem pe_bm (pa : PlainAttrs T) (slot : Slot T name id) (hty : typeOf (.builtin id) = pure (.type "method_descriptor")) (hm : MtR X id r) (ho : PE X o to) (ha : PA X (e :: es) t)
    (hbase : attributeBase o name X.env (eval o X.env) = eval o X.env := by rfl)
    (hfew : ((backTo cpos (starEach (e :: es) X.env)).all (fun x => !x.1) && (backToKw cpos (keywordEach [] X.env)).all (fun x => x.1.isSome)
      && decide ((e :: es).length + ([] : List Keyword).length + (if ([] : List Keyword).isEmpty then 0 else 1) < 30)) = true := by rfl)
    (hline : (apos.endLine == cpos.line) = true := by rfl) (hs : starEach (e :: es) X.env = (false, eval e X.env) :: starEach es X.env := by rfl) (hplain : (backTo cpos (starEach es X.env)).any (·.1) = false := by rfl) :
    PE X (.Call (.Attribute o name apos) (e :: es) [] cpos) (tBM X.K T r to t) := by
  intro pins s σ H Q I h
  refine wpAny_Call_method_late hbase hfew hline rfl (thn (ho pins s σ H _ I h) fun v s1 ⟨x, H1, I1, r1, ty, q1⟩ => ?_)
  obtain ⟨h1, h2⟩ := tyV_is I1 r1 ty
  refine ⟨T, id, pa, slot, hty, h1, h2, ?_⟩
  have hA := ha cpos pins s1 σ H1 _ I1 q1
  rw [hs] at hA ⊢
  refine Calls.callWith_builtin (by show (false || (backTo cpos (starEach es X.env)).any (·.1)) = false; rw [hplain] <;> rfl) (Calls.evalArgs_plain ?_)
  exact thn hA fun us s2 ⟨vs, H2, I2, r2, q2⟩ => hm pins s2 σ H2 x vs v us Q I2 r1 r2 q2
end
end L2
namespace L2
open PySem PySem.Spec PyProof.Rows
variable {q0 : Bool}
def MtM (X : Cx) (id : String) (r : V → List V → Hp → VK → Prop) : Prop :=
  ∀ (pins : List (Addr × Obj)) (s : Shared) (σ : St) (H : Hp) (x : V) (xs : List V) (v : Value) (us : List Value) (Q : VK), Inv X pins σ H s → RelV x v → Vals xs us → r x xs H Q →
    wpAny (model X.prog X.w) X.A (call (.builtin id) (v :: us)) (EP X pins σ Q) X.xe s
theorem Vals.one : ∀ {x : V} {us : List Value}, Vals [x] us → ∃ u, us = [u] ∧ RelV x u
  | _, _, .cons r .nil => ⟨_, rfl, r⟩
theorem Vals.eraseIdx : ∀ {xs : List V} {us : List Value} (i : Nat), Vals xs us → Vals (xs.eraseIdx i) (us.eraseIdx i)
  | _, _, _, .nil => .nil
  | _, _, 0, .cons _ t => t
  | _, _, i + 1, .cons r t => .cons r (Vals.eraseIdx i t)
theorem len_erase {α : Type} : ∀ (l : List α) (i : Nat), (l.eraseIdx i).length ≤ l.length
  | [], _ => Nat.le_refl _
  | _ :: _, 0 => Nat.le_succ _
  | _ :: r, i + 1 => Nat.succ_le_succ (len_erase r i)
section
variable {X : Cx} {pins : List (Addr × Obj)} {σ : St} {H : Hp} {s : Shared} {l b : Addr} {xs ys zs : List V}
theorem Inv.lset {its its' : List Value} {n : Nat} {f : Array Value → Array Value} {t' : Nat} (I : Inv X pins σ H s) (hH : H l = some (.lst xs))
    (e : s.heap.get? l = some { cls := .type "list", data := .seq its.toArray n }) (hf : f its.toArray = its'.toArray) (hv : Vals ys its') (hz : ys.length ≤ sizeLine) :
    Inv X pins σ (upd H l (.lst ys)) { s with heap := s.heap.update l (Obj.mapSeq f), toks := t' } := by
  have q := PySem.IsL.update e f
  rw [hf] at q
  refine I.write (x := l) (e := l) (by rw [hH]; exact trivial) (.inl rfl) (fun b' u hb hu => (Heap.get?_update_other s.heap (Obj.mapSeq f) (Ne.symm hb)).trans hu) ⟨_, q⟩ ?_
  exact ⟨hz, its', _, hv, q⟩
theorem Inv.lnew {its : List Value} {t' : Nat} (I : Inv X pins σ H s) (hv : Vals ys its) (hz : ys.length ≤ sizeLine) :
    Inv X pins σ (upd H s.heap.objs.size (.lst ys)) { s with heap := s.heap.push { cls := .type "list", data := .seq its.toArray }, toks := t' } :=
  I.laid (fun _ _ q => Heap.get?_push_of_some _ q) (Nat.le_refl _) ⟨hz, its, 0, hv, Heap.get?_push_size _ rfl⟩
theorem Inv.fresh (I : Inv X pins σ H s) : H s.heap.objs.size = none := I.hok.fresh (Nat.le_refl _)
theorem Inv.lstM (I : Inv X pins σ H s) (hH : H l = some (.lst xs)) : xs.length ≤ sizeLine ∧ ∃ (its : List Value) (n : Nat), Vals xs its ∧ xs.length = its.length ∧ s.heap.get? l = some { cls := .type "list", data := .seq its.toArray n } := by
  obtain ⟨z, its, n, r, e⟩ := I.hok l _ hH
  exact ⟨z, its, n, r, r.length, e⟩
end
section
variable {X : Cx}
def rAppend : V → List V → Hp → VK → Prop := fun x vs H Q => ∃ l xs y, x = .ref l ∧ vs = [y] ∧ H l = some (.lst xs) ∧ xs.length < sizeLine ∧ Q .non (upd H l (.lst (xs ++ [y])))
theorem mt_append : MtM X "list.append" rAppend := by
  intro pins s σ H x vs v us Q I rx rv h
  obtain ⟨l, xs, y, rfl, rfl, hH, hz, q⟩ := h
  cases rx
  obtain ⟨u, rfl, ru⟩ := rv.one
  obtain ⟨z, its, n, r, hl, e⟩ := I.lstM hH
  refine call_meets F.slot_list_append ⟨_, e, rfl⟩ F.entry_list_append (F.args_list_append_2 _ _) (PySem.list_append l its.toArray n u (by rw [List.size_toArray]; omega)) ⟨e, ?_⟩
  refine ⟨.non, _, I.lset (its' := its ++ [u]) hH e (by simp) (r.append (.cons ru .nil)) ?_, rfl, q⟩
  rw [List.length_append, List.length_singleton]
  omega
def rPopAt : V → List V → Hp → VK → Prop := fun x vs H Q => ∃ l xs i k y, x = .ref l ∧ vs = [.int i] ∧ H l = some (.lst xs) ∧ -(2 ^ 63) ≤ i ∧ i < 2 ^ 63 ∧ seqIndex? i xs.length = some k ∧ xs[k]? = some y ∧ Q y (upd H l (.lst (xs.eraseIdx k)))
theorem mt_popAt : MtM X "list.pop" rPopAt := by
  intro pins s σ H x vs v us Q I rx rv h
  obtain ⟨l, xs, i, k, y, rfl, rfl, hH, h1, h2, hk, hy, q⟩ := h
  cases rx
  obtain ⟨u, rfl, ru⟩ := rv.one
  obtain ⟨t, rfl⟩ := ru
  obtain ⟨z, its, n, r, hl, e⟩ := I.lstM hH
  obtain ⟨w, hw, rw'⟩ := r.get hy
  refine call_meets F.slot_list_pop ⟨_, e, rfl⟩ F.entry_list_pop (F.args_list_pop_2 _ _)
    (MeetsSeq.list_pop_at l its.toArray n i t k w (fitsIndex_both h1 h2) (by rw [List.size_toArray, ← hl]; exact hk) (by rw [← Array.getElem?_toList]; exact hw) (by rw [List.size_toArray]; omega)) ⟨e, ?_⟩
  refine ⟨y, _, I.lset (its' := its.eraseIdx k) hH e ?_ (r.eraseIdx k) ?_, rw', q⟩
  · show its.toArray.eraseIdxIfInBounds k = (its.eraseIdx k).toArray
    rw [List.eraseIdxIfInBounds_toArray]
  · have := len_erase xs k
    omega
def rCat : R2 := fun x y H Q => ∃ l b xs zs, x = .ref l ∧ y = .ref b ∧ H l = some (.lst xs) ∧ H b = some (.lst zs) ∧ xs.length + zs.length ≤ sizeLine ∧ ∀ p, H p = none → Q (.ref p) (upd H p (.lst (xs ++ zs)))
theorem op_cat : OpR X (binaryOp .Add) rCat := by
  intro pins s σ H x y v u Q I rx ry h
  obtain ⟨l, b, xs, zs, rfl, rfl, hH, hB, hz, q⟩ := h
  cases rx
  cases ry
  obtain ⟨z, its, n, r, hl, e⟩ := I.lstM hH
  obtain ⟨z2, its2, n2, r2, hl2, e2⟩ := I.lstM hB
  refine PySem.P.add_list e e2 ?_ (by rw [List.size_toArray, List.size_toArray]; omega)
  have ea : its.toArray ++ its2.toArray = (its ++ its2).toArray := by simp
  rw [ea]
  exact ⟨.ref _, _, I.lnew (t' := s.toks) (r.append r2) (by rw [List.length_append]; omega), rfl, q _ I.fresh⟩
end
section
variable {prog : Program} {w : World} {A : Around} {E : Value → Shared → Prop} {s : Shared}
end
section
variable {X : Cx}
end
end L2
namespace L2
open PySem PySem.Spec PyProof.Rows
variable {q0 : Bool}
section
variable {κ : Type} [DecidableEq κ]
def valV (kvs : List (κ × V)) (k : κ) : Option V := (kvs.find? fun kv => decide (kv.1 = k)).map (·.2)
def putK (kvs : List (κ × V)) (k : κ) (v : V) : List (κ × V) :=
  if (kvs.any fun kv => decide (kv.1 = k)) = true then kvs.map (fun kv => if kv.1 = k then (kv.1, v) else kv) else kvs ++ [(k, v)]
def dropK (kvs : List (κ × V)) (k : κ) : List (κ × V) := kvs.filter fun kv => decide (kv.1 ≠ k)
theorem valV_pos {p : κ × V} {r : List (κ × V)} {k : κ} (e : p.1 = k) : valV (p :: r) k = some p.2 := by simp [valV, List.find?_cons, e]
theorem valV_neg {p : κ × V} {r : List (κ × V)} {k : κ} (e : ¬ p.1 = k) : valV (p :: r) k = valV r k := by simp [valV, List.find?_cons, e]
theorem valV_any (k : κ) : ∀ kvs : List (κ × V), (kvs.any fun kv => decide (kv.1 = k)) = (valV kvs k).isSome
  | [] => rfl
  | p :: r => by
    rw [List.any_cons]
    by_cases e : p.1 = k
    · simp only [valV_pos e, decide_eq_true e, Bool.true_or, Option.isSome_some]
    · rw [valV_neg e, decide_eq_false e, Bool.false_or]; exact valV_any k r
theorem length_putK (kvs : List (κ × V)) (k : κ) (v : V) : (putK kvs k v).length ≤ kvs.length + 1 := by
  unfold putK
  split
  · rw [List.length_map]; omega
  · rw [List.length_append, List.length_cons, List.length_nil]; omega
theorem putK_new {kvs : List (κ × V)} {k : κ} (v : V) (h : valV kvs k = none) : putK kvs k v = kvs ++ [(k, v)] := by
  unfold putK
  rw [valV_any, h]
  exact if_neg (by decide)
theorem RelO.isSome_eq {o : Option V} {u : Option Value} (r : RelO o u) : o.isSome = u.isSome := by
  cases o with
  | none => cases u with
    | none => rfl
    | some _ => exact (show False from r).elim
  | some _ => cases u with
    | none => exact (show False from r).elim
    | some _ => rfl
theorem KV.val {kvs : List (κ × V)} {vs : List (κ × Value)} (r : KV kvs vs) (k : κ) : RelO (valV kvs k) (valueAt vs k) := by
  unfold KV at r
  induction r with
  | nil => exact True.intro
  | @cons p q ps qs h t ih =>
    obtain ⟨h1, h2⟩ := h
    by_cases e : p.1 = k
    · have e' : q.1 = k := h1.symm.trans e
      have b : valueAt (q :: qs) k = some q.2 := by simp [valueAt, List.find?_cons, e']
      rw [valV_pos e, b]; exact h2
    · have e' : ¬ q.1 = k := fun z => e (h1.trans z)
      have b : valueAt (q :: qs) k = valueAt qs k := by simp [valueAt, List.find?_cons, e']
      rw [valV_neg e, b]; exact ih
theorem KV.any {kvs : List (κ × V)} {vs : List (κ × Value)} (r : KV kvs vs) (k : κ) : (kvs.any fun kv => decide (kv.1 = k)) = vs.any fun kv => decide (kv.1 = k) := by
  unfold KV at r
  induction r with
  | nil => rfl
  | cons h t ih => rw [List.any_cons, List.any_cons, ih, h.1]
theorem KV.repl {kvs : List (κ × V)} {vs : List (κ × Value)} (r : KV kvs vs) (k : κ) {y : V} {u : Value} (ry : RelV y u) :
    KV (kvs.map fun kv => if kv.1 = k then (kv.1, y) else kv) (vs.map fun kv => if kv.1 = k then (kv.1, u) else kv) := by
  unfold KV at r ⊢
  induction r with
  | nil => exact .nil
  | @cons p q ps qs h t ih =>
    rw [List.map_cons, List.map_cons]
    refine .cons ?_ ih
    obtain ⟨h1, h2⟩ := h
    by_cases e : p.1 = k
    · rw [if_pos e, if_pos (h1.symm.trans e)]; exact ⟨h1, ry⟩
    · rw [if_neg e, if_neg (fun z => e (h1.trans z))]; exact ⟨h1, h2⟩
theorem KV.put {kvs : List (κ × V)} {vs : List (κ × Value)} (r : KV kvs vs) (k : κ) {y : V} {u : Value} (ry : RelV y u) : KV (putK kvs k y) (stored vs k u) := by
  unfold putK stored
  rw [r.any k]
  by_cases e : (vs.any fun kv => decide (kv.1 = k)) = true
  · rw [if_pos e, if_pos e]; exact r.repl k ry
  · rw [if_neg e, if_neg e]; exact Paired.snoc r ⟨rfl, ry⟩
theorem KV.drop {kvs : List (κ × V)} {vs : List (κ × Value)} (r : KV kvs vs) (k : κ) : KV (dropK kvs k) (without vs k) := by
  unfold KV at r ⊢
  unfold dropK without
  induction r with
  | nil => exact .nil
  | @cons p q ps qs h t ih =>
    obtain ⟨h1, h2⟩ := h
    rw [List.filter_cons, List.filter_cons]
    by_cases e : p.1 = k
    · have a : ¬ decide (p.1 ≠ k) = true := by simp [e]
      have b : ¬ decide (q.1 ≠ k) = true := by simp [h1.symm.trans e]
      rw [if_neg a, if_neg b]; exact ih
    · have e' : ¬ q.1 = k := fun z => e (h1.trans z)
      have a : decide (p.1 ≠ k) = true := by simp [e]
      have b : decide (q.1 ≠ k) = true := by simp [e']
      rw [if_pos a, if_pos b]; exact .cons ⟨h1, h2⟩ ih
theorem KV.keys {kvs : List (κ × V)} {vs : List (κ × Value)} (r : KV kvs vs) : kvs.map (·.1) = vs.map (·.1) := by
  unfold KV at r
  induction r with
  | nil => rfl
  | cons h t ih => rw [List.map_cons, List.map_cons, ih, h.1]
theorem KV.length {kvs : List (κ × V)} {vs : List (κ × Value)} (r : KV kvs vs) : kvs.length = vs.length := Paired.length r
theorem dropK_le (kvs : List (κ × V)) (k : κ) : (dropK kvs k).length ≤ kvs.length := List.length_filter_le _ _
end
theorem kV_is {P : Program} {w : World} {k : Key} {u : Value} (r : RelV (kV k) u) : (mixKind P w).is k u = true := by
  cases k with
  | inl i => obtain ⟨t, e⟩ := (show ∃ t, u = Value.int i t from r); subst e; exact mixKind_int P w i t
  | inr x => obtain ⟨t, e⟩ := (show ∃ t, u = Value.str x t from r); subst e; exact mixKind_str P w x t
theorem items_are {P : Program} {w : World} : ∀ {ks : List Key} {us : List Value}, Vals (ks.map kV) us → ItemsAre (mixKind P w) ks us
  | [], _, r => by rw [List.map_nil] at r; cases r; exact .nil
  | k :: ks, _, r => by
    rw [List.map_cons] at r
    cases r with
    | cons h t => exact .cons (kV_is h) (items_are t)
abbrev KT (H : Hp) : List (List Key × V) → List (List Key × Addr × Value) → Prop := Paired fun p q => p.1 = q.1 ∧ H q.2.1 = some (.tup (p.1.map kV)) ∧ RelV p.2 q.2.2
theorem KT.val {H : Hp} {kvs : List (List Key × V)} {xs : List (List Key × Addr × Value)} (r : KT H kvs xs) (k : List Key) : RelO (valV kvs k) ((atKey xs k).map (·.2)) := by
  induction r with
  | nil => exact True.intro
  | @cons p q ps qs h t ih =>
    obtain ⟨h1, _, h2⟩ := h
    by_cases e : p.1 = k
    · have e' : q.1 = k := h1.symm.trans e
      have b : atKey (q :: qs) k = some q.2 := by simp [atKey, List.find?_cons, e']
      rw [valV_pos e, b]; exact h2
    · have e' : ¬ q.1 = k := fun z => e (h1.trans z)
      have b : atKey (q :: qs) k = atKey qs k := by simp [atKey, List.find?_cons, e']
      rw [valV_neg e, b]; exact ih
theorem KT.repl {H : Hp} {kvs : List (List Key × V)} {xs : List (List Key × Addr × Value)} (r : KT H kvs xs) (k : List Key) {y : V} {u : Value} (ry : RelV y u) :
    KT H (kvs.map fun kv => if kv.1 = k then (kv.1, y) else kv) (xs.map (putAt k u)) := by
  induction r with
  | nil => exact .nil
  | @cons p q ps qs h t ih =>
    rw [List.map_cons, List.map_cons]
    refine .cons ?_ ih
    obtain ⟨h1, h2, h3⟩ := h
    unfold putAt
    by_cases e : p.1 = k
    · rw [if_pos e, if_pos (h1.symm.trans e)]; exact ⟨h1, h2, ry⟩
    · rw [if_neg e, if_neg (fun z => e (h1.trans z))]; exact ⟨h1, h2, h3⟩
theorem KT.put {H : Hp} {kvs : List (List Key × V)} {xs : List (List Key × Addr × Value)} (r : KT H kvs xs) (k : List Key) {b : Addr} {y : V} {u : Value} (hb : H b = some (.tup (k.map kV))) (ry : RelV y u) :
    KT H (putK kvs k y) (storedH xs k b u) := by
  have e : (kvs.any fun kv => decide (kv.1 = k)) = (atKey xs k).isSome := by
    rw [valV_any, (r.val k).isSome_eq, Option.isSome_map]
  unfold putK storedH
  rw [e]
  by_cases q : (atKey xs k).isSome = true
  · rw [if_pos q, if_pos q]; exact r.repl k ry
  · rw [if_neg q, if_neg q]; exact Paired.snoc r ⟨rfl, hb, ry⟩
theorem KT.keeps {H H' : Hp} {kvs : List (List Key × V)} {xs : List (List Key × Addr × Value)} (r : KT H kvs xs) (ht : ∀ b ys, H b = some (.tup ys) → H' b = some (.tup ys)) : KT H' kvs xs :=
  Paired.mapP r fun _ _ z => ⟨z.1, ht _ _ z.2.1, z.2.2⟩
section
variable {P : Program} {w : World} {H : Hp} {h : Heap} {a : Addr}
theorem rd_of {u : HO} (ok : HOk P w H h) (e : Rd H a u) : ObjOk P w H h a u := e.ok ok
theorem dk_rd {kvs : List (Key × V)} (ok : HOk P w H h) (e : Rd H a (.dK kvs)) : kvs.length ≤ sizeLine ∧ (a == sysModules) = false ∧ ∃ vs, KV kvs vs ∧ h.DictOf (mixKind P w) a vs :=
  show ObjOk P w H h a (.dK kvs) from rd_of ok e
theorem dk_of {kvs : List (Key × V)} (ok : HOk P w H h) (e : H a = some (.dK kvs)) : kvs.length ≤ sizeLine ∧ (a == sysModules) = false ∧ ∃ vs, KV kvs vs ∧ h.DictOf (mixKind P w) a vs := dk_rd ok (.inl e)
theorem key_of {ks : List Key} (ok : HOk P w H h) (e : H a = some (.tup (ks.map kV))) : (tupleKind (mixKind P w)).is h ks a := by
  obtain ⟨_, its, r, o, h1, h2, n, h3⟩ := (show ObjOk P w H h a (.tup (ks.map kV)) from ok a _ e)
  exact ⟨o, its.toArray, n, h1, h2, h3, by simpa using items_are r⟩
theorem dt_rd {kvs : List (List Key × V)} (ok : HOk P w H h) (e : Rd H a (.dT kvs)) : kvs.length ≤ sizeLine ∧ (a == sysModules) = false ∧
    ∃ xs, KT H kvs xs ∧ h.DictOfH (tupleKind (mixKind P w)) a xs := by
  obtain ⟨z, y, xs, r, o, es, ep, h1, h2, h3, h4, h5⟩ := (show ObjOk P w H h a (.dT kvs) from rd_of ok e)
  refine ⟨z, y, xs, r, o, es, ep, h1, h2, h3, h4, fun x hx => ?_, h5⟩
  have all : ∀ {l : List (List Key × V)} {m : List (List Key × Addr × Value)}, KT H l m → ∀ x ∈ m, (tupleKind (mixKind P w)).is h x.1 x.2.1 := by
    intro l m q
    induction q with
    | nil => intro x hx; exact nomatch hx
    | @cons p q ps qs hq t ih =>
      intro x hx
      rcases List.mem_cons.mp hx with e | hx
      · subst e
        exact key_of ok (by rw [← hq.1]; exact hq.2.1)
      · exact ih x hx
  exact all r x hx
theorem dt_of {kvs : List (List Key × V)} (ok : HOk P w H h) (e : H a = some (.dT kvs)) : kvs.length ≤ sizeLine ∧ (a == sysModules) = false ∧
    ∃ xs, KT H kvs xs ∧ h.DictOfH (tupleKind (mixKind P w)) a xs := dt_rd ok (.inl e)
end
def DGet (H : Hp) (a : Addr) (y : V) (r : Option V) : Prop :=
  (∃ kvs k, Rd H a (.dK kvs) ∧ y = kV k ∧ r = valV kvs k) ∨ ∃ kvs k b, Rd H a (.dT kvs) ∧ y = .ref b ∧ H b = some (.tup (k.map kV)) ∧ r = valV kvs k
def DPut (H : Hp) (a : Addr) (y v : V) (H' : Hp) : Prop :=
  (∃ kvs k, H a = some (.dK kvs) ∧ y = kV k ∧ kvs.length < sizeLine ∧ H' = upd H a (.dK (putK kvs k v))) ∨
  ∃ kvs k b, H a = some (.dT kvs) ∧ y = .ref b ∧ H b = some (.tup (k.map kV)) ∧ kvs.length < sizeLine ∧ H' = upd H a (.dT (putK kvs k v))
theorem DGet.k {H : Hp} {a : Addr} {kvs : List (Key × V)} {k : Key} (e : H a = some (.dK kvs)) : DGet H a (kV k) (valV kvs k) := .inl ⟨kvs, k, .inl e, rfl, rfl⟩
theorem DPut.k {H : Hp} {a : Addr} {kvs : List (Key × V)} {k : Key} {v : V} (e : H a = some (.dK kvs)) (hl : kvs.length < sizeLine) : DPut H a (kV k) v (upd H a (.dK (putK kvs k v))) := .inl ⟨kvs, k, e, rfl, hl, rfl⟩
section
variable {X : Cx} {pins : List (Addr × Obj)} {σ : St} {H : Hp} {s : Shared} {a : Addr} {y v : V} {u r : Value} {o : Option V} {A : Around} {E : Value → Shared → Prop}
theorem Inv.big (I : Inv X pins σ H s) : sysModules < s.heap.objs.size := by
  have h : mainGlobals < s.heap.objs.size := (I.mod.glob.keeps I.bk).lt
  exact Nat.lt_trans (by decide) h
theorem d_getItem {Q : Value → Shared → Prop} (hu : A.units + 1 < cLine) (I : Inv X pins σ H s) (g : DGet H a y (some v)) (ry : RelV y u) (h : ∀ w' s', Inv X pins σ H s' → RelV v w' → Q w' s') :
    wpAny (model X.prog X.w) A (getItem (.ref a) u) Q E s := by
  rcases g with ⟨kvs, k, e, ey, l⟩ | ⟨kvs, k, b, e, ey, eb, l⟩
  · subst ey
    obtain ⟨z, hd, vs, rel, dd⟩ := dk_rd I.hok e
    obtain ⟨w', hw, rw'⟩ := RelO.some_of (v := v) (o := valueAt vs k) (by rw [l]; exact rel.val k)
    exact wpAny_getItem_of (kV_is ry) dd.mapOf hw (h w' _ (I.tok _) rw')
  · subst ey
    cases (show u = Value.ref b from ry)
    obtain ⟨z, hd, xs, rel, dd⟩ := dt_rd I.hok e
    obtain ⟨w', hw, rw'⟩ := RelO.some_of (v := v) (o := (atKey xs k).map (·.2)) (by rw [l]; exact rel.val k)
    obtain ⟨p, hp, hp2⟩ := Option.map_eq_some_iff.mp hw
    refine wpAny_getItem_heap (tupleKind_room_in1 hu) (key_of I.hok eb) dd hp ?_
    rw [hp2]
    exact h w' _ (I.tok _) rw'
theorem d_in {Q : Value → Shared → Prop} (hu : A.units + 1 < cLine) (I : Inv X pins σ H s) (g : DGet H a y o) (ry : RelV y u) (h : ∀ s', Inv X pins σ H s' → Q (.bool o.isSome) s') :
    wpAny (model X.prog X.w) A (compareOp .In u (.ref a)) Q E s := by
  rcases g with ⟨kvs, k, e, ey, l⟩ | ⟨kvs, k, b, e, ey, eb, l⟩
  · subst ey
    obtain ⟨z, hd, vs, rel, dd⟩ := dk_rd I.hok e
    refine wpAny_in_of (kV_is ry) hd dd.mapOf ?_
    rw [← (rel.val k).isSome_eq, ← l]
    exact h _ (I.tok _)
  · subst ey
    cases (show u = Value.ref b from ry)
    obtain ⟨z, hd, xs, rel, dd⟩ := dt_rd I.hok e
    refine wpAny_in_heap (tupleKind_room_in1 hu) (key_of I.hok eb) hd dd ?_
    have q := (rel.val k).isSome_eq
    rw [Option.isSome_map] at q
    rw [← q, ← l]
    exact h _ (I.tok _)
theorem d_notIn {Q : Value → Shared → Prop} (hu : A.units + 1 < cLine) (I : Inv X pins σ H s) (g : DGet H a y o) (ry : RelV y u) (h : ∀ s', Inv X pins σ H s' → Q (.bool (!o.isSome)) s') :
    wpAny (model X.prog X.w) A (compareOp .NotIn u (.ref a)) Q E s := by
  rcases g with ⟨kvs, k, e, ey, l⟩ | ⟨kvs, k, b, e, ey, eb, l⟩
  · subst ey
    obtain ⟨z, hd, vs, rel, dd⟩ := dk_rd I.hok e
    refine wpAny_notIn_of (kV_is ry) hd dd.mapOf ?_
    rw [← (rel.val k).isSome_eq, ← l]
    exact h _ (I.tok _)
  · subst ey
    cases (show u = Value.ref b from ry)
    obtain ⟨z, hd, xs, rel, dd⟩ := dt_rd I.hok e
    refine wpAny_notIn_heap (tupleKind_room_in1 hu) (key_of I.hok eb) hd dd ?_
    have q := (rel.val k).isSome_eq
    rw [Option.isSome_map] at q
    rw [← q, ← l]
    exact h _ (I.tok _)
theorem d_write {h' : Heap} {t' : Nat} {ob : HO} (I : Inv X pins σ H s) (mu : Mut (H a)) (hs : Heap.SameBut a s.heap h') (he : ∃ q, h'.get? a = some q) (new : ObjOk X.prog X.w (upd H a ob) h' a ob) :
    Inv X pins σ (upd H a ob) { s with heap := h', toks := t' } :=
  I.write (x := a) (e := a) mu (.inl rfl) (fun b q hb z => (hs.2 b hb).trans z) he new
theorem dk_new {P : Program} {w : World} {H' : Hp} {h' : Heap} {kvs : List (Key × V)} {vs : List (Key × Value)} (z : kvs.length ≤ sizeLine) (hd : (a == sysModules) = false) (rel : KV kvs vs) (dd : h'.DictOf (mixKind P w) a vs) :
    ObjOk P w H' h' a (.dK kvs) := ⟨z, hd, vs, rel, dd⟩
theorem d_setItem {H' : Hp} {Q : Unit → Shared → Prop} (hu : A.units + 1 < cLine) (I : Inv X pins σ H s) (g : DPut H a y v H') (ry : RelV y u) (rv : RelV v r) (h : ∀ s', Inv X pins σ H' s' → Q () s') :
    wpAny (model X.prog X.w) A (setItem (.ref a) u r) Q E s := by
  rcases g with ⟨kvs, k, e, ey, l, eH⟩ | ⟨kvs, k, b, e, ey, eb, l, eH⟩
  · subst ey eH
    obtain ⟨z, hd, vs, rel, dd⟩ := dk_of I.hok e
    have hz : vs.length ≤ sizeLine := by rw [← rel.length]; exact z
    have hl : (putK kvs k v).length ≤ sizeLine := by have := length_putK kvs k v; omega
    refine wpAny_setItem_pairs (hsz := hz) (kV_is ry) dd fun h' dd' hs => h _ ?_
    have he : ∃ q, h'.get? a = some q := let ⟨q, _, _, hq, _⟩ := dd'; ⟨q, hq⟩
    exact d_write I (by rw [e]; exact True.intro) hs he (dk_new hl hd (rel.put k rv) dd')
  · subst ey eH
    cases (show u = Value.ref b from ry)
    obtain ⟨z, hd, xs, rel, dd⟩ := dt_of I.hok e
    have hz : xs.length ≤ sizeLine := by rw [← Paired.length rel]; exact z
    have hl : (putK kvs k v).length ≤ sizeLine := by have := length_putK kvs k v; omega
    refine wpAny_setItem_heap (hsz := hz) (tupleKind_room_in1 hu) (key_of I.hok eb) dd fun h' dd' hs => h _ ?_
    obtain ⟨q, es, ep, hq, h2, h3, h4, _, h5⟩ := dd'
    refine d_write I (by rw [e]; exact True.intro) hs ⟨q, hq⟩ ⟨hl, hd, _, (rel.put k eb rv).keeps fun c ys ec => ?_, q, es, ep, hq, h2, h3, h4, h5⟩
    rw [upd_ne (ne_of ec e (fun z => nomatch z))]
    exact ec
end
section
variable {X : Cx} {pins : List (Addr × Obj)} {σ : St} {H : Hp} {s : Shared} {a : Addr} {kvs : List (Key × V)} {k : Key} {u : Value} {A : Around} {E : Value → Shared → Prop}
theorem d_pop {v : V} {more : List Value} {Q : Value → Shared → Prop} (I : Inv X pins σ H s) (e : H a = some (.dK kvs)) (ry : RelV (kV k) u) (l : valV kvs k = some v) (hm : more = [] ∨ ∃ x, more = [x])
    (h : ∀ w' s', Inv X pins σ (upd H a (.dK (dropK kvs k))) s' → RelV v w' → Q w' s') : wpAny (model X.prog X.w) A (call (.builtin "dict.pop") (.ref a :: u :: more)) Q E s := by
  obtain ⟨z, hd, vs, rel, dd⟩ := dk_of I.hok e
  obtain ⟨w', hw, rw'⟩ := RelO.some_of (v := v) (o := valueAt vs k) (by rw [← l]; exact rel.val k)
  have hp : (keyPart u).isSome = true := by
    cases k with
    | inl i => obtain ⟨t, q⟩ := (show ∃ t, u = Value.int i t from ry); subst q; rfl
    | inr x => obtain ⟨t, q⟩ := (show ∃ t, u = Value.str x t from ry); subst q; rfl
  have ha : argsOk "dict.pop" ⟨.ref a :: u :: more, []⟩ := by
    rcases hm with q | ⟨x, q⟩
    · subst q; exact PySem.F.args_dict_pop_2 _ _
    · subst q; exact PySem.F.args_dict_pop_3 _ _ _
  refine call_meetsIn PySem.F.slot_dict_pop dd.typeIs PySem.F.entry_dict_pop ha (meets_dict_pop_there (mixKind X.prog X.w) a (kV_is ry) more hm hp)
    ⟨vs, w', dd, by rw [← rel.length]; exact z, hw, fun h' dd' hs => h w' _ ?_ rw'⟩
  have he : ∃ q, h'.get? a = some q := let ⟨q, _, _, hq, _⟩ := dd'; ⟨q, hq⟩
  exact d_write I (by rw [e]; exact True.intro) hs he (dk_new (Nat.le_trans (dropK_le kvs k) z) hd (rel.drop k) dd')
theorem d_len {Q : Value → Shared → Prop} (I : Inv X pins σ H s) (e : Rd H a (.dK kvs)) (h : ∀ t s', Inv X pins σ H s' → Q (.int kvs.length t) s') : wpAny (model X.prog X.w) A (call (.builtin "len") [.ref a]) Q E s := by
  obtain ⟨z, hd, vs, rel, dd⟩ := dk_rd I.hok e
  refine call_len_dict hd dd (by rw [← rel.length]; rw [sizeLine_eq] at z; omega) ?_
  rw [← rel.length]
  exact h _ _ (I.tok _)
end
def NoSl (i : Expr) : Prop := ∀ ov iv, subscripted i false ov iv = operate [ov, iv] (getItem ov iv)
theorem subD_of {prog : Program} {w : World} {A : Around} {E : Value → Shared → Prop} {s : Shared} {env : Env} {value slice : Expr} {pos : Pos} {T id : String} {Q : Value → Shared → Prop}
    (hl : typeLookup (.type T) "__getitem__" = pure (some (.builtin id))) (hs : NoSl slice)
    (h : wpAny (model prog w) A (eval value env) (fun o s₁ => wpAny (model prog w) A (eval slice env) (fun i s₂ => s₂.TypeIs o T ∧ wpAny (model prog w) A (getItem o i) Q E s₂) E s₁) E s) :
    wpAny (model prog w) A (eval (.Subscript value slice pos) env) Q E s := by
  refine Subscript_ (wpAny_mono h (fun o s₁ h₁ => wpAny_mono h₁ (fun i s₂ h₂ => ?_) fun _ _ x => x) fun _ _ x => x)
  obtain ⟨hT, h₂⟩ := h₂
  unfold subscriptTail
  refine wpAny_bind ?_
  rw [getitemInPython_of_ne hT.not_modules]
  refine wpAny_bind (wpAny_specialOf hT hl ?_)
  have fin : wpAny (model prog w) A (subscripted slice false o i) (fun r s₃ => wpAny (model prog w) A (letTemporaryGo value o r >>= fun _ => pure r) Q E s₃) E s₂ := by
    rw [hs o i]
    exact wpAny_operating (wpAny_mono h₂ (fun r s₃ h₃ => wpAny_bind (wpAny_letTemporaryGo (wpAny_pure h₃))) fun _ _ x => x)
  first
    | exact wpAny_pure (wpAny_bind fin)
    | exact wpAny_bind (wpAny_pure (wpAny_bind fin))
    | exact wpAny_bind fin
theorem dict_typeIs {X : Cx} {pins : List (Addr × Obj)} {σ : St} {H : Hp} {s : Shared} {a : Addr} {y : V} {o : Option V} (I : Inv X pins σ H s) (g : DGet H a y o) : s.TypeIs (.ref a) "dict" := by
  rcases g with ⟨kvs, k, e, _, _⟩ | ⟨kvs, k, b, e, _, _, _⟩
  · obtain ⟨_, _, vs, _, dd⟩ := dk_rd I.hok e
    exact dd.typeIs
  · obtain ⟨_, _, xs, _, dd⟩ := dt_rd I.hok e
    exact dd.typeIs
def tDGet (td ty : TE) : TE := fun σ H Q => td σ H fun x H1 => ty σ H1 fun y H2 => ∃ a v, x = .ref a ∧ DGet H2 a y (some v) ∧ Q v H2
def tDIn (ty td : TE) : TE := fun σ H Q => ty σ H fun y H1 => td σ H1 fun x H2 => ∃ a o, x = .ref a ∧ DGet H2 a y o ∧ Q (.bl o.isSome) H2
def tDNotIn (ty td : TE) : TE := fun σ H Q => ty σ H fun y H1 => td σ H1 fun x H2 => ∃ a o, x = .ref a ∧ DGet H2 a y o ∧ Q (.bl (!o.isSome)) H2
def sDPut (td ty tv : TE) : TS := fun D σ H => tv σ H fun v H1 => td σ H1 fun x H2 => ty σ H2 fun y H3 => ∃ a H4, x = .ref a ∧ DPut H3 a y v H4 ∧ D.nx σ H4
section
variable {X : Cx} {o i e value : Expr} {pos pos' tpos : Pos} {td ty tv : TE}
theorem pe_dget (hu : X.A.units + 1 < cLine) (ho : PE X o td) (hi : PE X i ty) (hs : NoSl i) : PE X (.Subscript o i pos) (tDGet td ty) := by
  intro pins s σ H Q I h
  refine subD_of PySem.F.slot_dict_getitem.lookup hs (thn (ho pins s σ H _ I h) fun u s1 ⟨x, H1, I1, rx, q1⟩ => thn (hi pins s1 σ H1 _ I1 q1) fun iv s2 ⟨y, H2, I2, ry, a, v, ex, g, q2⟩ => ?_)
  subst ex
  obtain rfl : u = Value.ref a := rx
  exact ⟨dict_typeIs I2 g, d_getItem hu I2 g ry fun w' s3 I3 rw' => ⟨v, H2, I3, rw', q2⟩⟩
theorem pc_din (hu : X.A.units + 1 < cLine) (hi : PE X i ty) (ho : PE X o td) : PC X .In i o (tDIn ty td) := by
  intro pins s σ H Q I h
  refine thn (hi pins s σ H _ I h) fun iv s1 ⟨y, H1, I1, ry, q1⟩ => thn (ho pins s1 σ H1 _ I1 q1) fun u s2 ⟨x, H2, I2, rx, a, ov, ex, g, q2⟩ => ?_
  subst ex
  obtain rfl : u = Value.ref a := rx
  exact d_in hu I2 g ry fun s3 I3 => ⟨.bl ov.isSome, H2, I3, rfl, q2⟩
theorem pc_dnotin (hu : X.A.units + 1 < cLine) (hi : PE X i ty) (ho : PE X o td) : PC X .NotIn i o (tDNotIn ty td) := by
  intro pins s σ H Q I h
  refine thn (hi pins s σ H _ I h) fun iv s1 ⟨y, H1, I1, ry, q1⟩ => thn (ho pins s1 σ H1 _ I1 q1) fun u s2 ⟨x, H2, I2, rx, a, ov, ex, g, q2⟩ => ?_
  subst ex
  obtain rfl : u = Value.ref a := rx
  exact d_notIn hu I2 g ry fun s3 I3 => ⟨.bl (!ov.isSome), H2, I3, rfl, q2⟩
theorem ps_dput (hu : X.A.units + 1 < cLine) (ho : PE X o td) (hi : PE X i ty) (hv : PE X value tv) (hs : swapsWith value (some (.Subscript o i pos')) pos.line X.env = pure false) :
    PS X (.Assign [.Subscript o i pos'] value pos) (sDPut td ty tv) := by
  intro pins s σ H D I h
  refine wpAny_Assign_Subscript (thn (hv pins s σ H _ I h) fun r s1 ⟨v, H1, I1, rv, q1⟩ => thn (ho pins s1 σ H1 _ I1 q1) fun u s2 ⟨x, H2, I2, rx, q2⟩ => thn (hi pins s2 σ H2 _ I2 q2) fun iv s3 ⟨y, H3, I3, ry, a, H4, ex, g, q3⟩ => ?_) hs
  subst ex
  obtain rfl : u = Value.ref a := rx
  exact d_setItem hu I3 g ry rv fun s4 I4 => ⟨σ, H4, I4, q3⟩
end
theorem dk_empty {P : Program} {w : World} {H : Hp} (h : Heap) (hb : sysModules < h.objs.size) : ObjOk P w H (h.push { cls := .type "dict", data := .dict #[] }) h.objs.size (.dK []) :=
  ⟨Nat.zero_le _, beq_eq_false_iff_ne.mpr (Ne.symm (Nat.ne_of_lt hb)), [], .nil, Heap.DictOf.new h⟩
theorem dt_empty {P : Program} {w : World} {H : Hp} (h : Heap) (hb : sysModules < h.objs.size) : ObjOk P w H (h.push { cls := .type "dict", data := .dict #[] }) h.objs.size (.dT []) :=
  ⟨Nat.zero_le _, beq_eq_false_iff_ne.mpr (Ne.symm (Nat.ne_of_lt hb)), [], .nil, _, #[], 0, Heap.get?_push_size _ rfl, ⟨rfl, rfl, rfl⟩, rfl, rfl, List.nodup_nil⟩
def tDNewK : TE := fun _ H Q => ∀ p, H p = none → Q (.ref p) (upd H p (.dK []))
def tDNewT : TE := fun _ H Q => ∀ p, H p = none → Q (.ref p) (upd H p (.dT []))
section
variable {X : Cx} {pos : Pos}
theorem pe_dnewK : PE X (.Dict [] [] pos) tDNewK := fun pins s σ H Q I h =>
  wpAny_Dict_empty ⟨.ref s.heap.objs.size, _, I.laid (a := s.heap.objs.size) (o := .dK []) (t' := s.toks) (fun _ _ q => Heap.get?_push_of_some _ q) (Nat.le_refl _) (dk_empty s.heap I.big), rfl, h _ (I.hok.fresh (Nat.le_refl _))⟩
theorem pe_dnewT : PE X (.Dict [] [] pos) tDNewT := fun pins s σ H Q I h =>
  wpAny_Dict_empty ⟨.ref s.heap.objs.size, _, I.laid (a := s.heap.objs.size) (o := .dT []) (t' := s.toks) (fun _ _ q => Heap.get?_push_of_some _ q) (Nat.le_refl _) (dt_empty s.heap I.big), rfl, h _ (I.hok.fresh (Nat.le_refl _))⟩
end
structure M1 (X : Cx) (o : Expr) (m : Str) (apos : Pos) (e : Expr) (cpos : Pos) : Prop where
  base : attributeBase o m X.env (eval o X.env) = eval o X.env
  few : ((backTo cpos (starEach [e] X.env)).all (fun x => !x.1) && (backToKw cpos (keywordEach [] X.env)).all (fun x => x.1.isSome)
    && decide (([e] : List Expr).length + ([] : List Keyword).length + (if ([] : List Keyword).isEmpty then 0 else 1) < 30)) = true
  line : (apos.endLine == cpos.line) = true
  trees : backTo cpos (starEach [e] X.env) = [(false, eval e X.env)]
def IsD (H : Hp) (a : Addr) : Prop := (∃ kvs, Rd H a (.dK kvs)) ∨ ∃ kvs, Rd H a (.dT kvs)
theorem isD_at {X : Cx} {pins : List (Addr × Obj)} {σ : St} {H : Hp} {s : Shared} {a : Addr} (I : Inv X pins σ H s) (d : IsD H a) :
    s.TypeIs (.ref a) "dict" ∧ (∀ b, Value.ref a = .ref b → ∃ ob, s.heap.get? b = some ob ∧ ob.dict = none) ∧ (a == sysModules) = false := by
  rcases d with ⟨kvs, e⟩ | ⟨kvs, e⟩
  · obtain ⟨_, hd, vs, _, dd⟩ := dk_rd I.hok e
    refine ⟨dd.typeIs, fun b q => ?_, hd⟩
    cases q
    obtain ⟨ob, _, _, h1, h2, _⟩ := dd
    exact ⟨ob, h1, h2.2.1⟩
  · obtain ⟨_, hd, xs, _, dd⟩ := dt_rd I.hok e
    refine ⟨dd.typeIs, fun b q => ?_, hd⟩
    cases q
    obtain ⟨ob, _, _, h1, h2, _⟩ := dd
    exact ⟨ob, h1, h2.2.1⟩
section
variable {X : Cx} {pins : List (Addr × Obj)} {σ : St} {H : Hp} {s : Shared} {a : Addr} {y d : V} {u r : Value} {o : Option V} {A : Around} {E : Value → Shared → Prop}
end
def tDPop1 (td ty : TE) : TE := fun σ H Q => td σ H fun x H1 => ∃ a, x = .ref a ∧ IsD H1 a ∧ ty σ H1 fun y H2 => ∃ kvs k v, H2 a = some (.dK kvs) ∧ y = kV k ∧ valV kvs k = some v ∧ Q v (upd H2 a (.dK (dropK kvs k)))
section
variable {X : Cx} {o e f : Expr} {apos cpos : Pos} {td ty tx : TE}
theorem pe_dpop1 (ho : PE X o td) (he : PE X e ty) (m : M1 X o "pop" apos e cpos) : PE X (.Call (.Attribute o "pop" apos) [e] [] cpos) (tDPop1 td ty) := by
  intro pins s σ H Q I h
  refine wpAny_Call_method m.base m.few m.line PySem.F.plainAttrs_dict PySem.F.slot_dict_pop PySem.F.type_dict_pop (thn (ho pins s σ H _ I h) fun u s1 ⟨x, H1, I1, rx, a, ex, d, q1⟩ => ?_)
  subst ex
  obtain rfl : u = Value.ref a := rx
  obtain ⟨t1, t2, _⟩ := isD_at I1 d
  refine ⟨t1, t2, ?_⟩
  rw [m.trees]
  refine Calls.callWith_builtin rfl (Calls.evalArgs_plain (Calls.spliced_cons (thn (he pins s1 σ H1 _ I1 q1) fun iv s2 ⟨y, H2, I2, ry, kvs, k, v, ea, ey, l, q2⟩ => Calls.spliced_nil ?_)))
  subst ey
  exact d_pop I2 ea ry l (.inl rfl) fun w' s3 I3 rw' => ⟨v, _, I3, rw', q2⟩
end
section
variable {X : Cx} {pins : List (Addr × Obj)} {σ : St} {H : Hp} {s : Shared} {a : Addr} {kvs : List (Key × V)} {A : Around} {E : Value → Shared → Prop}
end
section
variable {X : Cx} {pins : List (Addr × Obj)} {σ : St} {H : Hp} {s : Shared} {a : Addr} {y : V} {u : Value} {A : Around} {E : Value → Shared → Prop}
end
end L2
namespace Att
open PySem PySem.W PySem.Calls PyProof.Rows
theorem ints_of_wellAll {P : Params} {h : Heap} : ∀ (ns : List Int) (vs : List Value), WellAll P h vs (ns.map WData.int) → IntsAre vs ns := by
  intro ns
  induction ns with
  | nil =>
    intro vs w
    rw [List.map_nil] at w
    cases w
    exact .nil
  | cons n ns ih =>
    intro vs w
    rw [List.map_cons] at w
    cases w with
    | cons a b =>
      cases a
      exact .cons _ _ (ih _ b)
theorem script_of {l : OpenLaw} {n : Nat} (hn : l.most = some n) {P : Params} {h : Heap} {args : List WData} {vals : List Value}
    (hpre : l.row.toRowW.claim.pre args = true) (hwl : WellAll P h vals args) :
    ∃ a vs ns, vals = [Value.ref a] ∧ args = [WData.list (ns.map WData.int)] ∧ h.get? a = some { cls := .type "list", data := .seq vs.toArray } ∧ IntsAre vs ns ∧ ns.length ≤ n := by
  have hsh : WShape.hasAll [] args [.list .int] = true := (pre_splitW hpre).1
  have hc : l.pre.holds [] { args := args } = true := (pre_splitW hpre).2
  obtain ⟨d, r, rfl, h1, h2⟩ := hasAllW_cons hsh
  obtain rfl := hasAllW_nil h2
  obtain ⟨xs, rfl, h3⟩ := hasW_list h1
  obtain ⟨ns, rfl⟩ := items_int h3
  have hlen : ns.length ≤ n := by
    unfold OpenLaw.pre at hc
    have h4 : (WTm.not (.lt (.lit (.int (n : Int))) (.len (.arg 0)))).holds [] { args := [.list (ns.map .int)] } = true := by
      have h4 := (holds_andW hc).1
      rw [hn] at h4
      exact h4
    have h5 := condW_of h4 (w_not (w_lt w_lit (w_len_list (w_arg rfl))))
    rw [List.length_map] at h5
    refine Nat.le_of_not_lt fun q => ?_
    have q' : (n : Int) < ((ns.length : Nat) : Int) := by omega
    first
      | (rw [decide_eq_true q'] at h5; exact absurd h5 (by decide))
      | (simp at h5; omega)
  cases hwl with
  | cons w1 w2 =>
    cases w2
    cases w1 with
    | list ho hall => exact ⟨_, _, ns, rfl, rfl, ho, ints_of_wellAll ns _ hall, hlen⟩
theorem post_true (l : OpenLaw) (args : List WData) : l.row.toRowW.claim.post args (.bool true) args = true :=
  postW_of (r := l.row.toRowW) (X := (true == true))
    (show WShape.has [] (.bool true) .bool = true by first | rfl | decide | simp [WShape.has, WShape.arms, WShape.armsAll])
    (show (WTm.eq .res (.lit (.bool true))).value [] { args := args, res := some (.bool true), after := args } = some (.bool (true == true)) from w_eq_bool (w_res rfl) w_lit) rfl
theorem attach_call {l : OpenLaw} {n : Nat} {q : Program} {loose : List Str} {XP : (Str → Option Value) → Heap → Prop} {YP : World → Heap → Prop} {d : DefRec}
    (hn : l.most = some n) (hdf : d.params.defaults = [])
    (call : ∀ (w : World) (s₀ s₁ : Shared) (mg mb : Str → Option Value) (fa : Addr) (o : Obj) (pm cd doc : Value) (a : Addr) (vs : List Value) (ns : List Int),
      Ground q loose [] XP w s₀ mg mb s₁.heap → YP w s₁.heap →
      s₁.heap.get? fa = some o → o.data = .func (docDef d.name d.params d.body d.scope pm cd doc) → s₁.heap.CodeRec cd d.name → mg d.name = some (.ref fa) →
      s₁.heap.get? a = some { cls := .type "list", data := .seq vs.toArray } → IntsAre vs ns → ns.length ≤ n → s₁.gens = #[] →
      codeAny (model l.prog w) callerA (.call (.ref fa) ⟨[.ref a], []⟩) (fun r s' => r = .ok (.ret (.bool true)) ∧ OldK s₁.heap s'.heap ∧ s'.os = s₁.os ∧ AllBare s'.gens) s₁) :
    WalkO q loose XP YP l.row.toRowW d [] (fun f vs => PySem.call f vs) := by
  intro w s₀ s₁ mg mb G Y fa o pm cd doc dV kV ho hd hcd hD hmg hg args vals as hpre hlay hrd hwl hlo
  obtain rfl : dV = .none := Dflts.none hD hdf
  obtain rfl : kV = .none := Dflts.noKw hD
  obtain ⟨a, vs, ns, rfl, rfl, hobj, hints, hlen⟩ := script_of hn hpre hwl
  refine enter_call (codeAny_mono (call w s₀ s₁ mg mb fa o pm cd doc a vs ns G Y ho (fd_plain hd) hcd hmg hobj hints hlen hg) fun r s' hq => ?_)
  obtain ⟨rfl, h2, h3, h4⟩ := hq
  exact ⟨.inl ⟨.bool true, .bool true, [], rfl, fun _ => rfl, .bool true, post_true l _, fun _ => ⟨List.Pairwise.nil, fun _ hm => (nomatch hm)⟩⟩, h2, h3, h4⟩
section
variable {prog : Program} {w : World} {A : Around} {E : Value → Shared → Prop} {s : Shared} {K : Frag}
def ledger (h : Heap) (L d : Addr) : List (Addr × Obj) := (List.range h.objs.size).filterMap fun a => if a = L ∨ a = d then none else (h.get? a).map fun o => (a, o)
end
end Att
namespace L2
open PySem PySem.Spec PyProof.Rows
variable {q0 : Bool}
theorem vals_ints : ∀ {vs : List Value} {ns : List Int}, IntsAre vs ns → Vals (ns.map V.int) vs
  | _, _, .nil => .nil
  | _, _, .cons n t h => .cons ⟨t, rfl⟩ (vals_ints h)
def Only (H : Hp) : Prop := ∀ b, H b = none ∨ ∃ o xs, H b = some (.frz o (.lst xs))
theorem law_call {P : Program} {w : World} {K : PySem.W.Frag} {mg mb : Str → Option Value} {CX : CXT} {k : Nat} {fa a : Addr} {fd : FuncData} {x : Str} {sp : Sp} {s₁ : Shared} {vs : List Value} {ns : List Int}
    (KX : K.In s₁.heap) (hns : s₁.heap.Ns mainGlobals mg) (hb : s₁.heap.Ns builtinsNs mb) (hbb : ∀ x : Str, x ≠ "__name__" → mb x = bootBuiltins x) (hlim : s₁.heap.NoLimit) (hg : s₁.gens = #[])
    (ha : s₁.heap.get? a = some { cls := .type "list", data := .seq vs.toArray }) (hi : IntsAre vs ns) (hl : ns.length ≤ sizeLine) (hr : Room q0 k callerA)
    (F : ∀ base : Heap, K.In base → base.Ns mainGlobals mg → FnOk q0 P w K mg base CX k fa fd [x] sp) (hbind : ∀ (s : Shared) (u : Value), BindsTo s fd ⟨[u], []⟩ [(x, u)])
    (hsp : ∀ H : Hp, Only H → SqL K H a (ns.map V.int) → sp [.ref a] H (fun v _ => v = .bl true) fun _ _ _ => False)
    (hCX : ∀ H e s', CX [] H s₁ (fun _ _ _ => False) e s' → False) :
    codeAny (model P w) callerA (.call (.ref fa) ⟨[.ref a], []⟩) (fun r s' => r = .ok (.ret (.bool true)) ∧ OldK s₁.heap s'.heap ∧ s'.os = s₁.os ∧ AllBare s'.gens) s₁ := by
  have rv := vals_ints hi
  have lenV := hi.length
  -- from an abstract heap in which nothing but the script may be tracked
  have core : ∀ H : Hp, Only H → SqL K H a (ns.map V.int) → HOk P w H s₁.heap → (∀ b, H b ≠ none → b = a) → (H a ≠ none → K.lookup a = none) →
      codeAny (model P w) callerA (.call (.ref fa) ⟨[.ref a], []⟩) (fun r s' => r = .ok (.ret (.bool true)) ∧ OldK s₁.heap s'.heap ∧ s'.os = s₁.os ∧ AllBare s'.gens) s₁ := by
    intro H hO hS hok hA hK
    have base_of : ∀ {b : Addr} {o : Obj}, s₁.heap.get? b = some o → H b = none → (hidT s₁.heap H).get? b = some o := fun e n => hidT_get e n
    have noA : ∀ {b : Addr} {o : Obj} {es : Array DictEntry} {ep : Nat}, s₁.heap.get? b = some o → o.data = .dict es ep → H b = none := fun {b o es ep} e d => by
      cases q : H b with
      | none => rfl
      | some u =>
        have e' : b = a := hA b (by rw [q]; simp)
        subst e'
        rw [ha] at e; cases e
        have d' : Data.seq vs.toArray _ = Data.dict es ep := d
        cases d'
    have nsK : ∀ {b : Addr} {m : Str → Option Value}, s₁.heap.Ns b m → (hidT s₁.heap H).Ns b m := fun {b m} ⟨o, es, ep, e, d, r⟩ => ⟨o, es, ep, base_of e (noA e d), d, r⟩
    have hKb : K.In (hidT s₁.heap H) := fun b o e => base_of (KX b o e) (by
      cases q : H b with
      | none => rfl
      | some u =>
        have e' : b = a := hA b (by rw [q]; simp)
        subst e'
        rw [hK (by rw [q]; simp)] at e; cases e)
    have hM : Mod K mg (hidT s₁.heap H) := ⟨hKb, nsK hns, ⟨mb, nsK hb, hbb⟩, let ⟨mc, h1, h2⟩ := hlim; ⟨mc, nsK h1, h2⟩⟩
    have e0 : Env0 P w K mg (hidT s₁.heap H) callerA [] s₁ H := ⟨rfl, hM, fun b o e => of_hidT e, Nat.le_of_eq (hidT_size _ _), trivial, fun b hb => absurd (show b ∈ ([] : List Addr) from hb) (by simp), hok, .of_eq hg⟩
    refine codeAny_mono ((F _ hKb (nsK hns)).run callerA [] s₁ H ⟨[.ref a], []⟩ [.ref a] [.ref a] _ _ hr e0 (hbind s₁ (.ref a)) (.cons rfl .nil) (hsp H hO hS)) fun r s' h => ?_
    cases r with
    | error e => exact (hCX H e s' h).elim
    | ok fl =>
      cases fl with
      | next => exact False.elim h
      | brk => exact False.elim h
      | cont => exact False.elim h
      | ret u =>
        obtain ⟨v, H', os, bare, un, hok', r', q⟩ := h
        have q' : v = .bl true := q
        subst q'
        obtain rfl : u = Value.bool true := r'
        refine ⟨rfl, OldK.of_keep fun b o e => ?_, os, bare⟩
        cases q : H b with
        | none => exact un.keep b o e q (by intro z; exact absurd (show b ∈ ([] : List Addr) from z) (by simp)) (by simp)
        | some u =>
          rcases hO b with z | ⟨ob, xs, z⟩
          · rw [q] at z; cases z
          · have z2 := un.frzs b ob _ z
            obtain ⟨e1, _⟩ := hok b _ z
            obtain ⟨e2, _⟩ := hok' b _ z2
            rw [e] at e1; cases e1
            exact e2
  cases hk : K.lookup a with
  | some o =>
    -- the script is one of the module's own objects
    have e := KX a o hk
    rw [ha] at e
    cases e
    refine core (fun _ => none) (fun _ => .inl rfl) (.inr ⟨_, vs.toArray, _, hk, rfl, rfl, rfl, by rw [List.size_toArray, lenV]; exact hl, by simpa using rv⟩) (fun b u z => by have z' : (none : Option HO) = some u := z; cases z') (fun b z => absurd rfl z) fun z => absurd rfl z
  | none =>
    refine core (fun b => if b = a then some (.frz { cls := .type "list", data := .seq vs.toArray } (.lst (ns.map V.int))) else none) (fun b => ?_) (.inl (.inr ⟨{ cls := .type "list", data := .seq vs.toArray }, if_pos rfl⟩)) (fun b u z => ?_) (fun b z => ?_) fun _ => hk
    · by_cases hb : b = a
      · exact .inr ⟨_, _, if_pos hb⟩
      · exact .inl (if_neg hb)
    · by_cases hb : b = a
      · have z' := (if_pos hb).symm.trans z
        cases z'
        subst hb
        exact ⟨ha, by rw [List.length_map]; exact hl, vs, _, rv, ha⟩
      · have z' := (if_neg hb).symm.trans z
        cases z'
    · by_cases hb : b = a
      · exact hb
      · exact absurd (if_neg hb) z
end L2
namespace L2
open PySem PySem.Spec PyProof.Rows
variable {q0 : Bool}
abbrev KOf {K : PySem.W.Frag} {h : Heap} (_ : K.In h) : PySem.W.Frag := K
theorem walk_of {l : PySem.W.OpenLaw} {n k : Nat} {q : Program} {loose : List Str} {XP : (Str → Option Value) → Heap → Prop} {YP : World → Heap → Prop} {d : DefRec} {K : Params → PySem.W.Frag} {CX : World → CXT} {sp : World → Sp} {x : Str}
    (hn : l.most = some n) (hn2 : n ≤ sizeLine) (hdf : d.params.defaults = []) (hr : Room q0 k callerA)
    (hY : ∀ (w : World) (h : Heap), YP w h → (K w.params).In h)
    (F : ∀ (w : World) (mg : Str → Option Value) (fa : Addr) (h : Heap), (K w.params).In h → h.Ns mainGlobals mg → mg d.name = some (.ref fa) →
      ∃ fd : FuncData, (∀ (s : Shared) (u : Value), BindsTo s fd ⟨[u], []⟩ [(x, u)]) ∧
        ∀ base : Heap, (K w.params).In base → base.Ns mainGlobals mg → FnOk q0 l.prog w (K w.params) mg base (CX w) k fa fd [x] (sp w))
    (hsp : ∀ (w : World) (H : Hp) (a : Addr) (ns : List Int), ns.length ≤ n → Only H → SqL (K w.params) H a (ns.map V.int) → sp w [.ref a] H (fun v _ => v = .bl true) fun _ _ _ => False)
    (hCX : ∀ (w : World) (H : Hp) (s : Shared) (e : Value) (s' : Shared), CX w [] H s (fun _ _ _ => False) e s' → False) :
    PySem.W.WalkO q loose XP YP l.row.toRowW d [] (fun f vs => PySem.call f vs) := by
  refine Att.attach_call hn hdf fun w s₀ s₁ mg mb fa o pm cd doc a vs ns G Y ho hd hcd hmg hobj hints hlen hg => ?_
  have KX := hY w _ Y
  obtain ⟨fd, hb, hF⟩ := F w mg fa _ KX G.T.g hmg
  exact law_call KX G.T.g G.T.b G.T.builtins G.T.nolimit hg hobj hints (Nat.le_trans hlen hn2) hr hF hb (fun H hO hS => hsp w H a ns hlen hO hS) fun H e s' => hCX w H s₁ e s'
end L2
namespace L2
open PySem PySem.Spec PyProof.Rows
variable {q0 : Bool}
def inClass (s : Stmt) (j : Nat) : Stmt := match s with
  | .ClassDef _ _ _ body _ _ _ _ _ _ _ => body.getD j (.Pass ⟨0, 0, 0, 0⟩)
  | _ => .Pass ⟨0, 0, 0, 0⟩
def defArgs (s : Stmt) : Arguments := match s with
  | .FunctionDef _ a _ _ _ _ _ _ _ _ => a
  | _ => { posonlyargs := [], args := [], vararg := none, kwonlyargs := [], kw_defaults := [], kwarg := none, defaults := [] }
def defBody (s : Stmt) : List Stmt := match s with
  | .FunctionDef _ _ b _ _ _ _ _ _ _ => b
  | _ => []
def defScope (s : Stmt) : Scope := match s with
  | .FunctionDef _ _ _ _ _ _ sc _ _ _ => sc
  | _ => { kind := .function, names := [], isGenerator := false, isCoroutine := false }
abbrev CX0 : CXT := fun _ _ _ _ _ _ => False
structure Fun (K : PySem.W.Frag) (x qual : Str) (st : Stmt) (f : Addr) (fd : FuncData) : Prop where
  ex : ∃ (oc : Value) (od : Option Addr) (kV doc pm : Value) (an : Option Addr) (cdv ct : Value) (osl : Array (Option Value)),
    fd = PySem.W.fnOf x qual (defArgs st) (defBody st) (defScope st) .none kV doc pm an cdv ct ∧ K.lookup f = some ⟨oc, od, .func fd, osl⟩ ∧ PySem.W.codeIn K cdv qual = true
  kp : PySem.W.keepIn K (.ref f) = true
section
variable {P : Program} {w : World} {K : PySem.W.Frag} {mg : Str → Option Value} {base : Heap}
theorem Fun.ok {x qual : Str} {st : Stmt} {f : Addr} {fd : FuncData} {N ps : List Str} {k : Nat} {sp : Sp} (F : Fun K x qual st f fd) (S : FnScope N ps (defScope st)) (len : ∀ vs H Q E, sp vs H Q E → vs.length = ps.length)
    (hbody : ∀ (cdv : Value) (A : Around) (outer : List Env) (s : Shared) (H : Hp) (vs : List V) (Q : VK) (E : XK), Room q0 k (A.deeper (envOfC qual (defScope st) s.heap.objs.size f cdv)) → sp vs H Q E →
      ∃ t, PSs (cxOf q0 CX0 P w K mg base N qual (defScope st) f cdv A outer s H E).nox (defBody st) t ∧ t { nx := fun _ H' => Q .non H', rt := Q } (start N vs) H) : FnOk q0 P w K mg base CX0 (k + 1) f fd ps sp := by
  obtain ⟨oc, od, kV, doc, pm, an, cdv, ct, osl, rfl, lk, hcd⟩ := F.ex
  refine fn_of lk hcd S len fun A outer s H vs Q E hr hsp => ?_
  obtain ⟨t, h, q⟩ := hbody cdv A outer s H vs Q E hr hsp
  exact ⟨t, h.nox, q⟩
theorem Fun.binds {x qual : Str} {st : Stmt} {f : Addr} {fd : FuncData} {ps : List Str} (F : Fun K x qual st f fd)
    (h : ∀ (kV doc pm : Value) (an : Option Addr) (cdv ct : Value) (us : List Value), us.length = ps.length → bindArgs (PySem.W.fnOf x qual (defArgs st) (defBody st) (defScope st) .none kV doc pm an cdv ct) ⟨us, []⟩ = pure (ps.zip us)) : Binds K fd ps [] := by
  obtain ⟨oc, od, kV, doc, pm, an, cdv, ct, osl, rfl, lk, hcd⟩ := F.ex
  exact .all (h kV doc pm an cdv ct)
theorem fun_mk {x qual : Str} {st : Stmt} {f : Addr} {oc : Value} {od an : Option Addr} {osl : Array (Option Value)} {kV doc pm cdv ct : Value} (l : K.lookup f = some ⟨oc, od, .func (PySem.W.fnOf x qual (defArgs st) (defBody st) (defScope st) .none kV doc pm an cdv ct), osl⟩)
    (c : PySem.W.codeIn K cdv qual = true) (k : PySem.W.keepIn K (.ref f) = true) : Fun K x qual st f (PySem.W.fnOf x qual (defArgs st) (defBody st) (defScope st) .none kV doc pm an cdv ct) := ⟨⟨oc, od, kV, doc, pm, an, cdv, ct, osl, rfl, l, c⟩, k⟩
end
theorem hu_of {A : Around} {k : Nat} (hr : Room q0 k A) : A.units + 1 < cLine := Nat.lt_of_le_of_lt (Nat.add_le_add_left (by decide : 1 ≤ 64) _) hr.units
section
variable {X : Cx}
theorem pv (i : Nat) {x : Str} {pos : Pos} (hN : X.N[i]? = some x := by rfl) (hv : Vis X.env.scope x := by first | exact Or.inl rfl | exact Or.inr (Or.inl rfl) | exact Or.inr (Or.inr rfl)) (hd : (x == ("__debug__" : Str)) = false := by decide)
    (hcd : (x == ("__classdict__" : Str)) = false := by decide) : PE X (.Name x pos) (tVar i) := pe_var hN hv hd hcd
end
theorem iteF {A B : Prop} (h : B) : if false = true then A else B := by
  rw [if_neg Bool.false_ne_true]
  exact h
theorem iteT {A B : Prop} (h : A) : if true = true then A else B := by
  rw [if_pos rfl]
  exact h
theorem ite2 {c A B : Prop} [Decidable c] (h1 : c → A) (h2 : ¬ c → B) : if c then A else B := by
  by_cases h : c
  · rw [if_pos h]
    exact h1 h
  · rw [if_neg h]
    exact h2 h
def Same (H H' : Hp) : Prop := ∀ b o, H b = some o → H' b = some o
theorem Same.refl (H : Hp) : Same H H := fun _ _ h => h
theorem Same.trans {H H1 H2 : Hp} (a : Same H H1) (b : Same H1 H2) : Same H H2 := fun c o h => b c o (a c o h)
theorem Same.free {H H' : Hp} (e : Same H H') {l : Addr} (h : H' l = Option.none) : H l = Option.none := by
  cases q : H l with
  | none => rfl
  | some o =>
    rw [e l o q] at h
    cases h
theorem Same.seq {K : PySem.W.Frag} {H H' : Hp} {a : Addr} {xs : List V} (e : Same H H') (h : SqL K H a xs) : SqL K H' a xs := by
  rcases h with (h | ⟨o, h⟩) | h
  · exact .inl (.inl (e _ _ h))
  · exact .inl (.inr ⟨o, e _ _ h⟩)
  · exact .inr h
end L2
namespace Srt
open PySem PySem.W PyProof.Rows
abbrev CM := Nat → Nat → (Bool → Shared → Prop) → Shared → Prop
abbrev g (p : Array Nat) (i : Nat) : Nat := p.getD i 0
structure Ord (n : Nat) (lt : Nat → Nat → Bool) : Prop where
  irr : ∀ i, i < n → lt i i = false
  tr : ∀ i j k, i < n → j < n → k < n → lt i j = true → lt j k = true → lt i k = true
  tot : ∀ i j, i < n → j < n → i ≠ j → lt i j = false → lt j i = true
def Cmp (n : Nat) (lt : Nat → Nat → Bool) (cmp : CM) (s : Shared) : Prop := ∀ i j, i < n → j < n → ∀ Q : Bool → Shared → Prop, Q (lt i j) s → cmp i j Q s
theorem wp_ret {α : Type} {cmp : CM} {a : α} {Q : α → Shared → Prop} {s : Shared} (h : Q a s) : KasT.kasWp cmp (.ret a) Q s := h
theorem wp_ask {α : Type} {cmp : CM} {i j : Nat} {k : Bool → KasT α} {Q : α → Shared → Prop} {s : Shared} (h : cmp i j (fun c s' => KasT.kasWp cmp (k c) Q s') s) : KasT.kasWp cmp (.ask i j k) Q s := h
theorem asc_0 {p : Array Nat} {n : Nat} : kas_asc p 0 n = .ret n := by unfold kas_asc; rfl
theorem asc_s {p : Array Nat} {f n : Nat} : kas_asc p (f + 1) n = .ask (p.getD n 0) (p.getD (n - 1) 0) fun c => if c = true then .ret n else kas_asc p f (n + 1) := by rw [kas_asc]
theorem bin_0 {p : Array Nat} {k : Nat} : kas_bin 0 p k = .ret p := by unfold kas_bin; rfl
theorem bin_s {f : Nat} {p : Array Nat} {k : Nat} : kas_bin (f + 1) p k = (kas_place p k k 0 k).bind fun l => kas_bin f (bubble p k (k - l)) (k + 1) := by rw [kas_bin]
theorem place_0 {p : Array Nat} {k l r : Nat} : kas_place p k 0 l r = .ret l := by unfold kas_place; rfl
theorem place_s {p : Array Nat} {k f l r : Nat} : kas_place p k (f + 1) l r = if l ≥ r then .ret l else .ask (p.getD k 0) (p.getD ((l + r) / 2) 0) fun c => if c = true then kas_place p k f l ((l + r) / 2) else kas_place p k f ((l + r) / 2 + 1) r := by rw [kas_place]
theorem desc_0 {p : Array Nat} {k l : Nat} : kas_desc 0 p k l = .ret (p, k, l) := by unfold kas_desc; rfl
theorem desc_s {f : Nat} {p : Array Nat} {k l : Nat} : kas_desc (f + 1) p k l = .ask (p.getD k 0) (p.getD (k - 1) 0) fun c => if c = true then (if l > 0 then kas_desc f (kas_rev p (k - (l + 1)) k) (k + 1) 0 else kas_desc f p (k + 1) 0) else .ask (p.getD (k - 1) 0) (p.getD k 0) fun d => if d = true then .ret (p, k, l) else kas_desc f p (k + 1) (l + 1) := by rw [kas_desc]
section
variable {n : Nat} {lt : Nat → Nat → Bool} {cmp : CM} {s : Shared}
structure Arr (n : Nat) (p : Array Nat) : Prop where
  sz : p.size = n
  lt : ∀ i, i < n → g p i < n
  inj : ∀ i j, i < n → j < n → g p i = g p j → i = j
  pm : p.Perm (List.range n).toArray
theorem g_at {p : Array Nat} {i : Nat} {v : Nat} (h : p[i]? = some v) : g p i = v := by
  show p.getD i 0 = v
  rw [Array.getD_eq_getD_getElem?, h]
  rfl
theorem Arr.at {p : Array Nat} (a : Arr n p) {i : Nat} (h : i < n) : p[i]? = some (g p i) := by
  have z : i < p.size := by rw [a.sz]; exact h
  have e : p[i]? = some p[i] := Array.getElem?_eq_getElem z
  rw [e, g_at e]
def Srtd (lt : Nat → Nat → Bool) (p : Array Nat) (m : Nat) : Prop := ∀ i j, i < j → j < m → lt (g p i) (g p j) = true
theorem srt_adj (o : Ord n lt) {p : Array Nat} (a : Arr n p) {m : Nat} (hm : m ≤ n) (h : ∀ i, 1 ≤ i → i < m → lt (g p (i - 1)) (g p i) = true) : Srtd lt p m := by
  intro i j hij hj
  obtain ⟨d, rfl⟩ : ∃ d, j = i + 1 + d := ⟨j - (i + 1), by omega⟩
  induction d with
  | zero => exact h (i + 1) (by omega) hj
  | succ d ih =>
    have h1 := ih (by omega) (by omega)
    have h2 := h (i + 1 + (d + 1)) (by omega) hj
    exact o.tr _ _ _ (a.lt _ (by omega)) (a.lt _ (by omega)) (a.lt _ (by omega)) h1 h2
theorem asc_wp (c : Cmp n lt cmp s) {p : Array Nat} (a : Arr n p) {G : Nat → Shared → Prop} : ∀ (f k : Nat), 1 ≤ k → k + f ≤ n →
    (∀ m, k ≤ m → m ≤ k + f → (∀ i, k ≤ i → i < m → lt (g p i) (g p (i - 1)) = false) → (m < k + f → lt (g p m) (g p (m - 1)) = true) → G m s) → KasT.kasWp cmp (kas_asc p f k) G s
  | 0, k, h1, hf, hG => by
    rw [asc_0]
    exact wp_ret (hG k (Nat.le_refl _) (by omega) (fun i h h' => by omega) (fun h => by omega))
  | f + 1, k, h1, hf, hG => by
    rw [asc_s]
    refine wp_ask (c _ _ (a.lt k (by omega)) (a.lt (k - 1) (by omega)) _ ?_)
    cases e : lt (g p k) (g p (k - 1)) with
    | true =>
      exact wp_ret (hG k (Nat.le_refl _) (by omega) (fun i h h' => by omega) (fun _ => e))
    | false =>
      show KasT.kasWp cmp (kas_asc p f (k + 1)) G s
      refine asc_wp c a f (k + 1) (by omega) (by omega) fun m hm hm2 h3 h4 => hG m (by omega) (by omega) (fun i hi hi2 => ?_) (fun h => h4 (by omega))
      by_cases z : i = k
      · rw [z]; exact e
      · exact h3 i (by omega) hi2
theorem desc_wp (o : Ord n lt) (c : Cmp n lt cmp s) {p : Array Nat} (a : Arr n p) {G : Array Nat × Nat × Nat → Shared → Prop} : ∀ (f k : Nat), 1 ≤ k → k + f ≤ n →
    (∀ m, k ≤ m → m ≤ k + f → (∀ i, k ≤ i → i < m → lt (g p i) (g p (i - 1)) = true) → G (p, m, 0) s) → KasT.kasWp cmp (kas_desc f p k 0) G s
  | 0, k, h1, hf, hG => by
    rw [desc_0]
    exact wp_ret (hG k (Nat.le_refl _) (by omega) (fun i h h' => by omega))
  | f + 1, k, h1, hf, hG => by
    rw [desc_s]
    refine wp_ask (c _ _ (a.lt k (by omega)) (a.lt (k - 1) (by omega)) _ ?_)
    cases e : lt (g p k) (g p (k - 1)) with
    | true =>
      show KasT.kasWp cmp (kas_desc f p (k + 1) 0) G s
      refine desc_wp o c a f (k + 1) (by omega) (by omega) fun m hm hm2 h3 => hG m (by omega) (by omega) fun i hi hi2 => ?_
      by_cases z : i = k
      · rw [z]; exact e
      · exact h3 i (by omega) hi2
    | false =>
      refine wp_ask (c _ _ (a.lt (k - 1) (by omega)) (a.lt k (by omega)) _ ?_)
      have ne : g p k ≠ g p (k - 1) := fun z => by have := a.inj _ _ (by omega) (by omega) z; omega
      rw [show lt (p.getD (k - 1) 0) (p.getD k 0) = true from o.tot _ _ (a.lt k (by omega)) (a.lt (k - 1) (by omega)) ne e]
      exact wp_ret (hG k (Nat.le_refl _) (by omega) (fun i h h' => by omega))
theorem Arr.rev {p : Array Nat} (a : Arr n p) {k : Nat} (hk : k ≤ n) : Arr n (kas_rev p 0 k) ∧ ∀ i, i < n → g (kas_rev p 0 k) i = if i < k then g p (k - 1 - i) else g p i := by
  have ge : ∀ i, i < n → g (kas_rev p 0 k) i = if i < k then g p (k - 1 - i) else g p i := fun i hi => by
    have z := getElem?_mirror_all (xs := p) (i := 0) (j := k) (by rw [a.sz]; exact hk) i
    by_cases c : i < k
    · rw [if_pos c]
      rw [if_pos ⟨Nat.zero_le _, c⟩, show 0 + k - 1 - i = k - 1 - i by omega, a.at (show k - 1 - i < n by omega)] at z
      exact g_at z
    · rw [if_neg c]
      rw [if_neg (fun w => c w.2), a.at hi] at z
      exact g_at z
  refine ⟨⟨by rw [kas_rev_size, a.sz], fun i hi => ?_, fun i j hi hj e => ?_, (mirror_perm _ _ _ _).trans a.pm⟩, ge⟩
  · rw [ge i hi]
    split <;> exact a.lt _ (by omega)
  · rw [ge i hi, ge j hj] at e
    split at e <;> split at e <;> have := a.inj _ _ (by omega) (by omega) e <;> omega
theorem count_wp (o : Ord n lt) (c : Cmp n lt cmp s) {p : Array Nat} (a : Arr n p) (h2 : 2 ≤ n) {G : Nat × Array Nat → Shared → Prop}
    (hG : ∀ m p', 1 ≤ m → m ≤ n → Arr n p' → Srtd lt p' m → G (m, p') s) : KasT.kasWp cmp (kas_count n p) G s := by
  unfold kas_count
  rw [KasT.kasWp_bind]
  have up : ∀ q, Arr n q → ∀ i, 1 ≤ i → i < n → lt (g q i) (g q (i - 1)) = false → lt (g q (i - 1)) (g q i) = true := fun q b i h1 hi e =>
    o.tot _ _ (b.lt i hi) (b.lt (i - 1) (by omega)) (fun z => by have := b.inj _ _ hi (by omega) z; omega) e
  refine asc_wp c a (n - 1) 1 (Nat.le_refl _) (by omega) fun m hm hm2 h3 h4 => ?_
  have sm : Srtd lt p m := srt_adj o a (by omega) fun i hi hi2 => up p a i hi (by omega) (h3 i hi hi2)
  show KasT.kasWp cmp (if (m == n) = true then _ else _) G s
  by_cases e1 : m = n
  · rw [if_pos (by simpa using e1)]
    exact wp_ret (hG m p hm (by omega) a sm)
  · rw [if_neg (by simpa using e1)]
    by_cases e2 : m > 1
    · rw [if_pos e2]
      refine wp_ask (c _ _ (a.lt 0 (by omega)) (a.lt (m - 1) (by omega)) _ ?_)
      rw [show lt (p.getD 0 0) (p.getD (m - 1) 0) = true from sm 0 (m - 1) (by omega) (by omega)]
      exact wp_ret (hG m p hm (by omega) a sm)
    · rw [if_neg e2]
      have m1 : m = 1 := by omega
      subst m1
      have d1 := h4 (by omega)
      unfold kas_descPart
      rw [KasT.kasWp_bind]
      refine desc_wp o c a (n - (1 + 1)) (1 + 1) (by omega) (by omega) fun k hk hk2 h5 => ?_
      show KasT.kasWp cmp (if (0 : Nat) > 0 then _ else kas_tail3 k n p) G s
      rw [if_neg (Nat.lt_irrefl 0)]
      unfold kas_tail3
      rw [KasT.kasWp_bind]
      obtain ⟨b, ge⟩ := a.rev (k := k) (by omega)
      refine asc_wp c b (n - k) k (by omega) (by omega) fun m' hm' hm2' h6 _ => ?_
      refine wp_ret (hG m' _ (by omega) (by omega) b (srt_adj o b (by omega) fun i hi hi2 => ?_))
      by_cases ik : i < k
      · rw [ge i (by omega), ge (i - 1) (by omega), if_pos ik, if_pos (by omega)]
        have e3 : k - 1 - (i - 1) - 1 = k - 1 - i := by omega
        by_cases z : k - 1 - (i - 1) = 1
        · have z' : k - 1 - i = 0 := by omega
          rw [z, z']
          exact d1
        · have := h5 (k - 1 - (i - 1)) (by omega) (by omega)
          rw [e3] at this
          exact this
      · exact up _ b i hi (by omega) (h6 i (by omega) hi2)
theorem place_wp (o : Ord n lt) (c : Cmp n lt cmp s) {p : Array Nat} (a : Arr n p) {k : Nat} (hk : k < n) (sk : Srtd lt p k) {G : Nat → Shared → Prop} : ∀ (f l r : Nat), l ≤ r → r ≤ k → r - l ≤ f →
    (∀ j, j < l → lt (g p k) (g p j) = false) → (∀ j, r ≤ j → j < k → lt (g p k) (g p j) = true) →
    (∀ m, m ≤ k → (∀ j, j < m → lt (g p k) (g p j) = false) → (∀ j, m ≤ j → j < k → lt (g p k) (g p j) = true) → G m s) → KasT.kasWp cmp (kas_place p k f l r) G s
  | 0, l, r, h1, h2, h3, lo, hi, hG => by
    rw [place_0]
    exact wp_ret (hG l (by omega) lo fun j hj hj2 => hi j (by omega) hj2)
  | f + 1, l, r, h1, h2, h3, lo, hi, hG => by
    rw [place_s]
    by_cases e : l ≥ r
    · rw [if_pos e]
      exact wp_ret (hG l (by omega) lo fun j hj hj2 => hi j (by omega) hj2)
    · rw [if_neg e]
      have m1 : (l + r) / 2 < r := by omega
      have m2 : l ≤ (l + r) / 2 := by omega
      refine wp_ask (c _ _ (a.lt k hk) (a.lt _ (by omega)) _ ?_)
      cases e2 : lt (g p k) (g p ((l + r) / 2)) with
      | true =>
        show KasT.kasWp cmp (kas_place p k f l ((l + r) / 2)) G s
        refine place_wp o c a hk sk f l _ m2 (by omega) (by omega) lo (fun j hj hj2 => ?_) hG
        by_cases z : j = (l + r) / 2
        · rw [z]; exact e2
        · exact o.tr _ _ _ (a.lt k hk) (a.lt _ (by omega)) (a.lt _ (by omega)) e2 (sk _ _ (by omega) hj2)
      | false =>
        show KasT.kasWp cmp (kas_place p k f ((l + r) / 2 + 1) r) G s
        refine place_wp o c a hk sk f _ r (by omega) h2 (by omega) (fun j hj => ?_) hi hG
        by_cases z : j = (l + r) / 2
        · rw [z]; exact e2
        · cases e3 : lt (g p k) (g p j) with
          | false => rfl
          | true =>
            have := o.tr _ _ _ (a.lt k hk) (a.lt _ (by omega)) (a.lt _ (by omega)) e3 (sk j ((l + r) / 2) (by omega) (by omega))
            rw [e2] at this
            cases this
theorem Arr.bub {p : Array Nat} (a : Arr n p) {k m : Nat} (hk : k < n) (hm : m ≤ k) : Arr n (bubble p k (k - m)) ∧ ∀ i, i < n → g (bubble p k (k - m)) i = if i = m then g p k else if m < i ∧ i ≤ k then g p (i - 1) else g p i := by
  have ge : ∀ i, i < n → g (bubble p k (k - m)) i = if i = m then g p k else if m < i ∧ i ≤ k then g p (i - 1) else g p i := fun i hi => by
    have z := getElem?_bubble (xs := p) (src := k) (by rw [a.sz]; exact hk) (k - m) (by omega) i
    rw [show k - (k - m) = m by omega] at z
    by_cases c : i = m
    · rw [if_pos c]
      rw [if_pos c, a.at hk] at z
      exact g_at z
    · rw [if_neg c]
      rw [if_neg c] at z
      by_cases d : m < i ∧ i ≤ k
      · rw [if_pos d]
        rw [if_pos d, a.at (show i - 1 < n by omega)] at z
        exact g_at z
      · rw [if_neg d]
        rw [if_neg d, a.at hi] at z
        exact g_at z
  refine ⟨⟨by rw [bubble_size, a.sz], fun i hi => ?_, fun i j hi hj e => ?_, (bubble_perm _ _ _).trans a.pm⟩, ge⟩
  · rw [ge i hi]
    split
    · exact a.lt _ hk
    · split <;> exact a.lt _ (by omega)
  · rw [ge i hi, ge j hj] at e
    split at e <;> (try split at e) <;> (try split at e) <;> (try split at e) <;> first | omega | (have := a.inj _ _ (by omega) (by omega) e; omega)
theorem bin_wp (o : Ord n lt) (c : Cmp n lt cmp s) {G : Array Nat → Shared → Prop} : ∀ (f k : Nat) (p : Array Nat), k + f = n → Arr n p → Srtd lt p k → (∀ p', Arr n p' → Srtd lt p' n → G p' s) → KasT.kasWp cmp (kas_bin f p k) G s
  | 0, k, p, h, a, sk, hG => by
    rw [bin_0]
    have : k = n := by omega
    subst this
    exact wp_ret (hG p a sk)
  | f + 1, k, p, h, a, sk, hG => by
    have hk : k < n := by omega
    rw [bin_s, KasT.kasWp_bind]
    refine place_wp o c a hk sk k 0 k (Nat.zero_le _) (Nat.le_refl _) (by omega) (fun j hj => by omega) (fun j hj hj2 => by omega) fun m hm lo hi => ?_
    obtain ⟨b, ge⟩ := a.bub hk hm
    refine bin_wp o c f (k + 1) _ (by omega) b (fun i j hij hj => ?_) hG
    have inS : ∀ i, i < m → lt (g p i) (g p k) = true := fun i hi' => o.tot _ _ (a.lt k hk) (a.lt i (by omega)) (fun z => by have := a.inj _ _ hk (by omega) z; omega) (lo i hi')
    have g1 : ∀ i, i < n → i = m → g (bubble p k (k - m)) i = g p k := fun i hi z => by rw [ge i hi, if_pos z]
    have g2 : ∀ i, i < n → m < i → i ≤ k → g (bubble p k (k - m)) i = g p (i - 1) := fun i hi z z2 => by rw [ge i hi, if_neg (by omega), if_pos ⟨z, z2⟩]
    have g3 : ∀ i, i < n → i < m → g (bubble p k (k - m)) i = g p i := fun i hi z => by rw [ge i hi, if_neg (by omega), if_neg (by omega)]
    by_cases j1 : j = m
    · rw [g1 j (by omega) j1, g3 i (by omega) (by omega)]
      exact inS i (by omega)
    · by_cases i1 : i = m
      · rw [g1 i (by omega) i1, g2 j (by omega) (by omega) (by omega)]
        exact hi (j - 1) (by omega) (by omega)
      · by_cases j2 : m < j
        · rw [g2 j (by omega) j2 (by omega)]
          by_cases i2 : m < i
          · rw [g2 i (by omega) i2 (by omega)]
            exact sk _ _ (by omega) (by omega)
          · rw [g3 i (by omega) (by omega)]
            by_cases z : i = j - 1
            · omega
            · exact sk _ _ (by omega) (by omega)
        · rw [g3 j (by omega) (by omega), g3 i (by omega) (by omega)]
          exact sk _ _ hij (by omega)
theorem arr_range : Arr n (List.range n).toArray := by
  have e : ∀ i, i < n → g (List.range n).toArray i = i := fun i hi => g_at (by rw [List.getElem?_toArray, List.getElem?_range hi])
  exact ⟨by simp, fun i hi => by rw [e i hi]; exact hi, fun i j hi hj z => by rw [e i hi, e j hj] at z; exact z, Array.Perm.refl _⟩
theorem sort_wp (o : Ord n lt) (c : Cmp n lt cmp s) (h2 : 2 ≤ n) {G : Array Nat → Shared → Prop} (hG : ∀ p, Arr n p → Srtd lt p n → G p s) : KasT.kasWp cmp (kas_sort n) G s := by
  unfold kas_sort
  rw [KasT.kasWp_bind]
  refine count_wp o c arr_range h2 fun m p hm hm2 a sm => ?_
  show KasT.kasWp cmp (if m < n then _ else _) G s
  by_cases e : m < n
  · rw [if_pos e]
    show KasT.kasWp cmp (kas_bin (n - max m 1) p (max m 1)) G s
    rw [Nat.max_eq_left hm]
    exact bin_wp o c (n - m) m p (by omega) a sm hG
  · rw [if_neg e]
    have : m = n := by omega
    subst this
    exact wp_ret (hG p a sm)
end
end Srt
set_option maxRecDepth 100000
namespace XL
open PySem
def Xat (h : Heap) (e : Addr) (cls : Value) (od tb : Option Addr) : Prop :=
  ∃ oe vs, h.get? e = some oe ∧ oe.cls = cls ∧ oe.dict = od ∧ oe.data = .fields vs ∧ 1 < vs.size ∧
    ((tb = none ∧ vs[1]? = some Value.none) ∨ ∃ T oT ts, tb = some T ∧ vs[1]? = some (.ref T) ∧ T ≠ e ∧ h.get? T = some oT ∧ oT.data = .fields ts ∧ ts[3]? = some Value.none)
structure Stp (fs : List Addr) (e : Addr) (tb : Option Addr) (h h' : Heap) : Prop where
  keep : ∀ b o, h.get? b = some o → b ≠ e → tb ≠ some b → b ∉ fs → h'.get? b = some o
  slot : ∀ b o, h.get? b = some o → b ∈ fs → ∃ sl, h'.get? b = some { o with slots := sl }
abbrev frsOf (l : List Env) : List Addr := l.filterMap (·.frame)
theorem dict_mapF (o : Obj) (f : Array Value → Array Value) : (o.mapFields f).dict = o.dict := by
  obtain ⟨c, d, dt, sl⟩ := o
  cases dt <;> rfl
section
variable {M : Model} {A : Around} {E : Value → Shared → Prop} {s : Shared}
theorem entry_x {base : Heap} {env : Env} {outer : List Env} {L e : Addr} {oe : Obj} {vs : Array Value} {hd : Value} {nx : Bool} {cls : Value} {od tb : Option Addr} {g : Heap} {Q : Unit → Shared → Prop}
    (fr : A.frames = some (env :: outer)) (ff : s.heap.FunFrames base (env :: outer)) (fL : env.frame = some L)
    (ge : s.heap.get? e = some oe) (de : oe.data = .fields vs) (se : 1 < vs.size) (ce : oe.cls = cls) (oo : oe.dict = od)
    (st : Stp (frsOf (env :: outer)) e tb g s.heap) (sz : g.objs.size ≤ s.heap.objs.size)
    (k : ∀ h' T, Stp (frsOf (env :: outer)) e tb g h' → g.objs.size ≤ T → Xat h' e cls od (some T) → Q () { s with heap := h' }) :
    wpAny M A (do let a ← frameOf env; let pl ← entryPlaceOf L nx; let b ← EntryCells.newEntry hd a .none (rawInt L) .none pl; setField (.ref e) 1 b) (fun _ s' => wpAny M A (setFlight (.ref e) none) Q E s') E s := by
  have nef : e ∉ frsOf (env :: outer) := fun hm => by
    obtain ⟨_, o, ho, hnf⟩ := ff.mem hm
    have z := ge.symm.trans ho
    cases z
    exact hnf vs de
  refine wpAny_bind (wpAny_frameOf_fun fr ff fL fun h1 so => ?_)
  refine wpAny_bind (wpAny_entryPlaceOf fun pl ip => ?_)
  unfold EntryCells.newEntry newFields
  refine wpAny_bind (wpAny_newObj_type ?_ (ip.sizeOk5 _ _ _ _ _))
  have e1 : h1.get? e = some oe := (so.2.1 e nef).trans ge
  generalize eT : ({ cls := .type "traceback", dict := none, data := .fields ([hd, .ref L, .none, rawInt L, .none] ++ (if pl.isEmpty then List.replicate 6 Value.none else pl)).toArray } : Obj) = oT
  have dT : oT.data = .fields ([hd, .ref L, .none, rawInt L, .none] ++ (if pl.isEmpty then List.replicate 6 Value.none else pl)).toArray := by rw [← eT]
  have fT : oT.isFreed = false := by rw [← eT]; rfl
  have e2 : (h1.push oT).get? e = some oe := Heap.get?_push_of_some oT e1
  refine wpAny_setField e2 de se ?_
  have nTe : h1.objs.size ≠ e := Nat.ne_of_gt (Heap.lt_size e1)
  have d3 := Obj.data_mapFields de (·.setIfInBounds 1 (Value.ref h1.objs.size))
  have e3 := Heap.get?_update_self (Obj.mapFields (·.setIfInBounds 1 (Value.ref h1.objs.size))) e2 (Obj.isFreed_of_fields d3)
  have T3 : ((h1.push oT).update e (Obj.mapFields (·.setIfInBounds 1 (Value.ref h1.objs.size)))).get? h1.objs.size = some oT :=
    (Heap.get?_update_other (h1.push oT) _ (Ne.symm nTe)).trans (Heap.get?_push_size h1 fT)
  unfold setFlight
  refine wpAny_bind (wpAny_field e3 d3 (x := .ref h1.objs.size) (by simp [se]) ?_)
  rw [if_pos (show (Value.ref h1.objs.size != Value.none) = true from by simp)]
  refine wpAny_setField T3 dT (by simp only [List.size_toArray, List.length_append, List.length_cons, List.length_nil] <;> omega) (k _ h1.objs.size ?_ ?_ ?_)
  · have go : ∀ b o, b ≠ e → h1.get? b = some o → (((h1.push oT).update e (Obj.mapFields (·.setIfInBounds 1 (Value.ref h1.objs.size)))).update h1.objs.size
        (Obj.mapFields (·.setIfInBounds 3 ((none : Option Addr).elim Value.none fun f => rawInt f)))).get? b = some o := fun b o be hb => by
      have bT : h1.objs.size ≠ b := Nat.ne_of_gt (Heap.lt_size hb)
      rw [Heap.get?_update_other _ _ bT, Heap.get?_update_other _ _ (Ne.symm be)]
      exact Heap.get?_push_of_some oT hb
    refine ⟨fun b o hb be bt bf => go b o be ((so.2.1 b bf).trans (st.keep b o hb be bt bf)), fun b o hb bf => ?_⟩
    obtain ⟨sl, h2⟩ := st.slot b o hb bf
    obtain ⟨sl2, h3⟩ := so.2.2 b _ h2
    exact ⟨sl2, go b _ (fun z => nef (z ▸ bf)) h3⟩
  · rw [so.1]; exact sz
  · refine ⟨_, _, ?_, (Obj.cls_mapFields _ _).trans ce, (dict_mapF _ _).trans oo, d3, by simp [se], .inr ⟨h1.objs.size, _, _, rfl, by simp [se], nTe, Heap.get?_update_self _ T3 (Obj.isFreed_of_fields (Obj.data_mapFields dT _)), Obj.data_mapFields dT _, ?_⟩⟩
    · rw [Heap.get?_update_other _ _ nTe]
      exact e3
    · first | (simp; done) | (rcases ip with rfl | ⟨_, _, _, _, _, _, _, rfl⟩ <;> simp)
theorem note_x {base : Heap} {env : Env} {outer : List Env} {L e : Addr} {cls : Value} {od tb : Option Addr} {Q : Unit → Shared → Prop}
    (fr : A.frames = some (env :: outer)) (ff : s.heap.FunFrames base (env :: outer)) (fL : env.frame = some L) (x : Xat s.heap e cls od tb)
    (k : ∀ h' T, Stp (frsOf (env :: outer)) e tb s.heap h' → s.heap.objs.size ≤ T → Xat h' e cls od (some T) → Q () { s with heap := h' }) :
    wpAny M A (noteFrame (.ref e) env) (fun _ s' => wpAny M A (setFlight (.ref e) none) Q E s') E s := by
  obtain ⟨oe, vs, ge, ce, oo, de, se, y⟩ := x
  unfold noteFrame
  simp only [fL]
  rcases y with ⟨rfl, h1⟩ | ⟨T, oT, ts, rfl, h1, nTe, gT, dT, h3⟩
  · refine wpAny_bind (wpAny_field ge de h1 ?_)
    rw [if_neg (by decide)]
    exact entry_x fr ff fL ge de se ce oo ⟨fun b o hb _ _ _ => hb, fun b o hb _ => ⟨o.slots, hb⟩⟩ (Nat.le_refl _) k
  · refine wpAny_bind (wpAny_field ge de h1 ?_)
    rw [if_pos (show (Value.ref T != Value.none) = true from by simp)]
    refine wpAny_bind (wpAny_field gT dT h3 ?_)
    rw [if_neg (show ¬ ((Value.none == rawInt L) = true) from by simp [rawInt])]
    refine wpAny_bind (wpAny_setField gT dT (Array.getElem?_eq_some_iff.mp h3).1 ?_)
    have ot : ∀ b, b ≠ T → (s.heap.update T (Obj.mapFields (·.setIfInBounds 3 Value.none))).get? b = s.heap.get? b := fun b hb => Heap.get?_update_other _ _ (Ne.symm hb)
    have nr : ∀ b o, s.heap.get? b = some o → (∀ vs, o.data ≠ .fields vs) → b ≠ T := fun b o hb hn q => by
      rw [q] at hb
      have z := gT.symm.trans hb
      cases z
      exact hn ts dT
    refine entry_x (g := s.heap) fr (ff.of_keeps fun b o hb hn => ⟨o, (ot b (nr b o hb hn)).trans hb, rfl⟩) fL ((ot e (Ne.symm nTe)).trans ge) de se ce oo
      ⟨fun b o hb _ bt _ => (ot b fun z => bt (congrArg some z.symm)).trans hb, fun b o hb bf => ⟨o.slots, ?_⟩⟩ (Nat.le_of_eq (Heap.size_after_update ..).symm) k
    · obtain ⟨_, o', ho', hn⟩ := ff.mem bf
      have z := hb.symm.trans ho'
      cases z
      exact (ot b (nr b _ hb hn)).trans hb
end
end XL
set_option maxRecDepth 100000
namespace XL
open PySem
section
variable {prog : Program} {w : World} {A : Around} {E : Value → Shared → Prop} {h : Heap} {g : Array GenState} {d : Drawn} {t : Nat} {os : OsState}
variable {nm qn : Str} {C N : Addr} {bs bm bmB : List Value} {hz : Bool} {sn : List Str} {sub : List Value} {ab : Bool} {col : Option Bool} {dd : Option Addr} {k0 k1 k2 k3 k5 : Option Value} {B ni ii : String}
theorem tcall_xinit (F : ExcBaseFacts B ni ii bmB) (T : OwnTail h bmB bm) {us : List Value} {fI : Addr} {oI : Obj} {Q : Fin → Shared → Prop}
    (gC : h.get? C = some (excClassObj nm qn C N bs bm hz sn sub ab col dd k0 k1 k2 k3 k5 ni))
    (hi : ∀ (A' : Around) (Q' : Option Value → Shared → Prop) (E' : Value → Shared → Prop) (s' : Shared), (∀ b o, h.get? b = some o → s'.heap.get? b = some o) → Q' (some (.ref fI)) s' → wpAny (model prog w) A' (typeLookup (.ref C) "__init__") Q' E' s')
    (gI : h.get? fI = some oI) (cI : oI.cls = .type "function") (lu : us.length ≤ sizeLine)
    (k : ∀ h' e, Heap.MadeExcOf h h' e (.ref C) us → h.objs.size ≤ e →
      wpAny (model prog w) A (call (.ref fI) (.ref e :: us)) (fun r s' => r = .none ∧ Q (.done (.ret (.ref e))) s') E ⟨h', g, d, t, os⟩) :
    wpAny (model prog w) A (Builtin.«type.__call__» ⟨.ref C :: us, []⟩) Q E ⟨h, g, d, t, os⟩ := by
  repeat (first | with_reducible refine wpAny_loadPart_at gC ?_ | with_reducible refine wpAny_madeBy_exc gC ?_ | wp_step)
  refine codeAny_call_builtin_code (Code.quiet_builtin _ F.quiet) (wpAny_check_new_subT F T gC ?_)
  refine codeAny_exc_new_subT F T gC ?_ lu
  show wpAny _ _ _ _ _ _
  generalize e1 : ({ cls := .type "tuple", data := .seq us.toArray } : Obj) = oT
  have fT : oT.isFreed = false := by rw [← e1]; rfl
  generalize e2 : ({ cls := .ref C, data := .fields #[.ref h.objs.size, .none, .none, .none, .bool false, .none] } : Obj) = oE
  have fE : oE.isFreed = false := by rw [← e2]; rfl
  have up : ∀ b o, h.get? b = some o → ((h.push oT).push oE).get? b = some o := fun b o q => Heap.get?_push_of_some oE (Heap.get?_push_of_some oT q)
  have gC' := up _ _ gC
  have gI' := up _ _ gI
  have gE : ((h.push oT).push oE).get? (h.objs.size + 1) = some oE := by
    have z := Heap.get?_push_size (h.push oT) fE
    rwa [Heap.size_push] at z
  have cE : oE.cls = .ref C := by rw [← e2]
  have me : (Value.ref C :: bm).contains (.ref C) = true := by simp
  unfold isInstance
  repeat (first | (with_reducible refine wpAny_loadPart_at gE ?_; rw [cE]) | (with_reducible refine wpAny_isSubtype_exc gC' ?_; rw [me]) | wp_step)
  show wpAny _ _ (typeLookup (.ref C) _) _ _ _
  refine hi _ _ _ _ up ?_
  refine wpAny_holding (wpAny_bind ?_)
  unfold bindSpecial
  refine wpAny_bind (wpAny_typeOf (T := "function") ⟨_, gI', cI⟩ ?_)
  rw [if_pos (by decide)]
  refine wpAny_pure (wpAny_bind (wpAny_mono (k _ (h.objs.size + 1) ⟨up, Heap.get?_none_of_le (Nat.le_succ _), h.objs.size, ?_, Heap.get?_none_of_le (Nat.le_refl _), ?_⟩ (Nat.le_succ _)) (fun r s' z => ?_) fun _ _ x => x))
  · rw [e2]; exact gE
  · rw [e1]; exact Heap.get?_push_of_some oE (Heap.get?_push_size h fT)
  · obtain ⟨rfl, z⟩ := z
    wp_walk
    exact z
theorem call_xinit (F : ExcBaseFacts B ni ii bmB) (T : OwnTail h bmB bm) {us : List Value} {fI : Addr} {oI : Obj} {Q : Value → Shared → Prop}
    (gC : h.get? C = some (excClassObj nm qn C N bs bm hz sn sub ab col dd k0 k1 k2 k3 k5 ni))
    (hi : ∀ (A' : Around) (Q' : Option Value → Shared → Prop) (E' : Value → Shared → Prop) (s' : Shared), (∀ b o, h.get? b = some o → s'.heap.get? b = some o) → Q' (some (.ref fI)) s' → wpAny (model prog w) A' (typeLookup (.ref C) "__init__") Q' E' s')
    (gI : h.get? fI = some oI) (cI : oI.cls = .type "function") (lu : us.length ≤ sizeLine)
    (k : ∀ h' e, Heap.MadeExcOf h h' e (.ref C) us → h.objs.size ≤ e →
      wpAny (model prog w) (A.under (.builtin "type.__call__" ⟨.ref C :: us, []⟩)) (call (.ref fI) (.ref e :: us)) (fun r s' => r = .none ∧ Q (.ref e) s') E ⟨h', g, d, t, os⟩) :
    wpAny (model prog w) A (call (.ref C) us) Q E ⟨h, g, d, t, os⟩ := by
  have a1 := tc_lookup
  have a2 := tc_bind (.ref C)
  have ty : (⟨h, g, d, t, os⟩ : Shared).TypeIs (.ref C) "type" := ⟨_, gC, rfl⟩
  refine wpAny_call (codeAny_of_tree ?_)
  show wpAny _ _ (callAny (.ref C) _) _ _ _
  repeat (any_goals (first | assumption | with_reducible refine wpAny_loadPart_at gC ?_ | wp_step))
  refine ⟨rfl, ?_⟩
  refine codeAny_call_builtin_at (Code.quiet_builtin _ (by decide +kernel)) entry_typeCall (wpAny_check_type_call_sub gC (tcall_xinit F T gC hi gI cI lu fun h' e hm hs => ?_))
  exact k h' e hm hs
theorem raise_x {M : Model} {s : Shared} {env : Env} {x : Sem Value} {Q : Flow → Shared → Prop} (hh : A.handled = none)
    (k : wpAny M A x (fun v s1 => ∃ e od C nm qn N bs bm hz sn sub ab col dd k0 k1 k2 k3 k5 ni, v = .ref e ∧ bm.contains (.type "BaseException") = true ∧ s1.heap.get? C = some (excClassObj nm qn C N bs bm hz sn sub ab col dd k0 k1 k2 k3 k5 ni) ∧ Xat s1.heap e (.ref C) od none ∧ E (.ref e) s1) E s) :
    wpAny M A (raiseStmt env (some x) none) Q E s := by
  unfold raiseStmt
  refine wpAny_bind (wpAny_mono k (fun v s1 z => ?_) fun _ _ x => x)
  obtain ⟨e, od, C, nm, qn, N, bs, bm, hz, sn, sub, ab, col, dd, k0, k1, k2, k3, k5, ni, rfl, bB, gC, ⟨oe, vs, ge, ce, oo, de, se, y⟩, zE⟩ := z
  have me : (Value.ref C :: bm).contains (.type "BaseException") = true := by rw [List.contains_cons, bB, Bool.or_true]
  obtain ⟨hp, g, d, tk, os⟩ := s1
  rcases y with ⟨_, y1⟩ | ⟨T, _, _, z, _⟩
  · repeat (first | (with_reducible refine wpAny_loadPart_at ge ?_; rw [ce]) | with_reducible refine wpAny_loadPart_at gC ?_ | (with_reducible refine wpAny_isSubtype_exc gC ?_; rw [me]) | wp_step)
    rw [de]
    refine wpAny_pure ?_
    rw [y1]
    refine wpAny_pure ?_
    rw [if_neg (by decide)]
    exact wpAny_pure (wpAny_raiseNew_none hh zE)
  · cases z
end
end XL
set_option maxRecDepth 100000
namespace XL
open PySem PySem.W PySem.Calls PyProof.Rows Builtin Builtin.ObjectAttr
def vErr : List Value := [.type "ValueError", .type "Exception", .type "BaseException", .type "object"]
def excLine : List Value → Bool
  | [] => false
  | .ref c :: r => excLine r || ((.ref c :: r : List Value) == vErr)
  | v :: r => (v :: r) == vErr
def excOver (K : Frag) (C : Addr) : Bool := (clsIn K C).any fun cd => excLine cd.mro
theorem line_pass (self : Value) : ∀ {l : List Value}, excLine l = true → refuseLoop self "__setattr__" l = pure ()
  | [], e => by cases e
  | v :: r, e => by
    have last : ((v :: r : List Value) == vErr) = true → refuseLoop self "__setattr__" (v :: r) = pure () := fun z => by
      rw [eq_of_beq z]
      exact PySem.F.store_ValueError.passes self
    cases v with
    | ref c =>
      rcases Bool.or_eq_true_iff.mp e with z | z
      · rw [refuseLoop_ref]
        exact line_pass self z
      · exact last z
    | _ => exact last e
theorem line_has : ∀ {l : List Value}, excLine l = true → l.contains (.type "object") = true ∧ l.contains (.type "BaseException") = true ∧ l.isEmpty = false
  | [], e => by cases e
  | v :: r, e => by
    have last : ((v :: r : List Value) == vErr) = true → (v :: r).contains (.type "object") = true ∧ (v :: r).contains (.type "BaseException") = true ∧ (v :: r).isEmpty = false := fun z => by
      rw [eq_of_beq z]
      exact ⟨by decide +kernel, by decide +kernel, rfl⟩
    cases v with
    | ref c =>
      rcases Bool.or_eq_true_iff.mp e with z | z
      · obtain ⟨a, b, _⟩ := line_has z
        exact ⟨by rw [List.contains_cons, a, Bool.or_true], by rw [List.contains_cons, b, Bool.or_true], rfl⟩
      · exact last z
    | _ => exact last e
structure XC (K : Frag) (C : Addr) : Prop where
  over : excOver K C = true
  hd : hasDictIn K C = true
  sa : findIn K (.ref C) "__setattr__" = some (some (.builtin "object.__setattr__"))
  ga : findIn K (.ref C) "__getattribute__" = some (some (.builtin "BaseException.__getattribute__"))
  gh : findIn K (.ref C) "__getattr__" = some none
  ca : findIn K (.ref C) "__class__" = some (some (.builtin "object.__class__"))
  cg : specialIn K (.builtin "object.__class__") "__get__" = some (some (.builtin "getset_descriptor.__get__"))
  ct : takesIn K (.builtin "object.__class__") = some true
section
variable {prog : Program} {w : World} {A : Around} {E : Value → Shared → Prop} {s : Shared} {K : Frag} {x C dx : Addr} {ox : Obj} {od : Option Obj} {name : Str} {v : Value} {R : Result → Shared → Prop}
theorem XC.mro (c : XC K C) : ∃ cd, clsIn K C = some cd ∧ excLine cd.mro = true ∧ cd.hasDict = true := by
  obtain ⟨cd, h1, h2⟩ := any_some c.over
  obtain ⟨cd', h3, h4⟩ := any_some c.hd
  rw [h1] at h3
  cases h3
  exact ⟨cd, h1, h2, h4⟩
theorem XC.isObj (c : XC K C) : mroIn K C (.type "object") = some true := by
  obtain ⟨cd, h1, h2, _⟩ := c.mro
  obtain ⟨a, _, b⟩ := line_has h2
  unfold mroIn
  rw [h1, Option.bind_some, if_neg (by rw [b]; decide), a]
theorem XC.isExc (c : XC K C) : mroIn K C (.type "BaseException") = some true := by
  obtain ⟨cd, h1, h2, _⟩ := c.mro
  obtain ⟨_, a, b⟩ := line_has h2
  unfold mroIn
  rw [h1, Option.bind_some, if_neg (by rw [b]; decide), a]
theorem osa_x {tk : Tok} (X : K.In s.heap) (c : XC K C) (I : InstAt s.heap x ox C od) (ha : findIn K (.ref C) name = some none)
    (h : wpAny (model prog w) A.in1 (storeInOwnDict (.ref x) (.ref C) (.str name tk) name v false)
      (fun fin s' => match fin with | .done f => R (.ok f) s' | .again c' => c'.quiet = true ∧ codeAny (model prog w) A c' R s') (fun e s' => R (.error e) s') s) :
    codeAny (model prog w) A (.call (.builtin "object.__setattr__") ⟨[.ref x, .str name tk, v], []⟩) R s := by
  have SF := PySem.F.store_object
  obtain ⟨cd, hc, hl, _⟩ := c.mro
  have sub : Looks (model prog w) s.heap (isInstance (.ref x) (.type "object")) true := I.type.andThen (looks_mroIn X c.isObj)
  refine codeAny_call_builtin SF.slot.plain SF.entry (@check_slot (model prog w) _ _ s "object.__setattr__" "object" "__setattr__" (.ref x) [.str name tk, v] [] _ SF.kind SF.split sub (SF.args (.ref x) (.str name tk) v) ?_)
  have hm : Looks (model prog w) s.heap (mroOf (.ref C)) cd.mro := (looks_clsIn X hc).andThen .now
  rw [osa_eq, refuse_eq]
  refine wpAny_bind (wpAny_bind (I.type.here (wpAny_bind (hm.here ?_))))
  rw [line_pass _ hl]
  refine wpAny_pure (wpAny_bind (I.type.here (wpAny_bind ((looks_findIn X ha).here (wpAny_bind ((Looks.now (a := (none : Option Value))).here ?_))))))
  exact h
theorem own_x (X : K.In s.heap) (c : XC K C) (hx : s.heap.get? x = some ox) (hc : ox.cls = .ref C) (ho : ox.dict = some dx) {Q : Option Addr → Shared → Prop} (h : Q (some dx) s) :
    wpAny (model prog w) A (ownDictForStores (.ref x)) Q E s := by
  obtain ⟨cd, h1, _, h2⟩ := c.mro
  unfold ownDictForStores instanceDict
  refine wpAny_bind (wpAny_loadPart hx ?_)
  rw [hc]
  refine wpAny_bind ((looks_clsIn X h1).here ?_)
  rw [h2, ho]
  exact wpAny_pure h
theorem set_x1 {ns : List Str} {mA : Str → Option Value} {Q : Unit → Shared → Prop} (X : K.In s.heap) (c : XC K C) (hx : s.heap.get? x = some ox) (hc : ox.cls = .ref C) (hn : notCls ox = true) (ho : ox.dict = some dx) (hm : s.heap.Ns1 dx mA)
    (ha : findIn K (.ref C) name = some none) (hw : PySem.Within mA ns) (hz : ns.length ≤ sizeLine)
    (h : ∀ h', h'.Ns1 dx (fun y => if y = name then some v else mA y) → Heap.SameBut dx s.heap h' → Q () { s with heap := h', toks := s.toks + 2 }) :
    wpAny (model prog w) A (setAttr (.ref x) name v) Q E s := by
  obtain ⟨o1, _, _, g1, _⟩ := id hm
  have I : InstAt s.heap x ox C (some o1) := ⟨hx, hc, hn, by rw [ho]; exact g1⟩
  refine set_plain X I c.sa (osa_x (s := { s with toks := s.toks + 1 }) X c I ha ?_)
  refine wpAny_bind (wpAny_pure (wpAny_bind (own_x (s := { s with toks := s.toks + 1 }) X c hx hc ho ?_)))
  refine wpAny_bind (wpAny_pure (wpAny_bind ?_))
  refine wpAny_nsSet1 (s := { s with toks := s.toks + 1 }) hm fun h' n2 s2 => ?_
  obtain ⟨oD, eD, pD, gD, dD, cD⟩ := n2.count (PySem.Within.cons name v hw)
  refine wpAny_bind (wpAny_lookBehind gD (by rw [dD]; exact pastItsLine_dict (Nat.le_trans cD (by rw [List.length_cons]; omega))) ?_)
  exact wpAny_pure (h _ n2 s2)
theorem set_x0 {Q : Unit → Shared → Prop} (X : K.In s.heap) (c : XC K C) (hx : s.heap.get? x = some ox) (hc : ox.cls = .ref C) (hn : notCls ox = true) (ho : ox.dict = none) (hf : ox.isFreed = false)
    (ha : findIn K (.ref C) name = some none)
    (h : ∀ h', h'.get? x = some { ox with dict := some s.heap.objs.size } → h'.Ns1 s.heap.objs.size (fun y => if y = name then some v else none) →
      (∀ b o, b ≠ x → s.heap.get? b = some o → h'.get? b = some o) → s.heap.objs.size ≤ h'.objs.size → Q () { s with heap := h', toks := s.toks + 2 }) :
    wpAny (model prog w) A (setAttr (.ref x) name v) Q E s := by
  obtain ⟨cd, h1, _, h2⟩ := c.mro
  have I : InstAt s.heap x ox C none := ⟨hx, hc, hn, by rw [ho]; trivial⟩
  refine set_plain X I c.sa (osa_x (s := { s with toks := s.toks + 1 }) X c I ha ?_)
  refine wpAny_bind (wpAny_pure (wpAny_bind ?_))
  unfold ownDictForStores instanceDict
  refine wpAny_bind (wpAny_loadPart (s := { s with toks := s.toks + 1 }) hx ?_)
  rw [hc]
  refine wpAny_bind ((looks_clsIn X h1).here (s := { s with toks := s.toks + 1 }) ?_)
  rw [h2, ho, if_neg (by simp)]
  obtain ⟨oc, odi, oda, osl⟩ := ox
  dsimp only at hc ho
  subst hc ho
  have hx1 : (s.heap.push { cls := .type "dict", data := .dict #[] }).get? x = some ⟨.ref C, none, oda, osl⟩ := Heap.get?_push_of_some _ hx
  have nx : x ≠ s.heap.objs.size := Nat.ne_of_lt (Heap.lt_size hx)
  have key : wpAny (model prog w) A.in1 (do let d ← alloc { cls := .type "dict", data := .dict #[] }; update x (fun o => { o with dict := some d }); dictMade (.ref C) x d)
      (fun a s' => wpAny (model prog w) A.in1 (match a with | some d => storeInDict d (.str name s.toks) name v | none => noDictFor (.ref x) (.ref C) name false)
        (fun fin s' => match fin with
          | .done f => (match (Except.ok f : Result) with | .ok (.ret _) => Q () s' | .ok _ => False | .error e => E e s')
          | .again c' => c'.quiet = true ∧ codeAny (model prog w) A c' (fun r s' => match r with | .ok (.ret _) => Q () s' | .ok _ => False | .error e => E e s') s')
        (fun e s' => E e s') s') (fun e s' => E e s') { s with toks := s.toks + 1 } := by
    refine wpAny_bind (wpAny_alloc' ?_)
    refine wpAny_bind (wpAny_update' hx1 ?_)
    refine wpAny_pure ?_
    dsimp only
    have g2 : ((s.heap.push { cls := .type "dict", data := .dict #[] }).update x fun o => { o with dict := some s.heap.objs.size }).get? s.heap.objs.size = some { cls := .type "dict", data := .dict #[] } :=
      (Heap.get?_update_ne _ _ _ _ nx.symm).trans (Heap.get?_push_at rfl rfl)
    have n2 : ((s.heap.push { cls := .type "dict", data := .dict #[] }).update x fun o => { o with dict := some s.heap.objs.size }).Ns s.heap.objs.size (fun _ => none) :=
      ⟨_, #[], _, g2, rfl, fun e he => absurd he (by simp), fun _ => rfl⟩
    unfold storeInDict newKeyGuard
    refine wpAny_bind (wpAny_pure (wpAny_bind (wpAny_nsSet1 (Heap.Ns1.of_empty n2) fun h' n3 s3 => ?_)))
    obtain ⟨oD, eD, pD, gD, dD, cD⟩ := n3.count (Within.cons name v Within.nil)
    refine wpAny_bind (wpAny_lookBehind gD (by rw [dD]; exact pastItsLine_dict (Nat.le_trans cD (by rw [List.length_cons, List.length_nil, sizeLine_eq]; omega))) ?_)
    refine wpAny_pure (h h' ?_ n3 (fun b o bx hb => ?_) ?_)
    · refine (s3.2 x nx).trans (Heap.get?_update_self _ hx1 ?_)
      cases oda <;> first | rfl | exact hf
    · exact (s3.2 b (Nat.ne_of_lt (Heap.lt_size hb))).trans ((Heap.get?_update_ne _ _ _ _ bx).trans (Heap.get?_push_of_some _ hb))
    · rw [s3.1, Heap.size_after_update, Heap.size_push]
      exact Nat.le_succ _
  cases oda <;> first | exact key | cases hn
theorem ga_bind (v : Value) : bindSpecial (.builtin "BaseException.__getattribute__") v = pure (.builtin "BaseException.__getattribute__", [v]) := by
  have f := PySem.F.attr_ValueError.ga.bind v
  exact f
theorem ga_plain : plainId "BaseException.__getattribute__" = true := PySem.F.attr_ValueError.ga.plain
theorem get_xo {Q : Value → Shared → Prop} {expr fill : Bool} {tk : Tok} (X : K.In s.heap) (c : XC K C) (I : InstAt s.heap x ox C od)
    (h : wpAny (model prog w) A.in1 (Builtin.«object.__getattribute__» ⟨[.ref x, .str name tk], []⟩)
      (fun fin s' => match fin with | .done (.ret v) => wpAny (model prog w) A (handedOut v) Q E s' | _ => False) (fun _ _ => False) s) :
    wpAny (model prog w) A (getAttrBy (.ref x) (.str name tk) fill expr) Q E s := by
  obtain ⟨hh, g, d, t, os⟩ := s
  have L0 := I.type (M := model prog w)
  have L1 := looks_findIn (M := model prog w) X c.ga
  have L2 := looks_findIn (M := model prog w) X c.gh
  have sub : Looks (model prog w) hh (isInstance (.ref x) (.type "BaseException")) true := I.type.andThen (looks_mroIn X c.isExc)
  have f2 : (onTheHeap (Value.ref C) && Value.builtin "BaseException.__getattribute__" == Value.builtin "object.__getattribute__") = false := by
    rw [show (Value.builtin "BaseException.__getattribute__" == Value.builtin "object.__getattribute__") = false from by decide +kernel]; rfl
  have f3 : (expr && onTheHeap (Value.builtin "BaseException.__getattribute__")) = false := by cases expr <;> rfl
  unfold getAttrBy
  refine wpAny_holding (wpAny_bind (L0.at (wpAny_bind (L1.at ?_))))
  dsimp only
  rw [f2]
  simp only [Bool.false_eq_true, if_false]
  unfold getAttrByItsOwn hookBefore
  refine wpAny_bind (L2.at (wpAny_bind (wpAny_attempt (wpAny_holding ?_))))
  unfold callGetattribute
  rw [f3]
  simp only [Bool.false_eq_true, if_false]
  unfold boundAndCalled
  rw [ga_bind]
  refine wpAny_bind (wpAny_pure (wpAny_call (codeAny_call_builtin ga_plain PySem.F.entry_bexc_ga
    (@check_slot (model prog w) _ _ ⟨hh, g, d, t, os⟩ "BaseException.__getattribute__" "BaseException" "__getattribute__" (.ref x) [.str name tk] [] _ (by decide +kernel) (by decide +kernel) sub (PySem.F.args_bexc_ga _ _) ?_))))
  refine wpAny_mono h (fun fin s' z => ?_) fun e s' z => z.elim
  rcases fin with (_ | _ | _ | _) | _ <;> first | exact z | exact z.elim
theorem get_x {Q : Value → Shared → Prop} {expr : Bool} (X : K.In s.heap) (c : XC K C) (hx : s.heap.get? x = some ox) (hc : ox.cls = .ref C) (hn : notCls ox = true) (ho : ox.dict = some dx) {o1 : Obj} (g1 : s.heap.get? dx = some o1) (hl : lookIn name o1 = some (some v))
    (ha : findIn K (.ref C) name = some none) (hv : handedIn v = true) (h : Q v { s with toks := s.toks + 1 }) :
    wpAny (model prog w) A (getAttr (.ref x) name expr) Q E s := by
  have I : InstAt s.heap x ox C (some o1) := ⟨hx, hc, hn, by rw [ho]; exact g1⟩
  have hf : findObj K C (some o1) name = some (.value v) := findObj_own c.hd ha rfl hl
  unfold getAttr
  refine wpAny_bind (wpAny_mkText ?_)
  refine get_xo (s := { s with toks := s.toks + 1 }) X c I ?_
  have L0 := I.type (M := model prog w)
  have L1 := looks_find (M := model prog w) X I hf
  obtain ⟨hh, g, d, t, os⟩ := s
  refine wpAny_bind (wpAny_pure (wpAny_bind (wpAny_pure (wpAny_bind (L0.at (wpAny_bind (L1.at ?_)))))))
  refine wpAny_pure ?_
  show wpAny _ _ (handedOut v) _ _ _
  rw [handedOut_of hv]
  exact wpAny_pure h
theorem get_xcls {Q : Option Value → Shared → Prop} (X : K.In s.heap) (c : XC K C) (I : InstAt s.heap x ox C od) (h : Q (some (.ref C)) { s with toks := s.toks + 1 }) :
    wpAny (model prog w) A (getAttr? (.ref x) "__class__") Q E s := by
  obtain ⟨cd, h1, _, h2⟩ := c.mro
  have hf : findObj K C od "__class__" = some (.bind (.builtin "getset_descriptor.__get__") (.builtin "object.__class__")) := by
    unfold findObj
    rw [h1, Option.bind_some, c.ca, Option.bind_some]
    simp [c.cg, c.ct]
  unfold getAttr? getAttrBy?
  refine wpAny_bind (wpAny_mkText (wpAny_bind (wpAny_attempt ?_)))
  refine get_xo (s := { s with toks := s.toks + 1 }) X c I ?_
  have L0 := I.type (M := model prog w)
  have L1 := looks_find (M := model prog w) X I hf
  refine wpAny_bind (wpAny_pure (wpAny_bind (wpAny_pure (wpAny_bind (L0.here (s := { s with toks := s.toks + 1 }) (wpAny_bind (L1.here (s := { s with toks := s.toks + 1 }) ?_)))))))
  show wpAny _ _ (holding [_] (call _ [_, .ref x, .ref C]) >>= ret) _ _ _
  refine wpAny_bind (wpAny_holding (wpAny_call (class_get (s := { s with toks := s.toks + 1 }) (ox := ox) (od := od) X I c.isObj ?_)))
  refine wpAny_pure ?_
  show wpAny _ _ (handedOut (.ref C)) _ _ _
  exact wpAny_pure (wpAny_pure h)
end
end XL
set_option maxRecDepth 100000
namespace XL
open PySem
theorem isStr_ne {x y : Str} {v : Value} (hx : v.isStr x = true) (n : y ≠ x) : v.isStr y = false := by
  cases v <;> simp_all [Value.isStr]
  exact fun z => n z.symm
theorem find_erase {name y : Str} (n : y ≠ name) : ∀ (l : List DictEntry) (i : Nat), l.findIdx? (·.key.isStr name) = some i → (l.eraseIdx i).find? (·.key.isStr y) = l.find? (·.key.isStr y)
  | [], i, h => by simp at h
  | e :: r, i, h => by
    rw [List.findIdx?_cons] at h
    by_cases q : e.key.isStr name = true
    · rw [if_pos q] at h
      cases h
      have z := isStr_ne q n
      simp [z]
    · rw [if_neg q] at h
      cases hi : r.findIdx? (·.key.isStr name) with
      | none => rw [hi] at h; cases h
      | some j =>
        rw [hi] at h
        cases h
        have ih := find_erase n r j hi
        simp only [List.eraseIdx_cons_succ, List.find?_cons]
        split
        · rfl
        · exact ih
section
variable {M : Model} {A : Around} {E : Value → Shared → Prop} {s : Shared} {env : Env}
theorem nsDel_x {a : Addr} {m : Str → Option Value} {name : Str} {Q : Bool → Shared → Prop} (hn : s.heap.Ns a m)
    (k : ∀ h' m', h'.Ns a m' → (∀ y, y ≠ name → m' y = m y) → Heap.SameBut a s.heap h' → Q (m name).isSome { s with heap := h' }) : wpAny M A (nsDel a name) Q E s := by
  obtain ⟨o, es, ep, ho, hd, hk, hm⟩ := id hn
  have nor : es.any (·.refKey) = false := by
    rw [Array.any_eq_false']
    intro e he
    obtain ⟨n, t, h⟩ := hk e he
    simp [DictEntry.refKey, h]
  have some_eq : (m name).isSome = es.any (·.key.isStr name) := by
    rw [← hm name]
    simp only [nsFind, findBy, Option.isSome_map]
    rw [Bool.eq_iff_iff]
    simp only [Array.find?_isSome, Array.any_eq_true]
    constructor
    · rintro ⟨z, hz, hp⟩
      obtain ⟨i, hi, rfl⟩ := Array.mem_iff_getElem.mp hz
      exact ⟨i, hi, hp⟩
    · rintro ⟨i, hi, hp⟩
      exact ⟨_, Array.getElem_mem hi, hp⟩
  have has : nsHas name o = pure (es.any (·.key.isStr name)) := by
    rw [nsHas_eq]
    unfold nsHasByArray
    rw [hd]
    show (if (es.any fun z => z.key.isStr name) = true then _ else _) = _
    generalize (es.any fun z => z.key.isStr name) = b
    cases b <;> simp [nor]
  unfold nsDel
  refine wpAny_bind (wpAny_loadPart ho ?_)
  rw [has]
  refine wpAny_bind (wpAny_pure ?_)
  rw [← some_eq]
  cases q : (m name).isSome
  · have z := k s.heap m hn (fun _ _ => rfl) (.refl ..)
    rw [q] at z
    exact wpAny_pure z
  · refine wpAny_bind (wpAny_updatePart ho (wpAny_pure ?_))
    have key : ∃ m', (s.heap.update a (Obj.dropName name)).Ns a m' ∧ ∀ y, y ≠ name → m' y = m y := by
      obtain ⟨cl, d, dt, sl⟩ := o
      subst hd
      cases hi : es.findIdx? (·.key.isStr name) with
      | none =>
        exact ⟨m, ⟨_, _, ep, Heap.get?_update_self _ ho (by simp only [Obj.dropName_eq, Obj.dropNameByArray, hi] <;> rfl), (by simp only [Obj.dropName_eq, Obj.dropNameByArray, hi] <;> rfl), hk, hm⟩, fun _ _ => rfl⟩
      | some i =>
        refine ⟨_, ⟨_, _, ep + 1, Heap.get?_update_self _ ho (by simp only [Obj.dropName_eq, Obj.dropNameByArray, hi] <;> rfl), (by simp only [Obj.dropName_eq, Obj.dropNameByArray, hi] <;> rfl), hk.erase i, fun _ => rfl⟩, fun y hy => ?_⟩
        rw [← hm y]
        obtain ⟨l⟩ := es
        have hi' : l.findIdx? (·.key.isStr name) = some i := by simpa using hi
        have z := find_erase hy l i hi'
        simp only [nsFind, findBy]
        have il : i < l.length := by
          have := List.findIdx?_eq_some_iff_findIdx_eq.mp hi'
          exact this.1
        have e1 : (Array.mk l).eraseIdxIfInBounds i = Array.mk (l.eraseIdx i) := by
          simp [Array.eraseIdxIfInBounds, il]
        rw [e1]
        simp only [List.find?_toArray]
        rw [z]
    obtain ⟨m', n', e'⟩ := key
    have z := k _ m' n' e' (Heap.SameBut.update ..)
    rw [q] at z
    exact z
theorem name_gone {n : Str} {pos : Pos} {m : Str → Option Value} {Q : Unit → Shared → Prop} (hl : env.kindOf n = some .local) (hn : s.heap.Ns env.locals m)
    (hp : (env.scope.kind == .class || (env.scope.kind == .module && env.locals != env.globals)) = false)
    (h : ∀ h' m', h'.Ns env.locals m' → (∀ y, y ≠ n → m' y = m y) → Heap.SameBut env.locals s.heap h' → Q () { s with heap := h', toks := s.toks + 1 }) :
    wpAny M A (do bindName env n .none; unbindBehindTheSuite env n pos) Q E s := by
  refine wpAny_bind (wpAny_bindName (wpAny_storeName_local hl hn (fun h1 n1 s1 => ?_) hp))
  unfold unbindBehindTheSuite
  refine wpAny_onRaise ?_
  unfold unbindName
  refine wpAny_bind (wpAny_point (wpAny_bind ?_))
  unfold deleteName
  simp only [hl, hp]
  rw [if_neg (by decide)]
  refine wpAny_bind (nsDel_x n1 fun h2 m2 n2 e2 s2 => ?_)
  simp only [if_true, Option.isSome_some, Bool.not_true, Bool.false_eq_true, if_false]
  refine wpAny_pure (wpAny_point (h h2 m2 n2 (fun y hy => ?_) (s1.trans s2)))
  rw [e2 y hy, if_neg hy]
end
end XL
set_option maxRecDepth 100000
namespace L2
open PySem PySem.Spec PyProof.Rows XL
variable {q0 : Bool}
def XN (e C : Addr) (od : Option Addr) : HO := .ext fun h => Xat h e (.ref C) od none
def XO (e C : Addr) (od : Option Addr) : HO := .ext fun h => ∃ ox vs, h.get? e = some ox ∧ ox.cls = .ref C ∧ ox.dict = od ∧ ox.data = .fields vs
def XD (dx : Addr) (fs : List (Str × V)) : HO := .ext fun h => fs.length ≤ 1000 ∧ ∃ mA, h.Ns1 dx mA ∧ (∀ f, RelO (fs.lookup f) (mA f)) ∧ PySem.Within mA (fs.map (·.1))
section
variable {P : Program} {w : World} {H : Hp} {h : Heap} {e C dx : Addr} {od : Option Addr} {fs : List (Str × V)}
theorem xn_ok (x : Xat h e (.ref C) od none) : ObjOk P w H h e (XN e C od) := by
  refine ⟨x, ?_, fun h1 h2 z k => ?_⟩
  · obtain ⟨oe, _, g, _⟩ := x
    exact ⟨oe, g⟩
  · obtain ⟨oe, vs, g, c, o, d, sz, y⟩ := z
    rcases y with y | ⟨T, _, _, z, _⟩
    · exact ⟨oe, vs, k oe g, c, o, d, sz, .inl y⟩
    · cases z
theorem xo_ok (x : ∃ ox vs, h.get? e = some ox ∧ ox.cls = .ref C ∧ ox.dict = od ∧ ox.data = .fields vs) : ObjOk P w H h e (XO e C od) := by
  refine ⟨x, ?_, fun h1 h2 z k => ?_⟩
  · obtain ⟨oe, _, g, _⟩ := x
    exact ⟨oe, g⟩
  · obtain ⟨oe, vs, g, c, o, d⟩ := z
    exact ⟨oe, vs, k oe g, c, o, d⟩
theorem xat_xo {tb : Option Addr} (x : Xat h e (.ref C) od tb) : ∃ ox vs, h.get? e = some ox ∧ ox.cls = .ref C ∧ ox.dict = od ∧ ox.data = .fields vs := by
  obtain ⟨oe, vs, g, c, o, d, _⟩ := x
  exact ⟨oe, vs, g, c, o, d⟩
theorem ns1_at {h1 h2 : Heap} {m : Str → Option Value} (n : h1.Ns1 dx m) (k : ∀ o, h1.get? dx = some o → h2.get? dx = some o) : h2.Ns1 dx m := by
  obtain ⟨o, es, ep, g, r⟩ := n
  exact ⟨o, es, ep, k o g, r⟩
theorem xd_ok (hl : fs.length ≤ 1000) {mA : Str → Option Value} (n : h.Ns1 dx mA) (r : ∀ f, RelO (fs.lookup f) (mA f)) (wi : PySem.Within mA (fs.map (·.1))) : ObjOk P w H h dx (XD dx fs) := by
  refine ⟨⟨hl, mA, n, r, wi⟩, ?_, fun h1 h2 z k => ?_⟩
  · obtain ⟨o, es, ep, g, _⟩ := n
    exact ⟨o, g⟩
  · obtain ⟨hl, mA, n, r, wi⟩ := z
    exact ⟨hl, mA, ns1_at n k, r, wi⟩
end
def CXo (P : Program) (w : World) : CXT := fun outer H s E u s' => ∃ e C od H' T, u = .ref e ∧ s'.os = s.os ∧ AllBare s'.gens ∧ Un (frs outer) [] H H' s.heap s'.heap ∧ HOk P w H' s'.heap ∧
  Xat s'.heap e (.ref C) od (some T) ∧ H' e = some (XO e C od) ∧ s.heap.objs.size ≤ T ∧ H' T = none ∧ E e C H'
def Tbs (X : Cx) (pins : List (Addr × Obj)) (H : Hp) (tb : Option Addr) : Prop := ∀ T, tb = some T → X.s₀.heap.objs.size ≤ T ∧ H T = none ∧ T ≠ X.env.locals ∧ (∀ x c, X.env.cells.lookup x = some c → c ≠ T) ∧ ∀ p ∈ X.pn ++ pins, p.1 ≠ T
def Takes (X : Cx) (E : St → XK) : Prop := ∀ (pins : List (Addr × Obj)) (σ : St) (H : Hp) (s : Shared) (e C : Addr) (od tb : Option Addr), Inv X pins σ H s → Xat s.heap e (.ref C) od tb → H e = some (XO e C od) →
  Tbs X pins H tb → E σ e C H → X.xe (.ref e) s
section
variable {X : Cx} {pins : List (Addr × Obj)} {σ : St} {H : Hp} {s : Shared} {e C : Addr} {od tb : Option Addr}
theorem Inv.size_lt (I : Inv X pins σ H s) {b : Addr} (h : s.heap.objs.size ≤ b) : H b = none ∧ b ≠ X.env.locals ∧ (∀ x c, X.env.cells.lookup x = some c → c ≠ b) ∧ ∀ p ∈ X.pn ++ pins, p.1 ≠ b := by
  refine ⟨I.hok.fresh h, fun z => ?_, fun x c hc z => ?_, fun p hp z => ?_⟩
  · rw [z] at h
    exact absurd I.lt (Nat.not_lt.mpr h)
  · obtain ⟨v, o, ho, _⟩ := I.cell x c hc
    rw [z] at ho
    exact absurd (Heap.lt_size ho) (Nat.not_lt.mpr h)
  · have g := (I.pin p hp).1
    rw [z] at g
    exact absurd (Heap.lt_size g) (Nat.not_lt.mpr h)
theorem Inv.noted {h' : Heap} {T : Addr} (I : Inv X pins σ H s) (he : H e = some (XO e C od)) (tbs : Tbs X pins H tb) (st : Stp (frs X.stack) e tb s.heap h') (x : Xat h' e (.ref C) od (some T)) :
    Inv X pins σ H { s with heap := h' } := by
  have neE : ∀ b, H b = none → b ≠ e := fun b n z => by rw [z, he] at n; cases n
  have neT : ∀ b u, H b = some u → tb ≠ some b := fun b u hb z => by rw [(tbs b z).2.1] at hb; cases hb
  have nfr : ∀ b u, H b = some u → b ∉ frs X.stack := fun b u hb z => by rw [I.stkFree b z] at hb; cases hb
  have kp : ∀ b u o, H b = some u → b ≠ e → s.heap.get? b = some o → h'.get? b = some o := fun b u o hb ne g => st.keep b o g ne (neT b u hb) (nfr b u hb)
  have un : Un (frs X.stack) tb.toList H H s.heap h' := by
    refine ⟨fun b o g n hb hx => st.keep b o g (neE b n) (fun z => hx (by rw [z]; simp)) hb, fun b o g n hb hx => st.slot b o g hb, fun b o g n hx => n, fun b o g hx => ?_, fun b xs z => z, fun b o u z => z, fun b ps z => ⟨#[], by rw [z]; simp⟩⟩
    by_cases b1 : b = e
    · subst b1
      obtain ⟨oe, _, ge, _⟩ := x
      exact ⟨oe, ge⟩
    · by_cases b2 : b ∈ frs X.stack
      · obtain ⟨sl, q⟩ := st.slot b o g b2
        exact ⟨_, q⟩
      · exact ⟨o, st.keep b o g b1 (fun z => hx (by rw [z]; simp)) b2⟩
  have hok : HOk X.prog X.w H h' := fun b u hb => by
    by_cases b1 : b = e
    · subst b1
      rw [he] at hb
      cases hb
      exact xo_ok (xat_xo x)
    · refine (I.hok b u hb).stay (fun c v hc q => ?_) (fun c q => q) fun c xs q => q
      rcases hc with rfl | hc
      · exact kp c u v hb b1 q
      · exact kp c _ v hc (fun z => by rw [z, he] at hc; cases hc) q
  refine I.call (g' := s.gens) (d' := s.drawn) (t' := s.toks) (ch := tb.toList) un hok I.bare fun b hb => ?_
  have z : tb = some b := by
    cases tb with
    | none => simp at hb
    | some T' => simp at hb; rw [hb]
  obtain ⟨a1, _, a3, a4, a5⟩ := tbs b z
  exact ⟨.inr a1, a3, a4, a5⟩
theorem Takes.pass {E : St → XK} (t : Takes X E) : Passes (CXo X.prog X.w) X E := fun pins σ H s u s' I h => by
  obtain ⟨e, C, od, H', T, rfl, os, bare, un, hok, x, he, sT, hT, q⟩ := h
  have J : Inv X pins σ H' s' := I.call' os un hok bare (ch := []) fun b z => absurd z (by simp)
  refine t pins σ H' s' e C od (some T) J x he (fun T' z => ?_) q
  cases z
  obtain ⟨_, a, b, c⟩ := I.size_lt sT
  exact ⟨Nat.le_trans I.sz sT, hT, a, b, c⟩
theorem pass_none : Passes (CXo X.prog X.w) X (fun _ _ _ _ => False) := fun pins σ H s u s' I h => by
  obtain ⟨e, C, od, H', T, _, _, _, _, _, _, _, _, _, q⟩ := h
  exact q.elim
theorem takes_def {P : Program} {w : World} {K : PySem.W.Frag} {mg : Str → Option Value} {base : Heap} {N : List Str} {qual : Str} {scope : Scope} {f : Addr} {cd : Value} {A : Around} {outer : List Env} {s₀ : Shared} {H₀ : Hp} {E : XK} :
    Takes (cxOf q0 (CXo P w) P w K mg base N qual scope f cd A outer s₀ H₀ E) (fun _ => E) := fun pins σ H s e C od tb I x he tbs q => by
  show wpAny (model P w) _ (leaving _ (.ref e)) _ _ s
  unfold leaving
  refine wpAny_bind (note_x (L := s₀.heap.objs.size) I.ok.frames I.stack rfl x fun h' T st sT x' => ?_)
  have J := I.noted he tbs st x'
  exact ⟨e, C, od, H, T, rfl, J.os, J.bare, J.base, J.hok, x', he, Nat.le_trans I.sz sT, I.hok.fresh sT, q⟩
end
end L2
set_option maxRecDepth 100000
namespace XL
open PySem PySem.W
def strKey (e : DictEntry) : Bool := match e.key with | .str _ _ => true | _ => false
def nsNoInit (K : Frag) (ns : Addr) : Bool := match K.lookup ns with
  | some ⟨_, _, .dict es _, _⟩ => es.toList.all strKey && !(es.toList.any (·.key.isStr "__init__"))
  | _ => false
def tailIn (K : Frag) : List Value → Bool
  | [] => false
  | .ref a :: r => (match K.lookup a with
      | some ⟨_, _, .cls cd, _⟩ => nsNoInit K cd.ns && tailIn K r
      | _ => false)
  | v :: r => (v :: r) == vErr
theorem ns_of {K : Frag} {h : Heap} {ns : Addr} (X : K.In h) (e : nsNoInit K ns = true) : ∃ mA, h.Ns ns mA ∧ mA "__init__" = none := by
  unfold nsNoInit at e
  split at e
  · rename_i es n sl ho
    obtain ⟨e1, e2⟩ := Bool.and_eq_true_iff.mp e
    refine ⟨_, ⟨_, es, _, X _ _ ho, rfl, fun z hz => ?_, fun _ => rfl⟩, ?_⟩
    · have q := List.all_eq_true.mp e1 z (Array.mem_toList_iff.mpr hz)
      unfold strKey at q
      split at q
      · rename_i a b c
        exact ⟨a, b, c⟩
      · cases q
    · unfold nsFind findBy
      rw [← Array.find?_toList]
      have z : es.toList.find? (fun e => e.key.isStr "__init__") = none := by
        rw [List.find?_eq_none]
        intro y hy q
        rw [Bool.not_eq_true', List.any_eq_false] at e2
        exact e2 y hy q
      rw [z]
      rfl
  · cases e
theorem tail_of {K : Frag} {h : Heap} (X : K.In h) : ∀ {l : List Value}, tailIn K l = true → OwnTail h vErr l
  | [], e => by cases e
  | v :: r, e => by
    have last : ((v :: r : List Value) == vErr) = true → OwnTail h vErr (v :: r) := fun z => by
      rw [eq_of_beq z]
      exact .base
    cases v with
    | ref a =>
      unfold tailIn at e
      split at e
      · rename_i c d cd sl ho
        obtain ⟨e1, e2⟩ := Bool.and_eq_true_iff.mp e
        obtain ⟨mA, n, z⟩ := ns_of X e1
        exact .own (X _ _ ho) n z (tail_of X e2)
      · cases e
    | _ => exact last e
def xmkIn (K : Frag) (C : Addr) : Bool := match K.lookup C with
  | some ⟨.type "type", _, .cls cd, sl⟩ => (match cd.mro, sl.toList with
    | .ref C' :: bm, [_, _, _, _, some (.builtin i), _] => C' == C && !cd.hasDel && i == "ValueError.__new__" && tailIn K bm
    | _, _ => false)
  | _ => false
theorem xmk_of {K : Frag} {h : Heap} {C : Addr} (X : K.In h) (q : xmkIn K C = true) : ∃ nm qn N bs bm hz sn sub ab col dd k0 k1 k2 k3 k5,
    h.get? C = some (excClassObj nm qn C N bs bm hz sn sub ab col dd k0 k1 k2 k3 k5 "ValueError.__new__") ∧ OwnTail h vErr bm := by
  unfold xmkIn at q
  split at q
  · rename_i dd cd sl ho
    split at q
    · rename_i C' bm k0 k1 k2 k3 n k5 hm hs
      simp only [Bool.and_eq_true, beq_iff_eq, Bool.not_eq_true'] at q
      obtain ⟨⟨⟨rfl, hdel⟩, rfl⟩, ht⟩ := q
      obtain ⟨nm, bs, mro, ns, qn, hd, sn, sub, ab, col, del⟩ := cd
      dsimp only at hm hdel
      subst hm hdel
      have hsl : sl = #[k0, k1, k2, k3, some (.builtin "ValueError.__new__"), k5] := by
        obtain ⟨l⟩ := sl
        simp only at hs
        rw [hs]
      subst hsl
      exact ⟨nm, qn, ns, bs, bm, hd, sn, sub, ab, col, dd, k0, k1, k2, k3, k5, X _ _ ho, tail_of X ht⟩
    · cases q
  · cases q
end XL
namespace L2
open PySem PySem.Spec PyProof.Rows XL
variable {q0 : Bool}
section
variable {X : Cx} {pins : List (Addr × Obj)} {σ : St} {H : Hp} {s : Shared} {a C dx : Addr} {od : Option Addr} {fs : List (Str × V)} {f : Str} {v y : V} {u : Value} {A : Around} {E : Value → Shared → Prop}
theorem xn_at (I : Inv X pins σ H s) (e : H a = some (XN a C od)) : Xat s.heap a (.ref C) od none := (I.hok a _ e).1
theorem xo_at (I : Inv X pins σ H s) (e : H a = some (XO a C od)) : ∃ ox vs, s.heap.get? a = some ox ∧ ox.cls = .ref C ∧ ox.dict = od ∧ ox.data = .fields vs := (I.hok a _ e).1
theorem xd_at (I : Inv X pins σ H s) (e : H dx = some (XD dx fs)) : fs.length ≤ 1000 ∧ ∃ mA, s.heap.Ns1 dx mA ∧ (∀ f, RelO (fs.lookup f) (mA f)) ∧ PySem.Within mA (fs.map (·.1)) := (I.hok dx _ e).1
theorem notCls_f {o : Obj} {vs : Array Value} (d : o.data = .fields vs) : PySem.W.notCls o = true := by
  unfold PySem.W.notCls
  rw [d]
theorem xset0_ok {Q : Unit → Shared → Prop} (I : Inv X pins σ H s) (e : H a = some (XN a C none)) (c : XC X.K C) (n : PySem.W.findIn X.K (.ref C) f = some none) (ry : RelV y u)
    (h : ∀ dx s', H dx = none → Inv X pins σ (upd (upd H dx (XD dx [(f, y)])) a (XN a C (some dx))) s' → Q () s') : wpAny (model X.prog X.w) A (setAttr (.ref a) f u) Q E s := by
  obtain ⟨oe, vs, g, ce, oo, de, sz, tb⟩ := xn_at I e
  refine set_x0 I.kIn c g ce (notCls_f de) oo (Obj.isFreed_of_fields de) n fun h' g' n' k sz' => h s.heap.objs.size _ (I.hok.fresh (Nat.le_refl _)) ?_
  have hN : H s.heap.objs.size = none := I.hok.fresh (Nat.le_refl _)
  have nad : a ≠ s.heap.objs.size := fun z => by rw [z, hN] at e; cases e
  have na : ∀ b, H b = none → b ≠ a := fun b nb z => by rw [z, e] at nb; cases nb
  have nd : ∀ b o, s.heap.get? b = some o → b ≠ s.heap.objs.size := fun b o gb => Nat.ne_of_lt (Heap.lt_size gb)
  have nd' : ∀ b u, H b = some u → b ≠ s.heap.objs.size := fun b u hb z => by rw [z, hN] at hb; cases hb
  have at1 : ∀ b, b ≠ a → b ≠ s.heap.objs.size → upd (upd H s.heap.objs.size (XD s.heap.objs.size [(f, y)])) a (XN a C (some s.heap.objs.size)) b = H b := fun b b1 b2 => by rw [upd_ne b1, upd_ne b2]
  have xnew : Xat h' a (.ref C) (some s.heap.objs.size) none := ⟨_, vs, g', ce, rfl, de, sz, by
    rcases tb with t | ⟨T, _, _, z, _⟩
    · exact .inl t
    · cases z⟩
  have own1 : ∀ b c, H c = some (.own b) → c ≠ a := fun b c hc z => by rw [z, e] at hc; cases hc
  have tup1 : ∀ c xs, H c = some (.tup xs) → c ≠ a := fun c xs hc z => by rw [z, e] at hc; cases hc
  refine I.un ⟨fun b o gb nb _ _ => k b o (na b nb) gb, fun b o gb nb _ _ => ⟨o.slots, k b o (na b nb) gb⟩, fun b o gb nb _ => ?_, fun b o gb _ => ?_, fun b xs z => ?_, fun b o w z => ?_, fun b ps z => ⟨#[], ?_⟩⟩ fun b w hb => ?_
  · rw [at1 b (na b nb) (nd b o gb)]; exact nb
  · by_cases b1 : b = a
    · exact ⟨_, by rw [b1]; exact g'⟩
    · exact ⟨o, k b o b1 gb⟩
  · rw [at1 b (tup1 b xs z) (nd' b _ z)]; exact z
  · rw [at1 b (fun q => by rw [q, e] at z; cases z) (nd' b _ z)]; exact z
  · rw [at1 b (fun q => by rw [q, e] at z; cases z) (nd' b _ z), z]; simp
  · by_cases b1 : b = a
    · subst b1
      rw [upd_same] at hb
      cases hb
      exact xn_ok xnew
    · rw [upd_ne b1] at hb
      by_cases b2 : b = s.heap.objs.size
      · subst b2
        rw [upd_same] at hb
        cases hb
        refine xd_ok (by show 1 ≤ 1000; decide) n' (fun g => ?_) fun g hg => ?_
        · show RelO (List.lookup g [(f, y)]) (if g = f then some u else none)
          by_cases q : g = f
          · rw [if_pos q, q]
            simp only [List.lookup_cons, beq_self_eq_true]
            exact ry
          · rw [if_neg q]
            simp only [List.lookup_cons, beq_eq_false_iff_ne.mpr q]
            exact trivial
        · by_cases q : g = f
          · simp [q]
          · exact absurd (show (if g = f then some u else none) = none from if_neg q) hg
      · rw [upd_ne b2] at hb
        refine (I.hok b w hb).stay (fun c v hc q => ?_) (fun c q => ?_) fun c xs q => ?_
        · rcases hc with rfl | hc
          · exact k c v b1 q
          · exact k c v (own1 b c hc) q
        · rw [at1 c (own1 b c q) (nd' c _ q)]; exact q
        · rw [at1 c (tup1 c xs q) (nd' c _ q)]; exact q
theorem xset1_ok {Q : Unit → Shared → Prop} (I : Inv X pins σ H s) (e : H a = some (XN a C (some dx))) (ed : H dx = some (XD dx fs)) (hl : fs.length < 1000) (c : XC X.K C) (n : PySem.W.findIn X.K (.ref C) f = some none) (ry : RelV y u)
    (h : ∀ s', Inv X pins σ (upd H dx (XD dx (putF f y fs))) s' → Q () s') : wpAny (model X.prog X.w) A (setAttr (.ref a) f u) Q E s := by
  obtain ⟨oe, vs, g, ce, oo, de, sz, tb⟩ := xn_at I e
  obtain ⟨_, mA, nm, r, wi⟩ := xd_at I ed
  have hz : (fs.map (·.1)).length ≤ sizeLine := by rw [List.length_map, sizeLine_eq]; omega
  refine set_x1 I.kIn c g ce (notCls_f de) oo nm n wi hz fun h' n' sb => h _ ?_
  have hd : ∃ o, h'.get? dx = some o := let ⟨o, _, _, e', _⟩ := n'; ⟨o, e'⟩
  refine I.write (x := dx) (e := dx) (by rw [ed]; exact True.intro) (.inl rfl) (fun b q hb z => (sb.2 b hb).trans z) hd ?_
  refine xd_ok (Nat.le_trans (length_putF f y fs) hl) n' (fun g => ?_) fun g hg => ?_
  · show RelO ((putF f y fs).lookup g) (if g = f then some u else mA g)
    rw [lookup_putF]
    by_cases q : g = f
    · rw [if_pos q, if_pos q]; exact ry
    · rw [if_neg q, if_neg q]; exact r g
  · by_cases q : g = f
    · rw [q]; exact (keys_putF f y fs).1
    · refine (keys_putF f y fs).2 g (wi g fun z => hg ?_)
      show (if g = f then some u else mA g) = none
      rw [if_neg q]; exact z
theorem xget_ok {b : Bool} {Q : Value → Shared → Prop} (I : Inv X pins σ H s) (e : H a = some (XO a C (some dx))) (ed : H dx = some (XD dx fs)) (c : XC X.K C) (n : PySem.W.findIn X.K (.ref C) f = some none) (l : fs.lookup f = some v)
    (h : ∀ u s', Inv X pins σ H s' → RelV v u → Q u s') : wpAny (model X.prog X.w) A (getAttr (.ref a) f b) Q E s := by
  obtain ⟨ox, vs, g, ce, oo, de⟩ := xo_at I e
  obtain ⟨_, mA, nm, r, wi⟩ := xd_at I ed
  obtain ⟨u, hu, ru⟩ := RelO.some_of (v := v) (o := mA f) (by rw [← l]; exact r f)
  obtain ⟨o1, g1, hl⟩ := lookIn_ns nm
  exact get_x I.kIn c g ce (notCls_f de) oo g1 (by rw [hl, hu]) n (handed_of ru) (h u _ (I.tok _) ru)
end
def sXF (K : PySem.W.Frag) (ta tv : TE) (f : Str) : TS := fun D σ H => tv σ H fun y H1 => ta σ H1 fun x H2 => ∃ a C, x = .ref a ∧ XC K C ∧ PySem.W.findIn K (.ref C) f = some none ∧
  ((H2 a = some (XN a C none) ∧ ∀ dx, H2 dx = none → D.nx σ (upd (upd H2 dx (XD dx [(f, y)])) a (XN a C (some dx)))) ∨
   ∃ dx fs, H2 a = some (XN a C (some dx)) ∧ H2 dx = some (XD dx fs) ∧ fs.length < 1000 ∧ D.nx σ (upd H2 dx (XD dx (putF f y fs))))
def tXF (K : PySem.W.Frag) (ta : TE) (f : Str) : TE := fun σ H Q => ta σ H fun x H1 => ∃ a C dx fs v, x = .ref a ∧ H1 a = some (XO a C (some dx)) ∧ H1 dx = some (XD dx fs) ∧ XC K C ∧ PySem.W.findIn K (.ref C) f = some none ∧ fs.lookup f = some v ∧ Q v H1
section
variable {X : Cx} {o e value : Expr} {f : Str} {pos pos' tpos : Pos} {ta tv te : TE}
theorem ps_xfld (ha : PE X o ta) (hv : PE X value tv) (hs : swapsWith value (some (.Attribute o f pos')) pos.line X.env = pure false) : PS X (.Assign [.Attribute o f pos'] value pos) (sXF X.K ta tv f) := by
  intro pins s σ H D I h
  refine plainObj_wpAny_Assign_Attribute (thn (hv pins s σ H _ I h) fun u s1 ⟨y, H1, I1, ry, q⟩ => thn (ha pins s1 σ H1 _ I1 q) fun ov s2 ⟨x, H2, I2, rx, a, C, ex, c, n, q2⟩ => ?_) hs
  subst ex
  obtain rfl : ov = Value.ref a := rx
  rcases q2 with ⟨ea, q2⟩ | ⟨dx, fs, ea, ed, hl, q2⟩
  · exact xset0_ok I2 ea c n ry fun dx s3 nd I3 => ⟨σ, _, I3, q2 dx nd⟩
  · exact xset1_ok I2 ea ed hl c n ry fun s3 I3 => ⟨σ, _, I3, q2⟩
theorem pe_xfld (he : PE X e te) (hb : attributeBase e f X.env (eval e X.env) = eval e X.env) : PE X (.Attribute e f pos) (tXF X.K te f) := by
  intro pins s σ H Q I h
  refine attr_of hb (thn (he pins s σ H _ I h) fun u s1 ⟨x, H1, I1, rx, a, C, dx, fs, v, ex, ea, ed, c, n, l, q⟩ => ?_)
  subst ex
  obtain rfl : u = Value.ref a := rx
  exact xget_ok I1 ea ed c n l fun u' s2 I2 ru => ⟨v, H1, I2, ru, q⟩
end
structure XMk (K : PySem.W.Frag) (C f : Addr) : Prop where
  makes : xmkIn K C = true
  init : PySem.W.findIn K (.ref C) "__init__" = some (some (.ref f))
  fn : PySem.W.isFn K (.ref f) = true
  kp : PySem.W.keepIn K (.ref C) = true
def tXMake (C : Addr) (sp : Sp) (dvs : List V) (t : TA) : TE := fun σ H Q => t σ H fun vs H1 => vs.length ≤ 1000 ∧ ∀ e, H1 e = none →
  sp (.ref e :: (vs ++ dvs)) (upd H1 e (XN e C none)) (fun v H2 => v = .non ∧ Q (.ref e) H2) (fun _ _ _ => False)
def tRaise (K : PySem.W.Frag) (te : TE) (E : St → XK) : TS := fun D σ H => te σ H fun v H1 => ∃ e C od, v = .ref e ∧ H1 e = some (XN e C od) ∧ xmkIn K C = true ∧ E σ e C (upd H1 e (XO e C od))
section
variable {X : Cx} {k : Nat} {f C : Addr} {fd : FuncData} {ps : List Str} {sp : Sp} {dvs : List V} {ds : List Value} {E : St → XK} {x m : Str} {p pos apos : Pos} {e o : Expr} {es : List Expr} {ta te : TE} {t : TA}
theorem run_xmake {pins : List (Addr × Obj)} {σ : St} {H : Hp} {s : Shared} {Q : VK} {us : List Value} {vs : List V} (M : XMk X.K C f) (F : FnOk q0 X.prog X.w X.K X.mg X.base (CXo X.prog X.w) k f fd ps sp) (hr : Room q0 (k + 1) X.A) (hb : Binds X.K fd ps ds) (hd : Vals dvs ds)
    (I : Inv X pins σ H s) (r : Vals vs us) (hl : vs.length ≤ 1000)
    (h : ∀ e, H e = none → sp (.ref e :: (vs ++ dvs)) (upd H e (XN e C none)) (fun v H2 => v = .non ∧ Q (.ref e) H2) (fun _ _ _ => False)) :
    wpAny (model X.prog X.w) X.A (call (.ref C) us) (EP X pins σ Q) X.xe s := by
  obtain ⟨nm, qn, N, bs, bm, hz, sn, sub, ab, col, dd, k0, k1, k2, k3, k5, gC, T⟩ := xmk_of I.kIn M.makes
  have ty : PySem.W.typeIn X.K (.ref f) = some (.type "function") := beq_iff_eq.mp M.fn
  obtain ⟨oI, gI, cI⟩ := Option.map_eq_some_iff.mp (show (X.K.lookup f).map (·.cls) = some (.type "function") from ty)
  have lu : us.length ≤ sizeLine := by
    have := r.length
    rw [← this, sizeLine_eq]
    omega
  obtain ⟨hh, gg, d, tk, os⟩ := s
  refine call_xinit PySem.F.excBase_ValueError T gC (fun A' Q' E' s' kk q => PySem.W.looks_findIn I.kIn M.init A' Q' E' s' kk q) (I.kIn _ _ gI) cI lu fun h' e hm se => ?_
  have hn : H e = none := I.hok.fresh se
  obtain ⟨t0, ge, _, _⟩ := hm.there
  have xa : Xat h' e (.ref C) none none := ⟨_, _, ge, rfl, rfl, rfl, by simp, .inl ⟨rfl, rfl⟩⟩
  have I2 : Inv X pins σ (upd H e (XN e C none)) ⟨h', gg, d, tk, os⟩ := I.laid (t' := tk) hm.keeps se (xn_ok xa)
  have hq := h e hn
  have r2 : Vals (V.ref e :: (vs ++ dvs)) (Value.ref e :: (us ++ ds)) := .cons rfl (r.append hd)
  have hl2 : (Value.ref e :: us ++ ds).length = ps.length := by
    have z := r2.length
    rw [F.len _ _ _ _ hq] at z
    exact z.symm
  refine wpAny_call (codeAny_mono (F.run _ X.stack _ _ ⟨Value.ref e :: us, []⟩ (Value.ref e :: (us ++ ds)) _ _ (fun _ _ _ => False) (hr.make C us [])
    (I2.env0.make C us []) (hb _ (Value.ref e :: us) I2.kIn hl2) r2 hq) fun r s' hq' => ?_)
  cases r with
  | error e' => exact (pass_none pins σ _ _ e' s' I2 hq')
  | ok fl =>
    cases fl with
    | ret u =>
      obtain ⟨v, H', I3, rv, ev, q3⟩ := I2.after hq'
      subst ev
      exact ⟨rv, ⟨V.ref e, H', I3, rfl, q3⟩⟩
    | next => exact False.elim hq'
    | brk => exact False.elim hq'
    | cont => exact False.elim hq'
theorem pe_xmake (M : XMk X.K C f) (F : FnOk q0 X.prog X.w X.K X.mg X.base (CXo X.prog X.w) k f fd ps sp) (hr : Room q0 (k + 1) X.A) (hg : Gl X x) (hm : X.mg x = some (.ref C)) (hb : Binds X.K fd ps ds) (hd : Vals dvs ds)
    (ha : PA X (e :: es) t) (hdb : (x == ("__debug__" : Str)) = false := by decide) (he : starEach (e :: es) X.env = (false, eval e X.env) :: starEach es X.env := by rfl) (hpl : (backTo pos (starEach es X.env)).any (·.1) = false := by rfl) :
    PE X (.Call (.Name x p) (e :: es) [] pos) (tXMake C sp dvs t) := by
  intro pins s σ H Q I h
  refine wpAny_Call_Name_kw (ld_glob I hg hm ?_ hdb)
  refine PySem.W.callWith_K (h₀ := X.base) I.ok.mod.kin M.kp (thn (ha pos pins s σ H _ I h) fun us s1 ⟨vs, H1, I1, r, hl, q⟩ => ⟨I1.kIn, ?_⟩) he hpl
  exact run_xmake M F hr hb hd I1 r hl q
theorem Inv.toXO {pins : List (Addr × Obj)} {σ : St} {H : Hp} {s : Shared} {e : Addr} {od : Option Addr} (I : Inv X pins σ H s) (h : H e = some (XN e C od)) : Inv X pins σ (upd H e (XO e C od)) s := by
  have x := xn_at I h
  obtain ⟨oe, _, ge, _⟩ := id x
  exact I.write (x := e) (e := e) (t' := s.toks) (by rw [h]; exact True.intro) (.inl rfl) (fun b u _ z => z) ⟨oe, ge⟩ (xo_ok (xat_xo x))
theorem tail_base {h : Heap} {bm : List Value} (T : OwnTail h vErr bm) : bm.contains (.type "BaseException") = true := T.hasType (by decide +kernel)
theorem ps_raise (hh : X.A.handled = none) (tk : Takes X E) (he : PE X e te) : PS X (.Raise (some e) none pos) (tRaise X.K te E) := by
  intro pins s σ H D I h
  rw [arm_exec_Raise]
  refine wpAny_bind (wpAny_standAt ?_)
  show wpAny _ _ (raiseStmt X.env (some (do let v ← eval e X.env; standAt pos; pure v)) none) _ _ s
  refine raise_x hh (wpAny_bind (thn (he pins s σ H _ I h) fun v s1 ⟨x, H1, I1, rx, a, C, od, ex, ea, mk, q⟩ => wpAny_bind (wpAny_standAt (wpAny_pure ?_))))
  subst ex
  obtain rfl : v = Value.ref a := rx
  obtain ⟨nm, qn, N, bs, bm, hz, sn, sub, ab, col, dd, k0, k1, k2, k3, k5, gC, T⟩ := xmk_of I1.kIn mk
  have x := xn_at I1 ea
  exact ⟨a, od, C, nm, qn, N, bs, bm, hz, sn, sub, ab, col, dd, k0, k1, k2, k3, k5, _, rfl, tail_base T, gC, x, tk pins σ _ s1 a C od none (I1.toXO ea) x upd_same (fun T' z => by cases z) q⟩
end
end L2
set_option maxRecDepth 100000
namespace XL
open PySem PySem.W
section
variable {M : Model} {A : Around} {E : Value → Shared → Prop} {s : Shared}
theorem flight_x {fs : List Addr} {e T : Addr} {cls : Value} {od : Option Addr} {Q : Unit → Shared → Prop} (x : Xat s.heap e cls od (some T)) (nf : ∀ b ∈ fs, b ≠ T)
    (k : ∀ h', Stp fs e (some T) s.heap h' → Xat h' e cls od (some T) → Q () { s with heap := h' }) : wpAny M A (setFlight (.ref e) none) Q E s := by
  obtain ⟨oe, vs, ge, ce, oo, de, se, y⟩ := x
  rcases y with ⟨z, _⟩ | ⟨T', oT, ts, z, h1, nTe, gT, dT, h3⟩
  · cases z
  · cases z
    unfold setFlight
    refine wpAny_bind (wpAny_field ge de h1 ?_)
    rw [if_pos (show (Value.ref T != Value.none) = true from by simp)]
    have z3 : 3 < ts.size := (Array.getElem?_eq_some_iff.mp h3).1
    have ot : ∀ b, b ≠ T → (s.heap.update T (Obj.mapFields (·.setIfInBounds 3 ((none : Option Addr).elim Value.none fun f => rawInt f)))).get? b = s.heap.get? b := fun b hb => Heap.get?_update_other _ _ (Ne.symm hb)
    refine wpAny_setField gT dT z3 (k _ ⟨fun b o hb _ bt _ => (ot b fun q => bt (congrArg some q.symm)).trans hb, fun b o hb bf => ⟨o.slots, (ot b (nf b bf)).trans hb⟩⟩ ?_)
    exact ⟨oe, vs, (ot e (Ne.symm nTe)).trans ge, ce, oo, de, se, .inr ⟨T, _, _, rfl, h1, nTe, Heap.get?_update_self _ gT (Obj.isFreed_of_fields (Obj.data_mapFields dT _)), Obj.data_mapFields dT _, by simp [z3]⟩⟩
variable {nm qn nm' qn' : Str} {C N C' N' : Addr} {bs bm bs' bm' : List Value} {hz hz' : Bool} {sn sn' : List Str} {sub sub' : List Value} {ab ab' : Bool} {col col' : Option Bool} {dd dd' : Option Addr} {k0 k1 k2 k3 k5 j0 j1 j2 j3 j5 : Option Value} {ni ni' : String}
theorem matches_own {h : Heap} {g : Array GenState} {d : Drawn} {t : Nat} {os : OsState} {e : Addr} {oe : Obj} {b : Bool} {Q : Bool → Shared → Prop}
    (gC : h.get? C = some (excClassObj nm qn C N bs bm hz sn sub ab col dd k0 k1 k2 k3 k5 ni)) (gC' : h.get? C' = some (excClassObj nm' qn' C' N' bs' bm' hz' sn' sub' ab' col' dd' j0 j1 j2 j3 j5 ni'))
    (ge : h.get? e = some oe) (ce : oe.cls = .ref C) (bB : bm'.contains (.type "BaseException") = true) (hm : (Value.ref C :: bm).contains (.ref C') = b)
    (k : Q b ⟨h, g, d, t, os⟩) : wpAny M A (excMatches (.ref e) (.ref C')) Q E ⟨h, g, d, t, os⟩ := by
  have mB : (Value.ref C' :: bm').contains (.type "BaseException") = true := by rw [List.contains_cons, bB, Bool.or_true]
  have nt := tc_notTuple
  unfold excMatches
  repeat (first | (with_reducible refine wpAny_loadPart_at ge ?_; rw [ce]) | with_reducible refine wpAny_loadPart_at gC' ?_ | (with_reducible refine wpAny_isSubtype_exc gC' ?_; rw [mB]) | (with_reducible refine wpAny_isSubtype_exc gC ?_; rw [hm]) | wp_step)
  cases b <;> (wp_walk; exact k)
end
end XL
namespace L2
open PySem PySem.Spec PyProof.Rows XL
variable {q0 : Bool}
abbrev Cx.tryc (X : Cx) (pins : List (Addr × Obj)) (xe : Value → Shared → Prop) : Cx := { X with xe := xe, pn := X.pn ++ pins }
abbrev Cx.hand (X : Cx) (e : Addr) : Cx := { X with A := X.A.mark (some (.ref e)), calm := false, xe := fun _ _ => False }
section
variable {X : Cx} {pins : List (Addr × Obj)} {σ : St} {H : Hp} {s : Shared}
theorem Cx.Ok.tryc (ok : X.Ok) (pins : List (Addr × Obj)) (xe : Value → Shared → Prop) : (X.tryc pins xe).Ok :=
  ⟨ok.mod, ok.kind, ok.glob, ok.blt, ok.above, ok.inj, ok.has, ok.cab, ok.hd, ok.frames, ok.stk, ok.exf, ok.bs, ok.bsz, ok.noex, ok.exfs, ok.funs, ok.frf⟩
theorem Cx.Ok.untryc {xe : Value → Shared → Prop} (ok : (X.tryc pins xe).Ok) : X.Ok :=
  ⟨ok.mod, ok.kind, ok.glob, ok.blt, ok.above, ok.inj, ok.has, ok.cab, ok.hd, ok.frames, ok.stk, ok.exf, ok.bs, ok.bsz, ok.noex, ok.exfs, ok.funs, ok.frf⟩
theorem Cx.Ok.hand (ok : X.Ok) (e : Addr) : (X.hand e).Ok :=
  ⟨ok.mod, ok.kind, ok.glob, ok.blt, ok.above, ok.inj, ok.has, ok.cab, (fun z => nomatch z), ok.frames, ok.stk, ok.exf, ok.bs, ok.bsz, ok.noex, ok.exfs, ok.funs, ok.frf⟩
theorem Inv.tryc (I : Inv X pins σ H s) (xe : Value → Shared → Prop) : Inv (X.tryc pins xe) [] σ H s :=
  ⟨I.ok.tryc pins xe, I.os, I.bare, I.base, I.loc, I.cell, I.free, I.freeC, fun p hp => I.pin p (by simpa using hp), I.hok, I.len⟩
theorem Inv.untryc {xe : Value → Shared → Prop} {pl : List (Addr × Obj)} (I : Inv (X.tryc pins xe) pl σ H s) : Inv X pins σ H s :=
  ⟨I.ok.untryc, I.os, I.bare, I.base, I.loc, I.cell, I.free, I.freeC, fun p hp => I.pin p (List.mem_append_left _ hp), I.hok, I.len⟩
theorem Inv.hand (I : Inv X pins σ H s) (e : Addr) : Inv (X.hand e) pins σ H s :=
  ⟨I.ok.hand e, I.os, I.bare, I.base, I.loc, I.cell, I.free, I.freeC, I.pin, I.hok, I.len⟩
theorem Inv.unhand {e : Addr} (ok : X.Ok) (I : Inv (X.hand e) pins σ H s) : Inv X pins σ H s :=
  ⟨ok, I.os, I.bare, I.base, I.loc, I.cell, I.free, I.freeC, I.pin, I.hok, I.len⟩
theorem Inv.gone {h' : Heap} {m m' : Str → Option Value} {n : Str} {j t' : Nat} (I : Inv X pins σ H s) (hN : X.N.Nodup) (hj : X.N[j]? = some n) (hl : X.env.scope.names.lookup n = some .local)
    (hm : s.heap.Ns X.env.locals m) (hv : ∀ (i : Nat) (x : Str) (v : V), X.N[i]? = some x → σ[i]? = some (some v) → Vis X.env.scope x → ∃ u, RelV v u ∧ Look X.env s.heap m x u)
    (n' : h'.Ns X.env.locals m') (e' : ∀ y, y ≠ n → m' y = m y) (sb : Heap.SameBut X.env.locals s.heap h') : Inv X pins (σ.set j none) H { s with heap := h', toks := t' } := by
  have kp : ∀ b o, b ≠ X.env.locals → s.heap.get? b = some o → h'.get? b = some o := fun b o nb g => (sb.2 b nb).trans g
  have neL : ∀ b o, X.s₀.heap.get? b = some o → b ≠ X.env.locals := fun b o e => Nat.ne_of_lt (Nat.lt_of_lt_of_le (Heap.lt_size e) I.ok.above)
  have trk : ∀ b u, H b = some u → b ≠ X.env.locals := fun b u hb z => by rw [z, I.free] at hb; cases hb
  refine ⟨I.ok, I.os, I.bare, ⟨fun b o e n hb hx => kp b o (neL b o e) (I.base.keep b o e n hb hx), fun b o e n hb hx => ?_, fun b o e n hx => I.base.free b o e n hx, fun b o e hx => ?_, I.base.tups, I.base.frzs, I.base.tbls⟩,
    ⟨m', n', fun i x v e1 e2 e3 => ?_⟩, fun x c e => ?_, I.free, I.freeC, fun p hp => ?_, fun b u hb => ?_, by rw [List.length_set]; exact I.len⟩
  · obtain ⟨sl, q⟩ := I.base.slot b o e n hb hx
    exact ⟨sl, kp b _ (neL b o e) q⟩
  · obtain ⟨o', q⟩ := I.base.there b o e hx
    exact ⟨o', kp b o' (neL b o e) q⟩
  · have nij : i ≠ j := fun z => by
      subst z
      have hl2 : i < σ.length := by rw [I.len]; exact (List.getElem?_eq_some_iff.mp hj).1
      rw [List.getElem?_set_self hl2] at e2
      cases e2
    rw [List.getElem?_set_ne (Ne.symm nij)] at e2
    have nx : x ≠ n := fun z => nij (nodup_ix hN e1 (by rw [z]; exact hj))
    obtain ⟨u, r, l⟩ := hv i x v e1 e2 e3
    refine ⟨u, r, ?_⟩
    rcases l with ⟨k, z⟩ | ⟨k, c, e, o, ho, hd⟩
    · exact .inl ⟨k, by rw [e' x nx]; exact z⟩
    · exact .inr ⟨k, c, e, o, kp c o (I.cne x c e) ho, hd⟩
  · obtain ⟨v, o, ho, hd⟩ := I.cell x c e
    exact ⟨v, o, kp c o (I.cne x c e) ho, hd⟩
  · obtain ⟨e, a, ne, nf, d⟩ := I.pin p hp
    exact ⟨kp p.1 p.2 ne e, a, ne, nf, d⟩
  · refine (I.hok b u hb).stay (fun c v hc q => ?_) (fun c q => q) fun c xs q => q
    rcases hc with rfl | hc
    · exact kp c v (trk c u hb) q
    · exact kp c v (trk c _ hc) q
end
def endH (D : Ends) (j : Nat) : Ends := { nx := fun σ H => D.nx (σ.set j none) H, rt := D.rt, bk := fun σ H => D.bk (σ.set j none) H, ct := fun σ H => D.ct (σ.set j none) H }
def tTry (K : PySem.W.Frag) (C0 : Addr) (j : Nat) (E : St → XK) (tb th : TS) : TS := fun D σ H => tb D σ H ∧ ∀ σ' e C H', E σ' e C H' → xmkIn K C = true ∧ PySem.W.mroIn K C (.ref C0) = some true ∧ th (endH D j) (σ'.set j (some (.ref e))) H'
section
variable {X : Cx} {pos np hpos : Pos} {body hbody : List Stmt} {b0 : Stmt} {cx n : Str} {C0 : Addr} {j : Nat} {E : St → XK} {tb th : TS}
theorem ps_try (hg : Gl X cx) (hm : X.mg cx = some (.ref C0)) (mk0 : xmkIn X.K C0 = true) (hN : X.N.Nodup) (hj : X.N[j]? = some n) (hl : X.env.scope.names.lookup n = some .local) (hf : X.env.frame = some X.env.locals) (hst : X.stack = X.env :: X.outer)
    (hb : ∀ pins xe, Takes (X.tryc pins xe) E → PSs (X.tryc pins xe) body tb) (hh : ∀ e, PSs (X.hand e) (b0 :: hbody) th) (hdb : (cx == ("__debug__" : Str)) = false := by decide) :
    PS X (.Try body [.ExceptHandler (some (.Name cx np)) (some n) (b0 :: hbody) hpos] [] [] pos) (tTry X.K C0 j E tb th) := by
  intro pins s σ H D I ⟨h1, h2⟩
  refine wpAny_Try_except ?_
  have ok := I.ok
  have T : Takes (X.tryc pins (fun e s₁ => wpAny (model X.prog X.w) X.A (noteFrame e X.env) (fun _ s₂ => wpAny (model X.prog X.w) X.A (setFlight e none) (fun _ s₃ => wpAny (model X.prog X.w) X.A (handleBy e X.env [.ExceptHandler (some (.Name cx np)) (some n) (b0 :: hbody) hpos]) (SP X pins D) X.xe s₃) X.xe s₂) X.xe s₁)) E := by
    intro pl σ' H' s' e C od tb' I' x he tbs q
    have J := I'.untryc
    have tbs' : Tbs X pins H' tb' := fun T z => by
      obtain ⟨a1, a2, a3, a4, a5⟩ := tbs T z
      exact ⟨a1, a2, a3, a4, fun p hp => a5 p (List.mem_append_left _ hp)⟩
    obtain ⟨mkC, mro, hth⟩ := h2 σ' e C H' q
    have fr : X.A.frames = some (X.env :: X.outer) := by rw [← hst]; exact J.ok.frames
    have ff : s'.heap.FunFrames X.base (X.env :: X.outer) := by rw [← hst]; exact J.stack
    refine note_x (L := X.env.locals) fr ff hf x fun h' T st sT x' => ?_
    rw [← hst] at st
    have J2 := J.noted he tbs' st x'
    have fr2 : X.base.objs.size ≤ s'.heap.objs.size := Nat.le_trans J.ok.bsz J.sz
    have ff2 : h'.FunFrames X.base X.stack := J2.stack
    have nT : ∀ b ∈ frs X.stack, b ≠ T := fun b hb z => by
      obtain ⟨_, o, ho, hnf⟩ := J.stack.mem hb
      rw [z] at ho
      exact absurd (Heap.lt_size ho) (Nat.not_lt.mpr sT)
    have fresh := J.size_lt sT
    have tbs2 : Tbs X pins H' (some T) := fun T' z => by
      cases z
      exact ⟨Nat.le_trans J.sz sT, fresh.1, fresh.2.1, fresh.2.2.1, fresh.2.2.2⟩
    obtain ⟨nm, qn, N, bs, bm, hz, sn, sub, ab, col, dd, k0, k1, k2, k3, k5, gC, TC⟩ := xmk_of J2.kIn mkC
    obtain ⟨nm', qn', N', bs', bm', hz', sn', sub', ab', col', dd', j0, j1, j2, j3, j5, gC0, TC0⟩ := xmk_of J2.kIn mk0
    refine wpAny_handleBy_cons (codeAny_handlers_test (ld_glob (X := X.hand e) (J2.hand e) hg hm ?_ hdb)) (by intro z; cases z)
    obtain ⟨oe, _, ge, ce, _⟩ := id x'
    have hmr : (Value.ref C :: bm).contains (.ref C0) = true := by
      obtain ⟨cd, e1, e2⟩ := Option.bind_eq_some_iff.mp mro
      have e3 : (Value.ref C :: bm) = cd.mro := by
        unfold PySem.W.clsIn at e1
        split at e1
        · rename_i c1 d1 cd1 sl1 ho
          cases e1
          have z := (J2.kIn _ _ ho).symm.trans gC
          injection z with z
          injection z with _ _ z _
          injection z with z
          rw [z]
        · cases e1
      rw [e3]
      split at e2
      · cases e2
      · exact Option.some.inj e2
    refine matches_own (M := model X.prog X.w) gC gC0 ge ce (tail_base TC0) hmr ?_
    show codeAny _ _ _ _ _
    refine codeAny_handlers_suite_as (flight_x (fs := frs X.stack) x' nT fun h3 st3 x3 => ?_)
    have J3 : Inv X pins σ' H' { s' with heap := h3 } := J2.noted he tbs2 st3 x3
    refine store_ok (v := V.ref e) J3 hN hj (.inl hl) rfl (fun s4 J4 => ?_) (.inr hl)
    refine wpAny_mono (hh e pins s4 _ H' _ (J4.hand e) hth) (fun f s5 q5 => ?_) fun _ _ z => z.elim
    have fin : ∀ {σ5 : St} {H5 : Hp} {Q : Unit → Shared → Prop}, Inv (X.hand e) pins σ5 H5 s5 → (∀ s6, Inv X pins (σ5.set j none) H5 s6 → Q () s6) →
        wpAny (model X.prog X.w) X.A (do bindName X.env n Value.none; unbindBehindTheSuite X.env n hpos) Q X.xe s5 := fun {σ5 H5 Q} K5 kq => by
      have K6 : Inv X pins σ5 H5 s5 := Inv.unhand ok K5
      obtain ⟨m, hm5, hv5⟩ := K6.loc
      refine name_gone (show X.env.kindOf n = some .local from hl) hm5 (by simp [ok.kind]) fun h6 m6 n6 e6 s6 => kq _ (K6.gone hN hj hl hm5 hv5 n6 e6 s6)
    cases f with
    | next =>
      obtain ⟨σ5, H5, K5, z⟩ := q5
      exact fin K5 fun s6 K6 => ⟨_, H5, K6, z⟩
    | brk =>
      obtain ⟨σ5, H5, K5, z⟩ := q5
      exact fin K5 fun s6 K6 => ⟨_, H5, K6, z⟩
    | cont =>
      obtain ⟨σ5, H5, K5, z⟩ := q5
      exact fin K5 fun s6 K6 => ⟨_, H5, K6, z⟩
    | ret u =>
      obtain ⟨v, σ5, H5, K5, r, z⟩ := q5
      exact fin K5 fun s6 K6 => ⟨v, _, H5, K6, r, z⟩
  refine wpAny_mono (hb pins _ T [] s σ H D (I.tryc _) h1) (fun f s1 q => ?_) fun u s1 q => q
  cases f with
  | next =>
    obtain ⟨σ', H', J, z⟩ := q
    exact wpAny_execs_nil ⟨σ', H', J.untryc, z⟩
  | brk =>
    obtain ⟨σ', H', J, z⟩ := q
    exact ⟨σ', H', J.untryc, z⟩
  | cont =>
    obtain ⟨σ', H', J, z⟩ := q
    exact ⟨σ', H', J.untryc, z⟩
  | ret u =>
    obtain ⟨v, σ', H', J, r, z⟩ := q
    exact ⟨v, σ', H', J.untryc, r, z⟩
end
end L2
set_option maxRecDepth 100000
namespace XL
open PySem PySem.W
theorem kitx_x {K : Frag} {x C : Addr} (c : XC K C) : KitX K (.ref x) (.ref C) (fun h => ∃ ox od, InstAt h x ox C od) where
  ty := fun _ _ _ ⟨_, _, I⟩ => I.type
  it := fun _ _ X _ => by
    obtain ⟨cd, hc, _, _⟩ := c.mro
    unfold clsIn at hc
    split at hc
    · rename_i c' d' cd' sl' ho
      intro A' Q' E' s' k q
      unfold isType loadHead
      exact wpAny_bind (wpAny_loadPart (k _ _ (X _ _ ho)) (wpAny_pure q))
    · cases hc
  ne := fun h tp dd its n sl X htp => by
    obtain ⟨cd, hc, _, _⟩ := c.mro
    refine Bool.eq_false_iff.mpr fun q => ?_
    have e : C = tp := Value.ref.inj (beq_iff_eq.mp q)
    subst e
    unfold clsIn at hc
    split at hc
    · rename_i c' d' cd' sl' ho
      have z := (X _ _ ho).symm.trans htp
      cases z
    · cases hc
  ca := fun X ⟨ox, od, I⟩ k => get_xcls X c I k
end XL
namespace L2
open PySem PySem.Spec PyProof.Rows XL
variable {q0 : Bool}
def clsV : V → Option Value
  | .ty n => some (.type n)
  | .ref a => some (.ref a)
  | _ => none
theorem clsV_rel {c : V} {u cv : Value} (e : clsV c = some cv) (r : RelV c u) : u = cv := by
  cases c <;> first | (cases e; exact r) | cases e
def clsVs : List V → Option (List Value)
  | [] => some []
  | c :: r => (clsV c).bind fun a => (clsVs r).map (a :: ·)
theorem clsVs_rel : ∀ {cs : List V} {us cv : List Value}, clsVs cs = some cv → Vals cs us → us = cv
  | [], _, _, e, .nil => by cases e; rfl
  | c :: r, _, _, e, .cons rc rr => by
    obtain ⟨a, e1, e2⟩ := Option.bind_eq_some_iff.mp e
    obtain ⟨b, e3, rfl⟩ := Option.map_eq_some_iff.mp e2
    rw [clsV_rel e1 rc, clsVs_rel e3 rr]
section
variable {X : Cx} {pins : List (Addr × Obj)} {σ : St} {H : Hp} {s : Shared} {A : Around} {E : Value → Shared → Prop} {Q : Value → Shared → Prop}
theorem xo_inst {a C : Addr} {od : Option Addr} (I : Inv X pins σ H s) (h : H a = some (XO a C od)) (hd : ∀ d, od = some d → ∃ o, s.heap.get? d = some o) : ∃ ox odx, PySem.W.InstAt s.heap a ox C odx := by
  obtain ⟨ox, vs, g, ce, oo, de⟩ := xo_at I h
  cases e : od with
  | none => exact ⟨ox, none, g, ce, notCls_f de, by rw [oo, e]; trivial⟩
  | some d =>
    obtain ⟨o, go⟩ := hd d e
    exact ⟨ox, some o, g, ce, notCls_f de, by rw [oo, e]; exact go⟩
end
def rIsin (K : PySem.W.Frag) : List V → Hp → VK → Prop := fun xs H Q => ∃ x c, xs = [x, c] ∧ ((∃ t cv b, TyOf K H x t ∧ clsV c = some cv ∧ PySem.W.kitOne K t cv = some b ∧ Q (.bl b) H) ∨
  (∃ a C od cv b, x = .ref a ∧ H a = some (XO a C od) ∧ (∀ d, od = some d → ∃ fs, H d = some (XD d fs)) ∧ XC K C ∧ clsV c = some cv ∧ PySem.W.kitOne K (.ref C) cv = some b ∧ Q (.bl b) H) ∨
  (∃ a C od p cs cv b, x = .ref a ∧ H a = some (XO a C od) ∧ (∀ d, od = some d → ∃ fs, H d = some (XD d fs)) ∧ XC K C ∧ c = .ref p ∧ SqT K H p cs ∧ clsVs cs = some cv ∧ PySem.W.kitAny K (.ref C) cv = some b ∧ Q (.bl b) H))
section
variable {X : Cx}
theorem call_isin : CallR X (.builtin "isinstance") (rIsin X.K) := by
  intro pins s σ H us xs Q I r h
  obtain ⟨x, c, rfl, h⟩ := h
  obtain ⟨u, v, rfl, ru, rv⟩ := vals2 r
  rcases h with ⟨t, cv, b, ty, ec, ek, q⟩ | ⟨a, C, od, cv, b, rfl, ha, hd, xc, ec, ek, q⟩ | ⟨a, C, od, p, cs, cv, b, rfl, ha, hd, xc, rfl, hp, ec, ek, q⟩
  · obtain rfl := clsV_rel ec rv
    exact isinst_ok I ru ty ek fun tk => ⟨.bl b, H, I.tok tk, rfl, q⟩
  · obtain rfl := clsV_rel ec rv
    obtain rfl : u = Value.ref a := ru
    refine PySem.W.kia_one (kitx_x xc) I.kIn (xo_inst I ha fun d e => ?_) ek (fun z => nomatch z) fun tk => ⟨.bl b, H, I.tok tk, rfl, q⟩
    obtain ⟨fs, hw⟩ := hd d e
    obtain ⟨_, _, ⟨o, _, _, go, _⟩, _⟩ := xd_at I hw
    exact ⟨o, go⟩
  · obtain rfl : u = Value.ref a := ru
    obtain rfl : v = Value.ref p := rv
    obtain ⟨its, vi, it, _⟩ := I.tuple hp
    obtain rfl := clsVs_rel ec vi
    obtain ⟨o, g, oc, n, od'⟩ := it
    obtain ⟨c1, d1, dt1, sl1⟩ := o
    dsimp only at oc od'
    subst oc od'
    refine PySem.W.kia_tup (kitx_x xc) I.kIn (xo_inst I ha fun d e => ?_) g ek (fun z => nomatch z) fun tk => ⟨.bl b, H, I.tok tk, rfl, q⟩
    obtain ⟨fs, hw⟩ := hd d e
    obtain ⟨_, _, ⟨o, _, _, go, _⟩, _⟩ := xd_at I hw
    exact ⟨o, go⟩
end
end L2
set_option maxRecDepth 100000
namespace L2
open PySem PySem.Spec PyProof.Rows XL
variable {q0 : Bool}
def frees (scope : Scope) : List Str := (scope.names.filter fun x => x.2 == .free).map (·.1)
def Cx.clo (X : Cx) (scope : Scope) : List (Str × Addr) := (frees scope).reverse.map fun n => (n, (X.env.cells.lookup n).getD 0)
theorem closure_of {env : Env} {f : Str → Addr} : ∀ (l : List (Str × NameKind)) (acc : List (Str × Addr)), (∀ x ∈ l, x.2 = .free → env.cells.lookup x.1 = some (f x.1)) →
    (forIn l acc fun x cs => (if x.2 == .free then do let c ← cellOf env x.1; pure (ForInStep.yield ((x.1, c) :: cs)) else pure (ForInStep.yield cs) : Sem (ForInStep (List (Str × Addr))))) =
      pure ((((l.filter fun x => x.2 == .free).map (·.1)).reverse.map fun n => (n, f n)) ++ acc)
  | [], acc, _ => rfl
  | x :: r, acc, h => by
    have ih := fun a => closure_of r a fun y hy => h y (List.mem_cons_of_mem _ hy)
    rw [List.forIn_cons]
    by_cases q : x.2 = .free
    · have e := h x List.mem_cons_self q
      have qb : (x.2 == NameKind.free) = true := by rw [q]; rfl
      rw [if_pos qb, List.filter_cons, if_pos qb]
      have ec : cellOf env x.1 = pure (f x.1) := by unfold cellOf; rw [e]
      rw [ec]
      simp only [pure_bind]
      rw [ih]
      simp
    · have qb : (x.2 == NameKind.free) = false := by simpa using q
      rw [if_neg (by rw [qb]; decide), List.filter_cons, if_neg (by rw [qb]; decide)]
      simp only [pure_bind]
      rw [ih]
theorem clo_of {X : Cx} {scope : Scope} (h : ∀ n ∈ frees scope, ∃ c, X.env.cells.lookup n = some c) : closureFor scope X.env = pure (X.clo scope) := by
  unfold closureFor
  have z := closure_of (env := X.env) (f := fun n => (X.env.cells.lookup n).getD 0) scope.names [] fun x hx hf => by
    obtain ⟨c, e⟩ := h x.1 (List.mem_map.mpr ⟨x, List.mem_filter.mpr ⟨hx, by simp [hf]⟩, rfl⟩)
    rw [e]
    rfl
  rw [List.append_nil] at z
  refine (bind_pure (m := Sem) _).trans ?_
  exact z
theorem clo_mem {X : Cx} {scope : Scope} {n : Str} {c : Addr} (h : (X.clo scope).lookup n = some c) : n ∈ frees scope ∧ c = (X.env.cells.lookup n).getD 0 := by
  have z := PySem.mem_of_lookup h
  unfold Cx.clo at z
  obtain ⟨y, hy, e⟩ := List.mem_map.mp z
  injection e with e1 e2
  subst e1
  exact ⟨List.mem_reverse.mp hy, e2.symm⟩
theorem lookup_map_self {f : Str → Addr} {n : Str} : ∀ {l : List Str}, n ∈ l → (l.map fun y => (y, f y)).lookup n = some (f n)
  | [], h => by simp at h
  | y :: r, h => by
    rw [List.map_cons, List.lookup_cons]
    by_cases q : n = y
    · subst q
      simp
    · rw [show (n == y) = false from by simpa using q]
      exact lookup_map_self ((List.mem_cons.mp h).resolve_left q)
theorem clo_get {X : Cx} {scope : Scope} {n : Str} {c : Addr} (hn : n ∈ frees scope) (h : X.env.cells.lookup n = some c) : (X.clo scope).lookup n = some c := by
  have z := lookup_map_self (f := fun n => (X.env.cells.lookup n).getD 0) (List.mem_reverse.mpr hn)
  unfold Cx.clo
  rw [z, h]
  rfl
section
variable {X : Cx} {pins : List (Addr × Obj)} {σ : St} {H : Hp} {s : Shared} {scope : Scope} {x : Str} {ys : List Str} {fr : List Nat} {fp : List Addr}
end
section
variable {X : Cx} {pins : List (Addr × Obj)} {σ : St} {H : Hp} {s : Shared} {scope : Scope} {x : Str} {ys : List Str} {fr : List Nat} {fp : List Addr}
end
def tTrue : TT := fun _ H Q => Q true H
def PIf (X : Cx) (ifs : List Expr) (t : TT) : Prop :=
  ∀ (pins : List (Addr × Obj)) (s : Shared) (σ : St) (H : Hp) (Q : Bool → Hp → Prop), Inv X pins σ H s → t σ H Q →
    wpAny (model X.prog X.w) X.A (forIn ifs true fun c r => if r = true then do let ok ← isTrue c X.env (eval c X.env); pure (ForInStep.yield ok) else pure (ForInStep.yield r)) (TP X pins σ Q) X.xe s
theorem pif_nil {X : Cx} : PIf X [] tTrue := fun pins s σ H Q I h => wpAny_pure ⟨H, I, h⟩
theorem pif_one {X : Cx} {c : Expr} {t : TT} (hc : PT X c t) : PIf X [c] t := fun pins s σ H Q I h => by
  rw [List.forIn_cons]
  refine wpAny_bind ?_
  rw [if_pos rfl]
  refine wpAny_bind (wpAny_mono (hc pins s σ H Q I h) (fun b s1 q => wpAny_pure ?_) fun _ _ z => z)
  exact wpAny_pure q
section
variable {X : Cx} {scope : Scope} {x : Str} {ys : List Str} {fr : List Nat} {elt iter : Expr} {ifs : List Expr} {px pos : Pos} {wi : TI} {tc : TT} {te : TE}
end
end L2
set_option maxRecDepth 100000
namespace L2
open PySem PySem.Spec PyProof.Rows XL
variable {q0 : Bool}
theorem relab_has {env : Env} {scope : Scope} (nc : ∀ y ∈ scope.names, y.2 ≠ .cell) (n : Str) (h : (relabel scope env).names.lookup n = some .cell ∨ (relabel scope env).names.lookup n = some .free) : n ∈ frees scope := by
  have key : ∀ k, (relabel scope env).names.lookup n = some k → (k = .cell ∨ k = .free) → n ∈ frees scope := fun k e hk => by
    obtain ⟨y, hy, ey⟩ := List.mem_map.mp (PySem.mem_of_lookup e)
    obtain ⟨m, j⟩ := y
    dsimp only at ey
    split at ey
    · rename_i q
      injection ey with e1 e2
      subst e1
      have : j = .free := by
        simp only [Bool.and_eq_true, beq_iff_eq] at q
        exact q.1.1
      subst this
      exact List.mem_map.mpr ⟨_, List.mem_filter.mpr ⟨hy, by simp⟩, rfl⟩
    · injection ey with e1 e2
      subst e1 e2
      rcases hk with z | z
      · exact absurd z (nc _ hy)
      · subst z
        exact List.mem_map.mpr ⟨_, List.mem_filter.mpr ⟨hy, by simp⟩, rfl⟩
  rcases h with h | h
  · exact key _ h (.inl rfl)
  · exact key _ h (.inr rfl)
theorem relab_free {env : Env} {scope : Scope} {n : Str} (h : scope.names.lookup n = some .free) : (relabel scope env).names.lookup n = some .cell ∨ (relabel scope env).names.lookup n = some .free := by
  have key : ∀ (l : List (Str × NameKind)), l.lookup n = some .free → (l.map fun (m, k) => if (k == NameKind.free && env.scope.kind == .function && env.kindOf m == some .cell) then (m, NameKind.cell) else (m, k)).lookup n = some .cell ∨
      (l.map fun (m, k) => if (k == NameKind.free && env.scope.kind == .function && env.kindOf m == some .cell) then (m, NameKind.cell) else (m, k)).lookup n = some .free := fun l => by
    induction l with
    | nil => intro e; simp at e
    | cons y r ih =>
      intro e
      obtain ⟨m, k⟩ := y
      rw [List.map_cons]
      rw [List.lookup_cons] at e
      cases q : n == m with
      | true =>
        rw [q] at e
        cases e
        dsimp only
        split
        · left; rw [List.lookup_cons, q]
        · right; rw [List.lookup_cons, q]
      | false =>
        rw [q] at e
        have z := ih e
        dsimp only
        split <;> (rw [List.lookup_cons, q]; exact z)
  exact key _ h
section
variable {P : Program} {w : World} {K : PySem.W.Frag} {mg : Str → Option Value} {base : Heap}
theorem Fun.okx {x qual : Str} {st : Stmt} {f : Addr} {fd : FuncData} {N ps : List Str} {k : Nat} {sp : Sp} (F : Fun K x qual st f fd) (S : FnScope N ps (defScope st)) (len : ∀ vs H Q E, sp vs H Q E → vs.length = ps.length)
    (hbody : ∀ (cdv : Value) (A : Around) (outer : List Env) (s : Shared) (H : Hp) (vs : List V) (Q : VK) (E : XK), Room q0 k (A.deeper (envOfC qual (defScope st) s.heap.objs.size f cdv)) → sp vs H Q E →
      ∃ t, PSs (cxOf q0 (CXo P w) P w K mg base N qual (defScope st) f cdv A outer s H E) (defBody st) t ∧ t { nx := fun _ H' => Q .non H', rt := Q } (start N vs) H) : FnOk q0 P w K mg base (CXo P w) (k + 1) f fd ps sp := by
  obtain ⟨oc, od, kV, doc, pm, an, cdv, ct, osl, rfl, lk, hcd⟩ := F.ex
  exact fn_of lk hcd S len fun A outer s H vs Q E hr hsp => hbody cdv A outer s H vs Q E hr hsp
theorem Fun.okn {x qual : Str} {st : Stmt} {f : Addr} {fd : FuncData} {N ps : List Str} {k : Nat} {sp : Sp} (F : Fun K x qual st f fd) (S : FnScope N ps (defScope st)) (len : ∀ vs H Q E, sp vs H Q E → vs.length = ps.length)
    (hbody : ∀ (cdv : Value) (A : Around) (outer : List Env) (s : Shared) (H : Hp) (vs : List V) (Q : VK) (E : XK), Room q0 k (A.deeper (envOfC qual (defScope st) s.heap.objs.size f cdv)) → sp vs H Q E →
      ∃ t, PSs (cxOf q0 (CXo P w) P w K mg base N qual (defScope st) f cdv A outer s H E).nox (defBody st) t ∧ t { nx := fun _ H' => Q .non H', rt := Q } (start N vs) H) : FnOk q0 P w K mg base (CXo P w) (k + 1) f fd ps sp := by
  obtain ⟨oc, od, kV, doc, pm, an, cdv, ct, osl, rfl, lk, hcd⟩ := F.ex
  refine fn_of lk hcd S len fun A outer s H vs Q E hr hsp => ?_
  obtain ⟨t, h, q⟩ := hbody cdv A outer s H vs Q E hr hsp
  exact ⟨t, h.nox, q⟩
end
end L2
set_option maxRecDepth 100000
namespace L2
open PySem PySem.Spec PyProof.Rows XL
theorem ifP {b : Bool} {A B : Prop} (h : b = true) (q : A) : if b = true then A else B := by
  rw [if_pos h]
  exact q
theorem ifN {b : Bool} {A B : Prop} (h : b = false) (q : B) : if b = true then A else B := by
  rw [if_neg (by rw [h]; decide)]
  exact q
end L2
set_option maxRecDepth 100000
namespace L2
open PySem PySem.Spec PyProof.Rows XL
section
variable {X : Cx}
theorem op_le_str : OpR X (compareOp .LtE) (fun x y H Q => ∃ i j, x = .str i ∧ y = .str j ∧ Q (.bl (!decide (j.cps.toList < i.cps.toList))) H) := by
  intro pins s σ H x y v u Q I rx ry h
  obtain ⟨i, j, rfl, rfl, q⟩ := h
  obtain ⟨t, rfl⟩ := rx
  obtain ⟨t', rfl⟩ := ry
  exact PySem.P.le_str (fin_bl I q rfl)
end
end L2
set_option maxRecDepth 100000
namespace L2
open PySem PySem.Spec PyProof.Rows
variable {q0 : Bool}
section
variable {X : Cx}
end
end L2
set_option maxRecDepth 100000
namespace L2
open PySem PySem.Spec PyProof.Rows
variable {q0 : Bool}
structure FunD (K : PySem.W.Frag) (x qual : Str) (st : Stmt) (T f : Addr) (fd : FuncData) : Prop where
  ex : ∃ (oc : Value) (od : Option Addr) (kV doc pm : Value) (an : Option Addr) (cdv ct : Value) (osl : Array (Option Value)),
    fd = PySem.W.fnOf x qual (defArgs st) (defBody st) (defScope st) (.ref T) kV doc pm an cdv ct ∧ K.lookup f = some ⟨oc, od, .func fd, osl⟩ ∧ PySem.W.codeIn K cdv qual = true
  kp : PySem.W.keepIn K (.ref f) = true
section
variable {P : Program} {w : World} {K : PySem.W.Frag} {mg : Str → Option Value} {base : Heap}
theorem FunD.okn {x qual : Str} {st : Stmt} {T f : Addr} {fd : FuncData} {N ps : List Str} {k : Nat} {sp : Sp} (F : FunD K x qual st T f fd) (S : FnScope N ps (defScope st)) (len : ∀ vs H Q E, sp vs H Q E → vs.length = ps.length)
    (hbody : ∀ (cdv : Value) (A : Around) (outer : List Env) (s : Shared) (H : Hp) (vs : List V) (Q : VK) (E : XK), Room q0 k (A.deeper (envOfC qual (defScope st) s.heap.objs.size f cdv)) → sp vs H Q E →
      ∃ t, PSs (cxOf q0 (CXo P w) P w K mg base N qual (defScope st) f cdv A outer s H E).nox (defBody st) t ∧ t { nx := fun _ H' => Q .non H', rt := Q } (start N vs) H) : FnOk q0 P w K mg base (CXo P w) (k + 1) f fd ps sp := by
  obtain ⟨oc, od, kV, doc, pm, an, cdv, ct, osl, rfl, lk, hcd⟩ := F.ex
  refine fn_of lk hcd S len fun A outer s H vs Q E hr hsp => ?_
  obtain ⟨t, h, q⟩ := hbody cdv A outer s H vs Q E hr hsp
  exact ⟨t, h.nox, q⟩
theorem FunD.binds {x qual : Str} {st : Stmt} {T f : Addr} {fd : FuncData} {ps : List Str} {o : Obj} {items : Array Value} {n : Nat} {ds : List Value} (F : FunD K x qual st T f fd) (ho : K.lookup T = some o) (hs : o.data = .seq items n) (m : Nat) (hm : m + ds.length = ps.length)
    (h : ∀ (kV doc pm : Value) (an : Option Addr) (cdv ct : Value) (us : List Value), us.length = m →
      ∃ k, bindArgs (PySem.W.fnOf x qual (defArgs st) (defBody st) (defScope st) (.ref T) kV doc pm an cdv ct) ⟨us, []⟩ = seqItems? (.ref T) >>= k ∧ k (some items) = pure (ps.zip (us ++ ds))) : Binds K fd ps ds := by
  obtain ⟨oc, od, kV, doc, pm, an, cdv, ct, osl, rfl, lk, hcd⟩ := F.ex
  intro s us hK hl
  rw [List.length_append] at hl
  obtain ⟨k, h1, h2⟩ := h kV doc pm an cdv ct us (by omega)
  exact BindsTo.of_defaults rfl (hK _ _ ho) hs h1 h2
theorem fund_mk {x qual : Str} {st : Stmt} {T f : Addr} {oc : Value} {od an : Option Addr} {osl : Array (Option Value)} {kV doc pm cdv ct : Value} (l : K.lookup f = some ⟨oc, od, .func (PySem.W.fnOf x qual (defArgs st) (defBody st) (defScope st) (.ref T) kV doc pm an cdv ct), osl⟩)
    (c : PySem.W.codeIn K cdv qual = true) (k : PySem.W.keepIn K (.ref f) = true) : FunD K x qual st T f (PySem.W.fnOf x qual (defArgs st) (defBody st) (defScope st) (.ref T) kV doc pm an cdv ct) := ⟨⟨oc, od, kV, doc, pm, an, cdv, ct, osl, rfl, l, c⟩, k⟩
end
end L2
set_option maxRecDepth 100000
namespace L2
open PySem PySem.Spec PyProof.Rows XL
variable {q0 : Bool}
abbrev Cx.blkG (X : Cx) (scope : Scope) (zs : List Str) (ys : List Str) (C : Addr) (ex : List Addr) (s : Shared) (H : Hp) (pn : List (Addr × Obj)) : Cx where
  prog := X.prog
  w := X.w
  K := X.K
  mg := X.mg
  base := X.base
  A := X.A
  N := zs ++ ys
  s₀ := s
  H₀ := H
  env := compEnvC scope (X.clo scope) C X.env
  outer := X.stack
  stack := X.stack
  ex := ex
  fn := fun _ => false
  calm := X.calm
  pn := pn
  xe := fun _ _ => False
theorem compLoop_testsG {prog : Program} {w : World} {A : Around} {R : Result → Shared → Prop} {s : Shared} {elt target iter : Expr} {ifs : List Expr} {scope : Scope} {pos : Pos} {it acc : Value} {env : Env} (I : Nat → Shared → Prop)
    (turn : ∀ n s, I n s → wpAny (model prog w) A (pyNext it) (fun r s₁ => match r with
      | none => R (.ok .next) s₁
      | some v => wpAny (model prog w) A (letOwnedTupleGo target it v) (fun _ s₀ => wpAny (model prog w) A (assign target env v) (fun _ s₂ =>
          wpAny (model prog w) A (forIn ifs true fun c r => if r = true then do let ok ← isTrue c env (eval c env); pure (ForInStep.yield ok) else pure (ForInStep.yield r)) (fun ok s₃ =>
            if ok = true then wpAny (model prog w) A (eval elt env) (fun x s₄ =>
              wpAny (model prog w) A (call (.builtin "list.append") [acc, x]) (fun _ s₅ => ∃ m, m < n ∧ I m s₅) (notedBy (model prog w) A env fun e s' => R (.error e) s') s₄) (notedBy (model prog w) A env fun e s' => R (.error e) s') s₃
            else ∃ m, m < n ∧ I m s₃) (notedBy (model prog w) A env fun e s' => R (.error e) s') s₂) (notedBy (model prog w) A env fun e s' => R (.error e) s') s₀) (notedBy (model prog w) A env fun e s' => R (.error e) s') s₁) (notedBy (model prog w) A env fun e s' => R (.error e) s') s)
    (n : Nat) (h : I n s) : codeAny (model prog w) A (.compLoop (.ListComp elt [⟨target, iter, ifs, 0⟩] scope pos) 0 it acc env) R s := by
  refine codeAny_loop rfl I (fun n s hI => ?_) n h
  show wpAny _ A ((compTurn (.ListComp elt [⟨target, iter, ifs, 0⟩] scope pos) 0 it acc env).onRaise (fun x => do noteFrame x env; theTreesLotGoes x)) _ _ s
  refine wpAny_noted ?_
  rw [compTurn_list]
  refine wpAny_bind (wpAny_standAt (wpAny_bind (wpAny_mono (turn n s hI) (fun r s₁ h₁ => ?_) fun _ _ h' => h')))
  cases r with
  | none => exact wpAny_pure h₁
  | some v =>
    refine wpAny_bind (wpAny_mono h₁ (fun _ s₀ h₀ => wpAny_bind (wpAny_mono h₀ (fun _ s₂ h₂ => wpAny_bind (wpAny_mono h₂ (fun ok s₃ h₃ => ?_) fun _ _ h' => h')) fun _ _ h' => h')) fun _ _ h' => h')
    cases ok with
    | false => exact wpAny_pure ⟨rfl, h₃⟩
    | true =>
      exact wpAny_bind (wpAny_bind (wpAny_mono h₃ (fun x s₄ h₄ => wpAny_bind (wpAny_mono h₄ (fun _ s₅ h₅ => wpAny_pure (wpAny_pure ⟨rfl, h₅⟩)) fun _ _ h' => h')) fun _ _ h' => h'))
structure BlkG (X : Cx) (scope : Scope) (zs : List Str) (ys : List Str) (fr : List Nat) : Prop where
  kind : scope.kind = .function
  own : ∀ x ∈ zs, scope.names.lookup x = some .local
  ncell : ∀ y ∈ scope.names, y.2 ≠ .cell
  names : ∀ y ∈ scope.names, y.2 = .local → scope.names.lookup y.1 = some .local
  free : ∀ n ∈ frees scope, X.env.scope.names.lookup n = some .cell
  has : ∀ n, ((relabel scope X.env).names.lookup n = some .cell ∨ (relabel scope X.env).names.lookup n = some .free) → n ∈ frees scope
  slots : fr.map (fun i => X.N[i]?) = ys.map some
  ysf : ∀ y ∈ ys, y ∈ frees scope
  ysc : ∀ y ∈ ys, (relabel scope X.env).names.lookup y = some .cell ∨ (relabel scope X.env).names.lookup y = some .free
  st : X.stack = X.env :: X.outer
  nd : X.N.Nodup
  ndb : (zs ++ ys).Nodup
def blk0 (σ : St) (fr : List Nat) (n : Nat) : St := List.replicate n none ++ fr.map fun i => (σ[i]?).join
section
variable {X : Cx} {pins : List (Addr × Obj)} {σ : St} {H : Hp} {s : Shared} {scope : Scope} {zs : List Str} {ys : List Str} {fr : List Nat} {fp : List Addr}
theorem BlkG.cells (B : BlkG X scope zs ys fr) (I : Inv X pins σ H s) : ∀ n ∈ frees scope, ∃ c, X.env.cells.lookup n = some c := fun n hn => I.ok.has n (.inl (B.free n hn))
theorem BlkG.sub (B : BlkG X scope zs ys fr) (I : Inv X pins σ H s) {n : Str} {c : Addr} (h : (X.clo scope).lookup n = some c) : X.env.cells.lookup n = some c := by
  obtain ⟨a, b⟩ := clo_mem h
  obtain ⟨d, e⟩ := B.cells I n a
  rw [e] at b
  rw [b, e]
  rfl
theorem Inv.blkG {h1 : Heap} {m1 : Str → Option Value} {t' : Nat} (B : BlkG X scope zs ys fr) (I : Inv X pins σ H s) (hf : ∀ b ∈ fp, FpOk X pins H b) (hz : ∀ b ∈ fp, b < s.heap.objs.size) (n1 : h1.Ns s.heap.objs.size m1) (k1 : ∀ b o, s.heap.get? b = some o → h1.get? b = some o) :
    Inv (X.blkG scope zs ys s.heap.objs.size fp s H (X.pn ++ pins)) [] (blk0 σ fr zs.length) H { s with heap := h1, toks := t' } := by
  have sub : ∀ n c, (X.clo scope).lookup n = some c → X.env.cells.lookup n = some c := fun n c h => B.sub I h
  have cz : ∀ n c, X.env.cells.lookup n = some c → c < s.heap.objs.size := fun n c e => by
    obtain ⟨v, o, ho, _⟩ := I.cell n c e
    exact Heap.lt_size ho
  have nfs : ∀ b ∈ fp, b ∉ frs X.stack := fun b hb z => (List.mem_cons.mp (I.stkSub b z)).elim (hf b hb).2.1 (hf b hb).2.2.1
  have fz : ∀ b, b ∈ frs X.stack → b < s.heap.objs.size := fun b hb => by
    obtain ⟨_, o, ho, _⟩ := I.stack.mem hb
    exact Heap.lt_size ho
  refine ⟨⟨I.ok.mod, B.kind, I.ok.glob, I.ok.blt, Nat.le_refl _, fun y z c h1 h2 => I.ok.inj y z c (sub y c h1) (sub z c h2), fun y hy => ?_, (fun y c hy _ => nomatch hy), I.ok.hd, I.ok.frames, .inl rfl, fun b hb => ⟨?_, fun y c h => (hf b hb).2.2.2.2.1 y c (sub y c h)⟩,
      I.bs, Nat.le_trans I.ok.bsz I.sz, fun b o e hb => ?_, fun b hb => nfs b hb, I.stack, I.stkFree⟩,
    rfl, I.bare, Un.kept k1, ⟨m1, n1, fun i y v e1 e2 e3 => ?_⟩, fun y c h => ?_, I.hok.fresh (Nat.le_refl _), fun y c h => I.freeC y c (sub y c h), fun p hp => ?_, I.hok.kept k1, ?_⟩
  · obtain ⟨c, e⟩ := B.cells I y (B.has y hy)
    exact ⟨c, clo_get (B.has y hy) e⟩
  · exact Nat.ne_of_lt (hz b hb)
  · rcases (hf b hb).2.2.2.1 with z | z
    · exact I.ok.noex b o e z
    · exact absurd (Nat.lt_of_lt_of_le (Heap.lt_size (I.ok.bs b o e).1) z) (Nat.lt_irrefl _)
  · have ln : (List.replicate zs.length (none : Option V)).length = zs.length := List.length_replicate
    by_cases lt : i < zs.length
    · have e2' : (blk0 σ fr zs.length)[i]? = some (some v) := e2
      unfold blk0 at e2'
      rw [List.getElem?_append_left (by rw [ln]; exact lt), List.getElem?_replicate] at e2'
      split at e2' <;> cases e2'
    · obtain ⟨k, rfl⟩ : ∃ k, i = zs.length + k := ⟨i - zs.length, by omega⟩
      have e2' : (fr.map fun i => (σ[i]?).join)[k]? = some (some v) := by
        have z : (blk0 σ fr zs.length)[zs.length + k]? = some (some v) := e2
        unfold blk0 at z
        rw [List.getElem?_append_right (by rw [ln]; omega), ln] at z
        simpa using z
      have e1' : ys[k]? = some y := by
        have z : (zs ++ ys)[zs.length + k]? = some y := e1
        rw [List.getElem?_append_right (by omega)] at z
        simpa using z
      rw [List.getElem?_map] at e2'
      obtain ⟨j, hj, ej⟩ := Option.map_eq_some_iff.mp e2'
      have ev : σ[j]? = some (some v) := by
        cases q : σ[j]? with
        | none => rw [q] at ej; cases ej
        | some w => rw [q] at ej; exact congrArg some ej
      have eN : X.N[j]? = some y := by
        have z := congrArg (fun l => l[k]?) B.slots
        simp only [List.getElem?_map, hj, e1', Option.map_some] at z
        exact Option.some.inj z
      have my : y ∈ ys := List.mem_of_getElem? e1'
      obtain ⟨m, _, lk⟩ := I.loc
      obtain ⟨u, r, l⟩ := lk j y v eN ev (.inr (.inl (B.free y (B.ysf y my))))
      refine ⟨u, r, .inr ⟨B.ysc y my, ?_⟩⟩
      rcases l with ⟨kk, _⟩ | ⟨_, c, e, o, ho, hd⟩
      · have z := B.free y (B.ysf y my)
        rw [show X.env.scope.names.lookup y = some .local from kk] at z
        cases z
      · exact ⟨c, clo_get (B.ysf y my) e, o, k1 c o ho, hd⟩
  · obtain ⟨v, o, ho, hd⟩ := I.cell y c (sub y c h)
    exact ⟨v, o, k1 c o ho, hd⟩
  · have hp' : p ∈ X.pn ++ pins := by simpa using hp
    obtain ⟨a1, a2, a3, a4, a5⟩ := I.pin p hp'
    exact ⟨k1 _ _ a1, a2, Nat.ne_of_lt (Heap.lt_size a1), fun z => (List.mem_cons.mp (I.stkSub _ z)).elim a3 a4, a5⟩
  · have z := congrArg List.length B.slots
    simp only [List.length_map] at z
    simp [blk0, z]
end
section
variable {X : Cx} {pins : List (Addr × Obj)} {σ : St} {H : Hp} {s : Shared} {scope : Scope} {zs : List Str} {ys : List Str} {fr : List Nat} {fp : List Addr}
theorem Inv.unblkG {C : Addr} {s' : Shared} {h2 : Heap} {σ' : St} {H' : Hp} {pl : List (Addr × Obj)} (I : Inv X pins σ H s) (hf : ∀ b ∈ fp, FpOk X pins H b) (hC : s.heap.objs.size ≤ C) (J : Inv (X.blkG scope zs ys C fp s H (X.pn ++ pins)) pl σ' H' s') (sb : Heap.SameBut C s'.heap h2) :
    Inv X pins σ H' { s' with heap := h2 } := by
  have kp : ∀ b o, b ≠ C → s'.heap.get? b = some o → h2.get? b = some o := fun b o nb g => (sb.2 b nb).trans g
  have old : ∀ b o, s.heap.get? b = some o → b ≠ C := fun b o g => Nat.ne_of_lt (Nat.lt_of_lt_of_le (Heap.lt_size g) hC)
  have trk : ∀ b u, H' b = some u → b ≠ C := fun b u hb z => by
    have f : H' C = none := J.free
    rw [z, f] at hb
    cases hb
  refine I.call' (s' := { s' with heap := h2 }) J.os (ch := fp) ⟨fun b o e n hb hx => kp b o (old b o e) (J.base.keep b o e n hb hx), fun b o e n hb hx => ?_, fun b o e n hx => J.base.free b o e n hx, fun b o e hx => ?_, J.base.tups, J.base.frzs, J.base.tbls⟩ (fun b u hb => ?_) J.bare fun b hb => ?_
  · obtain ⟨sl, q⟩ := J.base.slot b o e n hb hx
    exact ⟨sl, kp b _ (old b o e) q⟩
  · obtain ⟨o', q⟩ := J.base.there b o e hx
    exact ⟨o', kp b o' (old b o e) q⟩
  · refine (J.hok b u hb).stay (fun c v hc q => ?_) (fun c q => q) fun c xs q => q
    rcases hc with rfl | hc
    · exact kp c v (trk c u hb) q
    · exact kp c v (trk c _ hc) q
  · obtain ⟨_, a1, _, a3, a4, a5⟩ := hf b hb
    exact ⟨a3, a1, a4, a5⟩
end
def GOk (n : Nat) (g : TG) : Prop := ∀ v σ H Q, g v σ H Q → g v σ H (fun σ' H' => Q σ' H' ∧ σ'.length = σ.length ∧ ∀ i, n ≤ i → σ'[i]? = σ[i]?)
theorem gok_name {i n : Nat} (h : i < n) : GOk n (gName i) := fun v σ H Q q => ⟨q, by simp, fun j hj => by rw [List.getElem?_set_ne (by omega)]⟩
def CompG (J : It) (n : Nat) (g : TG) (σ : St) (fr : List Nat) (tc : TT) (te : TE) (l : Addr) (H1 : Hp) (Q : VK) : Prop := ∃ W : Nat → Nat → List V → Hp → Prop, (∃ m, W 0 m [] (upd H1 l (.lst []))) ∧ ∀ i m xs H2, W i m xs H2 →
  (J.stop i H2 ∧ Q (.ref l) H2) ∨ (J.go i H2 ∧ ∀ v H3, J.yld i H2 v H3 → g v (blk0 σ fr n) H3 fun σ' H3' => tc σ' H3' fun b H4 => if b = true then
    (te σ' H4 fun y H5 => H5 l = some (.lst xs) ∧ xs.length < sizeLine ∧ ∃ m', m' < m ∧ W (i + 1) m' (xs ++ [y]) (upd H5 l (.lst (xs ++ [y])))) else ∃ m', m' < m ∧ W (i + 1) m' xs H4)
def tCompG (wi : TI) (n : Nat) (g : TG) (fr : List Nat) (tc : TT) (te : TE) : TE := fun σ H Q => wi σ H fun J H1 => ∀ l, H1 l = none → CompG J n g σ fr tc te l H1 Q
section
variable {X : Cx} {scope : Scope} {zs : List Str} {ys : List Str} {fr : List Nat} {elt iter tg : Expr} {g : TG} {ifs : List Expr} {px pos : Pos} {wi : TI} {tc : TT} {te : TE}
theorem comp_coreG {pins : List (Addr × Obj)} {s : Shared} {σ : St} {H : Hp} {Q : VK} {U : Option (Value → Sem Unit)} {R : Value → Shared → Prop} (hc : X.calm = true) (B : BlkG X scope zs ys fr) (hi : PI X tg iter wi) (hg : ∀ C ex s H pn, (∀ x ∈ zs, (relabel scope X.env).names.lookup x = some .local) → (zs ++ ys).Nodup → PG (X.blkG scope zs ys C ex s H pn) tg g) (gok : GOk zs.length g)
    (hif : ∀ C ex s H pn, PIf (X.blkG scope zs ys C ex s H pn) ifs tc) (he : ∀ C ex s H pn, PE (X.blkG scope zs ys C ex s H pn) elt te) (I : Inv X pins σ H s) (h : tCompG wi zs.length g fr tc te σ H Q)
    (fin : ∀ C l H' s' m, (X.s₀.heap.objs.size ≤ C ∧ C ≠ X.env.locals ∧ (∀ x c, X.env.cells.lookup x = some c → c ≠ C) ∧ ∀ p ∈ X.pn ++ pins, p.1 ≠ C) → H' C = none → s'.heap.Ns C m → (∀ h2, Heap.SameBut C s'.heap h2 → Inv X pins σ H' { s' with heap := h2 }) → Q (.ref l) H' → compPost (model X.prog X.w) X.A X.xe U R (.ref l) C (.ok .next) s') :
    wpAny (model X.prog X.w) X.A (eval iter X.env) (fun v s1 => wpAny (model X.prog X.w) X.A (pyIter v) (fun it s2 => wpAny (model X.prog X.w) X.A (newList []) (fun acc s3 =>
      wpAny (model X.prog X.w) X.A (newFunctionEnv scope X.env.globals (X.clo scope) [] X.env.qual none .none (some X.env)) (fun cenv s4 =>
        codeAny (model X.prog X.w) X.A (.compStart (.ListComp elt [⟨tg, iter, ifs, 0⟩] scope pos) 0 it acc { cenv with scope := relabel scope X.env }) (compPost (model X.prog X.w) X.A X.xe U R acc cenv.locals) s4) X.xe s3) X.xe s2) X.xe s1) X.xe s := by
  refine thn (hi pins s σ H _ I h) fun v s1 h1 => thn h1 fun itv s2 h2 => ?_
  obtain ⟨it, fp, tn, J, H2, rfl, I2, T, st2, f2, body⟩ := h2
  have hN : H2 s2.heap.objs.size = none := I2.hok.fresh (Nat.le_refl _)
  obtain ⟨W, ⟨m0, w0⟩, turn⟩ := body s2.heap.objs.size hN
  refine wpAny_newObj_type ?_
  generalize hs3 : ({ s2 with heap := s2.heap.push { cls := .type "list", data := .seq ([] : List Value).toArray } } : Shared) = s3
  have k3 : ∀ b o, s2.heap.get? b = some o → s3.heap.get? b = some o := fun b o g => by rw [← hs3]; exact Heap.get?_push_of_some _ g
  have I3 : Inv X pins σ (upd H2 s2.heap.objs.size (.lst [])) s3 := by
    rw [← hs3]
    exact I2.laid (t' := s2.toks) (fun b u e => Heap.get?_push_of_some _ e) (Nat.le_refl _) ⟨Nat.zero_le _, [], 0, .nil, Heap.get?_push_size _ rfl⟩
  have z2 : ∀ b ∈ fp, b < s2.heap.objs.size := fun b hb => by
    obtain ⟨o, g, _⟩ := T.obj 0 _ st2 b hb
    exact Heap.lt_size g
  have z3 : ∀ b ∈ fp, b < s3.heap.objs.size := fun b hb => by
    obtain ⟨o, g, _⟩ := T.obj 0 _ st2 b hb
    exact Heap.lt_size (k3 b o g)
  have f3 : ∀ b ∈ fp, FpOk X pins (upd H2 s2.heap.objs.size (.lst [])) b := fun b hb => ⟨by rw [upd_ne (Nat.ne_of_lt (z2 b hb))]; exact (f2 b hb).1, (f2 b hb).2⟩
  have st3 : tn 0 s3.heap := T.keep _ _ _ st2 fun b _ o g => k3 b o g
  refine wpAny_newFunctionEnv B.ncell (by intro y hy; simp at hy) (fun h1 n1 sb1 => ?_) B.kind
  have k4 : ∀ b o, s3.heap.get? b = some o → h1.get? b = some o := fun b o g => sb1.extBut b o (Nat.ne_of_lt (Heap.lt_size g)) (Heap.get?_push_of_some _ g)
  have I4 := I3.blkG (t' := s3.toks + ([] : List (Str × Value)).length) B f3 z3 n1 k4
  have st4 : tn 0 h1 := T.keep _ _ _ st3 fun b _ o g => k4 b o g
  have own' : ∀ x ∈ zs, (relabel scope X.env).names.lookup x = some .local := fun x hx => lookup_relabel_local (B.own x hx)
  -- the iterator's objects, through the loop
  have stat : ∀ {H' : Hp}, (∀ b ∈ fp, H' b = none) → ∀ b ∈ fp, FpOk (X.blkG scope zs ys s3.heap.objs.size fp s3 (upd H2 s2.heap.objs.size (.lst [])) (X.pn ++ pins)) [] H' b := fun hn b hb => by
    obtain ⟨_, a1, a2, a3, a4, a5⟩ := f3 b hb
    exact ⟨hn b hb, Nat.ne_of_lt (z3 b hb), fun z => (List.mem_cons.mp (I3.stkSub b z)).elim a1 a2, .inl hb, fun y c h => a4 y c (B.sub I3 h), fun p hp => a5 p (by simpa using hp)⟩
  have loop : ∀ s4 : Shared, s4 = { s3 with heap := h1, toks := s3.toks + ([] : List (Str × Value)).length } →
      codeAny (model X.prog X.w) X.A (.compLoop (.ListComp elt [⟨tg, iter, ifs, 0⟩] scope pos) 0 (.ref it) (.ref s2.heap.objs.size) (compEnvC scope (X.clo scope) s3.heap.objs.size X.env))
        (compPost (model X.prog X.w) X.A X.xe U R (.ref s2.heap.objs.size) s3.heap.objs.size) s4 := by
    rintro s4 rfl
    refine compLoop_testsG (fun n s' => ∃ i xs H', Inv (X.blkG scope zs ys s3.heap.objs.size fp s3 (upd H2 s2.heap.objs.size (.lst [])) (X.pn ++ pins)) [] (blk0 σ fr zs.length) H' s' ∧ tn i s'.heap ∧ (∀ b ∈ fp, H' b = none) ∧ W i n xs H') ?_ m0
      ⟨0, [], _, I4, st4, fun b hb => (f3 b hb).1, w0⟩
    rintro n s5 ⟨i, xs, H5, I5, st5, fr5, w5⟩
    rcases turn i n xs H5 w5 with ⟨stop, q⟩ | ⟨go, step⟩
    · refine wpAny_mono (T.done (X.blkG scope zs ys s3.heap.objs.size fp s3 (upd H2 s2.heap.objs.size (.lst [])) (X.pn ++ pins)) rfl rfl rfl hc i [] s5 _ H5 (fun _ _ => False) I5 (stat fr5) st5 stop) (fun r s6 ⟨hr, I6⟩ => ?_) fun _ _ z => z.elim
      subst hr
      obtain ⟨m, hm, _⟩ := I6.loc
      exact fin _ _ H5 s6 m ⟨I3.sz, (I3.size_lt (Nat.le_refl _)).2⟩ I6.free hm (fun h2 sb => I3.unblkG f3 (Nat.le_refl _) I6 sb) q
    · refine wpAny_mono (T.item (X.blkG scope zs ys s3.heap.objs.size fp s3 (upd H2 s2.heap.objs.size (.lst [])) (X.pn ++ pins)) rfl rfl rfl hc i [] s5 _ H5 (fun _ _ => False) I5 (stat fr5) st5 go) (fun r s6 ⟨u, hr, h6⟩ => ?_) fun _ _ z => z.elim
      subst hr
      refine wpAny_mono h6 (fun _ s7 ⟨y, H7, I7, r7, y7, st7, fr7⟩ => ?_) fun _ _ z => z.elim
      have I7' := I7.pinned (stat fr7) (T.obj _ _ st7)
      refine wpAny_mono (hg _ _ _ _ _ own' B.ndb _ s7 _ H7 y u _ I7' r7 (gok _ _ _ _ (step y H7 y7))) (fun _ s8 ⟨σ8, H8, I8, q8, l8, k8⟩ => ?_) fun _ _ z => z.elim
      have back : ∀ {s9 : Shared} {H9 : Hp} {xs' : List V}, Inv (X.blkG scope zs ys s3.heap.objs.size fp s3 (upd H2 s2.heap.objs.size (.lst [])) (X.pn ++ pins)) ([] ++ pinsAt fp s7.heap) σ8 H9 s9 → (∃ m', m' < n ∧ W (i + 1) m' xs' H9) →
          ∃ m, m < n ∧ ∃ i xs H', Inv (X.blkG scope zs ys s3.heap.objs.size fp s3 (upd H2 s2.heap.objs.size (.lst [])) (X.pn ++ pins)) [] (blk0 σ fr zs.length) H' s9 ∧ tn i s9.heap ∧ (∀ b ∈ fp, H' b = none) ∧ W i m xs H' := fun {s9 H9 xs'} I9 ⟨m', lt, w9⟩ => by
        refine ⟨m', lt, i + 1, xs', H9, I9.unpinned.weak l8.symm (fun j v e => ?_), T.keep _ _ _ st7 fun b hb o e => (I9.pin (b, o) (List.mem_append_right _ (List.mem_append_right _ (mem_pinsAt hb e)))).1, fun b hb => ?_, w9⟩
        · by_cases lj : j < zs.length
          · unfold blk0 at e
            rw [List.getElem?_append_left (by rw [List.length_replicate]; exact lj), List.getElem?_replicate] at e
            split at e <;> cases e
          · rw [k8 j (by omega)]
            exact e
        obtain ⟨o, e, d⟩ := T.obj _ _ st7 b hb
        exact (I9.pin (b, o) (List.mem_append_right _ (List.mem_append_right _ (mem_pinsAt hb e)))).2.1
      refine wpAny_mono (hif _ _ _ _ _ _ s8 _ H8 _ I8 q8) (fun ok s9 ⟨H9, I9, q9⟩ => ?_) fun _ _ z => z.elim
      cases ok with
      | false =>
        rw [if_neg (by decide)] at q9 ⊢
        exact back I9 q9
      | true =>
        rw [if_pos rfl] at q9 ⊢
        refine wpAny_mono (he _ _ _ _ _ _ s9 _ H9 _ I9 q9) (fun ev s10 ⟨yv, H10, I10, r10, hl, len, w10⟩ => ?_) fun _ _ z => z.elim
        refine wpAny_mono (mt_append (X := X.blkG scope zs ys s3.heap.objs.size fp s3 (upd H2 s2.heap.objs.size (.lst [])) (X.pn ++ pins)) _ s10 _ H10 (.ref s2.heap.objs.size) [yv] (.ref s2.heap.objs.size) [ev] (fun v H' => H' = upd H10 s2.heap.objs.size (.lst (xs ++ [yv]))) I10 rfl (.cons r10 .nil) ⟨_, xs, yv, rfl, rfl, hl, len, rfl⟩)
          (fun _ s11 ⟨_, H11, I11, _, e11⟩ => ?_) fun _ _ z => z.elim
        subst e11
        exact back I11 w10
  exact codeAny_compStart_list (loop _ rfl) (T.self _ 0 _ _ _ st4 (loop _ rfl))
theorem pe_compG (hc : X.calm = true) (B : BlkG X scope zs ys fr) (hi : PI X tg iter wi) (hg : ∀ C ex s H pn, (∀ x ∈ zs, (relabel scope X.env).names.lookup x = some .local) → (zs ++ ys).Nodup → PG (X.blkG scope zs ys C ex s H pn) tg g) (gok : GOk zs.length g) (hif : ∀ C ex s H pn, PIf (X.blkG scope zs ys C ex s H pn) ifs tc) (he : ∀ C ex s H pn, PE (X.blkG scope zs ys C ex s H pn) elt te)
    (hs : ∀ x, foldedSetIterable iter X.env x = pure x := by intro _; rfl) : PE X (.ListComp elt [⟨tg, iter, ifs, 0⟩] scope pos) (tCompG wi zs.length g fr tc te) := by
  intro pins s σ H Q I h
  rw [eval_ListComp]
  refine wpAny_comprehension_free (use := none) rfl hs (clo_of (B.cells I)) B.kind B.names (comp_coreG hc B hi hg gok hif he I h fun C l H' s' m _ _ hm iv q => ?_)
  exact ⟨m, hm, fun h2 sb => ⟨.ref l, H', iv h2 sb, rfl, q⟩⟩
theorem ps_setcG {j : Nat} {y : Str} {py spos : Pos} (hc : X.calm = true) (B : BlkG X scope zs ys fr) (hi : PI X tg iter wi) (hg : ∀ C ex s H pn, (∀ x ∈ zs, (relabel scope X.env).names.lookup x = some .local) → (zs ++ ys).Nodup → PG (X.blkG scope zs ys C ex s H pn) tg g) (gok : GOk zs.length g) (hif : ∀ C ex s H pn, PIf (X.blkG scope zs ys C ex s H pn) ifs tc) (he : ∀ C ex s H pn, PE (X.blkG scope zs ys C ex s H pn) elt te)
    (hj : X.N[j]? = some y) (hy : Loc X.env.scope y) (hf : X.fn y = true ∨ X.env.scope.names.lookup y = some .local := by first | exact .inl rfl | exact .inr rfl | assumption)
    (hsw : swapsWith (.ListComp elt [⟨tg, iter, ifs, 0⟩] scope pos) (some (.Name y py)) spos.line X.env = pure true := by rfl)
    (hs : ∀ x, foldedSetIterable iter X.env x = pure x := by intro _; rfl) : PS X (.Assign [.Name y py] (.ListComp elt [⟨tg, iter, ifs, 0⟩] scope pos) spos) (tAsg (tCompG wi zs.length g fr tc te) (gName j)) := by
  intro pins s σ H D I h
  rw [exec_Assign_Name_used _ _ _ _ hsw]
  refine wpAny_bind (wpAny_standAt (wpAny_bind ?_))
  show wpAny _ _ (do let _ ← comprehension (.ListComp elt [⟨tg, iter, ifs, 0⟩] scope pos) scope X.env _ (newList []) false (eval iter X.env) (some (assign (.Name y py) X.env))) _ _ s
  refine wpAny_bind (wpAny_mono (wpAny_comprehension_free (use := some (assign (.Name y py) X.env)) (Q := fun _ s' => SP X pins D .next s') rfl hs (clo_of (B.cells I)) B.kind B.names
    (comp_coreG hc B hi hg gok hif he I h fun C l H' s' m hC hn hm iv q => ?_)) (fun _ s' z => wpAny_pure (wpAny_pure z)) fun _ _ e => e)
  show wpAny _ _ (assign (.Name y py) X.env (.ref l)) _ _ _
  have J : Inv X pins σ H' s' := iv s'.heap (.refl ..)
  refine wpAny_assign_Name (store_ok2 (v := V.ref l) J B.nd hj hy rfl (fun s2 J2 ⟨a, sb, ha⟩ => ?_) hf)
  have na : a ≠ C := by
    rcases ha with z | z
    · rw [z]; exact Ne.symm hC.2.1
    · exact hC.2.2.1 _ _ z
  refine ⟨m, ?_, fun h2 s3 => ?_⟩
  · obtain ⟨o, es, ep, g, r⟩ := hm
    exact ⟨o, es, ep, (sb.2 C (Ne.symm na)).trans g, r⟩
  · exact ⟨_, H', J2.turned (t' := s2.toks) (fun b o nb g => (s3.2 b nb).trans g) hn (hC.2.1) (.inr hC.1) hC.2.2.1 hC.2.2.2, q⟩
end
def blkOkG (scope sc0 : Scope) (N0 : List Str) (zs : List Str) (ys : List Str) (fr : List Nat) : Bool :=
  scope.kind == .function && zs.all (fun x => scope.names.lookup x == some .local) && scope.names.all (fun y => y.2 != .cell) && scope.names.all (fun y => y.2 != .local || scope.names.lookup y.1 == some .local) &&
  (frees scope).all (fun n => sc0.names.lookup n == some .cell) && fr.map (fun i => N0[i]?) == ys.map some && ys.all (fun y => scope.names.lookup y == some .free) && decide N0.Nodup && decide (zs ++ ys).Nodup
theorem blkG_of {X : Cx} {scope sc0 : Scope} {N0 : List Str} {zs : List Str} {ys : List Str} {fr : List Nat} (chk : blkOkG scope sc0 N0 zs ys fr = true) (es : X.env.scope = sc0) (eN : X.N = N0) (st : X.stack = X.env :: X.outer) : BlkG X scope zs ys fr := by
  unfold blkOkG at chk
  simp only [Bool.and_eq_true, beq_iff_eq, List.all_eq_true, decide_eq_true_eq] at chk
  obtain ⟨⟨⟨⟨⟨⟨⟨⟨a1, a2⟩, a3⟩, a4⟩, a5⟩, a6⟩, a7⟩, a8⟩, a9⟩ := chk
  have nc : ∀ y ∈ scope.names, y.2 ≠ .cell := fun y hy => by simpa using a3 y hy
  refine ⟨a1, a2, nc, fun y hy hl => ?_, fun n hn => by rw [es]; exact a5 n hn, fun n h => relab_has nc n h, by rw [eN]; exact a6, fun y hy => ?_, fun y hy => relab_free (a7 y hy), st, by rw [eN]; exact a8, a9⟩
  · have z := a4 y hy
    rw [hl] at z
    simpa using z
  · exact List.mem_map.mpr ⟨(y, .free), List.mem_filter.mpr ⟨PySem.mem_of_lookup (a7 y hy), by simp⟩, rfl⟩
theorem gok_tup {K : PySem.W.Frag} {m n : Nat} {t : TGs} (h : ∀ vs σ H Q, t vs σ H Q → t vs σ H (fun σ' H' => Q σ' H' ∧ σ'.length = σ.length ∧ ∀ i, n ≤ i → σ'[i]? = σ[i]?)) : GOk n (gTup K m t) := fun v σ H Q q => by
  obtain ⟨a, xs, e, hs, hl, q⟩ := q
  exact ⟨a, xs, e, hs, hl, h _ _ _ _ q⟩
theorem goks_nil {n : Nat} : ∀ vs σ H Q, gNil vs σ H Q → gNil vs σ H (fun σ' H' => Q σ' H' ∧ σ'.length = σ.length ∧ ∀ i, n ≤ i → σ'[i]? = σ[i]?) := fun vs σ H Q q => ⟨q.1, q.2, rfl, fun _ _ => rfl⟩
theorem goks_cons {i n : Nat} (hi : i < n) {t : TGs} (h : ∀ vs σ H Q, t vs σ H Q → t vs σ H (fun σ' H' => Q σ' H' ∧ σ'.length = σ.length ∧ ∀ i, n ≤ i → σ'[i]? = σ[i]?)) :
    ∀ vs σ H Q, gCons (gName i) t vs σ H Q → gCons (gName i) t vs σ H (fun σ' H' => Q σ' H' ∧ σ'.length = σ.length ∧ ∀ i, n ≤ i → σ'[i]? = σ[i]?) := fun vs σ H Q q => by
  obtain ⟨v, r, e, q⟩ := q
  refine ⟨v, r, e, ?_⟩
  have z := h _ _ _ _ q
  have e2 : ∀ (j : Nat), n ≤ j → (σ.set i (some v))[j]? = σ[j]? := fun j hj => by rw [List.getElem?_set_ne (by omega)]
  have e1 : (σ.set i (some v)).length = σ.length := by simp
  have key : (fun σ' H' => Q σ' H' ∧ σ'.length = (σ.set i (some v)).length ∧ ∀ j, n ≤ j → σ'[j]? = (σ.set i (some v))[j]?) = (fun σ' (H' : Hp) => Q σ' H' ∧ σ'.length = σ.length ∧ ∀ j, n ≤ j → σ'[j]? = σ[j]?) := by
    funext σ' H'
    rw [e1]
    refine propext ⟨fun ⟨a, b, c⟩ => ⟨a, b, fun j hj => (c j hj).trans (e2 j hj)⟩, fun ⟨a, b, c⟩ => ⟨a, b, fun j hj => (c j hj).trans (e2 j hj).symm⟩⟩
  rw [key] at z
  exact z
theorem compG_by {J : It} {n : Nat} {g : TG} {σ : St} {fr : List Nat} {tc : TT} {te : TE} {l : Addr} {H1 : Hp} {Q : VK} (len : Nat) (Pv : Nat → List V → Hp → Prop) (h0 : Pv 0 [] (upd H1 l (.lst []))) (hgo : ∀ i xs H, i < len → Pv i xs H → J.go i H)
    (step : ∀ i xs H2 v H3, i < len → Pv i xs H2 → J.yld i H2 v H3 → ∀ N : List V → Hp → Prop, (∀ xs' H', Pv (i + 1) xs' H' → N xs' H') → g v (blk0 σ fr n) H3 fun σ' H3' => tc σ' H3' fun b H4 => if b = true then
      (te σ' H4 fun y H5 => H5 l = some (.lst xs) ∧ xs.length < sizeLine ∧ N (xs ++ [y]) (upd H5 l (.lst (xs ++ [y])))) else N xs H4)
    (fin : ∀ xs H2, Pv len xs H2 → J.stop len H2 ∧ Q (.ref l) H2) : CompG J n g σ fr tc te l H1 Q := by
  refine ⟨fun i m xs H => m = len - i ∧ i ≤ len ∧ Pv i xs H, ⟨len, by simp, Nat.zero_le _, h0⟩, ?_⟩
  rintro i m xs H2 ⟨rfl, hi, p⟩
  by_cases lt : i < len
  · exact .inr ⟨hgo i xs H2 lt p, fun v H3 y => step i xs H2 v H3 lt p y (fun xs' H' => ∃ m', m' < len - i ∧ m' = len - (i + 1) ∧ i + 1 ≤ len ∧ Pv (i + 1) xs' H') fun xs' H' q => ⟨_, by omega, rfl, lt, q⟩⟩
  · have e : i = len := by omega
    subst e
    exact .inl (fin xs H2 p)
end L2
set_option maxRecDepth 100000
namespace L2
open PySem PySem.Spec PyProof.Rows XL
variable {q0 : Bool}
section
variable {X : Cx} {pins : List (Addr × Obj)} {σ : St} {H : Hp} {s : Shared}
theorem Inv.adopt {p : Addr} {o : HO} (I : Inv X pins σ H s) (n : H p = none) (h0 : X.s₀.heap.objs.size ≤ p) (hL : p ≠ X.env.locals) (hC : ∀ x c, X.env.cells.lookup x = some c → c ≠ p) (hp : ∀ q ∈ X.pn ++ pins, q.1 ≠ p)
    (new : ObjOk X.prog X.w (upd H p o) s.heap p o) : Inv X pins σ (upd H p o) s := by
  have ne : ∀ b u, H b = some u → b ≠ p := fun b u e => ne_of_none e n
  refine ⟨I.ok, I.os, I.bare, ⟨I.base.keep, I.base.slot, fun b ob e hn hx => ?_, I.base.there, fun b xs e => ?_, fun b ob u e => ?_, fun b ps e => ?_⟩, I.loc, I.cell, ?_, fun x c e => ?_, fun q hq => ?_, fun b u e => ?_, I.len⟩
  · rw [upd_ne (Nat.ne_of_lt (Nat.lt_of_lt_of_le (Heap.lt_size e) h0))]
    exact I.base.free b ob e hn hx
  · have z := I.base.tups b xs e
    rw [upd_ne (ne b _ z)]
    exact z
  · have z := I.base.frzs b ob u e
    rw [upd_ne (ne b _ z)]
    exact z
  · obtain ⟨m, z⟩ := I.base.tbls b ps e
    exact ⟨m, by rw [upd_ne (ne b _ z)]; exact z⟩
  · rw [upd_ne (Ne.symm hL)]
    exact I.free
  · rw [upd_ne (hC x c e)]
    exact I.freeC x c e
  · obtain ⟨a1, a2, a3⟩ := I.pin q hq
    exact ⟨a1, by rw [upd_ne (hp q hq)]; exact a2, a3⟩
  · by_cases hb : b = p
    · subst hb
      rw [upd_same] at e
      cases e
      exact new
    · rw [upd_ne hb] at e
      exact (I.hok b u e).stay (fun c v _ q => q) (fun c q => by rw [upd_ne (ne c _ q)]; exact q) fun c xs q => by rw [upd_ne (ne c _ q)]; exact q
theorem Inv.thaw {d : Addr} {o : Obj} {u : HO} (I : Inv X pins σ H s) (e : H d = some (.frz o u)) (nf : ∀ o' u', X.H₀ d ≠ some (.frz o' u')) : Inv X pins σ (upd H d u) s := by
  have ne : ∀ b v, H b = some v → (∀ o' u', v ≠ .frz o' u') → b ≠ d := fun b v h1 h2 z => by
    subst z
    rw [e] at h1
    cases h1
    exact h2 _ _ rfl
  have ne0 : ∀ b, H b = none → b ≠ d := fun b h1 z => by
    subst z
    rw [e] at h1
    cases h1
  refine ⟨I.ok, I.os, I.bare, ⟨I.base.keep, I.base.slot, fun b ob q hn hx => ?_, I.base.there, fun b xs q => ?_, fun b ob v q => ?_, fun b ps q => ?_⟩, I.loc, I.cell, ?_, fun x c q => ?_, fun p hp => ?_, fun b v q => ?_, I.len⟩
  · have z := I.base.free b ob q hn hx
    rw [upd_ne (ne0 b z)]
    exact z
  · have z := I.base.tups b xs q
    rw [upd_ne (ne b _ z (fun _ _ h => nomatch h))]
    exact z
  · have z := I.base.frzs b ob v q
    have hb : b ≠ d := fun w => by
      subst w
      exact nf _ _ q
    rw [upd_ne hb]
    exact z
  · obtain ⟨m, z⟩ := I.base.tbls b ps q
    exact ⟨m, by rw [upd_ne (ne b _ z (fun _ _ h => nomatch h))]; exact z⟩
  · rw [upd_ne (ne0 _ I.free)]
    exact I.free
  · rw [upd_ne (ne0 _ (I.freeC x c q))]
    exact I.freeC x c q
  · obtain ⟨a1, a2, a3⟩ := I.pin p hp
    exact ⟨a1, by rw [upd_ne (ne0 _ a2)]; exact a2, a3⟩
  · have st : ∀ (a : Addr) (v : HO), ObjOk X.prog X.w H s.heap a v → ObjOk X.prog X.w (upd H d u) s.heap a v := fun a v k =>
      k.stay (fun c v _ q => q) (fun c q => by rw [upd_ne (ne c _ q (fun _ _ h => nomatch h))]; exact q) fun c xs q => by rw [upd_ne (ne c _ q (fun _ _ h => nomatch h))]; exact q
    by_cases hb : b = d
    · subst hb
      rw [upd_same] at q
      cases q
      obtain ⟨g, ok⟩ := I.hok b _ e
      exact st _ _ ok
    · rw [upd_ne hb] at q
      exact st _ _ (I.hok b v q)
theorem Inv.nofrz {d : Addr} {kvs : List (Key × V)} (I : Inv X pins σ H s) (e : H d = some (.dK kvs)) : ∀ o' u', X.H₀ d ≠ some (.frz o' u') := fun o' u' z => by
  have q := I.base.frzs d o' u' z
  rw [e] at q
  cases q
theorem KV.get : ∀ {kvs : List (Key × V)} {vs : List (Key × Value)} {i : Nat} {k : Key} {x : V}, KV kvs vs → kvs[i]? = some (k, x) → ∃ u, vs[i]? = some (k, u) ∧ RelV x u
  | _, _, _, _, _, .nil, e => by simp at e
  | _, (_, _) :: _, 0, _, _, .cons r _, e => by
    simp at e
    subst e
    obtain ⟨r1, r2⟩ := r
    dsimp only at r1 r2
    subst r1
    exact ⟨_, rfl, r2⟩
  | _, _, i + 1, k, x, .cons _ t, e => by
    obtain ⟨u, h1, h2⟩ := KV.get (i := i) (k := k) (x := x) t (by simpa using e)
    exact ⟨u, by simpa using h1, h2⟩
theorem kV_rel {P : Program} {w : World} {k : Key} {u : Value} (h : (mixKind P w).is k u = true) : RelV (kV k) u := by
  rcases keyIs_shape (show keyIs k u = true from h) with ⟨i, t, rfl, rfl⟩ | ⟨x, t, rfl, rfl⟩
  · exact ⟨t, rfl⟩
  · exact ⟨t, rfl⟩
theorem frz_at {d : Addr} {o : Obj} {kvs : List (Key × V)} {ep : Nat} (I : Inv X pins σ H s) (e : H d = some (.frz o (.dK kvs))) (hep : ∃ es, o.data = .dict es ep) : ∃ vs, KV kvs vs ∧ s.heap.DictAt (mixKind X.prog X.w) d vs ep := by
  obtain ⟨g, _, _, vs, rel, o', es', ep', g', ex, hdat, hk, hp, hn⟩ := I.hok d _ e
  rw [g] at g'
  cases g'
  obtain ⟨es, he⟩ := hep
  rw [he] at hdat
  cases hdat
  exact ⟨vs, rel, o, _, g, ex, he, hk, hp, hn⟩
end
def Iti (d : Addr) (o : Obj) (kvs : List (Key × V)) : It :=
  ⟨fun i H => H d = some (.frz o (.dK kvs)) ∧ i < kvs.length, fun i H v H' => ∃ p k x, kvs[i]? = some (k, x) ∧ v = .ref p ∧ H p = none ∧ H' = upd H p (.tup [kV k, x]), fun i H => H d = some (.frz o (.dK kvs)) ∧ kvs.length ≤ i⟩
theorem turn_items {P : Program} {w : World} {K : PySem.W.Frag} {elts : List Expr} {x1} {tpos : Pos} (d it : Addr) (o : Obj) (kvs : List (Key × V)) (ep : Nat) (hep : ∃ es, o.data = .dict es ep) :
    Turn P w K (.Tuple elts x1 tpos) (Iti d o kvs) [it] it (fun i h => ∃ ok ov, IsItemIter h it d i kvs.length ep ok ov) where
  mem := by simp
  obj := fun i h st b hb => by
    have e : b = it := by simpa using hb
    subst e
    obtain ⟨ok, ov, st⟩ := st
    exact ⟨_, st, fun v z => by
      have z' : Data.fields _ = Data.cell v := z
      cases z'⟩
  keep := fun i h h' ⟨ok, ov, st⟩ k => ⟨ok, ov, k it (by simp) _ st⟩
  item := by
    intro X hP hw hK hc i pins s σ H E I hf st hg
    subst hP hw hK
    obtain ⟨ok, ov, st⟩ := st
    obtain ⟨e, lt⟩ := hg
    obtain ⟨vs, rel, da⟩ := frz_at I e hep
    obtain ⟨f0, f1, f2, f3, f4, f5⟩ := hf it (by simp)
    have hl : kvs.length = vs.length := rel.length
    obtain ⟨⟨k, x⟩, q⟩ : ∃ y, kvs[i] = y := ⟨_, rfl⟩
    have hx : kvs[i]? = some (k, x) := by rw [List.getElem?_eq_getElem lt, q]
    obtain ⟨u, hv, ru⟩ := rel.get hx
    rw [hl] at st
    refine wpAny_pyNext_items_item st da hv fun key h' hkey hout ht hz hkp => ?_
    refine ⟨_, rfl, wpAny_letOwnedTupleGo_items hout fun h'' hit' hsb => ?_⟩
    have kk : ∀ b o, b ≠ it → s.heap.get? b = some o → h''.get? b = some o := fun b o hb g => (hsb.2 b hb).trans (hkp b o hb g)
    have I1 : Inv X pins σ H { s with heap := h'' } := I.turned (t' := s.toks) kk f0 f1 f3 f4 f5
    obtain ⟨n0, nL, nC, nP⟩ := I.size_lt (Nat.le_refl s.heap.objs.size)
    have itlt : it < s.heap.objs.size := Heap.lt_size st
    have pne : s.heap.objs.size ≠ it := Nat.ne_of_gt itlt
    have hp : h''.get? s.heap.objs.size = some { cls := .type "tuple", data := .seq #[key, u] } := (hsb.2 _ pne).trans ht
    refine ⟨.ref s.heap.objs.size, upd H s.heap.objs.size (.tup [kV k, x]), I1.adopt n0 I.sz nL nC nP ⟨by show 2 ≤ sizeLine; decide, [key, u], .cons (kV_rel hkey) (.cons ru .nil), _, hp, rfl, _, rfl⟩, rfl, ⟨_, k, x, hx, rfl, n0, rfl⟩, ?_, fun b hb => ?_⟩
    · rw [← hl] at hit'
      exact ⟨_, _, hit'⟩
    · have e : b = it := by simpa using hb
      subst e
      rw [upd_ne (Ne.symm pne)]
      exact f0
  done := by
    intro X hP hw hK hc i pins s σ H E I hf st hg
    subst hP hw hK
    obtain ⟨ok, ov, st⟩ := st
    obtain ⟨e, le⟩ := hg
    obtain ⟨vs, rel, da⟩ := frz_at I e hep
    obtain ⟨f0, f1, f2, f3, f4, f5⟩ := hf it (by simp)
    have hl : kvs.length = vs.length := rel.length
    rw [hl] at st
    exact wpAny_pyNext_items_end (I.ok.hd hc) st da (by simpa using (by omega : vs.length ≤ i)) fun h' eb => ⟨rfl, I.turned (t' := s.toks) (fun b o hb e => eb b o hb e) f0 f1 f3 f4 f5⟩
  self := fun _ _ _ _ _ ⟨ok, ov, st⟩ h => PySem.W.kcp_self st h
def iItems (X : Cx) (to : TE) : TI := fun σ H R => to σ H fun x H1 => ∃ d kvs, x = .ref d ∧ H1 d = some (.dK kvs) ∧ ∀ ob, (∀ o' u', X.H₀ d ≠ some (.frz o' u')) → R (Iti d ob kvs) (upd H1 d (.frz ob (.dK kvs)))
section
variable {X : Cx} {o : Expr} {to : TE} {elts : List Expr} {x1 : _} {tpos apos cpos : Pos}
theorem pi_items (ho : PE X o to) (hbase : attributeBase o "items" X.env (eval o X.env) = eval o X.env := by rfl) (hline : (apos.endLine == cpos.line) = true := by rfl) :
    PI X (.Tuple elts x1 tpos) (.Call (.Attribute o "items" apos) [] [] cpos) (iItems X to) := by
  intro pins s σ H R I h
  refine wpAny_Call_method0_late hbase hline (thn (ho pins s σ H _ I h) fun v s1 ⟨x, H1, I1, r1, q1⟩ => ?_)
  obtain ⟨d, kvs, e1, e, q⟩ := q1
  subst e1
  cases r1
  obtain ⟨z, hd, vs, rel, dd⟩ := dk_of I1.hok e
  obtain ⟨ob, es, ep, g, ex, hdat, hk, hp, hn⟩ := id dd
  refine ⟨"dict", "dict.items", PySem.F.plainAttrs_dict, PySem.F.slot_dict_items, PySem.F.type_dict_items, dd.typeIs, fun a e2 => ?_, Calls.callWith_builtin rfl (PySem.evalArgs_none ?_)⟩
  · cases e2
    exact ⟨ob, g, ex.2.1⟩
  refine call_meetsIn PySem.F.slot_dict_items dd.typeIs PySem.F.entry_dict_items (PySem.F.args_dict_items_1 _) (meets_dict_items (mixKind X.prog X.w) d hd) ⟨⟨vs, dd⟩, ?_⟩
  have da : (s1.heap.push { cls := .type "dict_items", data := .fields #[.ref d] }).DictAt (mixKind X.prog X.w) d vs ep := ⟨ob, es, Heap.get?_push_of_some _ g, ex, hdat, hk, hp, hn⟩
  refine wpAny_pyIter_items (s := { s1 with heap := s1.heap.push { cls := .type "dict_items", data := .fields #[.ref d] } }) ⟨_, Heap.get?_push_size _ rfl, rfl, rfl⟩ da ?_
  have I2 : Inv X pins σ H1 { s1 with heap := s1.heap.push { cls := .type "dict_items", data := .fields #[.ref d] } } := I1.kept (t' := s1.toks) fun b o e => Heap.get?_push_of_some _ e
  generalize hs2 : ({ s1 with heap := s1.heap.push { cls := .type "dict_items", data := .fields #[.ref d] } } : Shared) = s2 at I2
  have g2 : s2.heap.get? d = some ob := by rw [← hs2]; exact Heap.get?_push_of_some _ g
  have I3 : Inv X pins σ (upd H1 d (.frz ob (.dK kvs))) s2 := I2.write (t' := s2.toks) (x := d) (e := d) (by rw [e]; exact True.intro) (.inl rfl) (fun b u _ q => q) ⟨ob, g2⟩ ⟨g2, I2.hok d _ e⟩
  have I4 : Inv X pins σ (upd H1 d (.frz ob (.dK kvs))) { s2 with heap := s2.heap.push { cls := .type "dict_itemiterator", data := .fields #[.none, .bool false, .ref d, .int 0 0, .int vs.length 0, .int ep 0, .none, .none] } } :=
    I3.kept (t' := s2.toks) fun b o e => Heap.get?_push_of_some _ e
  have fin : PIE X pins σ (.Tuple elts x1 tpos) R (.ref s2.heap.objs.size) { s2 with heap := s2.heap.push { cls := .type "dict_itemiterator", data := .fields #[.none, .bool false, .ref d, .int 0 0, .int vs.length 0, .int ep 0, .none, .none] } } := by
    refine ⟨s2.heap.objs.size, [s2.heap.objs.size], _, _, upd H1 d (.frz ob (.dK kvs)), rfl, I4, turn_items d _ ob kvs ep ⟨es, hdat⟩, ⟨.none, .none, ?_⟩, fun b hb => ?_, q ob (I1.nofrz e)⟩
    · have hl : kvs.length = vs.length := rel.length
      show IsItemIter _ _ d 0 kvs.length ep .none .none
      rw [hl]
      exact Heap.get?_push_size _ rfl
    · have eb : b = s2.heap.objs.size := by simpa using hb
      subst eb
      exact I3.fpOk (Nat.le_refl _) (I3.hok.fresh (Nat.le_refl _))
  exact fin
theorem thaw_end {pins : List (Addr × Obj)} {σ : St} {Q : VK} {u : Value} {s : Shared} (h : EP X pins σ (fun v H2 => ∃ d ob u, H2 d = some (.frz ob u) ∧ (∀ o' u', X.H₀ d ≠ some (.frz o' u')) ∧ Q v (upd H2 d u)) u s) : EP X pins σ Q u s := by
  obtain ⟨v, H2, I2, r2, d, ob, u', e, nf, q⟩ := h
  exact ⟨v, _, I2.thaw e nf, r2, q⟩
theorem pe_thaw {e : Expr} {t : TE} (h : PE X e t) : PE X e (fun σ H Q => t σ H fun v H2 => ∃ d ob u, H2 d = some (.frz ob u) ∧ (∀ o' u', X.H₀ d ≠ some (.frz o' u')) ∧ Q v (upd H2 d u)) := fun pins s σ H Q I q =>
  thn (h pins s σ H _ I q) fun _ _ z => thaw_end z
end
end L2
set_option maxRecDepth 100000
namespace PySem.F
end PySem.F
namespace L2
open PySem PySem.Spec PyProof.Rows XL
variable {q0 : Bool}
section
variable {X : Cx} {pins : List (Addr × Obj)} {σ : St} {H : Hp} {s : Shared} {a : Addr} {y v : V} {u r : Value} {A : Around} {E : Value → Shared → Prop}
end
end L2
set_option maxRecDepth 100000
namespace L2
open PySem PySem.Spec PyProof.Rows XL
variable {q0 : Bool}
section
variable {X : Cx} {tg : Expr}
end
theorem vals_at {xs : List V} {us : List Value} (r : Vals xs us) {j : Nat} (h : j < us.toArray.size) : ∃ x, xs[j]? = some x ∧ RelV x us.toArray[j] := by
  have hl := r.length
  have hj : j < xs.length := by simp at h; omega
  obtain ⟨u, h1, h2⟩ := r.get (x := xs[j]) (List.getElem?_eq_getElem hj)
  refine ⟨xs[j], List.getElem?_eq_getElem hj, ?_⟩
  have : us.toArray[j] = u := by
    have z := List.getElem?_eq_some_iff.mp h1
    obtain ⟨z1, z2⟩ := z
    simpa using z2
  rw [this]
  exact h2
section
variable {X : Cx} {pins : List (Addr × Obj)} {σ : St} {H : Hp} {s : Shared}
end
theorem hu20_of {A : Around} {k : Nat} (hr : Room q0 k A) : A.units + 20 < cLine := by have := hr.un; omega
theorem call_lenD {X : Cx} : CallR X (.builtin "len") (fun xs H Q => ∃ a kvs, xs = [.ref a] ∧ H a = some (.dK kvs) ∧ Q (.int kvs.length) H) := by
  intro pins s σ H xs us Q I r h
  obtain ⟨a, kvs, rfl, e, q⟩ := h
  obtain ⟨u, rfl, rx⟩ := vals1 r
  obtain rfl : u = Value.ref a := rx
  exact d_len I (.inl e) fun t s' I' => ⟨.int _, H, I', ⟨t, rfl⟩, q⟩
inductive Ents (w : World) : List DictEntry → List (Key × V) → Prop
  | nil : Ents w [] []
  | cons {k : Key} {x : V} {key val : Value} {h : Int} {es : List DictEntry} {kvs : List (Key × V)} (hh : h = keyH w k) (hk : RelV (kV k) key) (hv : RelV x val) (r : Ents w es kvs) : Ents w (⟨h, key, val⟩ :: es) ((k, x) :: kvs)
def GDict (w : World) (K : PySem.W.Frag) (D : Addr) (kvs : List (Key × V)) : Prop := (D == sysModules) = false ∧ ∃ (es : Array DictEntry) (ep : Nat), K.lookup D = some ⟨.type "dict", none, .dict es ep, #[]⟩ ∧ Ents w es.toList kvs ∧ (kvs.map (·.1)).Nodup
theorem Ents.ok {P : Program} {w : World} {es : List DictEntry} {kvs : List (Key × V)} (h : Ents w es kvs) : ∃ vs, KV kvs vs ∧ Pairs (mixKind P w) es vs ∧ ∀ e ∈ es, ∃ k, (mixKind P w).is k e.key = true ∧ e.hash = (mixKind P w).hash k := by
  induction h with
  | nil => exact ⟨[], .nil, .nil, fun e z => nomatch z⟩
  | @cons k x key val h es kvs hh hk hv _ ih =>
    obtain ⟨vs, a, b, c⟩ := ih
    refine ⟨(k, val) :: vs, .cons ⟨rfl, hv⟩ a, .cons (kV_is hk) rfl b, fun e he => ?_⟩
    rcases List.mem_cons.mp he with rfl | z
    · exact ⟨k, kV_is hk, hh⟩
    · exact c e z
section
variable {X : Cx} {pins : List (Addr × Obj)} {σ : St} {H : Hp} {s : Shared} {D : Addr} {kvs : List (Key × V)}
theorem gdict_at (I : Inv X pins σ H s) (g : GDict X.w X.K D kvs) : ∃ vs, KV kvs vs ∧ s.heap.DictOf (mixKind X.prog X.w) D vs := by
  obtain ⟨_, es, ep, l, en, nd⟩ := g
  obtain ⟨vs, a, b, c⟩ := en.ok (P := X.prog)
  refine ⟨vs, a, _, es, ep, I.kIn _ _ l, ⟨rfl, rfl, rfl⟩, rfl, fun e he => c e (by simpa using he), b, ?_⟩
  rw [← a.keys]
  exact nd
def tGIn (kvs : List (Key × V)) (neg : Bool) (ty : TE) : TE := fun σ H Q => ty σ H fun y H1 => ∃ k : Key, y = kV k ∧ Q (.bl (if neg then !(valV kvs k).isSome else (valV kvs k).isSome)) H1
theorem pc_gnotin {i : Expr} {ty : TE} {x : Str} {p : Pos} (hi : PE X i ty) (hg : Gl X x) (hm : X.mg x = some (.ref D)) (g : GDict X.w X.K D kvs) (hd : (x == ("__debug__" : Str)) = false := by decide) : PC X .NotIn i (.Name x p) (tGIn kvs true ty) := by
  intro pins s σ H Q I h
  refine thn (hi pins s σ H _ I h) fun iv s1 ⟨y, H1, I1, ry, k, ey, q1⟩ => thn (pe_glob (v := .ref D) hg hm rfl hd pins s1 σ H1 (fun v H2 => v = .ref D ∧ H2 = H1) I1 ⟨rfl, rfl⟩) fun u s2 ⟨x, H2, I2, rx, e1, e2⟩ => ?_
  subst ey e1 e2
  obtain rfl : u = Value.ref D := rx
  obtain ⟨vs, rel, dd⟩ := gdict_at I2 g
  refine wpAny_notIn_of (kV_is ry) g.1 dd.mapOf ?_
  rw [← (rel.val k).isSome_eq]
  exact ⟨.bl _, _, I2.tok _, rfl, q1⟩
end
end L2
set_option maxRecDepth 100000
namespace L2
open PySem PySem.Spec PyProof.Rows XL
variable {q0 : Bool}
end L2
set_option maxRecDepth 100000
namespace L2
open PySem PySem.Spec PyProof.Rows XL
variable {q0 : Bool}
section
variable {X : Cx} {pins : List (Addr × Obj)} {σ : St} {H : Hp} {s : Shared} {h' : Heap}
end
section
variable {X : Cx} {tg : Expr}
end
section
variable {X : Cx} {elts : List Expr} {x1 : _} {tpos : Pos}
end
end L2
set_option maxRecDepth 100000
namespace L2
open PySem PySem.Spec PyProof.Rows XL
variable {q0 : Bool}
section
variable {X : Cx} {elts : List Expr} {x1 : _} {tpos : Pos}
end
end L2
namespace L2
open PySem PySem.Spec PyProof.Rows XL
end L2
set_option maxRecDepth 100000
namespace L2
open PySem PySem.Spec PyProof.Rows XL
def tMid (t : TS) : TS := fun D σ H => ∃ Pv : St → Hp → Prop, t { D with nx := Pv } σ H ∧ ∀ σ' H', Pv σ' H' → D.nx σ' H'
theorem ps_mid {X : Cx} {st : Stmt} {t : TS} (h : PS X st t) : PS X st (tMid t) := by
  intro pins s σ H D I q
  obtain ⟨Pv, q1, q2⟩ := q
  refine thn (h pins s σ H { D with nx := Pv } I q1) fun fl s1 z => ?_
  cases fl with
  | next =>
    obtain ⟨σ', H', I', r⟩ := z
    exact ⟨σ', H', I', q2 _ _ r⟩
  | _ => exact z
end L2
set_option maxRecDepth 100000
namespace XL
open PySem PySem.W
section
variable {prog : Program} {w : World} {A : Around} {E : Value → Shared → Prop} {h : Heap} {g : Array GenState} {d : Drawn} {t : Nat} {os : OsState}
variable {nm qn : Str} {C N : Addr} {bs bm bmB : List Value} {hz : Bool} {sn : List Str} {sub : List Value} {ab : Bool} {col : Option Bool} {dd : Option Addr} {k0 k1 k2 k3 k5 : Option Value} {B ni ii : String}
end
end XL
namespace L2
open PySem PySem.Spec PyProof.Rows XL
variable {q0 : Bool}
section
variable {X : Cx} {C : Addr} {x : Str} {p pos : Pos}
end
section
variable {X : Cx} {pos np hpos np1 np2 hpos1 hpos2 : Pos} {body hbody hbody1 hbody2 : List Stmt} {b0 b1 b2 : Stmt} {cx cx1 cx2 n : Str} {C0 C1 C2 : Addr} {j : Nat} {E : St → XK} {tb th th1 th2 : TS} {rest : List ExceptHandler}
end
end L2
set_option maxRecDepth 100000
namespace L2
open PySem PySem.Spec PyProof.Rows XL
section
variable {X : Cx} {a b c d : Expr} {ta tb tc td : TE} {pos : Pos}
end
end L2
set_option maxRecDepth 100000
set_option maxHeartbeats 4000000
namespace L2
open PySem PySem.Calls PyProof PyProof.Rows
def eU (e : V → Bool) (u : Value) : Bool := match absV u with | some y => e y | none => false
theorem eU_of {e : V → Bool} {y : V} {u : Value} (r : RelV y u) : eU e u = e y := by unfold eU; rw [r.abs]
theorem any_eU {e : V → Bool} : ∀ {xs : List V} {us : List Value}, Vals xs us → us.any (eU e) = xs.any e
  | _, _, .nil => rfl
  | y :: xs, u :: us, .cons r t => by rw [List.any_cons, List.any_cons, eU_of r, any_eU t]
theorem mem_rel : ∀ {xs : List V} {us : List Value}, Vals xs us → ∀ u ∈ us, ∃ y ∈ xs, RelV y u
  | _, _, .nil => fun u hu => nomatch hu
  | y :: xs, u :: us, .cons r t => fun u' hu => by
    rcases List.mem_cons.mp hu with rfl | hu
    · exact ⟨y, List.mem_cons_self, r⟩
    · obtain ⟨z, h1, h2⟩ := mem_rel t u' hu
      exact ⟨z, List.mem_cons_of_mem _ h1, h2⟩
section
variable {X : Cx}
end
end L2
set_option maxRecDepth 100000
namespace PySem.F
end PySem.F
namespace L2
open PySem PySem.Spec PyProof.Rows XL
variable {q0 : Bool}
end L2
set_option maxRecDepth 100000
namespace L2
open PySem PySem.Spec PyProof.Rows XL
variable {q0 : Bool}
section
variable {z TI TO i1 i2 l1 l2 : Addr} {P : Nat → Prop} {i : Nat} {h : Heap}
end
end L2
set_option maxRecDepth 100000
namespace L2
open PySem PySem.Spec PyProof.Rows XL
variable {q0 : Bool}
end L2
set_option maxRecDepth 100000
namespace L2
open PySem PySem.Spec PyProof.Rows XL
variable {q0 : Bool}
section
variable {X : Cx} {pos np1 np2 np3 hpos1 hpos2 hpos3 : Pos} {body hbody1 hbody2 hbody3 : List Stmt} {rest : List ExceptHandler} {b1 b2 b3 : Stmt} {cx1 cx2 cx3 n : Str} {C1 C2 C3 : Addr} {j : Nat} {E : St → XK} {tb th1 th2 th3 : TS}
end
end L2
set_option maxRecDepth 100000
namespace L2
open PySem PySem.Spec PyProof.Rows XL PySem.W
variable {q0 : Bool}
theorem list_sort_tups {prog : Program} {w : World} {A : Around} {E : Value → Shared → Prop} {s : Shared} {a : Addr} {vs : List Value} {n : Nat} {P : PySem.Fin → Shared → Prop}
    (h : s.heap.get? a = some (seqObj "list" vs.toArray n)) (h2 : 2 ≤ vs.length) (h64 : vs.length < 64)
    (hk : ∀ s' : Shared, s'.heap = (((s.heap.update a (Obj.mapSeq fun x => #[])).push (seqObj "tuple" vs.toArray 0)).push (seqObj "list" #[] 0)) → s' = { s with heap := s'.heap } →
      wpAny (model prog w) A (keyKind' vs.toArray) (fun κ s'' => s'' = s' ∧ KasT.kasWp (kas_ask prog w A κ vs) (kas_sort vs.length) (fun p s3 => s3 = s' ∧ P (.done (.ret .none)) { s with heap := sortedHeap s.heap a vs (p.map fun i => vs.getD i .none) }) s'') (fun _ _ => False) s') :
    wpAny (model prog w) A (Builtin.«list.sort» { pos := [.ref a] }) P E s := by
  obtain ⟨hp, g, d, tk, os⟩ := s
  rw [list_sort_plain]
  repeat (any_goals (first | assumption | wp_step))
  have z : ¬ vs.toArray.toList.toArray.size > sizeLine := by
    simp
    exact Nat.le_of_lt (Nat.lt_trans h64 (by decide))
  rw [if_neg z]
  generalize keyKind' vs.toArray = kk at hk ⊢
  repeat (any_goals (first | assumption | wp_step))
  have hk' := hk { heap := ((hp.update a (Obj.mapSeq fun x => #[])).push (seqObj "tuple" vs.toArray 0)).push (seqObj "list" #[] 0), gens := g, drawn := d, toks := tk, os := os } rfl rfl
  refine wpAny_mono hk' (fun κ s'' z => ?_) (fun _ _ z => z.elim)
  obtain ⟨e, q⟩ := z
  subst e
  show wpAny _ _ (StateT.run (if vs.toArray.size < 2 then pure () else sortRuns') _ >>= _) _ _ _
  rw [if_neg (by simp; omega)]
  refine wpAny_bind (wpAny_mono (kat_run (E := E) (Q := fun st' s' => ∃ p : Array Nat, p.size = vs.length ∧ arrOf st' = Array.map (kas_item (vs.toArray.zip vs.toArray)) p ∧ failedOf st' = none ∧ s' = _ ∧ P (.done (.ret .none)) { heap := sortedHeap hp a vs (p.map fun i => vs.getD i .none), gens := g, drawn := d, toks := tk, os := os }) rfl h2 h64 (fun p st' s' hp' e f q' => ⟨p, hp', e, f, q'.1, q'.2⟩) q) (fun r s' z => ?_) fun _ _ z => z)
  obtain ⟨u, st⟩ := r
  obtain ⟨p, psz, e, f, rfl, q'⟩ := z
  have al : a < hp.objs.size := Heap.lt_size h
  have g1 : (((hp.update a (Obj.mapSeq fun x => #[])).push (seqObj "tuple" vs.toArray 0)).push (seqObj "list" #[] 0)).get? a = some (seqObj "list" #[] (n + 1)) := by
    refine Heap.get?_push_of_some _ (Heap.get?_push_of_some _ ?_)
    rw [Heap.get?_update_self _ h rfl]
    have z : ((0 : Nat) == vs.length) = false := by
      cases vs with
      | nil => simp at h2
      | cons => rfl
    simp [Obj.mapSeq, z]
  have e2 : (if (((fun x => #[]) vs.toArray : Array Value).size == vs.toArray.size) = true then n else n + 1) = n + 1 := by
    rw [if_neg]
    simp
    omega
  simp only [e2, f]
  have e3 : Array.map (fun x => x.snd) (arrOf st) = p.map fun i => vs.getD i .none := by
    rw [e, Array.map_map]
    congr 1
    funext i
    show (kas_item (vs.toArray.zip vs.toArray) i).snd = _
    unfold kas_item
    by_cases c : i < vs.length
    · simp [List.getElem?_eq_getElem c, c]
    · simp [List.getElem?_eq_none (by omega : vs.length ≤ i), c]
  simp only [e3]
  repeat (any_goals (first | assumption | wp_step))
  have e4 : (Obj.mapSeq (fun x => Array.map (fun i => vs.getD i Value.none) p) (seqObj "list" #[] (n + 1))).data.pastItsLine = none := by
    show (if (Array.map (fun i => vs.getD i Value.none) p).size > sizeLine + 1 then _ else none) = none
    rw [if_neg]
    rw [Array.size_map, psz]
    have : vs.length < sizeLine := Nat.lt_trans h64 (by decide)
    omega
  rw [e4]
  refine wpAny_pure ?_
  rw [f]
  show wpAny _ _ (if (n + 1 != n + 1) = true then _ else _) _ _ _
  rw [if_neg (by simp)]
  exact wpAny_pure q'
theorem keyNext_item {prog : Program} {w : World} {A : Around} {E : Value → Shared → Prop} {s : Shared} {it d : Addr} {i ep : Nat} {o : Obj} {es : Array DictEntry} {en : DictEntry} {Q : Option Value → Shared → Prop}
    (st : s.heap.IsKeyIter it d i es.size ep) (hd : s.heap.get? d = some o) (hx : o.ExactDict) (hdat : o.data = .dict es ep) (hi : es[i]? = some en)
    (h : ∀ h', h'.IsKeyIter it d (i + 1) es.size ep → Heap.SameBut it s.heap h' → Q (some en.key) { s with heap := h' }) : wpAny (model prog w) A (pyNext (.ref it)) Q E s := by
  unfold pyNext
  refine wpAny_bind (wpAny_attempt (wpAny_callSpecial?_slot st.typeIs F.slot_dict_keyiterator_next ?_))
  refine wpAny_call_entry F.slot_dict_keyiterator_next st.typeIs F.entry_dict_keyiterator_next ?_ (F.args_dict_keyiterator_next_1 _)
  have ti := st.typeIs
  obtain ⟨hp, g, dr, tk, os⟩ := s
  obtain ⟨⟨c, dct, dat, sl⟩, hit, ci, di⟩ := st
  simp only at ci di
  subst ci di
  unfold Builtin.«dict_keyiterator.__next__»
  repeat (any_goals (first | assumption | (with_reducible refine wpAny_typeNameOfWhole_keyiter ti ?_) | (with_reducible refine wpAny_isOneOf_keyiter ti ?_) | (with_reducible refine wpAny_dictEntries hd hdat ?_) | (with_reducible refine wpAny_dictEpoch hd hdat ?_) | wp_step))
  have e1 : (if (i : Int) < 0 then none else es[(i : Int).toNat]?) = some en := by
    rw [if_neg (by omega), Int.toNat_natCast]
    exact hi
  rw [e1]
  repeat (any_goals (first | assumption | (with_reducible refine wpAny_typeNameOfWhole_keyiter ti ?_) | (with_reducible refine wpAny_isOneOf_keyiter ti ?_) | (with_reducible refine wpAny_dictEntries hd hdat ?_) | (with_reducible refine wpAny_dictEpoch hd hdat ?_) | wp_step))
  refine ⟨_, rfl, wpAny_pure (h _ ?_ (Heap.SameBut.update _ _ _))⟩
  refine ⟨_, Heap.get?_update_self _ hit rfl, rfl, ?_⟩
  rfl
theorem keyNext_end {prog : Program} {w : World} {A : Around} {E : Value → Shared → Prop} {s : Shared} {it d : Addr} {ep : Nat} {o : Obj} {es : Array DictEntry} {Q : Option Value → Shared → Prop}
    (hA : A.handled = none) (st : s.heap.IsKeyIter it d es.size es.size ep) (hd : s.heap.get? d = some o) (hx : o.ExactDict) (hdat : o.data = .dict es ep)
    (h : ∀ h', Heap.ExtBut it s.heap h' → Q none { s with heap := h' }) : wpAny (model prog w) A (pyNext (.ref it)) Q E s := by
  unfold pyNext
  refine wpAny_bind (wpAny_attempt (wpAny_callSpecial?_slot st.typeIs F.slot_dict_keyiterator_next ?_))
  refine wpAny_call_entry F.slot_dict_keyiterator_next st.typeIs F.entry_dict_keyiterator_next ?_ (F.args_dict_keyiterator_next_1 _)
  have ti := st.typeIs
  obtain ⟨hp, g, dr, tk, os⟩ := s
  obtain ⟨⟨c, dct, dat, sl⟩, hit, ci, di⟩ := st
  simp only at ci di
  subst ci di
  unfold Builtin.«dict_keyiterator.__next__»
  repeat (any_goals (first | assumption | (with_reducible refine wpAny_typeNameOfWhole_keyiter ti ?_) | (with_reducible refine wpAny_isOneOf_keyiter ti ?_) | (with_reducible refine wpAny_dictEntries hd hdat ?_) | (with_reducible refine wpAny_dictEpoch hd hdat ?_) | wp_step))
  have e1 : (if (es.size : Int) < 0 then none else es[(es.size : Int).toNat]?) = none := by
    rw [if_neg (by omega), Int.toNat_natCast]
    simp
  rw [e1]
  repeat (any_goals (first | assumption | (with_reducible refine wpAny_typeNameOfWhole_keyiter ti ?_) | (with_reducible refine wpAny_isOneOf_keyiter ti ?_) | (with_reducible refine wpAny_dictEntries hd hdat ?_) | (with_reducible refine wpAny_dictEpoch hd hdat ?_) | wp_step))
  refine wpAny_raiseNew_none hA ?_
  refine wpAny_bind (wpAny_isInstance ⟨_, Heap.get?_push_size _ rfl, rfl⟩ isSubtype_stop (wpAny_pure (h _ fun b o nb e => ?_)))
  refine Heap.get?_push_of_some _ (Heap.get?_push_of_some _ ?_)
  rw [Heap.get?_update_other _ _ (Ne.symm nb)]
  exact e
theorem dictIter {prog : Program} {w : World} {A : Around} {E : Value → Shared → Prop} {s : Shared} {d : Addr} {ep : Nat} {o : Obj} {es : Array DictEntry} {Q : Value → Shared → Prop}
    (hs : (d == sysModules) = false) (hd : s.heap.get? d = some o) (hx : o.ExactDict) (hdat : o.data = .dict es ep) 
    (h : Q (.ref s.heap.objs.size) { s with heap := s.heap.push { cls := .type "dict_keyiterator", data := .fields #[.ref d, .int 0 0, .int es.size 0, .int ep 0] } }) : wpAny (model prog w) A (pyIter (.ref d)) Q E s := by
  have ti : s.TypeIs (.ref d) "dict" := ⟨o, hd, hx.1⟩
  obtain ⟨c, dct, dat, sl⟩ := o
  obtain ⟨x1, x2, x3⟩ := hx
  simp only at x1 x2 x3 hdat
  subst x1 x2 x3 hdat
  refine wpAny_pyIter_slot ti F.slot_dict_iter ?_
  refine wpAny_call_entry F.slot_dict_iter ti F.entry_dict_iter ?_ (F.args_dict_iter_1 _)
  obtain ⟨hp, g, dr, tk, os⟩ := s
  unfold Builtin.«dict.__iter__»
  repeat (any_goals (first | assumption | (with_reducible refine wpAny_notOrdered_dict ti ?_) | (with_reducible refine wpAny_dictEntries hd rfl ?_) | (with_reducible refine wpAny_dictEpoch hd rfl ?_) | wp_step))
  exact ⟨_, rfl, _, _, ⟨_, Heap.get?_push_size _ rfl, rfl⟩, F.slot_dict_keyiterator_next.lookup, h⟩
theorem kdl_raw {prog : Program} {w : World} {d : Addr} {ep : Nat} {o : Obj} {es : Array DictEntry} (hs : (d == sysModules) = false) (hx : o.ExactDict) (hdat : o.data = .dict es ep) :
    KdlSrc prog w "dict" d d es.size (fun i v => ∃ en, es[i]? = some en ∧ v = en.key) (fun h => h.get? d = some o) where
  type := fun s h => ⟨o, h, hx.1⟩
  there := fun h e => ⟨Heap.lt_size e, Heap.lt_size e⟩
  keep := fun h h' e k => k d (.inl rfl) o e
  notList := by decide
  notTuple := by decide
  hint := fun A E s Q h q => kdl_hint_dict ⟨o, h, hx.1⟩ q
  iter := fun A s hA h => by
    have dl := Heap.lt_size h
    refine ⟨{ cls := .type "dict_keyiterator", data := .fields #[.ref d, .int 0 0, .int es.size 0, .int ep 0] }, fun i h => h.IsKeyIter s.heap.objs.size d i es.size ep ∧ h.get? d = some o, fun E Q q => dictIter hs h hx hdat q, ?_, ⟨_, Heap.get?_push_size _ rfl, rfl, rfl⟩, Heap.get?_push_of_some _ h⟩
    have dn : d ≠ s.heap.objs.size := Nat.ne_of_lt dl
    exact {
      sub := fun b hb => by
        have e : b = s.heap.objs.size := by simpa using hb
        rw [e]
        simp
      frame := fun i h h' st k => ⟨st.1.at fun o e => k _ (by simp) o e, k _ (by simp) _ st.2⟩
      item := fun i s' Q E hi st q => by
        refine keyNext_item st.1 st.2 hx hdat (Array.getElem?_eq_getElem hi) fun h' st' sb => q _ h' s'.toks ⟨_, Array.getElem?_eq_getElem hi, rfl⟩ ⟨st', (sb.2 d dn).trans st.2⟩ fun b o hb e => ?_
        exact (sb.2 b (by simpa using hb)).trans e
      done := fun s' Q E st q => by
        refine keyNext_end hA st.1 st.2 hx hdat fun h' eb => q h' s'.toks fun b o hb e => ?_
        exact eb b o (by simpa using hb) e
      self := fun i s' Q E st q => wpAny_pyIter_keyiter st.1 q }
end L2
set_option maxRecDepth 100000
namespace L2
open PySem PySem.Spec PyProof.Rows XL PySem.W
variable {q0 : Bool}
def kLess : Key → Key → Bool
  | .inl a, .inl b => decide (a < b)
  | .inr a, .inr b => decide (a.cps.toList < b.cps.toList)
  | _, _ => false
def lexK : List Key → List Key → Bool
  | [], [] => false
  | [], _ :: _ => true
  | _ :: _, [] => false
  | x :: xs, y :: ys => if x = y then lexK xs ys else kLess x y
abbrev shp (k : List Key) : List Bool := k.map Sum.isLeft
theorem str_cps {a b : Str} (h : a.cps.toList = b.cps.toList) : a = b := by
  cases a
  cases b
  simp at h
  rw [h]
theorem kLess_irr (x : Key) : kLess x x = false := by
  cases x with
  | inl a => simp [kLess]
  | inr a => exact PyProof.Rows.strKind.irrefl a.cps.toList
theorem kLess_tr {x y z : Key} (h1 : kLess x y = true) (h2 : kLess y z = true) : kLess x z = true := by
  cases x <;> cases y <;> cases z <;> simp only [kLess, Bool.false_eq_true] at h1 h2
  · have a := of_decide_eq_true h1
    have b := of_decide_eq_true h2
    exact decide_eq_true (Int.lt_trans a b)
  · exact PyProof.Rows.strKind.trans _ _ _ h1 h2
theorem kLess_tot {x y : Key} (hs : x.isLeft = y.isLeft) (ne : x ≠ y) (h : kLess x y = false) : kLess y x = true := by
  cases x with
  | inl a =>
    cases y with
    | inl b =>
      have h' : ¬ a < b := of_decide_eq_false h
      have n' : a ≠ b := fun e => ne (by rw [e])
      exact decide_eq_true (show b < a by omega)
    | inr b => cases hs
  | inr a =>
    cases y with
    | inl b => cases hs
    | inr b =>
      cases e : kLess (.inr b) (.inr a) with
      | true => rfl
      | false => exact absurd (by rw [str_cps (PyProof.Rows.strKind.total _ _ h e)]) ne
theorem lexK_irr : ∀ x : List Key, lexK x x = false
  | [] => rfl
  | x :: xs => by
    unfold lexK
    rw [if_pos rfl]
    exact lexK_irr xs
theorem lexK_tr : ∀ {x y z : List Key}, shp x = shp y → shp y = shp z → lexK x y = true → lexK y z = true → lexK x z = true
  | [], [], _, _, _, h, _ => by cases h
  | [], _ :: _, _, h, _, _, _ => by cases h
  | _ :: _, [], _, h, _, _, _ => by cases h
  | _ :: _, _ :: _, [], _, h, _, _ => by cases h
  | x :: xs, y :: ys, z :: zs, h1, h2, h3, h4 => by
    simp only [shp, List.map_cons, List.cons.injEq] at h1 h2
    unfold lexK at h3 h4 ⊢
    by_cases xy : x = y
    · subst xy
      rw [if_pos rfl] at h3
      by_cases yz : x = z
      · rw [if_pos yz] at h4 ⊢
        exact lexK_tr h1.2 h2.2 h3 h4
      · rw [if_neg yz] at h4 ⊢
        exact h4
    · rw [if_neg xy] at h3
      by_cases yz : y = z
      · subst yz
        rw [if_neg xy]
        exact h3
      · rw [if_neg yz] at h4
        have h5 := kLess_tr h3 h4
        rw [if_neg (fun e => by rw [e, kLess_irr] at h5; cases h5)]
        exact h5
theorem lexK_tot : ∀ {x y : List Key}, shp x = shp y → x ≠ y → lexK x y = false → lexK y x = true
  | [], [], _, h, _ => absurd rfl h
  | [], _ :: _, h, _, _ => by cases h
  | _ :: _, [], h, _, _ => by cases h
  | x :: xs, y :: ys, h1, h2, h3 => by
    simp only [shp, List.map_cons, List.cons.injEq] at h1
    unfold lexK at h3 ⊢
    by_cases xy : x = y
    · subst xy
      rw [if_pos rfl] at h3 ⊢
      exact lexK_tot h1.2 (fun e => h2 (by rw [e])) h3
    · rw [if_neg xy] at h3
      rw [if_neg (fun e => xy e.symm)]
      exact kLess_tot h1.1 xy h3
theorem lex_wp {prog : Program} {w : World} {A : Around} {s : Shared} {b : Bool} {Q : Bool → Shared → Prop} : ∀ (xs ys : List Key) (us vs : List Value) (i : Nat), shp xs = shp ys → Vals (xs.map kV) us → Vals (ys.map kV) vs → Q (lexK xs ys) s → KatLex prog w A b false Q (us.zip vs) i s
  | [], [], _, _, i, _, .nil, .nil, q => kat_nil q
  | [], _ :: _, _, _, _, h, _, _, _ => by cases h
  | _ :: _, [], _, _, _, h, _, _, _ => by cases h
  | x :: xs, y :: ys, _, _, i, h, .cons ru r, .cons rv r', q => by
    simp only [shp, List.map_cons, List.cons.injEq] at h
    unfold lexK at q
    cases x with
    | inl a =>
      cases y with
      | inr c => cases h.1
      | inl c =>
        obtain ⟨t, rfl⟩ := ru
        obtain ⟨t', rfl⟩ := rv
        refine kat_cons (wpAny_eqBool_int ?_)
        unfold KatGo
        by_cases e : a = c
        · subst e
          rw [if_pos rfl] at q
          rw [if_pos (by simp)]
          exact lex_wp xs ys _ _ (i + 1) h.2 r r' q
        · rw [if_neg (fun z => e (Sum.inl.inj z))] at q
          rw [if_neg (by simpa using e)]
          cases (b && i == 0) with
          | true => exact oneLt_int q
          | false => exact kat_one _ _ (lt_int q)
    | inr a =>
      cases y with
      | inl c => cases h.1
      | inr c =>
        obtain ⟨t, rfl⟩ := ru
        obtain ⟨t', rfl⟩ := rv
        refine kat_cons (wpAny_eqBool_str ?_)
        unfold KatGo
        by_cases e : a = c
        · subst e
          rw [if_pos rfl] at q
          rw [if_pos (by simp)]
          exact lex_wp xs ys _ _ (i + 1) h.2 r r' q
        · rw [if_neg (fun z => e (Sum.inr.inj z))] at q
          rw [if_neg (by simpa using e)]
          cases (b && i == 0) with
          | true => exact oneLt_str q
          | false => exact kat_one _ _ (lt_str q)
theorem list_sort_few {prog : Program} {w : World} {A : Around} {E : Value → Shared → Prop} {s : Shared} {a : Addr} {vs : List Value} {n : Nat} {P : PySem.Fin → Shared → Prop}
    (h : s.heap.get? a = some (seqObj "list" vs.toArray n)) (h2 : vs.length < 2) (q' : P (.done (.ret .none)) { s with heap := sortedHeap s.heap a vs vs.toArray }) :
    wpAny (model prog w) A (Builtin.«list.sort» { pos := [.ref a] }) P E s := by
  obtain ⟨hp, g, d, tk, os⟩ := s
  rcases vs with _ | ⟨v, _ | ⟨v', r⟩⟩
  · rw [list_sort_plain]
    repeat (any_goals (first | assumption | wp_step))
    show wpAny _ _ (pure (PUnit.unit, SortSt.mk' general' ((#[] : Array Value).zip #[]) #[] 7 none)) _ _ _
    refine wpAny_pure ?_
    have e3 : Array.map (fun x => x.snd) (arrOf (SortSt.mk' general' ((#[] : Array Value).zip #[]) #[] 7 none)) = #[] := by
      show Array.map (fun x => x.snd) ((#[] : Array Value).zip #[]) = #[]
      simp
    simp only [e3]
    have g1 : (((hp.update a (Obj.mapSeq fun x => #[])).push (seqObj "tuple" #[] 0)).push (seqObj "list" #[] 0)).get? a = some (seqObj "list" #[] (n)) := by
      refine Heap.get?_push_of_some _ (Heap.get?_push_of_some _ ?_)
      rw [Heap.get?_update_self _ h rfl]
      rfl
    show wpAny _ _ (seqEpoch a >>= _) _ _ _
    repeat (any_goals (first | assumption | wp_step))
  · rw [list_sort_plain]
    repeat (any_goals (first | assumption | wp_step))
    show wpAny _ _ (pure (PUnit.unit, SortSt.mk' general' ((#[v] : Array Value).zip #[v]) #[] 7 none)) _ _ _
    refine wpAny_pure ?_
    have e3 : Array.map (fun x => x.snd) (arrOf (SortSt.mk' general' ((#[v] : Array Value).zip #[v]) #[] 7 none)) = #[v] := by
      show Array.map (fun x => x.snd) ((#[v] : Array Value).zip #[v]) = #[v]
      simp
    simp only [e3]
    have g1 : (((hp.update a (Obj.mapSeq fun x => #[])).push (seqObj "tuple" #[v] 0)).push (seqObj "list" #[] 0)).get? a = some (seqObj "list" #[] (n + 1)) := by
      refine Heap.get?_push_of_some _ (Heap.get?_push_of_some _ ?_)
      rw [Heap.get?_update_self _ h rfl]
      rfl
    show wpAny _ _ (seqEpoch a >>= _) _ _ _
    repeat (any_goals (first | assumption | wp_step))
  · simp at h2
    omega
theorem vals_refs {α : Type} (f : α → Addr) : ∀ (es : List α), Vals (es.map fun x => V.ref (f x)) (es.map fun x => Value.ref (f x))
  | [] => .nil
  | x :: r => .cons rfl (vals_refs f r)
theorem kt_mem {H : Hp} {kvs : List (List Key × V)} {es : List (List Key × Addr × Value)} (h : KT H kvs es) : (∀ x ∈ es, H x.2.1 = some (.tup (x.1.map kV))) ∧ es.map (·.1) = kvs.map (·.1) := by
  induction h with
  | nil => exact ⟨(fun _ z => nomatch z), rfl⟩
  | @cons p x kvs es hp r ih =>
    obtain ⟨e1, e2, _⟩ := hp
    refine ⟨fun y hy => ?_, by rw [List.map_cons, List.map_cons, ih.2, e1]⟩
    rcases List.mem_cons.mp hy with rfl | z
    · rw [← e1]
      exact e2
    · exact ih.1 y z
theorem kat_of {P : Program} {w : World} {H : Hp} {h : Heap} (ok : HOk P w H h) {b : Bool} {sh : List Bool} : ∀ (es : List (List Key × Addr × Value)), (∀ x ∈ es, H x.2.1 = some (.tup (x.1.map kV))) → (∀ x ∈ es, shp x.1 = b :: sh) →
    ∃ fs, KatTups h (es.map fun x => Value.ref x.2.1) fs ∧ fs.length = es.length ∧ ∀ v ∈ fs, if b = true then ∃ i t, v = Value.int i t else ∃ i t, v = Value.str i t
  | [], _, _ => ⟨[], KatTups.nil, rfl, fun _ z => nomatch z⟩
  | x :: es, h1, h2 => by
    obtain ⟨fs, k, l, m⟩ := kat_of ok es (fun y hy => h1 y (List.mem_cons_of_mem _ hy)) (fun y hy => h2 y (List.mem_cons_of_mem _ hy))
    obtain ⟨z2, ts, rt, ot, et, ct, nt, dt⟩ := ok x.2.1 _ (h1 x List.mem_cons_self)
    have s1 := h2 x List.mem_cons_self
    obtain ⟨k1, a1, v1⟩ := x
    cases k1 with
    | nil => cases s1
    | cons k0 kr =>
      simp only [shp, List.map_cons, List.cons.injEq] at s1
      simp only [List.map_cons] at rt
      cases rt with
      | @cons _ u _ us ru rr =>
        refine ⟨u :: fs, KatTups.cons et ct dt (by simp) k, by simp [l], fun v hv => ?_⟩
        rcases List.mem_cons.mp hv with rfl | hv'
        · cases k0 with
          | inl i =>
            obtain ⟨t, rfl⟩ := ru
            rw [if_pos (show b = true from s1.1.symm)]
            exact ⟨i, t, rfl⟩
          | inr i =>
            obtain ⟨t, rfl⟩ := ru
            rw [if_neg (show ¬ b = true by rw [← s1.1]; simp)]
            exact ⟨i, t, rfl⟩
        · exact m v hv'
theorem sort_core {X : Cx} {pins : List (Addr × Obj)} {σ : St} {H : Hp} {s : Shared} {h1 : Heap} {tk : Nat} {Q : VK} {sh : List Bool} (es' : List (List Key × Addr × Value)) (I1 : Inv X pins σ H { s with heap := h1, toks := tk })
    (hl : es'.length < 64) (km : ∀ x ∈ es', H x.2.1 = some (.tup (x.1.map kV))) (shE : ∀ x ∈ es', shp x.1 = sh) (hpos : 0 < sh.length) (hnd : (List.map (fun x => x.fst) es').Nodup)
    (q : ∀ (l : Addr) (ts : List (List Key × Addr)), H l = none → ts.Perm (es'.map fun x => (x.1, x.2.1)) → (ts.map (·.1)).Pairwise (fun x y => lexK x y = true) → Q (.ref l) (upd H l (.lst (ts.map fun t => .ref t.2)))) :
    wpAny (model X.prog X.w) X.A.in1 (newList (es'.map fun x => Value.ref x.2.1) >>= fun l => holding [l] (call (.builtin "list.sort") [l] []) >>= fun _ => ret l) (fun fin s' => ∃ v, fin = Fin.done (Flow.ret v) ∧ EP X pins σ Q v s') X.xe { s with heap := h1, toks := tk } := by
  have hz : es'.length ≤ sizeLine := Nat.le_of_lt (Nat.lt_trans hl (by decide))
  have vals : Vals (es'.map fun x => V.ref x.2.1) (es'.map fun x => Value.ref x.2.1) := vals_refs (fun x => x.2.1) es'
  have I2 := I1.lnew (t' := tk) vals (by rw [List.length_map]; exact hz)
  refine wpAny_bind (wpAny_newList ?_ (by rw [List.length_map]; exact hz))
  have fr : H h1.objs.size = none := I1.fresh
  have gl : (h1.push { cls := .type "list", data := .seq (es'.map fun x => Value.ref x.2.1).toArray }).get? h1.objs.size = some (seqObj "list" (es'.map fun x => Value.ref x.2.1).toArray 0) := Heap.get?_push_size _ rfl
  refine wpAny_bind (wpAny_holding (wpAny_call_entry slot_list_sort ⟨_, gl, rfl⟩ entry_list_sort ?_ (args_list_sort _)))
  have J1 := I2.lset (l := h1.objs.size) (its := es'.map fun x => Value.ref x.2.1) (its' := []) (ys := []) (f := fun _ => #[]) (t' := tk) upd_same gl rfl .nil (Nat.zero_le _)
  have J2 := J1.kept (t' := tk) (h' := (((h1.push { cls := .type "list", data := .seq (es'.map fun x => Value.ref x.2.1).toArray }).update h1.objs.size (Obj.mapSeq fun _ => #[])).push (seqObj "tuple" (es'.map fun x => Value.ref x.2.1).toArray 0)).push (seqObj "list" #[] 0)) fun b u e => Heap.get?_push_of_some _ (Heap.get?_push_of_some _ e)
  obtain ⟨z9, its9, n9, r9, hl9, e9⟩ := J2.lstM upd_same
  have done : ∀ (ts : List (List Key × Addr)), ts.Perm (es'.map fun x => (x.1, x.2.1)) → (ts.map (·.1)).Pairwise (fun x y => lexK x y = true) →
      EP X pins σ Q (.ref h1.objs.size) { s with heap := sortedHeap (h1.push { cls := .type "list", data := .seq (es'.map fun x => Value.ref x.2.1).toArray }) h1.objs.size (es'.map fun x => Value.ref x.2.1) (ts.map fun t => Value.ref t.2).toArray, toks := tk } := by
    intro ts pm pw
    have tl : ts.length = es'.length := by rw [pm.length_eq, List.length_map]
    have J3 := J2.lset (l := h1.objs.size) (its := its9) (its' := ts.map fun t => Value.ref t.2) (ys := ts.map fun t => V.ref t.2) (f := fun _ => (ts.map fun t => Value.ref t.2).toArray) (t' := tk) upd_same e9 rfl (vals_refs (fun t => t.2) ts) (by rw [List.length_map, tl]; exact hz)
    rw [upd_upd, upd_upd] at J3
    exact ⟨.ref h1.objs.size, _, J3, rfl, q _ ts fr pm pw⟩
  by_cases few : es'.length < 2
  · refine list_sort_few gl (by rw [List.length_map]; exact few) ⟨_, rfl, wpAny_pure ⟨_, rfl, ?_⟩⟩
    have := done (es'.map fun x => (x.1, x.2.1)) (List.Perm.refl _) ?_
    · rw [List.map_map] at this
      exact this
    · match es', few with
      | [], _ => exact .nil
      | [x], _ => exact List.pairwise_singleton _ _
      | _ :: _ :: _, h => exact absurd h (by simp)
  · refine list_sort_tups gl (by rw [List.length_map]; omega) (by rw [List.length_map]; exact hl) fun s' es1 es2 => ?_
    obtain ⟨b, sh0, rfl⟩ : ∃ b sh0, sh = b :: sh0 := by
      cases sh with
      | nil => simp at hpos
      | cons b r => exact ⟨b, r, rfl⟩
    rw [es1] at es2
    subst es2
    have km2 : ∀ x ∈ es', upd (upd H h1.objs.size (.lst (es'.map fun x => V.ref x.2.1))) h1.objs.size (.lst []) x.2.1 = some (.tup (x.1.map kV)) := fun x hx => by
      rw [upd_ne (ne_of_none (km x hx) fr), upd_ne (ne_of_none (km x hx) fr)]
      exact km x hx
    obtain ⟨fs, kt, fl, fm⟩ := kat_of J2.hok es' km2 shE
    have few' : 2 ≤ es'.length := by omega
    refine kat_kind (T := if b = true then .type "int" else .type "str") kt (by omega) (fun v hv => ?_) (by cases b <;> rfl) ⟨rfl, ?_⟩
    · have z := fm v hv
      cases b with
      | true =>
        obtain ⟨i, t, rfl⟩ := z
        exact fun A Q E s _ q => wpAny_typeOf (T := "int") rfl q
      | false =>
        obtain ⟨i, t, rfl⟩ := z
        exact fun A Q E s _ q => wpAny_typeOf (T := "str") rfl q
    rw [List.length_map]
    have eAt : ∀ i, i < es'.length → es'[i]? = some (es'.getD i ([], 0, .none)) := fun i hi => by
      rw [List.getD_eq_getElem?_getD, List.getElem?_eq_getElem hi]
      rfl
    have eM : ∀ i, i < es'.length → es'.getD i ([], 0, .none) ∈ es' := fun i hi => List.mem_of_getElem? (eAt i hi)
    have vAt : ∀ i, i < es'.length → (es'.map fun x => Value.ref x.2.1).getD i .none = .ref (es'.getD i ([], 0, .none)).2.1 := fun i hi => by
      rw [List.getD_eq_getElem?_getD, List.getElem?_map, eAt i hi]
      rfl
    have shI : ∀ i j, i < es'.length → j < es'.length → shp (es'.getD i ([], 0, .none)).1 = shp (es'.getD j ([], 0, .none)).1 := fun i j hi hj => by rw [shE _ (eM i hi), shE _ (eM j hj)]
    refine Srt.sort_wp (lt := fun i j => lexK (es'.getD i ([], 0, .none)).1 (es'.getD j ([], 0, .none)).1) ⟨fun i hi => lexK_irr _, fun i j k hi hj hk => lexK_tr (shI i j hi hj) (shI j k hj hk), fun i j hi hj ne => lexK_tot (shI i j hi hj) fun e => ne ?_⟩ (fun i j hi hj Q' q' => ?_) few' fun p arr srt => ⟨rfl, _, rfl, wpAny_pure ⟨_, rfl, ?_⟩⟩
    · have e1 : (es'.map (·.1))[i]? = (es'.map (·.1))[j]? := by rw [List.getElem?_map, List.getElem?_map, eAt i hi, eAt j hj]; exact congrArg some e
      exact (List.getElem?_inj (by rw [List.length_map]; exact hi) hnd).mp e1
    · show wpAny _ _ (keyLt' _ ((es'.map fun x => Value.ref x.2.1).getD i .none) ((es'.map fun x => Value.ref x.2.1).getD j .none)) _ _ _
      rw [vAt i hi, vAt j hj]
      obtain ⟨_, ti, ri, oi, ei, _, ni, di⟩ := J2.hok _ _ (km2 _ (eM i hi))
      obtain ⟨_, tj, rj, oj, ej, _, nj, dj⟩ := J2.hok _ _ (km2 _ (eM j hj))
      have l1 := Vals.length ri
      have l2 := Vals.length rj
      have l3 := congrArg List.length (shI i j hi hj)
      simp only [List.length_map] at l1 l2 l3
      refine kat_lt ei di ej dj ?_
      rw [decide_eq_false (by simp; omega)]
      exact lex_wp _ _ _ _ 0 (shI i j hi hj) ri rj q'
    have pl : ∀ i ∈ p.toList, i < es'.length := fun i hi => by
      have := (Array.Perm.mem_iff arr.pm).mp (Array.mem_toList_iff.mp hi)
      simpa using this
    have := done (p.toList.map fun i => ((es'.getD i ([], 0, .none)).1, (es'.getD i ([], 0, .none)).2.1)) ?_ ?_
    · rw [List.map_map] at this
      have e2 : (p.map fun i => (es'.map fun x => Value.ref x.2.1).getD i .none) = (p.toList.map ((fun t : List Key × Addr => Value.ref t.2) ∘ fun i => ((es'.getD i ([], 0, .none)).1, (es'.getD i ([], 0, .none)).2.1))).toArray := by
        rw [← Array.toList_inj, Array.toList_map]
        exact List.map_congr_left fun i hi => vAt i (pl i hi)
      rw [e2]
      exact this
    · have e3 : (es'.map fun x => (x.1, x.2.1)) = (List.range es'.length).map fun i => ((es'.getD i ([], 0, .none)).1, (es'.getD i ([], 0, .none)).2.1) := by
        refine List.ext_getElem? fun i => ?_
        by_cases c : i < es'.length
        · rw [List.getElem?_map, eAt i c, List.getElem?_map, List.getElem?_range c]
          rfl
        · rw [List.getElem?_eq_none (by rw [List.length_map]; omega), List.getElem?_eq_none (by simp; omega)]
      rw [e3]
      refine List.Perm.map _ ?_
      have := Array.Perm.toList arr.pm
      simpa using this
    · rw [List.map_map, List.pairwise_map, List.pairwise_iff_getElem]
      intro i j hi hj hij
      have z := srt i j hij (by rw [← arr.sz]; simpa using hj)
      have gi : Srt.g p i = p.toList[i] := Srt.g_at (by rw [← Array.getElem?_toList]; exact List.getElem?_eq_getElem hi)
      have gj : Srt.g p j = p.toList[j] := Srt.g_at (by rw [← Array.getElem?_toList]; exact List.getElem?_eq_getElem hj)
      rw [gi, gj] at z
      exact z
def rSortedD : List V → Hp → VK → Prop := fun xs H Q => ∃ (d : Addr) (kvs : List (List Key × V)) (sh : List Bool), xs = [.ref d] ∧ H d = some (.dT kvs) ∧ kvs.length < 64 ∧ (∀ p ∈ kvs, shp p.1 = sh) ∧ 0 < sh.length ∧
  ∀ (l : Addr) (ts : List (List Key × Addr)), H l = none → (∀ t ∈ ts, H t.2 = some (.tup (t.1.map kV))) → (ts.map (·.1)).Perm (kvs.map (·.1)) → (ts.map (·.1)).Pairwise (fun x y => lexK x y = true) → Q (.ref l) (upd H l (.lst (ts.map fun t => .ref t.2)))
theorem call_sortedD {X : Cx} (hc : X.calm = true) : CallR X (.builtin "sorted") rSortedD := by
  intro pins s σ H xs us Q I r h
  obtain ⟨d, kvs, sh, rfl, hd, hl, hsh, hpos, q⟩ := h
  obtain ⟨u, rfl, ru⟩ := vals1 r
  obtain rfl : u = Value.ref d := ru
  obtain ⟨z, hsys, es', rel, dd⟩ := dt_of I.hok hd
  obtain ⟨o, es, ep, ho, hx, hdat, hes, hkk, hnd⟩ := dd
  have ln := Paired.length rel
  have esz : es.size = es'.length := by rw [← Array.length_toList, hes, List.length_map]
  refine Calls.call_function_entry kind_sorted plain_sorted entry_sorted (args_sorted1 _) ?_
  unfold Builtin.sorted
  refine wpAny_bind (wpAny_pure ?_)
  show wpAny _ _ (collect (.ref d) >>= _) _ _ _
  refine wpAny_bind (kdu_collect (kdl_raw hsys hx hdat) (I.ok.hd hc) ho (by rw [esz, ← ln]; exact z) fun h1 tk acc keep items => ?_)
  have acl : acc.toList = es'.map fun x => Value.ref x.2.1 := by
    refine List.ext_getElem? fun j => ?_
    obtain ⟨i1, i2⟩ := items
    by_cases c : j < es'.length
    · have c' : j < acc.size := by rw [i1, esz]; exact c
      have e : acc[j]? = some acc[j] := Array.getElem?_eq_getElem c'
      obtain ⟨en, he, hv⟩ := i2 j acc[j] e
      rw [Array.getElem?_toList, e, hv]
      have he' : es.toList[j]? = some en := by rw [Array.getElem?_toList]; exact he
      rw [hes, List.getElem?_map, List.getElem?_eq_getElem c] at he'
      rw [List.getElem?_map, List.getElem?_eq_getElem c]
      have := Option.some.inj he'
      rw [← this]
      rfl
    · rw [List.getElem?_eq_none (by rw [Array.length_toList, i1, esz]; omega), List.getElem?_eq_none (by rw [List.length_map]; omega)]
  rw [acl]
  have I1 : Inv X pins σ H { s with heap := h1, toks := tk } := I.kept keep
  obtain ⟨km, ke⟩ := kt_mem rel
  have shE : ∀ x ∈ es', shp x.1 = sh := fun x hx => by
    have m : x.1 ∈ kvs.map (·.1) := by rw [← ke]; exact List.mem_map.mpr ⟨x, hx, rfl⟩
    obtain ⟨p, hp, e⟩ := List.mem_map.mp m
    rw [← e]
    exact hsh p hp
  refine sort_core es' I1 (by rw [← ln]; exact hl) km shE hpos hnd fun l ts fr pm pw => q l ts fr (fun t ht => ?_) ?_ pw
  · obtain ⟨x, hx, rfl⟩ := List.mem_map.mp (pm.mem_iff.mp ht)
    exact km x hx
  · have := pm.map (·.1)
    rw [List.map_map] at this
    rw [← ke]
    exact this
end L2
set_option maxRecDepth 100000
namespace L2
open PySem PySem.Spec PyProof.Rows XL PySem.W
variable {q0 : Bool}
section
variable {X : Cx} {o e : Expr} {td ty : TE} {apos cpos : Pos}
end
end L2
set_option maxRecDepth 100000
namespace L2
open PySem PySem.Spec PyProof.Rows XL PySem.W
variable {q0 : Bool}
end L2
set_option maxRecDepth 100000
set_option maxHeartbeats 1000000
namespace L2
open PySem PySem.Spec PyProof.Rows XL PySem.W
inductive DV where
  | non
  | bl (b : Bool)
  | int (i : Int)
  | str (x : Str)
  | tup (xs : List DV)
  | lst (xs : List DV)
mutual
def dEq : DV → DV → Bool
  | .non, .non => true
  | .bl a, .bl b => a == b
  | .bl a, .int b => (if a then 1 else 0) == b
  | .int a, .bl b => a == (if b then 1 else 0)
  | .int a, .int b => a == b
  | .str a, .str b => a == b
  | .tup xs, .tup ys => dEqs xs ys
  | .lst xs, .lst ys => dEqs xs ys
  | _, _ => false
def dEqs : List DV → List DV → Bool
  | [], [] => true
  | x :: xs, y :: ys => dEq x y && dEqs xs ys
  | _, _ => false
end
mutual
theorem dEq_refl : ∀ d, dEq d d = true
  | .non => rfl
  | .bl _ => by simp [dEq]
  | .int _ => by simp [dEq]
  | .str _ => by simp [dEq]
  | .tup xs => by simp only [dEq]; exact dEqs_refl xs
  | .lst xs => by simp only [dEq]; exact dEqs_refl xs
theorem dEqs_refl : ∀ xs, dEqs xs xs = true
  | [] => rfl
  | x :: xs => by simp only [dEqs, Bool.and_eq_true]; exact ⟨dEq_refl x, dEqs_refl xs⟩
end
mutual
def DV.pl : DV → Bool
  | .bl _ => false
  | .tup xs => pls xs
  | .lst xs => pls xs
  | _ => true
def pls : List DV → Bool
  | [] => true
  | x :: xs => x.pl && pls xs
end
mutual
theorem dEq_eq : ∀ {d e : DV}, d.pl = true → e.pl = true → dEq d e = true → d = e
  | .non, .non, _, _, _ => rfl
  | .int a, .int b, _, _, h => by simp only [dEq, beq_iff_eq] at h; rw [h]
  | .str a, .str b, _, _, h => by simp only [dEq, beq_iff_eq] at h; rw [h]
  | .tup xs, .tup ys, p, q, h => by
    simp only [dEq] at h
    simp only [DV.pl] at p q
    rw [dEqs_eq p q h]
  | .lst xs, .lst ys, p, q, h => by
    simp only [dEq] at h
    simp only [DV.pl] at p q
    rw [dEqs_eq p q h]
  | .bl _, _, p, _, _ => by simp [DV.pl] at p
  | .non, .bl _, _, q, _ => by simp [DV.pl] at q
  | .int _, .bl _, _, q, _ => by simp [DV.pl] at q
  | .str _, .bl _, _, q, _ => by simp [DV.pl] at q
  | .tup _, .bl _, _, q, _ => by simp [DV.pl] at q
  | .lst _, .bl _, _, q, _ => by simp [DV.pl] at q
  | .non, .int _, _, _, h => by simp [dEq] at h
  | .non, .str _, _, _, h => by simp [dEq] at h
  | .non, .tup _, _, _, h => by simp [dEq] at h
  | .non, .lst _, _, _, h => by simp [dEq] at h
  | .int _, .non, _, _, h => by simp [dEq] at h
  | .int _, .str _, _, _, h => by simp [dEq] at h
  | .int _, .tup _, _, _, h => by simp [dEq] at h
  | .int _, .lst _, _, _, h => by simp [dEq] at h
  | .str _, .non, _, _, h => by simp [dEq] at h
  | .str _, .int _, _, _, h => by simp [dEq] at h
  | .str _, .tup _, _, _, h => by simp [dEq] at h
  | .str _, .lst _, _, _, h => by simp [dEq] at h
  | .tup _, .non, _, _, h => by simp [dEq] at h
  | .tup _, .int _, _, _, h => by simp [dEq] at h
  | .tup _, .str _, _, _, h => by simp [dEq] at h
  | .tup _, .lst _, _, _, h => by simp [dEq] at h
  | .lst _, .non, _, _, h => by simp [dEq] at h
  | .lst _, .int _, _, _, h => by simp [dEq] at h
  | .lst _, .str _, _, _, h => by simp [dEq] at h
  | .lst _, .tup _, _, _, h => by simp [dEq] at h
theorem dEqs_eq : ∀ {xs ys : List DV}, pls xs = true → pls ys = true → dEqs xs ys = true → xs = ys
  | [], [], _, _, _ => rfl
  | x :: xs, y :: ys, p, q, h => by
    simp only [pls, Bool.and_eq_true] at p q
    simp only [dEqs, Bool.and_eq_true] at h
    rw [dEq_eq p.1 q.1 h.1, dEqs_eq p.2 q.2 h.2]
  | [], _ :: _, _, _, h => by simp [dEqs] at h
  | _ :: _, [], _, _, h => by simp [dEqs] at h
end
theorem dEqs_all : ∀ {xs ys : List DV} {e : Nat → Bool}, (∀ (j : Nat) (x y : DV), xs[j]? = some x → ys[j]? = some y → e j = dEq x y) → ((List.range (min xs.length ys.length)).all e && xs.length == ys.length) = dEqs xs ys
  | [], [], _, _ => rfl
  | [], _ :: _, _, _ => by simp [dEqs]
  | _ :: _, [], _, _ => by simp [dEqs]
  | x :: xs, y :: ys, e, h => by
    have ih := dEqs_all (xs := xs) (ys := ys) (e := fun j => e (j + 1)) (fun j a b ha hb => h (j + 1) a b (by simpa using ha) (by simpa using hb))
    have h0 := h 0 x y rfl rfl
    rw [List.length_cons, List.length_cons, show min (xs.length + 1) (ys.length + 1) = min xs.length ys.length + 1 by omega, List.range_succ_eq_map, List.all_cons, List.all_map]
    show _ = (dEq x y && dEqs xs ys)
    rw [← ih, h0]
    have z : ((xs.length + 1 == ys.length + 1) : Bool) = (xs.length == ys.length) := by
      rw [Bool.eq_iff_iff]
      simp
    rw [z, Bool.and_assoc]
    rfl
theorem dEqs_len : ∀ {xs ys : List DV}, xs.length ≠ ys.length → dEqs xs ys = false
  | [], [], h => absurd rfl h
  | [], _ :: _, _ => rfl
  | _ :: _, [], _ => rfl
  | x :: xs, y :: ys, h => by
    show (dEq x y && dEqs xs ys) = false
    rw [dEqs_len (xs := xs) (ys := ys) (fun z => h (by simp [z]))]
    exact Bool.and_false _
inductive Dv (K : PySem.W.Frag) (H : Hp) : Nat → V → DV → Prop
  | non {n : Nat} : Dv K H n .non .non
  | bl {n : Nat} {b : Bool} : Dv K H n (.bl b) (.bl b)
  | int {n : Nat} {b : Int} : Dv K H n (.int b) (.int b)
  | str {n : Nat} {b : Str} : Dv K H n (.str b) (.str b)
  | tup {n : Nat} {a : Addr} {xs : List V} {ds : List DV} (ha : SqT K H a xs) (hl : xs.length = ds.length) (h : ∀ (j : Nat) (x : V) (d : DV), xs[j]? = some x → ds[j]? = some d → Dv K H n x d) : Dv K H (n + 1) (.ref a) (.tup ds)
  | lst {n : Nat} {a : Addr} {xs : List V} {ds : List DV} (ha : SqL K H a xs) (hl : xs.length = ds.length) (h : ∀ (j : Nat) (x : V) (d : DV), xs[j]? = some x → ds[j]? = some d → Dv K H n x d) : Dv K H (n + 1) (.ref a) (.lst ds)
section
variable {X : Cx} {pins : List (Addr × Obj)} {σ : St} {H : Hp} {s : Shared}
theorem two_kinds {h : Heap} {a : Addr} {i j : Array Value} (p : h.IsTuple a i) (q : PlainL h a j) : False := by
  obtain ⟨o, e, c, _⟩ := p
  obtain ⟨o', n, e', c', _⟩ := q
  rw [e] at e'
  cases e'
  rw [c] at c'
  exact absurd c' (by decide)
theorem ext_of {xs ys : List DV} (h : xs.length = ys.length) (f : ∀ (j : Nat) (x y : DV), xs[j]? = some x → ys[j]? = some y → x = y) : xs = ys := by
  refine List.ext_getElem? fun j => ?_
  by_cases c : j < xs.length
  · rw [List.getElem?_eq_getElem c, List.getElem?_eq_getElem (by omega), f j _ _ (List.getElem?_eq_getElem c) (List.getElem?_eq_getElem (by omega))]
  · rw [List.getElem?_eq_none (by omega), List.getElem?_eq_none (by omega)]
theorem dv_fun (I : Inv X pins σ H s) {n : Nat} {x : V} {d : DV} (h : Dv X.K H n x d) : ∀ {m : Nat} {e : DV}, Dv X.K H m x e → d = e := by
  induction h with
  | non => intro m e h; cases h; rfl
  | bl => intro m e h; cases h; rfl
  | int => intro m e h; cases h; rfl
  | str => intro m e h; cases h; rfl
  | @tup n a xs ds ha hl h ih =>
    intro m e h2
    cases h2 with
    | @tup m _ ys es hb kl k =>
      obtain rfl := I.tuple_inj ha hb
      refine congrArg DV.tup (ext_of (by omega) fun j d e h1 h2 => ?_)
      have lt : j < xs.length := by
        have := (List.getElem?_eq_some_iff.mp h1).1
        omega
      exact ih j xs[j] d (List.getElem?_eq_getElem lt) h1 (k j xs[j] e (List.getElem?_eq_getElem lt) h2)
    | @lst m _ ys es hb kl k =>
      obtain ⟨its, _, t1, _⟩ := I.tuple ha
      obtain ⟨its2, _, t2, _⟩ := I.list hb
      exact (two_kinds t1 t2).elim
  | @lst n a xs ds ha hl h ih =>
    intro m e h2
    cases h2 with
    | @lst m _ ys es hb kl k =>
      obtain rfl := I.list_inj ha hb
      refine congrArg DV.lst (ext_of (by omega) fun j d e h1 h2 => ?_)
      have lt : j < xs.length := by
        have := (List.getElem?_eq_some_iff.mp h1).1
        omega
      exact ih j xs[j] d (List.getElem?_eq_getElem lt) h1 (k j xs[j] e (List.getElem?_eq_getElem lt) h2)
    | @tup m _ ys es hb kl k =>
      obtain ⟨its, _, t1, _⟩ := I.tuple hb
      obtain ⟨its2, _, t2, _⟩ := I.list ha
      exact (two_kinds t1 t2).elim
def at2 (f : DV → DV → Bool) (ds es : List DV) (j : Nat) : Bool := match ds[j]?, es[j]? with | some d, some e => f d e | _, _ => false
theorem at2_of {f : DV → DV → Bool} {ds es : List DV} {j : Nat} {d e : DV} (h : ds[j]? = some d) (h2 : es[j]? = some e) : at2 f ds es j = f d e := by
  unfold at2
  rw [h, h2]
theorem dv_at (I : Inv X pins σ H s) {n : Nat} {x : V} {d : DV} (h : Dv X.K H n x d) : ∀ {m : Nat} {y : V} {e : DV}, Dv X.K H m y e → ∀ {A : Around} {u v : Value}, A.units + n + m < cLine → RelV x u → RelV y v →
    SeqAt.EqAt A s u v (dEq d e) ∧ SeqAt.RcAt A s u v (dEq d e) ∧ SeqAt.RcNeAt A s u v (!dEq d e) := by
  induction h with
  | @non n =>
    intro m y e h2 A u v hu rx ry
    obtain rfl : u = Value.none := rx
    cases h2 with
    | @non  =>
      obtain rfl : v = Value.none := ry
      exact ⟨SeqAt.EqAt.same _, SeqAt.RcAt.none_none, SeqAt.RcNeAt.none_none⟩
    | @bl _ b2 =>
      obtain rfl : v = Value.bool _ := ry
      exact ⟨SeqAt.EqAt.none_bool _, SeqAt.RcAt.none_bool _, SeqAt.RcNeAt.none_bool _⟩
    | @int _ b2 =>
      obtain ⟨_, rfl⟩ := ry
      exact ⟨SeqAt.EqAt.none_int _ _, SeqAt.RcAt.none_int _ _, SeqAt.RcNeAt.none_int _ _⟩
    | @str _ b2 =>
      obtain ⟨_, rfl⟩ := ry
      exact ⟨SeqAt.EqAt.none_str _ _, SeqAt.RcAt.none_str _ _, SeqAt.RcNeAt.none_str _ _⟩
    | @tup m b ys es hb kl k =>
      obtain rfl : v = Value.ref _ := ry
      obtain ⟨its2, r2, t2, z2⟩ := I.tuple hb
      have l2 := r2.length
      exact ⟨SeqAt.EqAt.none_tuple t2 (by omega), SeqAt.RcAt.none_tuple t2 (by omega), SeqAt.RcNeAt.none_tuple t2 (by omega)⟩
    | @lst m b ys es hb kl k =>
      obtain rfl : v = Value.ref _ := ry
      obtain ⟨its2, r2, t2, z2⟩ := I.list hb
      have l2 := r2.length
      exact ⟨SeqAt.EqAt.none_list t2.isList (by omega), SeqAt.RcAt.none_list t2.isList (by omega), SeqAt.RcNeAt.none_list t2.isList (by omega)⟩
  | @bl n b1 =>
    intro m y e h2 A u v hu rx ry
    obtain rfl : u = Value.bool _ := rx
    cases h2 with
    | @non  =>
      obtain rfl : v = Value.none := ry
      exact ⟨SeqAt.EqAt.bool_none _, SeqAt.RcAt.bool_none _, SeqAt.RcNeAt.bool_none _⟩
    | @bl _ b2 =>
      obtain rfl : v = Value.bool _ := ry
      exact ⟨SeqAt.EqAt.bool_bool _ _, SeqAt.RcAt.bool_bool _ _, SeqAt.RcNeAt.bool_bool _ _⟩
    | @int _ b2 =>
      obtain ⟨_, rfl⟩ := ry
      exact ⟨SeqAt.EqAt.bool_int _ _ _, SeqAt.RcAt.bool_int _ _ _, SeqAt.RcNeAt.bool_int _ _ _⟩
    | @str _ b2 =>
      obtain ⟨_, rfl⟩ := ry
      exact ⟨SeqAt.EqAt.bool_str _ _ _, SeqAt.RcAt.bool_str _ _ _, SeqAt.RcNeAt.bool_str _ _ _⟩
    | @tup m b ys es hb kl k =>
      obtain rfl : v = Value.ref _ := ry
      obtain ⟨its2, r2, t2, z2⟩ := I.tuple hb
      have l2 := r2.length
      exact ⟨SeqAt.EqAt.bool_tuple _ t2 (by omega), SeqAt.RcAt.bool_tuple _ t2 (by omega), SeqAt.RcNeAt.bool_tuple _ t2 (by omega)⟩
    | @lst m b ys es hb kl k =>
      obtain rfl : v = Value.ref _ := ry
      obtain ⟨its2, r2, t2, z2⟩ := I.list hb
      have l2 := r2.length
      exact ⟨SeqAt.EqAt.bool_list _ t2.isList (by omega), SeqAt.RcAt.bool_list _ t2.isList (by omega), SeqAt.RcNeAt.bool_list _ t2.isList (by omega)⟩
  | @int n b1 =>
    intro m y e h2 A u v hu rx ry
    obtain ⟨_, rfl⟩ := rx
    cases h2 with
    | @non  =>
      obtain rfl : v = Value.none := ry
      exact ⟨SeqAt.EqAt.int_none _ _, SeqAt.RcAt.int_none _ _, SeqAt.RcNeAt.int_none _ _⟩
    | @bl _ b2 =>
      obtain rfl : v = Value.bool _ := ry
      exact ⟨SeqAt.EqAt.int_bool _ _ _, SeqAt.RcAt.int_bool _ _ _, SeqAt.RcNeAt.int_bool _ _ _⟩
    | @int _ b2 =>
      obtain ⟨_, rfl⟩ := ry
      exact ⟨SeqAt.EqAt.int_int _ _ _ _, SeqAt.RcAt.int_int _ _ _ _, SeqAt.RcNeAt.int_int _ _ _ _⟩
    | @str _ b2 =>
      obtain ⟨_, rfl⟩ := ry
      exact ⟨SeqAt.EqAt.int_str _ _ _ _, SeqAt.RcAt.int_str _ _ _ _, SeqAt.RcNeAt.int_str _ _ _ _⟩
    | @tup m b ys es hb kl k =>
      obtain rfl : v = Value.ref _ := ry
      obtain ⟨its2, r2, t2, z2⟩ := I.tuple hb
      have l2 := r2.length
      exact ⟨SeqAt.EqAt.int_tuple _ _ t2 (by omega), SeqAt.RcAt.int_tuple _ _ t2 (by omega), SeqAt.RcNeAt.int_tuple _ _ t2 (by omega)⟩
    | @lst m b ys es hb kl k =>
      obtain rfl : v = Value.ref _ := ry
      obtain ⟨its2, r2, t2, z2⟩ := I.list hb
      have l2 := r2.length
      exact ⟨SeqAt.EqAt.int_list _ _ t2.isList (by omega), SeqAt.RcAt.int_list _ _ t2.isList (by omega), SeqAt.RcNeAt.int_list _ _ t2.isList (by omega)⟩
  | @str n b1 =>
    intro m y e h2 A u v hu rx ry
    obtain ⟨_, rfl⟩ := rx
    cases h2 with
    | @non  =>
      obtain rfl : v = Value.none := ry
      exact ⟨SeqAt.EqAt.str_none _ _, SeqAt.RcAt.str_none _ _, SeqAt.RcNeAt.str_none _ _⟩
    | @bl _ b2 =>
      obtain rfl : v = Value.bool _ := ry
      exact ⟨SeqAt.EqAt.str_bool _ _ _, SeqAt.RcAt.str_bool _ _ _, SeqAt.RcNeAt.str_bool _ _ _⟩
    | @int _ b2 =>
      obtain ⟨_, rfl⟩ := ry
      exact ⟨SeqAt.EqAt.str_int _ _ _ _, SeqAt.RcAt.str_int _ _ _ _, SeqAt.RcNeAt.str_int _ _ _ _⟩
    | @str _ b2 =>
      obtain ⟨_, rfl⟩ := ry
      exact ⟨SeqAt.EqAt.str_str _ _ _ _, SeqAt.RcAt.str_str _ _ _ _, SeqAt.RcNeAt.str_str _ _ _ _⟩
    | @tup m b ys es hb kl k =>
      obtain rfl : v = Value.ref _ := ry
      obtain ⟨its2, r2, t2, z2⟩ := I.tuple hb
      have l2 := r2.length
      exact ⟨SeqAt.EqAt.str_tuple _ _ t2 (by omega), SeqAt.RcAt.str_tuple _ _ t2 (by omega), SeqAt.RcNeAt.str_tuple _ _ t2 (by omega)⟩
    | @lst m b ys es hb kl k =>
      obtain rfl : v = Value.ref _ := ry
      obtain ⟨its2, r2, t2, z2⟩ := I.list hb
      have l2 := r2.length
      exact ⟨SeqAt.EqAt.str_list _ _ t2.isList (by omega), SeqAt.RcAt.str_list _ _ t2.isList (by omega), SeqAt.RcNeAt.str_list _ _ t2.isList (by omega)⟩
  | @tup n a xs ds ha hl h ih =>
    intro m y e h2 A u v hu rx ry
    obtain rfl : u = Value.ref _ := rx
    obtain ⟨its, r1, t1, z1⟩ := I.tuple ha
    have l1 := r1.length
    cases h2 with
    | @non  =>
      obtain rfl : v = Value.none := ry
      exact ⟨SeqAt.EqAt.tuple_none t1 (by omega), SeqAt.RcAt.tuple_none t1 (by omega), SeqAt.RcNeAt.tuple_none t1 (by omega)⟩
    | @bl _ b2 =>
      obtain rfl : v = Value.bool _ := ry
      exact ⟨SeqAt.EqAt.tuple_bool _ t1 (by omega), SeqAt.RcAt.tuple_bool _ t1 (by omega), SeqAt.RcNeAt.tuple_bool _ t1 (by omega)⟩
    | @int _ b2 =>
      obtain ⟨_, rfl⟩ := ry
      exact ⟨SeqAt.EqAt.tuple_int _ _ t1 (by omega), SeqAt.RcAt.tuple_int _ _ t1 (by omega), SeqAt.RcNeAt.tuple_int _ _ t1 (by omega)⟩
    | @str _ b2 =>
      obtain ⟨_, rfl⟩ := ry
      exact ⟨SeqAt.EqAt.tuple_str _ _ t1 (by omega), SeqAt.RcAt.tuple_str _ _ t1 (by omega), SeqAt.RcNeAt.tuple_str _ _ t1 (by omega)⟩
    | @tup m b ys es hb kl k =>
      obtain rfl : v = Value.ref _ := ry
      obtain ⟨its2, r2, t2, z2⟩ := I.tuple hb
      have l2 := r2.length
      have step : ∀ (j : Nat) (h1 : j < its.toArray.size) (h2 : j < its2.toArray.size), SeqAt.EqAt A.in1 s its.toArray[j] its2.toArray[j] (at2 dEq ds es j) := fun j h1 h2 => by
        obtain ⟨x, hx, rx⟩ := vals_at r1 h1
        obtain ⟨y, hy, ry⟩ := vals_at r2 h2
        have j1 : j < ds.length := by simp at h1; omega
        have j2 : j < es.length := by simp at h2; omega
        rw [at2_of (List.getElem?_eq_getElem j1) (List.getElem?_eq_getElem j2)]
        exact (ih j x _ hx (List.getElem?_eq_getElem j1) (k j y _ hy (List.getElem?_eq_getElem j2)) (A := A.in1) (by show A.units + 1 + n + m < cLine; omega) rx ry).1
      have all := dEqs_all (xs := ds) (ys := es) (e := at2 dEq ds es) fun j x y h1 h2 => at2_of h1 h2
      have both : SeqAt.RcAt A s (.ref a) (.ref b) (dEqs ds es) ∧ SeqAt.RcNeAt A s (.ref a) (.ref b) (!dEqs ds es) := by
        have z1 := SeqAt.RcAt.tuples (A := A) (e := at2 dEq ds es) (show s.heap.IsTuple a its.toArray from t1) (show s.heap.IsTuple b its2.toArray from t2) (by omega) step
        have z2 := SeqAt.RcNeAt.tuples (A := A) (e := at2 dEq ds es) (show s.heap.IsTuple a its.toArray from t1) (show s.heap.IsTuple b its2.toArray from t2) (by omega) step
        have e1 : its.toArray.size = ds.length := by simp; omega
        have e2 : its2.toArray.size = es.length := by simp; omega
        rw [e1, e2, all] at z1 z2
        exact ⟨z1, z2⟩
      simp only [dEq]
      refine ⟨?_, both⟩
      by_cases q : a = b
      · subst q
        have ed : DV.tup ds = DV.tup es := dv_fun I (Dv.tup ha hl h) (Dv.tup hb kl k)
        rw [show es = ds by injection ed with z; exact z.symm, dEqs_refl]
        exact SeqAt.EqAt.same _
      · exact .of_refs q both.1
    | @lst m b ys es hb kl k =>
      obtain rfl : v = Value.ref _ := ry
      obtain ⟨its2, r2, t2, z2⟩ := I.list hb
      have l2 := r2.length
      exact ⟨SeqAt.EqAt.tuple_list t1 t2.isList (by omega), SeqAt.RcAt.tuple_list t1 t2.isList (by omega), SeqAt.RcNeAt.tuple_list t1 t2.isList (by omega)⟩
  | @lst n a xs ds ha hl h ih =>
    intro m y e h2 A u v hu rx ry
    obtain rfl : u = Value.ref _ := rx
    obtain ⟨its, r1, t1, z1⟩ := I.list ha
    have l1 := r1.length
    cases h2 with
    | @non  =>
      obtain rfl : v = Value.none := ry
      exact ⟨SeqAt.EqAt.list_none t1.isList (by omega), SeqAt.RcAt.list_none t1.isList (by omega), SeqAt.RcNeAt.list_none t1.isList (by omega)⟩
    | @bl _ b2 =>
      obtain rfl : v = Value.bool _ := ry
      exact ⟨SeqAt.EqAt.list_bool _ t1.isList (by omega), SeqAt.RcAt.list_bool _ t1.isList (by omega), SeqAt.RcNeAt.list_bool _ t1.isList (by omega)⟩
    | @int _ b2 =>
      obtain ⟨_, rfl⟩ := ry
      exact ⟨SeqAt.EqAt.list_int _ _ t1.isList (by omega), SeqAt.RcAt.list_int _ _ t1.isList (by omega), SeqAt.RcNeAt.list_int _ _ t1.isList (by omega)⟩
    | @str _ b2 =>
      obtain ⟨_, rfl⟩ := ry
      exact ⟨SeqAt.EqAt.list_str _ _ t1.isList (by omega), SeqAt.RcAt.list_str _ _ t1.isList (by omega), SeqAt.RcNeAt.list_str _ _ t1.isList (by omega)⟩
    | @tup m b ys es hb kl k =>
      obtain rfl : v = Value.ref _ := ry
      obtain ⟨its2, r2, t2, z2⟩ := I.tuple hb
      have l2 := r2.length
      exact ⟨SeqAt.EqAt.list_tuple t1.isList t2 (by omega), SeqAt.RcAt.list_tuple t1.isList t2 (by omega), SeqAt.RcNeAt.list_tuple t1.isList t2 (by omega)⟩
    | @lst m b ys es hb kl k =>
      obtain rfl : v = Value.ref _ := ry
      obtain ⟨its2, r2, t2, z2⟩ := I.list hb
      have l2 := r2.length
      have step : ∀ (j : Nat) (h1 : j < its.toArray.size) (h2 : j < its2.toArray.size), SeqAt.EqAt A.in1 s its.toArray[j] its2.toArray[j] (at2 dEq ds es j) := fun j h1 h2 => by
        obtain ⟨x, hx, rx⟩ := vals_at r1 h1
        obtain ⟨y, hy, ry⟩ := vals_at r2 h2
        have j1 : j < ds.length := by simp at h1; omega
        have j2 : j < es.length := by simp at h2; omega
        rw [at2_of (List.getElem?_eq_getElem j1) (List.getElem?_eq_getElem j2)]
        exact (ih j x _ hx (List.getElem?_eq_getElem j1) (k j y _ hy (List.getElem?_eq_getElem j2)) (A := A.in1) (by show A.units + 1 + n + m < cLine; omega) rx ry).1
      have all := dEqs_all (xs := ds) (ys := es) (e := at2 dEq ds es) fun j x y h1 h2 => at2_of h1 h2
      have both : SeqAt.RcAt A s (.ref a) (.ref b) (dEqs ds es) ∧ SeqAt.RcNeAt A s (.ref a) (.ref b) (!dEqs ds es) := by
        have e1 : its.toArray.size = ds.length := by simp; omega
        have e2 : its2.toArray.size = es.length := by simp; omega
        by_cases c : ds.length = es.length
        · have z1 := SeqAt.RcAt.lists (A := A) (e := at2 dEq ds es) t1.isList t2.isList (by omega) (by omega) step
          have z2 := SeqAt.RcNeAt.lists (A := A) (e := at2 dEq ds es) t1.isList t2.isList (by omega) (by omega) step
          have all' : (List.range ds.length).all (at2 dEq ds es) = dEqs ds es := by
            rw [← all, c, Nat.min_self]
            simp
          rw [e1, all'] at z1 z2
          exact ⟨z1, z2⟩
        · rw [dEqs_len c]
          exact ⟨SeqAt.RcAt.lists_lengths (A := A) t1.isList t2.isList (by rw [e1, e2]; simpa using c) (by omega), SeqAt.RcNeAt.lists_lengths (A := A) t1.isList t2.isList (by rw [e1, e2]; simpa using c) (by omega)⟩
      simp only [dEq]
      refine ⟨?_, both⟩
      by_cases q : a = b
      · subst q
        have ed : DV.lst ds = DV.lst es := dv_fun I (Dv.lst ha hl h) (Dv.lst hb kl k)
        rw [show es = ds by injection ed with z; exact z.symm, dEqs_refl]
        exact SeqAt.EqAt.same _
      · exact .of_refs q both.1
end
theorem Same.seqL {K : PySem.W.Frag} {H H' : Hp} {a : Addr} {xs : List V} (s : Same H H') (h : SqL K H a xs) : SqL K H' a xs := by
  rcases h with (h | ⟨ob, h⟩) | h
  · exact .inl (.inl (s _ _ h))
  · exact .inl (.inr ⟨ob, s _ _ h⟩)
  · exact .inr h
theorem Same.seqT {K : PySem.W.Frag} {H H' : Hp} {a : Addr} {xs : List V} (s : Same H H') (h : SqT K H a xs) : SqT K H' a xs := by
  rcases h with (h | ⟨ob, h⟩) | h
  · exact .inl (.inl (s _ _ h))
  · exact .inl (.inr ⟨ob, s _ _ h⟩)
  · exact .inr h
theorem Dv.same {K : PySem.W.Frag} {H H' : Hp} (s : Same H H') {n : Nat} {x : V} {d : DV} (h : Dv K H n x d) : Dv K H' n x d := by
  induction h with
  | non => exact .non
  | bl => exact .bl
  | int => exact .int
  | str => exact .str
  | tup ha hl h ih => exact .tup (Same.seqT s ha) hl ih
  | lst ha hl h ih => exact .lst (Same.seqL s ha) hl ih
def rEqV (K : PySem.W.Frag) : R2 := fun x y H Q => ∃ (n m : Nat) (d e : DV), Dv K H n x d ∧ Dv K H m y e ∧ n ≤ 9 ∧ m ≤ 9 ∧ Q (.bl (dEq d e)) H
def rNeV (K : PySem.W.Frag) : R2 := fun x y H Q => ∃ (n m : Nat) (d e : DV), Dv K H n x d ∧ Dv K H m y e ∧ n ≤ 9 ∧ m ≤ 9 ∧ Q (.bl (!dEq d e)) H
def rInV (K : PySem.W.Frag) (neg : Bool) : R2 := fun x y H Q => ∃ (n m : Nat) (d : DV) (es : List DV), Dv K H n x d ∧ Dv K H m y (.lst es) ∧ n ≤ 9 ∧ m ≤ 9 ∧ Q (.bl (if neg then !es.any (fun z => dEq z d) else es.any fun z => dEq z d)) H
section
variable {X : Cx}
theorem op_eqV (hu : X.A.units + 20 < cLine) : OpR X (compareOp .Eq) (rEqV X.K) := by
  intro pins s σ H x y u v Q I rx ry h
  obtain ⟨n, m, d, e, h1, h2, hn, hm, q⟩ := h
  exact (dv_at I h1 h2 (A := X.A) (by omega) rx ry).2.1 X.prog X.w X.xe _ ⟨.bl _, H, I, rfl, q⟩
theorem op_neV (hu : X.A.units + 20 < cLine) : OpR X (compareOp .NotEq) (rNeV X.K) := by
  intro pins s σ H x y u v Q I rx ry h
  obtain ⟨n, m, d, e, h1, h2, hn, hm, q⟩ := h
  exact PySem.W.cmp_ofNotEq ((dv_at I h1 h2 (A := X.A) (by omega) rx ry).2.2 X.prog X.w X.xe _ ⟨.bl _, H, I, rfl, q⟩)
theorem any_ix {α β : Type} {f : α → Bool} {g : β → Bool} : ∀ {xs : List α} {ys : List β}, xs.length = ys.length → (∀ (j : Nat) (x : α) (y : β), xs[j]? = some x → ys[j]? = some y → f x = g y) → xs.any f = ys.any g
  | [], [], _, _ => rfl
  | [], _ :: _, h, _ => by cases h
  | _ :: _, [], h, _ => by cases h
  | x :: xs, y :: ys, h, k => by
    rw [List.any_cons, List.any_cons, k 0 x y rfl rfl, any_ix (xs := xs) (ys := ys) (by simpa using h) fun j a b h1 h2 => k (j + 1) a b (by simpa using h1) (by simpa using h2)]
noncomputable def eOf (K : PySem.W.Frag) (H : Hp) (m : Nat) (d : DV) (z : V) : Bool := @dite Bool (∃ e, Dv K H m z e) (Classical.propDecidable _) (fun h => dEq h.choose d) fun _ => false
theorem eOf_of {pins : List (Addr × Obj)} {σ : St} {H : Hp} {s : Shared} (I : Inv X pins σ H s) {m : Nat} {d e : DV} {z : V} (h : Dv X.K H m z e) : eOf X.K H m d z = dEq e d := by
  unfold eOf
  rw [dif_pos ⟨e, h⟩]
  have ex : ∃ e, Dv X.K H m z e := ⟨e, h⟩
  rw [dv_fun I ex.choose_spec h]
theorem op_notInV (hu : X.A.units + 20 < cLine) : OpR X (compareOp .NotIn) (rInV X.K true) := by
  intro pins s σ H x y v u Q I rx ry h
  obtain ⟨n, m, d, es, h1, h2, hn, hm, q⟩ := h
  cases h2 with
  | @lst m a xs _ ha hl k =>
    cases ry
    obtain ⟨its, r, pl, hz⟩ := I.list ha
    have get : ∀ z ∈ xs, ∃ (j : Nat) (e : DV), xs[j]? = some z ∧ es[j]? = some e ∧ Dv X.K H m z e := fun z hz => by
      obtain ⟨j, hj⟩ := List.getElem?_of_mem hz
      have lt : j < es.length := by rw [← hl]; exact (List.getElem?_eq_some_iff.mp hj).1
      exact ⟨j, es[j], hj, List.getElem?_eq_getElem lt, k j z _ hj (List.getElem?_eq_getElem lt)⟩
    refine SeqAt.notIn_listAt (eU (eOf X.K H m d)) pl.isList (fun w hw => ?_) ⟨.bl _, H, I, rfl, ?_⟩
    · obtain ⟨z, m1, m2⟩ := mem_rel r w (by simpa using hw)
      obtain ⟨j, e, _, _, he⟩ := get z m1
      rw [eU_of m2, eOf_of I he]
      exact (dv_at I he h1 (A := X.A.in1) (by show X.A.units + 1 + m + n < cLine; omega) m2 rx).1
    · rw [show its.toArray.any (eU (eOf X.K H m d)) = its.any (eU (eOf X.K H m d)) by simp, any_eU r, any_ix (g := fun z => dEq z d) hl fun j z e g1 g2 => eOf_of I (k j z e g1 g2)]
      exact q
end
end L2
set_option maxRecDepth 100000
set_option maxHeartbeats 1000000
namespace L2
open PySem PySem.Spec PyProof.Rows XL PySem.W
def Tp (H H' : Hp) : Prop := ∀ b xs, H b = some (.tup xs) → H' b = some (.tup xs)
theorem Same.tp {H H' : Hp} (s : Same H H') : Tp H H' := fun b xs e => s b _ e
theorem Tp.trans {H H' H'' : Hp} (s : Tp H H') (r : Tp H' H'') : Tp H H'' := fun b xs e => r b xs (s b xs e)
theorem tp_lst {H : Hp} {l : Addr} {xs ys : List V} (h : H l = some (.lst xs)) : Tp H (upd H l (.lst ys)) := fun b zs e => by
  rw [upd_ne (fun z => by rw [z, h] at e; cases e)]
  exact e
section
variable {J : It} {n : Nat} {g : TG} {σ : St} {fr : List Nat} {tc : TT} {te : TE} {l : Addr} {H1 : Hp} {Q : VK}
theorem comp_go (len : Nat) (hlen : len < sizeLine) (hl : H1 l = none) (x : Nat → V) (hgo : ∀ i H, i < len → Same H1 H → J.go i H) (hy : ∀ i H v H', i < len → Same H1 H → J.yld i H v H' → H' = H ∧ v = x i) (hst : ∀ H, Same H1 H → J.stop len H)
    (p : Nat → Bool) (F : Nat → V → Hp → Prop) (stab : ∀ i y H H', Tp H H' → F i y H → F i y H')
    (step : ∀ i H2, i < len → Same H1 H2 → ∀ (N : V → Hp → Prop) (M : Hp → Prop), (∀ y H', Same H2 H' → p i = true → F i y H' → N y H') → (∀ H', Same H2 H' → p i = false → M H') →
      g (x i) (blk0 σ fr n) H2 fun σ' H3 => tc σ' H3 fun b H4 => if b = true then te σ' H4 N else M H4)
    (fin : ∀ ys H2, Same H1 H2 → H2 l = some (.lst ys) → ys.length = ((List.range len).filter p).length → (∀ (j : Nat) (y : V) (i : Nat), ys[j]? = some y → ((List.range len).filter p)[j]? = some i → F i y H2) → Q (.ref l) H2) : CompG J n g σ fr tc te l H1 Q := by
  refine compG_by len (fun i ys H2 => Same H1 H2 ∧ H2 l = some (.lst ys) ∧ ys.length = ((List.range i).filter p).length ∧ ∀ (j : Nat) (y : V) (k : Nat), ys[j]? = some y → ((List.range i).filter p)[j]? = some k → F k y H2) ?_ ?_ ?_ ?_
  · refine ⟨fun b u e => ?_, upd_same, rfl, fun j y k e => by simp at e⟩
    rw [upd_ne (ne_of_none e hl)]
    exact e
  · rintro i ys H2 lt ⟨s, _⟩
    exact hgo i H2 lt s
  · rintro i ys H2 v H3 lt ⟨s, el, ly, f⟩ yl N hN
    obtain ⟨rfl, rfl⟩ := hy i H2 v H3 lt s yl
    refine step i H3 lt s _ _ (fun y H' s' pt hf => ?_) (fun H' s' pf => ?_)
    · have el' := s' _ _ el
      have ylen : ys.length < sizeLine := by
        rw [ly]
        refine Nat.lt_of_le_of_lt (List.length_filter_le _ _) ?_
        rw [List.length_range]
        omega
      refine ⟨el', ylen, hN _ _ ⟨fun b u e => ?_, upd_same, ?_, fun j z k e1 e2 => ?_⟩⟩
      · rw [upd_ne (ne_of_none e hl)]
        exact s' _ _ (s _ _ e)
      · rw [List.range_succ, List.filter_append, List.length_append, List.length_append, ly, List.filter_cons_of_pos pt]
        rfl
      · rw [List.range_succ, List.filter_append, List.filter_cons_of_pos pt] at e2
        by_cases c : j < ys.length
        · rw [List.getElem?_append_left c] at e1
          rw [List.getElem?_append_left (by omega)] at e2
          exact stab _ _ _ _ ((Same.tp s').trans (tp_lst el')) (f j z k e1 e2)
        · rw [List.getElem?_append_right (by omega)] at e1 e2
          rw [← ly] at e2
          cases hj : j - ys.length with
          | zero =>
            rw [hj] at e1 e2
            simp at e1 e2
            subst e1 e2
            exact stab _ _ _ _ (tp_lst el') hf
          | succ m =>
            rw [hj] at e1
            simp at e1
    · refine hN _ _ ⟨s.trans s', s' _ _ el, ?_, fun j z k e1 e2 => ?_⟩
      · rw [List.range_succ, List.filter_append, List.filter_cons_of_neg (by simp [pf])]
        simpa using ly
      · rw [List.range_succ, List.filter_append, List.filter_cons_of_neg (by simp [pf])] at e2
        simp only [List.filter_nil, List.append_nil] at e2
        exact stab _ _ _ _ (Same.tp s') (f j z k e1 e2)
  · rintro ys H2 ⟨s, el, ly, f⟩
    exact ⟨hst _ s, fin ys H2 s el ly f⟩
theorem comp_listF {K : PySem.W.Frag} {a : Addr} {xs : List V} (hs : SqL K H1 a xs) (hlen : xs.length < sizeLine) (hl : H1 l = none) (p : Nat → Bool) (F : Nat → V → Hp → Prop) (stab : ∀ i y H H', Tp H H' → F i y H → F i y H')
    (step : ∀ (i : Nat) (x : V) (H2 : Hp), xs[i]? = some x → Same H1 H2 → ∀ (N : V → Hp → Prop) (M : Hp → Prop), (∀ y H', Same H2 H' → p i = true → F i y H' → N y H') → (∀ H', Same H2 H' → p i = false → M H') →
      g x (blk0 σ fr n) H2 fun σ' H3 => tc σ' H3 fun b H4 => if b = true then te σ' H4 N else M H4)
    (fin : ∀ ys H2, Same H1 H2 → H2 l = some (.lst ys) → ys.length = ((List.range xs.length).filter p).length → (∀ (j : Nat) (y : V) (i : Nat), ys[j]? = some y → ((List.range xs.length).filter p)[j]? = some i → F i y H2) → Q (.ref l) H2) : CompG (Itl K a) n g σ fr tc te l H1 Q := by
  refine comp_go xs.length hlen hl (fun i => xs.getD i .non) (fun i H lt s => ⟨xs, xs[i], Same.seqL s hs, List.getElem?_eq_getElem lt⟩) (fun i H v H' lt s y => ?_) (fun H s => ⟨xs, Same.seqL s hs, Nat.le_refl _⟩) p F stab (fun i H2 lt s N M h1 h2 => ?_) fin
  · obtain ⟨e, f⟩ := y
    have z := f xs (Same.seqL s hs)
    refine ⟨e, ?_⟩
    simp [z]
  · have e : xs[i]? = some (xs.getD i .non) := by simp [List.getElem?_eq_getElem lt]
    exact step i _ H2 e s N M h1 h2
theorem cut_true {i : Nat} {x : V} {σ0 : St} {H2 : Hp} {N : V → Hp → Prop} {M : Hp → Prop} {g : TG} {te : TE} (h : g x σ0 H2 fun σ' H3 => te σ' H3 N) : g x σ0 H2 fun σ' H3 => tTrue σ' H3 fun b H4 => if b = true then te σ' H4 N else M H4 := by
  have e : (fun (σ' : St) (H3 : Hp) => tTrue σ' H3 fun b H4 => if b = true then te σ' H4 N else M H4) = fun σ' H3 => te σ' H3 N := by
    funext σ' H3
    show (if true = true then te σ' H3 N else M H3) = te σ' H3 N
    rw [if_pos rfl]
  rw [e]
  exact h
theorem filter_all (m : Nat) : (List.range m).filter (fun _ => true) = List.range m := by simp
theorem comp_list {K : PySem.W.Frag} {a : Addr} {xs : List V} (hs : SqL K H1 a xs) (hlen : xs.length < sizeLine) (hl : H1 l = none) (F : Nat → V → Hp → Prop) (stab : ∀ i y H H', Tp H H' → F i y H → F i y H')
    (step : ∀ (i : Nat) (x : V) (H2 : Hp), xs[i]? = some x → Same H1 H2 → ∀ (N : V → Hp → Prop), (∀ y H', Same H2 H' → F i y H' → N y H') → g x (blk0 σ fr n) H2 fun σ' H3 => te σ' H3 N)
    (fin : ∀ ys H2, Same H1 H2 → H2 l = some (.lst ys) → ys.length = xs.length → (∀ (i : Nat) (y : V), ys[i]? = some y → F i y H2) → Q (.ref l) H2) : CompG (Itl K a) n g σ fr tTrue te l H1 Q := by
  refine comp_listF hs hlen hl (fun _ => true) F stab (fun i x H2 hx s N M h1 h2 => cut_true (i := i) (step i x H2 hx s N fun y H' s' f => h1 y H' s' rfl f)) (fun ys H2 s e ly f => ?_)
  rw [filter_all, List.length_range] at ly
  refine fin ys H2 s e ly fun i y hy => f i y i hy ?_
  rw [filter_all, List.getElem?_range (by have := (List.getElem?_eq_some_iff.mp hy).1; omega)]
theorem comp_rangeF {lo : Int} {m : Nat} (hlen : m < sizeLine) (hl : H1 l = none) (p : Nat → Bool) (F : Nat → V → Hp → Prop) (stab : ∀ i y H H', Tp H H' → F i y H → F i y H')
    (step : ∀ (i : Nat) H2, i < m → Same H1 H2 → ∀ (N : V → Hp → Prop) (M : Hp → Prop), (∀ y H', Same H2 H' → p i = true → F i y H' → N y H') → (∀ H', Same H2 H' → p i = false → M H') →
      g (.int (lo + i)) (blk0 σ fr n) H2 fun σ' H3 => tc σ' H3 fun b H4 => if b = true then te σ' H4 N else M H4)
    (fin : ∀ ys H2, Same H1 H2 → H2 l = some (.lst ys) → ys.length = ((List.range m).filter p).length → (∀ (j : Nat) (y : V) (i : Nat), ys[j]? = some y → ((List.range m).filter p)[j]? = some i → F i y H2) → Q (.ref l) H2) : CompG (Itr lo m) n g σ fr tc te l H1 Q := by
  exact comp_go m hlen hl (fun i => .int (lo + i)) (fun i H lt s => lt) (fun i H v H' lt s y => y) (fun H s => Nat.le_refl _) p F stab (fun i H2 lt s N M h1 h2 => step i H2 lt s N M h1 h2) fin
theorem comp_range {lo : Int} {m : Nat} (hlen : m < sizeLine) (hl : H1 l = none) (F : Nat → V → Hp → Prop) (stab : ∀ i y H H', Tp H H' → F i y H → F i y H')
    (step : ∀ (i : Nat) H2, i < m → Same H1 H2 → ∀ (N : V → Hp → Prop), (∀ y H', Same H2 H' → F i y H' → N y H') → g (.int (lo + i)) (blk0 σ fr n) H2 fun σ' H3 => te σ' H3 N)
    (fin : ∀ ys H2, Same H1 H2 → H2 l = some (.lst ys) → ys.length = m → (∀ (i : Nat) (y : V), ys[i]? = some y → F i y H2) → Q (.ref l) H2) : CompG (Itr lo m) n g σ fr tTrue te l H1 Q := by
  refine comp_rangeF hlen hl (fun _ => true) F stab (fun i H2 hi s N M h1 h2 => cut_true (i := i) (step i H2 hi s N fun y H' s' f => h1 y H' s' rfl f)) (fun ys H2 s e ly f => ?_)
  rw [filter_all, List.length_range] at ly
  refine fin ys H2 s e ly fun i y hy => f i y i hy ?_
  rw [filter_all, List.getElem?_range (by have := (List.getElem?_eq_some_iff.mp hy).1; omega)]
end
theorem ys_eq {α : Type} {f : α → V} : ∀ {as : List α} {ys : List V}, ys.length = as.length → (∀ (i : Nat) (y : V) (a : α), ys[i]? = some y → as[i]? = some a → y = f a) → ys = as.map f
  | [], [], _, _ => rfl
  | [], _ :: _, h, _ => by cases h
  | _ :: _, [], h, _ => by cases h
  | a :: as, y :: ys, h, k => by
    rw [List.map_cons, k 0 y a rfl rfl, ys_eq (as := as) (ys := ys) (by simpa using h) fun i y' a' h1 h2 => k (i + 1) y' a' (by simpa using h1) (by simpa using h2)]
theorem filt_ix {α : Type} (q : α → Bool) : ∀ (as : List α) (p : Nat → Bool), (∀ (i : Nat) (a : α), as[i]? = some a → p i = q a) → ((List.range as.length).filter p).filterMap (fun i => as[i]?) = as.filter q
  | [], _, _ => rfl
  | a :: as, p, h => by
    have ih := filt_ix q as (fun i => p (i + 1)) fun i b hb => h (i + 1) b (by simpa using hb)
    rw [List.length_cons, List.range_succ_eq_map]
    have e : ((List.range as.length).map Nat.succ).filter p = ((List.range as.length).filter (fun i => p (i + 1))).map Nat.succ := by
      rw [List.filter_map]
      rfl
    have h0 := h 0 a rfl
    by_cases c : q a = true
    · rw [List.filter_cons_of_pos (by rw [h0]; exact c), List.filter_cons_of_pos c, e, List.filterMap_cons]
      simp only [List.getElem?_cons_zero, List.filterMap_map]
      rw [← ih]
      rfl
    · rw [List.filter_cons_of_neg (by rw [h0]; exact c), List.filter_cons_of_neg c, e, List.filterMap_map, ← ih]
      rfl
theorem ix_filt {α : Type} (q : α → Bool) {as : List α} {p : Nat → Bool} (h : ∀ (i : Nat) (a : α), as[i]? = some a → p i = q a) : ((List.range as.length).filter p).length = (as.filter q).length ∧ ∀ j i : Nat, ((List.range as.length).filter p)[j]? = some i → as[i]? = (as.filter q)[j]? := by
  rw [← filt_ix q as p h]
  have all : ∀ i ∈ (List.range as.length).filter p, ∃ a, as[i]? = some a := fun i hi => by
    have := List.mem_range.mp (List.mem_filter.mp hi).1
    exact ⟨as[i], List.getElem?_eq_getElem this⟩
  generalize (List.range as.length).filter p = is at all
  induction is with
  | nil => exact ⟨rfl, fun j i e => by simp at e⟩
  | cons i is ih =>
    obtain ⟨a, ha⟩ := all i List.mem_cons_self
    obtain ⟨h1, h2⟩ := ih fun k hk => all k (List.mem_cons_of_mem _ hk)
    rw [List.filterMap_cons, ha]
    refine ⟨by simp [h1], fun j k e => ?_⟩
    cases j with
    | zero =>
      simp at e
      subst e
      exact ha
    | succ m => exact h2 m k (by simpa using e)
end L2
set_option maxRecDepth 100000
set_option maxHeartbeats 1000000
namespace XL
open PySem PySem.MeetsSeq PySem.MeetsSeq2 PySem.MeetsSeq3 PySem.SeqAt
open AutoSeq1 (wpAny_loadPart')
theorem xl_rm_loop (a : Addr) (zs : Array Value) (n : Nat) (y : Value) (f : Value → Bool) (j : Nat) (lt : j < zs.size) (yes : f zs[j] = true) (few : zs.size ≤ sizeLine) (k : Nat) :
    ∀ i : Nat, j - i = k → i ≤ j → (∀ m (hm : m < zs.size), i ≤ m → m < j → f zs[m] = false) → Meets (Builtin.«list.remove.loop» ⟨[.ref a, y, rawInt i], []⟩)
      (fun A R s => (s.heap.get? a = some { cls := .type "list", dict := none, data := .seq zs n, slots := #[] }) ∧ (∀ z, z ∈ zs → EqAt A.in1 s z y (f z)) ∧
        R (.ok (.ret .none)) { s with heap := s.heap.update a (Obj.mapSeq fun t => t.eraseIdxIfInBounds j) }) := by
  induction k with
  | zero =>
    intro i ek le no prog w A R s g
    obtain ⟨hp, gs, dr, tk, os⟩ := s
    obtain ⟨at_, eq, g⟩ := g
    obtain rfl : i = j := by omega
    wp_walk using
      wpAny_loadPart' at_
    have ix : zs[((i : Nat) : Int).toNat]? = some zs[i] := by simp [lt]
    rw [ix]
    refine wpAny_bind
      (eq _ (Array.getElem_mem lt) prog w _ _ ?_)
    rw [yes]
    have few' : (zs.eraseIdxIfInBounds i).size ≤ sizeLine + 1 :=
      Nat.le_trans (size_erased zs _) (Nat.le_succ_of_le few)
    wp_walk using
      (wpAny_updateSeq at_ rfl (hz := few) (_hz' := few')), wpAny_loadPart' at_
    simpa using g
  | succ k ih =>
    intro i ek le no prog w A R s g
    obtain ⟨hp, gs, dr, tk, os⟩ := s
    obtain ⟨at_, eq, g⟩ := g
    have il : i < zs.size := by omega
    wp_walk using
      wpAny_loadPart' at_
    have ix : zs[((i : Nat) : Int).toNat]? = some zs[i] := by simp [il]
    have ic : ((i : Int) + 1) = ((i + 1 : Nat) : Int) := by omega
    rw [ix]
    refine wpAny_bind
      (eq _ (Array.getElem_mem il) prog w _ _ ?_)
    rw [no i il (Nat.le_refl _) (by omega)]
    wp_walk
    rw [ic]
    exact ⟨plainId_quiet plain_remove_loop _, codeAny_builtin entry_remove_loop (by
      rw [Around.under_plainId plain_remove_loop _]
      exact ih (i + 1) (by omega) (by omega) (fun m hm h1 h2 => no m hm (by omega) h2) prog w A R _ ⟨at_, eq, g⟩)⟩
theorem xl_rm (a : Addr) (zs : Array Value) (n : Nat) (y : Value) (f : Value → Bool) (j : Nat) (lt : j < zs.size) (yes : f zs[j] = true) (no : ∀ m (hm : m < zs.size), m < j → f zs[m] = false) (few : zs.size ≤ sizeLine) :
    Meets (Builtin.«list.remove» ⟨[.ref a, y], []⟩)
      (fun A R s => (s.heap.get? a = some { cls := .type "list", dict := none, data := .seq zs n, slots := #[] }) ∧ (∀ z, z ∈ zs → EqAt A.in1 s z y (f z)) ∧
        R (.ok (.ret .none)) { s with heap := s.heap.update a (Obj.mapSeq fun t => t.eraseIdxIfInBounds j) }) := by
  intro prog w A R s g
  obtain ⟨hp, gs, dr, tk, os⟩ := s
  obtain ⟨at_, eq, g⟩ := g
  wp_walk using
    wpAny_loadPart' at_
  exact ⟨plainId_quiet plain_remove_loop _, codeAny_builtin entry_remove_loop (by
    rw [Around.under_plainId plain_remove_loop _]
    exact xl_rm_loop a zs n y f j lt yes few _ 0 rfl (Nat.zero_le _) (fun m hm _ h2 => no m hm h2) prog w A R _ ⟨at_, eq, g⟩)⟩
end XL
namespace L2
open PySem PySem.Spec PyProof.Rows XL PySem.W
theorem Room.mark {q0 : Bool} {j k : Nat} {A : Around} (r : Room q0 k A) (h : j ≤ k) {e : Option Value} : Room false j (A.mark e) :=
  ⟨fun z => (nomatch z), by have := r.dp; show A.depth + 3 * j + 5 < _; omega, by have := r.un; show A.units + 16 * j + 200 < _; omega⟩
def plainE : Expr → Bool
  | .Starred _ _ => false
  | _ => true
theorem star_plain {e : Expr} {es : List Expr} {env : Env} (h : plainE e = true) : starEach (e :: es) env = (false, eval e env) :: starEach es env := by
  cases e <;> first | rfl | cases h
theorem pa_consP {X : Cx} {e : Expr} {es : List Expr} {te : TE} {t : TA} (ha : PE X e te) (hr : PA X es t) (hn : plainE e = true) : PA X (e :: es) (tCons te t) := pa_cons ha hr (star_plain hn)
def FirstAt (es : List DV) (d : DV) (j : Nat) : Prop := (∃ e, es[j]? = some e ∧ dEq e d = true) ∧ ∀ (i : Nat) (e : DV), i < j → es[i]? = some e → dEq e d = false
def rRemove (K : PySem.W.Frag) : V → List V → Hp → VK → Prop := fun x vs H Q => ∃ (l : Addr) (xs : List V) (y : V) (n m : Nat) (d : DV) (es : List DV) (j : Nat), x = .ref l ∧ vs = [y] ∧ H l = some (.lst xs) ∧ Dv K H n y d ∧ Dv K H m (.ref l) (.lst es) ∧ n ≤ 9 ∧ m ≤ 9 ∧ FirstAt es d j ∧ Q .non (upd H l (.lst (xs.eraseIdx j)))
def rIndexV (K : PySem.W.Frag) : V → List V → Hp → VK → Prop := fun x vs H Q => ∃ (l : Addr) (xs : List V) (y : V) (n m : Nat) (d : DV) (es : List DV) (j : Nat), x = .ref l ∧ vs = [y] ∧ H l = some (.lst xs) ∧ Dv K H n y d ∧ Dv K H m (.ref l) (.lst es) ∧ n ≤ 9 ∧ m ≤ 9 ∧ FirstAt es d j ∧ Q (.int j) H
section
variable {X : Cx}
theorem first_at {pins : List (Addr × Obj)} {s : Shared} {σ : St} {H : Hp} {l : Addr} {xs : List V} {its : List Value} {y : V} {u : Value} {n m : Nat} {d : DV} {es : List DV} {j : Nat} (hu : X.A.units + 20 < cLine) (I : Inv X pins σ H s) (hH : H l = some (.lst xs)) (r : Vals xs its) (ru : RelV y u) (h1 : Dv X.K H n y d) (h2 : Dv X.K H m (.ref l) (.lst es)) (hn : n ≤ 9) (hm : m ≤ 9) (fa : FirstAt es d j) :
    ∃ (f : Value → Bool) (lt : j < its.toArray.size), f its.toArray[j] = true ∧ (∀ k (hk : k < its.toArray.size), k < j → f its.toArray[k] = false) ∧ ∀ z, z ∈ its.toArray → SeqAt.EqAt X.A.in1 s z u (f z) := by
  cases h2 with
  | @lst m _ zs _ ha hl k =>
    obtain rfl := I.list_inj ha (SqL.of hH)
    obtain ⟨⟨e, he, ee⟩, no⟩ := fa
    have len := r.length
    have jl : j < es.length := (List.getElem?_eq_some_iff.mp he).1
    have at_ : ∀ (i : Nat) (h : i < its.toArray.size), ∃ (z : V) (e : DV), es[i]? = some e ∧ RelV z its.toArray[i] ∧ Dv X.K H m z e := fun i h => by
      obtain ⟨z, hz, rz⟩ := vals_at r h
      have il : i < es.length := by simp at h; omega
      exact ⟨z, es[i], List.getElem?_eq_getElem il, rz, k i z _ hz (List.getElem?_eq_getElem il)⟩
    refine ⟨eU (eOf X.K H m d), by simp; omega, ?_, ?_, ?_⟩
    · obtain ⟨z, e', h3, rz, dz⟩ := at_ j (by simp; omega)
      rw [eU_of rz, eOf_of I dz]
      rw [he] at h3
      cases h3
      exact ee
    · intro i hi lt
      obtain ⟨z, e', h3, rz, dz⟩ := at_ i hi
      rw [eU_of rz, eOf_of I dz]
      exact no i e' lt h3
    · intro z hz
      obtain ⟨i, hi, rfl⟩ := Array.mem_iff_getElem.mp hz
      obtain ⟨z, e', h3, rz, dz⟩ := at_ i hi
      rw [eU_of rz, eOf_of I dz]
      exact (dv_at I dz h1 (A := X.A.in1) (by show X.A.units + 1 + m + n < cLine; omega) rz ru).1
theorem mt_removeV (hu : X.A.units + 20 < cLine) : MtM X "list.remove" (rRemove X.K) := by
  intro pins s σ H x vs v us Q I rx rv h
  obtain ⟨l, xs, y, n, m, d, es, j, rfl, rfl, hH, h1, h2, hn, hm, fa, q⟩ := h
  cases rx
  obtain ⟨u, rfl, ru⟩ := rv.one
  obtain ⟨z, its, n', r, hl, e⟩ := I.lstM hH
  obtain ⟨f, lt, yes, no, eq⟩ := first_at hu I hH r ru h1 h2 hn hm fa
  refine call_meets F.slot_list_remove ⟨_, e, rfl⟩ F.entry_list_remove (F.args_list_remove_2 _ _)
    (xl_rm l its.toArray n' u f j lt yes no (by rw [List.size_toArray]; omega)) ⟨e, eq, ?_⟩
  refine ⟨.non, _, I.lset (its' := its.eraseIdx j) hH e ?_ (r.eraseIdx j) ?_, rfl, q⟩
  · show its.toArray.eraseIdxIfInBounds j = (its.eraseIdx j).toArray
    rw [List.eraseIdxIfInBounds_toArray]
  · have := len_erase xs j
    omega
theorem mt_indexV (hu : X.A.units + 20 < cLine) : MtM X "list.index" (rIndexV X.K) := by
  intro pins s σ H x vs v us Q I rx rv h
  obtain ⟨l, xs, y, n, m, d, es, j, rfl, rfl, hH, h1, h2, hn, hm, fa, q⟩ := h
  cases rx
  obtain ⟨u, rfl, ru⟩ := rv.one
  obtain ⟨z, its, n', r, hl, e⟩ := I.lstM hH
  obtain ⟨f, lt, yes, no, eq⟩ := first_at hu I hH r ru h1 h2 hn hm fa
  rw [sizeLine_eq] at z
  refine call_meets F.slot_list_index ⟨_, e, rfl⟩ F.entry_list_index (F.args_list_index_2 _ _)
    (SeqAt.list_indexAt l its.toArray n' none #[] u f j lt (by simp at lt; omega) yes no) ⟨e, eq, ?_⟩
  exact ⟨.int j, H, I.tok _, ⟨_, rfl⟩, q⟩
end
section
variable {J : It} {n : Nat} {g : TG} {σ : St} {fr : List Nat} {tc : TT} {te : TE} {l : Addr} {H1 : Hp} {Q : VK}
end
end L2
namespace Geo
def dn (y r : Int) : Int := if y < r then 1 else -1
def upN (y r : Int) : Nat := if y < r then (r - y).toNat else (y - r).toNat
def wayI (b : Bool) : Int := if b then -1 else 1
def lvN (w x : Int) (b : Bool) : Nat := if b then (x + 1).toNat else (w + 2 - x).toNat
def upL (x y r : Int) : List (Int × Int) := (List.range (upN y r)).map fun (i : Nat) => (x, y + (i : Int) * dn y r)
def lvL (w x : Int) (b : Bool) (r : Int) : List (Int × Int) := (List.range (lvN w x b)).map fun (i : Nat) => (x + (i : Int) * wayI b, r)
def cells (w x y : Int) (b : Bool) (r : Int) : List (Int × Int) := upL x y r ++ lvL w x b r
def btw (v a b : Int) : Prop := min a b ≤ v ∧ v ≤ max a b
instance (v a b : Int) : Decidable (btw v a b) := inferInstanceAs (Decidable (_ ∧ _))
end Geo
set_option maxRecDepth 100000
set_option maxHeartbeats 4000000
namespace S04
open PySem L2 XL
def top (i : Nat) : Stmt := PySem.Challenge.pw_rimnotes_k04_points_moved_and_taken.main.body.getD i (.Pass ⟨0, 0, 0, 0⟩)
abbrev s_NoCell_init : Stmt := inClass (top 5) 0
abbrev s_NoPoint_init : Stmt := inClass (top 9) 0
abbrev s_SameColumn_init : Stmt := inClass (top 11) 0
abbrev s_SameRow_init : Stmt := inClass (top 12) 0
abbrev s_is_whole : Stmt := top 25
abbrev s_is_name : Stmt := top 26
abbrev s_Picture_init : Stmt := inClass (top 32) 0
abbrev s_Picture_put : Stmt := inClass (top 32) 1
abbrev s_Picture_take : Stmt := inClass (top 32) 2
abbrev s_Picture_move : Stmt := inClass (top 32) 3
abbrev s_Picture_points : Stmt := inClass (top 32) 6
abbrev s_Picture_seats : Stmt := inClass (top 32) 7
abbrev s_Picture_place_of : Stmt := inClass (top 32) 8
abbrev s_Picture_check_name : Stmt := inClass (top 32) 15
abbrev s_Picture_check_cell : Stmt := inClass (top 32) 16
abbrev s_Picture_check_lines : Stmt := inClass (top 32) 17
abbrev s_law_cell : Stmt := top 34
abbrev s_law_mixed : Stmt := top 35
abbrev s_law_told : Stmt := top 36
abbrev s_law_told_more : Stmt := top 37
abbrev s_law_filled : Stmt := top 38
abbrev s_law_deed : Stmt := top 39
abbrev s_law_cell_of : Stmt := top 40
abbrev s_law_is_whole : Stmt := top 41
abbrev s_law_due : Stmt := top 42
abbrev s_law_done : Stmt := top 43
abbrev s_law_again : Stmt := top 44
abbrev s_law_step : Stmt := top 45
abbrev s_law : Stmt := top 46
set_option genInjectivity false in
set_option genSizeOf false in
structure Adr where
  f_NoCell_init : Addr
  d_NoCell_init : FuncData
  f_NoPoint_init : Addr
  d_NoPoint_init : FuncData
  f_SameColumn_init : Addr
  d_SameColumn_init : FuncData
  f_SameRow_init : Addr
  d_SameRow_init : FuncData
  f_is_whole : Addr
  d_is_whole : FuncData
  f_is_name : Addr
  d_is_name : FuncData
  f_Picture_init : Addr
  d_Picture_init : FuncData
  f_Picture_put : Addr
  d_Picture_put : FuncData
  T_Picture_put : Addr
  f_Picture_take : Addr
  d_Picture_take : FuncData
  f_Picture_move : Addr
  d_Picture_move : FuncData
  f_Picture_points : Addr
  d_Picture_points : FuncData
  f_Picture_seats : Addr
  d_Picture_seats : FuncData
  f_Picture_place_of : Addr
  d_Picture_place_of : FuncData
  f_Picture_check_name : Addr
  d_Picture_check_name : FuncData
  f_Picture_check_cell : Addr
  d_Picture_check_cell : FuncData
  f_Picture_check_lines : Addr
  d_Picture_check_lines : FuncData
  f_law_cell : Addr
  d_law_cell : FuncData
  f_law_mixed : Addr
  d_law_mixed : FuncData
  f_law_told : Addr
  d_law_told : FuncData
  f_law_told_more : Addr
  d_law_told_more : FuncData
  f_law_filled : Addr
  d_law_filled : FuncData
  f_law_deed : Addr
  d_law_deed : FuncData
  f_law_cell_of : Addr
  d_law_cell_of : FuncData
  f_law_is_whole : Addr
  d_law_is_whole : FuncData
  f_law_due : Addr
  d_law_due : FuncData
  f_law_done : Addr
  d_law_done : FuncData
  f_law_again : Addr
  d_law_again : FuncData
  f_law_step : Addr
  d_law_step : FuncData
  f_law : Addr
  d_law : FuncData
  C_RimError : Addr
  C_NoSize : Addr
  C_NoName : Addr
  C_NoCell : Addr
  C_NoSides : Addr
  C_NoWindow : Addr
  C_OldPoint : Addr
  C_NoPoint : Addr
  C_TooMany : Addr
  C_SameColumn : Addr
  C_SameRow : Addr
  C_NoSide : Addr
  C_NoRow : Addr
  C_OldSeat : Addr
  C_NoSeat : Addr
  C_NoRoom : Addr
  C_NoNotes : Addr
  C_TooFull : Addr
  C_TooTall : Addr
  C_BadLine : Addr
  C_BadDrawing : Addr
  C_NoLine : Addr
  C_Picture : Addr
  D_MIRRORED_SIDES : Addr
structure Txt (w : World) (K : PySem.W.Frag) (mg : Str → Option Value) (t : Adr) : Prop where
  g_RimError : mg "RimError" = some (.ref t.C_RimError)
  g_NoSize : mg "NoSize" = some (.ref t.C_NoSize)
  g_NoName : mg "NoName" = some (.ref t.C_NoName)
  g_NoCell : mg "NoCell" = some (.ref t.C_NoCell)
  g_NoSides : mg "NoSides" = some (.ref t.C_NoSides)
  g_NoWindow : mg "NoWindow" = some (.ref t.C_NoWindow)
  g_OldPoint : mg "OldPoint" = some (.ref t.C_OldPoint)
  g_NoPoint : mg "NoPoint" = some (.ref t.C_NoPoint)
  g_TooMany : mg "TooMany" = some (.ref t.C_TooMany)
  g_SameColumn : mg "SameColumn" = some (.ref t.C_SameColumn)
  g_SameRow : mg "SameRow" = some (.ref t.C_SameRow)
  g_NoSide : mg "NoSide" = some (.ref t.C_NoSide)
  g_NoRow : mg "NoRow" = some (.ref t.C_NoRow)
  g_OldSeat : mg "OldSeat" = some (.ref t.C_OldSeat)
  g_NoSeat : mg "NoSeat" = some (.ref t.C_NoSeat)
  g_NoRoom : mg "NoRoom" = some (.ref t.C_NoRoom)
  g_NoNotes : mg "NoNotes" = some (.ref t.C_NoNotes)
  g_TooFull : mg "TooFull" = some (.ref t.C_TooFull)
  g_TooTall : mg "TooTall" = some (.ref t.C_TooTall)
  g_BadLine : mg "BadLine" = some (.ref t.C_BadLine)
  g_BadDrawing : mg "BadDrawing" = some (.ref t.C_BadDrawing)
  g_NoLine : mg "NoLine" = some (.ref t.C_NoLine)
  g_Picture : mg "Picture" = some (.ref t.C_Picture)
  F_NoCell_init : Fun K "__init__" "NoCell.__init__" s_NoCell_init t.f_NoCell_init t.d_NoCell_init
  b_NoCell_init : Binds K t.d_NoCell_init ["self", "x", "y"] []
  F_NoPoint_init : Fun K "__init__" "NoPoint.__init__" s_NoPoint_init t.f_NoPoint_init t.d_NoPoint_init
  b_NoPoint_init : Binds K t.d_NoPoint_init ["self", "name"] []
  F_SameColumn_init : Fun K "__init__" "SameColumn.__init__" s_SameColumn_init t.f_SameColumn_init t.d_SameColumn_init
  b_SameColumn_init : Binds K t.d_SameColumn_init ["self", "name"] []
  F_SameRow_init : Fun K "__init__" "SameRow.__init__" s_SameRow_init t.f_SameRow_init t.d_SameRow_init
  b_SameRow_init : Binds K t.d_SameRow_init ["self", "name"] []
  g_is_whole : mg "is_whole" = some (.ref t.f_is_whole)
  F_is_whole : Fun K "is_whole" "is_whole" s_is_whole t.f_is_whole t.d_is_whole
  b_is_whole : Binds K t.d_is_whole ["thing", "low", "high"] []
  g_is_name : mg "is_name" = some (.ref t.f_is_name)
  F_is_name : Fun K "is_name" "is_name" s_is_name t.f_is_name t.d_is_name
  b_is_name : Binds K t.d_is_name ["thing"] []
  F_Picture_init : Fun K "__init__" "Picture.__init__" s_Picture_init t.f_Picture_init t.d_Picture_init
  b_Picture_init : Binds K t.d_Picture_init ["self", "width", "height"] []
  F_Picture_put : FunD K "put" "Picture.put" s_Picture_put t.T_Picture_put t.f_Picture_put t.d_Picture_put
  b_Picture_put : Binds K t.d_Picture_put ["self", "name", "x", "y", "sides", "low", "high"] []
  F_Picture_take : Fun K "take" "Picture.take" s_Picture_take t.f_Picture_take t.d_Picture_take
  b_Picture_take : Binds K t.d_Picture_take ["self", "name"] []
  F_Picture_move : Fun K "move" "Picture.move" s_Picture_move t.f_Picture_move t.d_Picture_move
  b_Picture_move : Binds K t.d_Picture_move ["self", "name", "x", "y"] []
  F_Picture_points : Fun K "points" "Picture.points" s_Picture_points t.f_Picture_points t.d_Picture_points
  b_Picture_points : Binds K t.d_Picture_points ["self"] []
  F_Picture_seats : Fun K "seats" "Picture.seats" s_Picture_seats t.f_Picture_seats t.d_Picture_seats
  b_Picture_seats : Binds K t.d_Picture_seats ["self"] []
  F_Picture_place_of : Fun K "place_of" "Picture.place_of" s_Picture_place_of t.f_Picture_place_of t.d_Picture_place_of
  b_Picture_place_of : Binds K t.d_Picture_place_of ["self", "name"] []
  F_Picture_check_name : Fun K "check_name" "Picture.check_name" s_Picture_check_name t.f_Picture_check_name t.d_Picture_check_name
  b_Picture_check_name : Binds K t.d_Picture_check_name ["self", "name"] []
  F_Picture_check_cell : Fun K "check_cell" "Picture.check_cell" s_Picture_check_cell t.f_Picture_check_cell t.d_Picture_check_cell
  b_Picture_check_cell : Binds K t.d_Picture_check_cell ["self", "x", "y"] []
  F_Picture_check_lines : Fun K "check_lines" "Picture.check_lines" s_Picture_check_lines t.f_Picture_check_lines t.d_Picture_check_lines
  b_Picture_check_lines : Binds K t.d_Picture_check_lines ["self", "name", "x", "y"] []
  g_law_cell : mg "_law_cell" = some (.ref t.f_law_cell)
  F_law_cell : Fun K "_law_cell" "_law_cell" s_law_cell t.f_law_cell t.d_law_cell
  b_law_cell : Binds K t.d_law_cell ["_law_script", "_law_k"] []
  g_law_mixed : mg "_law_mixed" = some (.ref t.f_law_mixed)
  F_law_mixed : Fun K "_law_mixed" "_law_mixed" s_law_mixed t.f_law_mixed t.d_law_mixed
  b_law_mixed : Binds K t.d_law_mixed ["_law_cell_here", "_law_k"] []
  g_law_told : mg "_law_told" = some (.ref t.f_law_told)
  F_law_told : Fun K "_law_told" "_law_told" s_law_told t.f_law_told t.d_law_told
  b_law_told : Binds K t.d_law_told ["_law_e"] []
  g_law_told_more : mg "_law_told_more" = some (.ref t.f_law_told_more)
  F_law_told_more : Fun K "_law_told_more" "_law_told_more" s_law_told_more t.f_law_told_more t.d_law_told_more
  b_law_told_more : Binds K t.d_law_told_more ["_law_e"] []
  g_law_filled : mg "_law_filled" = some (.ref t.f_law_filled)
  F_law_filled : Fun K "_law_filled" "_law_filled" s_law_filled t.f_law_filled t.d_law_filled
  b_law_filled : Binds K t.d_law_filled ["_law_cell_here", "_law_most"] []
  g_law_deed : mg "_law_deed" = some (.ref t.f_law_deed)
  F_law_deed : Fun K "_law_deed" "_law_deed" s_law_deed t.f_law_deed t.d_law_deed
  b_law_deed : Binds K t.d_law_deed ["_law_cell_here", "_law_k", "_law_rows"] []
  g_law_cell_of : mg "_law_cell_of" = some (.ref t.f_law_cell_of)
  F_law_cell_of : Fun K "_law_cell_of" "_law_cell_of" s_law_cell_of t.f_law_cell_of t.d_law_cell_of
  b_law_cell_of : Binds K t.d_law_cell_of ["_law_deed_here", "_law_size", "_law_rows"] []
  g_law_is_whole : mg "_law_is_whole" = some (.ref t.f_law_is_whole)
  F_law_is_whole : Fun K "_law_is_whole" "_law_is_whole" s_law_is_whole t.f_law_is_whole t.d_law_is_whole
  b_law_is_whole : Binds K t.d_law_is_whole ["_law_thing", "_law_low", "_law_high"] []
  g_law_due : mg "_law_due" = some (.ref t.f_law_due)
  F_law_due : Fun K "_law_due" "_law_due" s_law_due t.f_law_due t.d_law_due
  b_law_due : Binds K t.d_law_due ["_law_size", "_law_rows", "_law_deed_here", "_law_x", "_law_y"] []
  g_law_done : mg "_law_done" = some (.ref t.f_law_done)
  F_law_done : Fun K "_law_done" "_law_done" s_law_done t.f_law_done t.d_law_done
  b_law_done : Binds K t.d_law_done ["_law_picture", "_law_deed_here", "_law_x", "_law_y"] []
  g_law_again : mg "_law_again" = some (.ref t.f_law_again)
  F_law_again : Fun K "_law_again" "_law_again" s_law_again t.f_law_again t.d_law_again
  b_law_again : Binds K t.d_law_again ["_law_picture", "_law_rows", "_law_name"] []
  g_law_step : mg "_law_step" = some (.ref t.f_law_step)
  F_law_step : Fun K "_law_step" "_law_step" s_law_step t.f_law_step t.d_law_step
  b_law_step : Binds K t.d_law_step ["_law_picture", "_law_empty", "_law_size", "_law_rows", "_law_deed_here"] []
  g_law : mg "law" = some (.ref t.f_law)
  F_law : Fun K "law" "law" s_law t.f_law t.d_law
  b_law : Binds K t.d_law ["_law_script"] []
  x_RimError : XC K t.C_RimError
  mk_RimError : xmkIn K t.C_RimError = true
  x_NoSize : XC K t.C_NoSize
  mk_NoSize : xmkIn K t.C_NoSize = true
  x_NoName : XC K t.C_NoName
  mk_NoName : xmkIn K t.C_NoName = true
  x_NoCell : XC K t.C_NoCell
  mk_NoCell : xmkIn K t.C_NoCell = true
  k_NoCell : XMk K t.C_NoCell t.f_NoCell_init
  x_NoSides : XC K t.C_NoSides
  mk_NoSides : xmkIn K t.C_NoSides = true
  x_NoWindow : XC K t.C_NoWindow
  mk_NoWindow : xmkIn K t.C_NoWindow = true
  x_OldPoint : XC K t.C_OldPoint
  mk_OldPoint : xmkIn K t.C_OldPoint = true
  x_NoPoint : XC K t.C_NoPoint
  mk_NoPoint : xmkIn K t.C_NoPoint = true
  k_NoPoint : XMk K t.C_NoPoint t.f_NoPoint_init
  x_TooMany : XC K t.C_TooMany
  mk_TooMany : xmkIn K t.C_TooMany = true
  x_SameColumn : XC K t.C_SameColumn
  mk_SameColumn : xmkIn K t.C_SameColumn = true
  k_SameColumn : XMk K t.C_SameColumn t.f_SameColumn_init
  x_SameRow : XC K t.C_SameRow
  mk_SameRow : xmkIn K t.C_SameRow = true
  k_SameRow : XMk K t.C_SameRow t.f_SameRow_init
  x_NoSide : XC K t.C_NoSide
  mk_NoSide : xmkIn K t.C_NoSide = true
  x_NoRow : XC K t.C_NoRow
  mk_NoRow : xmkIn K t.C_NoRow = true
  x_OldSeat : XC K t.C_OldSeat
  mk_OldSeat : xmkIn K t.C_OldSeat = true
  x_NoSeat : XC K t.C_NoSeat
  mk_NoSeat : xmkIn K t.C_NoSeat = true
  x_NoRoom : XC K t.C_NoRoom
  mk_NoRoom : xmkIn K t.C_NoRoom = true
  x_NoNotes : XC K t.C_NoNotes
  mk_NoNotes : xmkIn K t.C_NoNotes = true
  x_TooFull : XC K t.C_TooFull
  mk_TooFull : xmkIn K t.C_TooFull = true
  x_TooTall : XC K t.C_TooTall
  mk_TooTall : xmkIn K t.C_TooTall = true
  x_BadLine : XC K t.C_BadLine
  mk_BadLine : xmkIn K t.C_BadLine = true
  x_BadDrawing : XC K t.C_BadDrawing
  mk_BadDrawing : xmkIn K t.C_BadDrawing = true
  x_NoLine : XC K t.C_NoLine
  mk_NoLine : xmkIn K t.C_NoLine = true
  c_Picture : Cls K t.C_Picture
  ca_Picture : PySem.W.findIn K (.ref t.C_Picture) "__class__" = some (some (.builtin "object.__class__"))
  mo_Picture : PySem.W.mroIn K t.C_Picture (.type "object") = some true
  k_Picture : Mk K t.C_Picture t.f_Picture_init
  m_Picture_put : Meth K t.C_Picture "put" t.f_Picture_put
  m_Picture_take : Meth K t.C_Picture "take" t.f_Picture_take
  m_Picture_move : Meth K t.C_Picture "move" t.f_Picture_move
  m_Picture_points : Meth K t.C_Picture "points" t.f_Picture_points
  m_Picture_seats : Meth K t.C_Picture "seats" t.f_Picture_seats
  m_Picture_place_of : Meth K t.C_Picture "place_of" t.f_Picture_place_of
  m_Picture_check_name : Meth K t.C_Picture "check_name" t.f_Picture_check_name
  m_Picture_check_cell : Meth K t.C_Picture "check_cell" t.f_Picture_check_cell
  m_Picture_check_lines : Meth K t.C_Picture "check_lines" t.f_Picture_check_lines
  cg : PySem.W.specialIn K (.builtin "object.__class__") "__get__" = some (some (.builtin "getset_descriptor.__get__"))
  ct : PySem.W.takesIn K (.builtin "object.__class__") = some true
  n_Picture_placed : PySem.W.findIn K (.ref t.C_Picture) "placed" = some none
  n_Picture_height : PySem.W.findIn K (.ref t.C_Picture) "height" = some none
  n_Picture_width : PySem.W.findIn K (.ref t.C_Picture) "width" = some none
  n_Picture_opened : PySem.W.findIn K (.ref t.C_Picture) "opened" = some none
  n_NoPoint_row : PySem.W.findIn K (.ref t.C_NoPoint) "row" = some none
  n_NoPoint_side : PySem.W.findIn K (.ref t.C_NoPoint) "side" = some none
  n_NoPoint_name : PySem.W.findIn K (.ref t.C_NoPoint) "name" = some none
  n_NoPoint_high : PySem.W.findIn K (.ref t.C_NoPoint) "high" = some none
  n_NoPoint_low : PySem.W.findIn K (.ref t.C_NoPoint) "low" = some none
  n_NoPoint_sides : PySem.W.findIn K (.ref t.C_NoPoint) "sides" = some none
  n_NoPoint_y : PySem.W.findIn K (.ref t.C_NoPoint) "y" = some none
  n_NoPoint_x : PySem.W.findIn K (.ref t.C_NoPoint) "x" = some none
  n_NoCell_row : PySem.W.findIn K (.ref t.C_NoCell) "row" = some none
  n_NoCell_side : PySem.W.findIn K (.ref t.C_NoCell) "side" = some none
  n_NoCell_name : PySem.W.findIn K (.ref t.C_NoCell) "name" = some none
  n_NoCell_high : PySem.W.findIn K (.ref t.C_NoCell) "high" = some none
  n_NoCell_low : PySem.W.findIn K (.ref t.C_NoCell) "low" = some none
  n_NoCell_sides : PySem.W.findIn K (.ref t.C_NoCell) "sides" = some none
  n_NoCell_y : PySem.W.findIn K (.ref t.C_NoCell) "y" = some none
  n_NoCell_x : PySem.W.findIn K (.ref t.C_NoCell) "x" = some none
  n_SameColumn_row : PySem.W.findIn K (.ref t.C_SameColumn) "row" = some none
  n_SameColumn_side : PySem.W.findIn K (.ref t.C_SameColumn) "side" = some none
  n_SameColumn_name : PySem.W.findIn K (.ref t.C_SameColumn) "name" = some none
  n_SameColumn_high : PySem.W.findIn K (.ref t.C_SameColumn) "high" = some none
  n_SameColumn_low : PySem.W.findIn K (.ref t.C_SameColumn) "low" = some none
  n_SameColumn_sides : PySem.W.findIn K (.ref t.C_SameColumn) "sides" = some none
  n_SameColumn_y : PySem.W.findIn K (.ref t.C_SameColumn) "y" = some none
  n_SameColumn_x : PySem.W.findIn K (.ref t.C_SameColumn) "x" = some none
  n_SameRow_row : PySem.W.findIn K (.ref t.C_SameRow) "row" = some none
  n_SameRow_side : PySem.W.findIn K (.ref t.C_SameRow) "side" = some none
  n_SameRow_name : PySem.W.findIn K (.ref t.C_SameRow) "name" = some none
  n_SameRow_high : PySem.W.findIn K (.ref t.C_SameRow) "high" = some none
  n_SameRow_low : PySem.W.findIn K (.ref t.C_SameRow) "low" = some none
  n_SameRow_sides : PySem.W.findIn K (.ref t.C_SameRow) "sides" = some none
  n_SameRow_y : PySem.W.findIn K (.ref t.C_SameRow) "y" = some none
  n_SameRow_x : PySem.W.findIn K (.ref t.C_SameRow) "x" = some none
  n_ValueError : mg "ValueError" = none
  n_bool : mg "bool" = none
  n_int : mg "int" = none
  n_isinstance : mg "isinstance" = none
  n_len : mg "len" = none
  n_list : mg "list" = none
  n_min : mg "min" = none
  n_range : mg "range" = none
  n_sorted : mg "sorted" = none
  n_str : mg "str" = none
  n_tuple : mg "tuple" = none
  kit_NoPoint_NoName : PySem.W.kitOne K (.ref t.C_NoPoint) (.ref t.C_NoName) = some false
  kit_NoPoint_NoCell : PySem.W.kitOne K (.ref t.C_NoPoint) (.ref t.C_NoCell) = some false
  kit_NoPoint_NoSides : PySem.W.kitOne K (.ref t.C_NoPoint) (.ref t.C_NoSides) = some false
  kit_NoPoint_NoWindow : PySem.W.kitOne K (.ref t.C_NoPoint) (.ref t.C_NoWindow) = some false
  kit_NoPoint_OldPoint : PySem.W.kitOne K (.ref t.C_NoPoint) (.ref t.C_OldPoint) = some false
  kit_NoPoint_TooMany : PySem.W.kitOne K (.ref t.C_NoPoint) (.ref t.C_TooMany) = some false
  kit_NoPoint_SameColumn : PySem.W.kitOne K (.ref t.C_NoPoint) (.ref t.C_SameColumn) = some false
  kit_NoPoint_SameRow : PySem.W.kitOne K (.ref t.C_NoPoint) (.ref t.C_SameRow) = some false
  kit_NoPoint_NoPoint : PySem.W.kitOne K (.ref t.C_NoPoint) (.ref t.C_NoPoint) = some true
  kit_NoPoint_NoSide : PySem.W.kitOne K (.ref t.C_NoPoint) (.ref t.C_NoSide) = some false
  kit_NoPoint_NoRow : PySem.W.kitOne K (.ref t.C_NoPoint) (.ref t.C_NoRow) = some false
  kit_NoPoint_OldSeat : PySem.W.kitOne K (.ref t.C_NoPoint) (.ref t.C_OldSeat) = some false
  kit_NoPoint_NoSeat : PySem.W.kitOne K (.ref t.C_NoPoint) (.ref t.C_NoSeat) = some false
  kany_NoPoint : PySem.W.kitAny K (.ref t.C_NoPoint) [.ref t.C_NoSize, .ref t.C_NoRoom, .ref t.C_NoNotes, .ref t.C_TooFull, .ref t.C_TooTall, .ref t.C_BadLine, .ref t.C_BadDrawing, .ref t.C_NoLine] = some false
  kitv_NoPoint : PySem.W.kitOne K (.ref t.C_NoPoint) (.type "ValueError") = some true
  mro_NoPoint : PySem.W.mroIn K t.C_NoPoint (.ref t.C_RimError) = some true
  kit_NoCell_NoName : PySem.W.kitOne K (.ref t.C_NoCell) (.ref t.C_NoName) = some false
  kit_NoCell_NoCell : PySem.W.kitOne K (.ref t.C_NoCell) (.ref t.C_NoCell) = some true
  kit_NoCell_NoSides : PySem.W.kitOne K (.ref t.C_NoCell) (.ref t.C_NoSides) = some false
  kit_NoCell_NoWindow : PySem.W.kitOne K (.ref t.C_NoCell) (.ref t.C_NoWindow) = some false
  kit_NoCell_OldPoint : PySem.W.kitOne K (.ref t.C_NoCell) (.ref t.C_OldPoint) = some false
  kit_NoCell_TooMany : PySem.W.kitOne K (.ref t.C_NoCell) (.ref t.C_TooMany) = some false
  kit_NoCell_SameColumn : PySem.W.kitOne K (.ref t.C_NoCell) (.ref t.C_SameColumn) = some false
  kit_NoCell_SameRow : PySem.W.kitOne K (.ref t.C_NoCell) (.ref t.C_SameRow) = some false
  kit_NoCell_NoPoint : PySem.W.kitOne K (.ref t.C_NoCell) (.ref t.C_NoPoint) = some false
  kit_NoCell_NoSide : PySem.W.kitOne K (.ref t.C_NoCell) (.ref t.C_NoSide) = some false
  kit_NoCell_NoRow : PySem.W.kitOne K (.ref t.C_NoCell) (.ref t.C_NoRow) = some false
  kit_NoCell_OldSeat : PySem.W.kitOne K (.ref t.C_NoCell) (.ref t.C_OldSeat) = some false
  kit_NoCell_NoSeat : PySem.W.kitOne K (.ref t.C_NoCell) (.ref t.C_NoSeat) = some false
  kany_NoCell : PySem.W.kitAny K (.ref t.C_NoCell) [.ref t.C_NoSize, .ref t.C_NoRoom, .ref t.C_NoNotes, .ref t.C_TooFull, .ref t.C_TooTall, .ref t.C_BadLine, .ref t.C_BadDrawing, .ref t.C_NoLine] = some false
  kitv_NoCell : PySem.W.kitOne K (.ref t.C_NoCell) (.type "ValueError") = some true
  mro_NoCell : PySem.W.mroIn K t.C_NoCell (.ref t.C_RimError) = some true
  kit_SameColumn_NoName : PySem.W.kitOne K (.ref t.C_SameColumn) (.ref t.C_NoName) = some false
  kit_SameColumn_NoCell : PySem.W.kitOne K (.ref t.C_SameColumn) (.ref t.C_NoCell) = some false
  kit_SameColumn_NoSides : PySem.W.kitOne K (.ref t.C_SameColumn) (.ref t.C_NoSides) = some false
  kit_SameColumn_NoWindow : PySem.W.kitOne K (.ref t.C_SameColumn) (.ref t.C_NoWindow) = some false
  kit_SameColumn_OldPoint : PySem.W.kitOne K (.ref t.C_SameColumn) (.ref t.C_OldPoint) = some false
  kit_SameColumn_TooMany : PySem.W.kitOne K (.ref t.C_SameColumn) (.ref t.C_TooMany) = some false
  kit_SameColumn_SameColumn : PySem.W.kitOne K (.ref t.C_SameColumn) (.ref t.C_SameColumn) = some true
  kit_SameColumn_SameRow : PySem.W.kitOne K (.ref t.C_SameColumn) (.ref t.C_SameRow) = some false
  kit_SameColumn_NoPoint : PySem.W.kitOne K (.ref t.C_SameColumn) (.ref t.C_NoPoint) = some false
  kit_SameColumn_NoSide : PySem.W.kitOne K (.ref t.C_SameColumn) (.ref t.C_NoSide) = some false
  kit_SameColumn_NoRow : PySem.W.kitOne K (.ref t.C_SameColumn) (.ref t.C_NoRow) = some false
  kit_SameColumn_OldSeat : PySem.W.kitOne K (.ref t.C_SameColumn) (.ref t.C_OldSeat) = some false
  kit_SameColumn_NoSeat : PySem.W.kitOne K (.ref t.C_SameColumn) (.ref t.C_NoSeat) = some false
  kany_SameColumn : PySem.W.kitAny K (.ref t.C_SameColumn) [.ref t.C_NoSize, .ref t.C_NoRoom, .ref t.C_NoNotes, .ref t.C_TooFull, .ref t.C_TooTall, .ref t.C_BadLine, .ref t.C_BadDrawing, .ref t.C_NoLine] = some false
  kitv_SameColumn : PySem.W.kitOne K (.ref t.C_SameColumn) (.type "ValueError") = some true
  mro_SameColumn : PySem.W.mroIn K t.C_SameColumn (.ref t.C_RimError) = some true
  kit_SameRow_NoName : PySem.W.kitOne K (.ref t.C_SameRow) (.ref t.C_NoName) = some false
  kit_SameRow_NoCell : PySem.W.kitOne K (.ref t.C_SameRow) (.ref t.C_NoCell) = some false
  kit_SameRow_NoSides : PySem.W.kitOne K (.ref t.C_SameRow) (.ref t.C_NoSides) = some false
  kit_SameRow_NoWindow : PySem.W.kitOne K (.ref t.C_SameRow) (.ref t.C_NoWindow) = some false
  kit_SameRow_OldPoint : PySem.W.kitOne K (.ref t.C_SameRow) (.ref t.C_OldPoint) = some false
  kit_SameRow_TooMany : PySem.W.kitOne K (.ref t.C_SameRow) (.ref t.C_TooMany) = some false
  kit_SameRow_SameColumn : PySem.W.kitOne K (.ref t.C_SameRow) (.ref t.C_SameColumn) = some false
  kit_SameRow_SameRow : PySem.W.kitOne K (.ref t.C_SameRow) (.ref t.C_SameRow) = some true
  kit_SameRow_NoPoint : PySem.W.kitOne K (.ref t.C_SameRow) (.ref t.C_NoPoint) = some false
  kit_SameRow_NoSide : PySem.W.kitOne K (.ref t.C_SameRow) (.ref t.C_NoSide) = some false
  kit_SameRow_NoRow : PySem.W.kitOne K (.ref t.C_SameRow) (.ref t.C_NoRow) = some false
  kit_SameRow_OldSeat : PySem.W.kitOne K (.ref t.C_SameRow) (.ref t.C_OldSeat) = some false
  kit_SameRow_NoSeat : PySem.W.kitOne K (.ref t.C_SameRow) (.ref t.C_NoSeat) = some false
  kany_SameRow : PySem.W.kitAny K (.ref t.C_SameRow) [.ref t.C_NoSize, .ref t.C_NoRoom, .ref t.C_NoNotes, .ref t.C_TooFull, .ref t.C_TooTall, .ref t.C_BadLine, .ref t.C_BadDrawing, .ref t.C_NoLine] = some false
  kitv_SameRow : PySem.W.kitOne K (.ref t.C_SameRow) (.type "ValueError") = some true
  mro_SameRow : PySem.W.mroIn K t.C_SameRow (.ref t.C_RimError) = some true
  v_MOST_ROWS : ∃ tk, mg "MOST_ROWS" = some (.int 16 tk)
  v_MOST_COLUMNS : ∃ tk, mg "MOST_COLUMNS" = some (.int 30 tk)
  v_MOST_POINTS : ∃ tk, mg "MOST_POINTS" = some (.int 12 tk)
  g_MIRRORED_SIDES : mg "MIRRORED_SIDES" = some (.ref t.D_MIRRORED_SIDES)
  D_MIRRORED_SIDES : GDict w K t.D_MIRRORED_SIDES [(.inr "left", .str "right"), (.inr "right", .str "left"), (.inr "both", .str "both")]
theorem txt_mk {w : World} {K : PySem.W.Frag} {h : Heap} {mg : Str → Option Value} (X : K.In h) (G : h.Ns mainGlobals mg) {C_RimError C_NoSize C_NoName C_NoCell C_NoSides C_NoWindow C_OldPoint C_NoPoint C_TooMany C_SameColumn C_SameRow C_NoSide C_NoRow C_OldSeat C_NoSeat C_NoRoom C_NoNotes C_TooFull C_TooTall C_BadLine C_BadDrawing C_NoLine C_Picture f_NoCell_init f_NoPoint_init f_SameColumn_init f_SameRow_init f_is_whole f_is_name f_Picture_init f_Picture_put T_Picture_put f_Picture_take f_Picture_move f_Picture_points f_Picture_seats f_Picture_place_of f_Picture_check_name f_Picture_check_cell f_Picture_check_lines f_law_cell f_law_mixed f_law_told f_law_told_more f_law_filled f_law_deed f_law_cell_of f_law_is_whole f_law_due f_law_done f_law_again f_law_step f_law : Addr} {oc_NoCell_init kv_NoCell_init dc_NoCell_init pm_NoCell_init cd_NoCell_init ct_NoCell_init : Value} {od_NoCell_init an_NoCell_init : Option Addr} {sl_NoCell_init : Array (Option Value)} {oc_NoPoint_init kv_NoPoint_init dc_NoPoint_init pm_NoPoint_init cd_NoPoint_init ct_NoPoint_init : Value} {od_NoPoint_init an_NoPoint_init : Option Addr} {sl_NoPoint_init : Array (Option Value)} {oc_SameColumn_init kv_SameColumn_init dc_SameColumn_init pm_SameColumn_init cd_SameColumn_init ct_SameColumn_init : Value} {od_SameColumn_init an_SameColumn_init : Option Addr} {sl_SameColumn_init : Array (Option Value)} {oc_SameRow_init kv_SameRow_init dc_SameRow_init pm_SameRow_init cd_SameRow_init ct_SameRow_init : Value} {od_SameRow_init an_SameRow_init : Option Addr} {sl_SameRow_init : Array (Option Value)} {oc_is_whole kv_is_whole dc_is_whole pm_is_whole cd_is_whole ct_is_whole : Value} {od_is_whole an_is_whole : Option Addr} {sl_is_whole : Array (Option Value)} {oc_is_name kv_is_name dc_is_name pm_is_name cd_is_name ct_is_name : Value} {od_is_name an_is_name : Option Addr} {sl_is_name : Array (Option Value)} {oc_Picture_init kv_Picture_init dc_Picture_init pm_Picture_init cd_Picture_init ct_Picture_init : Value} {od_Picture_init an_Picture_init : Option Addr} {sl_Picture_init : Array (Option Value)} {oc_Picture_put kv_Picture_put dc_Picture_put pm_Picture_put cd_Picture_put ct_Picture_put : Value} {od_Picture_put an_Picture_put : Option Addr} {sl_Picture_put : Array (Option Value)} {oc_Picture_take kv_Picture_take dc_Picture_take pm_Picture_take cd_Picture_take ct_Picture_take : Value} {od_Picture_take an_Picture_take : Option Addr} {sl_Picture_take : Array (Option Value)} {oc_Picture_move kv_Picture_move dc_Picture_move pm_Picture_move cd_Picture_move ct_Picture_move : Value} {od_Picture_move an_Picture_move : Option Addr} {sl_Picture_move : Array (Option Value)} {oc_Picture_points kv_Picture_points dc_Picture_points pm_Picture_points cd_Picture_points ct_Picture_points : Value} {od_Picture_points an_Picture_points : Option Addr} {sl_Picture_points : Array (Option Value)} {oc_Picture_seats kv_Picture_seats dc_Picture_seats pm_Picture_seats cd_Picture_seats ct_Picture_seats : Value} {od_Picture_seats an_Picture_seats : Option Addr} {sl_Picture_seats : Array (Option Value)} {oc_Picture_place_of kv_Picture_place_of dc_Picture_place_of pm_Picture_place_of cd_Picture_place_of ct_Picture_place_of : Value} {od_Picture_place_of an_Picture_place_of : Option Addr} {sl_Picture_place_of : Array (Option Value)} {oc_Picture_check_name kv_Picture_check_name dc_Picture_check_name pm_Picture_check_name cd_Picture_check_name ct_Picture_check_name : Value} {od_Picture_check_name an_Picture_check_name : Option Addr} {sl_Picture_check_name : Array (Option Value)} {oc_Picture_check_cell kv_Picture_check_cell dc_Picture_check_cell pm_Picture_check_cell cd_Picture_check_cell ct_Picture_check_cell : Value} {od_Picture_check_cell an_Picture_check_cell : Option Addr} {sl_Picture_check_cell : Array (Option Value)} {oc_Picture_check_lines kv_Picture_check_lines dc_Picture_check_lines pm_Picture_check_lines cd_Picture_check_lines ct_Picture_check_lines : Value} {od_Picture_check_lines an_Picture_check_lines : Option Addr} {sl_Picture_check_lines : Array (Option Value)} {oc_law_cell kv_law_cell dc_law_cell pm_law_cell cd_law_cell ct_law_cell : Value} {od_law_cell an_law_cell : Option Addr} {sl_law_cell : Array (Option Value)} {oc_law_mixed kv_law_mixed dc_law_mixed pm_law_mixed cd_law_mixed ct_law_mixed : Value} {od_law_mixed an_law_mixed : Option Addr} {sl_law_mixed : Array (Option Value)} {oc_law_told kv_law_told dc_law_told pm_law_told cd_law_told ct_law_told : Value} {od_law_told an_law_told : Option Addr} {sl_law_told : Array (Option Value)} {oc_law_told_more kv_law_told_more dc_law_told_more pm_law_told_more cd_law_told_more ct_law_told_more : Value} {od_law_told_more an_law_told_more : Option Addr} {sl_law_told_more : Array (Option Value)} {oc_law_filled kv_law_filled dc_law_filled pm_law_filled cd_law_filled ct_law_filled : Value} {od_law_filled an_law_filled : Option Addr} {sl_law_filled : Array (Option Value)} {oc_law_deed kv_law_deed dc_law_deed pm_law_deed cd_law_deed ct_law_deed : Value} {od_law_deed an_law_deed : Option Addr} {sl_law_deed : Array (Option Value)} {oc_law_cell_of kv_law_cell_of dc_law_cell_of pm_law_cell_of cd_law_cell_of ct_law_cell_of : Value} {od_law_cell_of an_law_cell_of : Option Addr} {sl_law_cell_of : Array (Option Value)} {oc_law_is_whole kv_law_is_whole dc_law_is_whole pm_law_is_whole cd_law_is_whole ct_law_is_whole : Value} {od_law_is_whole an_law_is_whole : Option Addr} {sl_law_is_whole : Array (Option Value)} {oc_law_due kv_law_due dc_law_due pm_law_due cd_law_due ct_law_due : Value} {od_law_due an_law_due : Option Addr} {sl_law_due : Array (Option Value)} {oc_law_done kv_law_done dc_law_done pm_law_done cd_law_done ct_law_done : Value} {od_law_done an_law_done : Option Addr} {sl_law_done : Array (Option Value)} {oc_law_again kv_law_again dc_law_again pm_law_again cd_law_again ct_law_again : Value} {od_law_again an_law_again : Option Addr} {sl_law_again : Array (Option Value)} {oc_law_step kv_law_step dc_law_step pm_law_step cd_law_step ct_law_step : Value} {od_law_step an_law_step : Option Addr} {sl_law_step : Array (Option Value)} {oc_law kv_law dc_law pm_law cd_law ct_law : Value} {od_law an_law : Option Addr} {sl_law : Array (Option Value)} {tk0_Picture_put : Tok} {tk1_Picture_put : Tok} {toc_Picture_put : Value} {tod_Picture_put : Option Addr} {tn_Picture_put : Nat} {tsl_Picture_put : Array (Option Value)} {tkc_MOST_ROWS : Tok} {tkc_MOST_COLUMNS : Tok} {tkc_MOST_POINTS : Tok} {D_MIRRORED_SIDES : Addr} {ta0_MIRRORED_SIDES tb0_MIRRORED_SIDES : Tok} {ta1_MIRRORED_SIDES tb1_MIRRORED_SIDES : Tok} {ta2_MIRRORED_SIDES tb2_MIRRORED_SIDES : Tok} {ep_MIRRORED_SIDES : Nat}
    (g_RimError : PySem.W.nsIn K mainGlobals "RimError" = some (some (.ref C_RimError)))
    (g_NoSize : PySem.W.nsIn K mainGlobals "NoSize" = some (some (.ref C_NoSize)))
    (g_NoName : PySem.W.nsIn K mainGlobals "NoName" = some (some (.ref C_NoName)))
    (g_NoCell : PySem.W.nsIn K mainGlobals "NoCell" = some (some (.ref C_NoCell)))
    (g_NoSides : PySem.W.nsIn K mainGlobals "NoSides" = some (some (.ref C_NoSides)))
    (g_NoWindow : PySem.W.nsIn K mainGlobals "NoWindow" = some (some (.ref C_NoWindow)))
    (g_OldPoint : PySem.W.nsIn K mainGlobals "OldPoint" = some (some (.ref C_OldPoint)))
    (g_NoPoint : PySem.W.nsIn K mainGlobals "NoPoint" = some (some (.ref C_NoPoint)))
    (g_TooMany : PySem.W.nsIn K mainGlobals "TooMany" = some (some (.ref C_TooMany)))
    (g_SameColumn : PySem.W.nsIn K mainGlobals "SameColumn" = some (some (.ref C_SameColumn)))
    (g_SameRow : PySem.W.nsIn K mainGlobals "SameRow" = some (some (.ref C_SameRow)))
    (g_NoSide : PySem.W.nsIn K mainGlobals "NoSide" = some (some (.ref C_NoSide)))
    (g_NoRow : PySem.W.nsIn K mainGlobals "NoRow" = some (some (.ref C_NoRow)))
    (g_OldSeat : PySem.W.nsIn K mainGlobals "OldSeat" = some (some (.ref C_OldSeat)))
    (g_NoSeat : PySem.W.nsIn K mainGlobals "NoSeat" = some (some (.ref C_NoSeat)))
    (g_NoRoom : PySem.W.nsIn K mainGlobals "NoRoom" = some (some (.ref C_NoRoom)))
    (g_NoNotes : PySem.W.nsIn K mainGlobals "NoNotes" = some (some (.ref C_NoNotes)))
    (g_TooFull : PySem.W.nsIn K mainGlobals "TooFull" = some (some (.ref C_TooFull)))
    (g_TooTall : PySem.W.nsIn K mainGlobals "TooTall" = some (some (.ref C_TooTall)))
    (g_BadLine : PySem.W.nsIn K mainGlobals "BadLine" = some (some (.ref C_BadLine)))
    (g_BadDrawing : PySem.W.nsIn K mainGlobals "BadDrawing" = some (some (.ref C_BadDrawing)))
    (g_NoLine : PySem.W.nsIn K mainGlobals "NoLine" = some (some (.ref C_NoLine)))
    (g_Picture : PySem.W.nsIn K mainGlobals "Picture" = some (some (.ref C_Picture)))
    (a_NoCell_init : PySem.W.findIn K (.ref C_NoCell) "__init__" = some (some (.ref f_NoCell_init)))
    (l_NoCell_init : K.lookup f_NoCell_init = some ⟨oc_NoCell_init, od_NoCell_init, .func (PySem.W.fnOf "__init__" "NoCell.__init__" (defArgs s_NoCell_init) (defBody s_NoCell_init) (defScope s_NoCell_init) .none kv_NoCell_init dc_NoCell_init pm_NoCell_init an_NoCell_init cd_NoCell_init ct_NoCell_init), sl_NoCell_init⟩)
    (c_NoCell_init : PySem.W.codeIn K cd_NoCell_init "NoCell.__init__" = true)
    (k_NoCell_init : PySem.W.keepIn K (.ref f_NoCell_init) = true)
    (i_NoCell_init : PySem.W.isFn K (.ref f_NoCell_init) = true)
    (a_NoPoint_init : PySem.W.findIn K (.ref C_NoPoint) "__init__" = some (some (.ref f_NoPoint_init)))
    (l_NoPoint_init : K.lookup f_NoPoint_init = some ⟨oc_NoPoint_init, od_NoPoint_init, .func (PySem.W.fnOf "__init__" "NoPoint.__init__" (defArgs s_NoPoint_init) (defBody s_NoPoint_init) (defScope s_NoPoint_init) .none kv_NoPoint_init dc_NoPoint_init pm_NoPoint_init an_NoPoint_init cd_NoPoint_init ct_NoPoint_init), sl_NoPoint_init⟩)
    (c_NoPoint_init : PySem.W.codeIn K cd_NoPoint_init "NoPoint.__init__" = true)
    (k_NoPoint_init : PySem.W.keepIn K (.ref f_NoPoint_init) = true)
    (i_NoPoint_init : PySem.W.isFn K (.ref f_NoPoint_init) = true)
    (a_SameColumn_init : PySem.W.findIn K (.ref C_SameColumn) "__init__" = some (some (.ref f_SameColumn_init)))
    (l_SameColumn_init : K.lookup f_SameColumn_init = some ⟨oc_SameColumn_init, od_SameColumn_init, .func (PySem.W.fnOf "__init__" "SameColumn.__init__" (defArgs s_SameColumn_init) (defBody s_SameColumn_init) (defScope s_SameColumn_init) .none kv_SameColumn_init dc_SameColumn_init pm_SameColumn_init an_SameColumn_init cd_SameColumn_init ct_SameColumn_init), sl_SameColumn_init⟩)
    (c_SameColumn_init : PySem.W.codeIn K cd_SameColumn_init "SameColumn.__init__" = true)
    (k_SameColumn_init : PySem.W.keepIn K (.ref f_SameColumn_init) = true)
    (i_SameColumn_init : PySem.W.isFn K (.ref f_SameColumn_init) = true)
    (a_SameRow_init : PySem.W.findIn K (.ref C_SameRow) "__init__" = some (some (.ref f_SameRow_init)))
    (l_SameRow_init : K.lookup f_SameRow_init = some ⟨oc_SameRow_init, od_SameRow_init, .func (PySem.W.fnOf "__init__" "SameRow.__init__" (defArgs s_SameRow_init) (defBody s_SameRow_init) (defScope s_SameRow_init) .none kv_SameRow_init dc_SameRow_init pm_SameRow_init an_SameRow_init cd_SameRow_init ct_SameRow_init), sl_SameRow_init⟩)
    (c_SameRow_init : PySem.W.codeIn K cd_SameRow_init "SameRow.__init__" = true)
    (k_SameRow_init : PySem.W.keepIn K (.ref f_SameRow_init) = true)
    (i_SameRow_init : PySem.W.isFn K (.ref f_SameRow_init) = true)
    (a_is_whole : PySem.W.nsIn K mainGlobals "is_whole" = some (some (.ref f_is_whole)))
    (l_is_whole : K.lookup f_is_whole = some ⟨oc_is_whole, od_is_whole, .func (PySem.W.fnOf "is_whole" "is_whole" (defArgs s_is_whole) (defBody s_is_whole) (defScope s_is_whole) .none kv_is_whole dc_is_whole pm_is_whole an_is_whole cd_is_whole ct_is_whole), sl_is_whole⟩)
    (c_is_whole : PySem.W.codeIn K cd_is_whole "is_whole" = true)
    (k_is_whole : PySem.W.keepIn K (.ref f_is_whole) = true)
    (i_is_whole : PySem.W.isFn K (.ref f_is_whole) = true)
    (a_is_name : PySem.W.nsIn K mainGlobals "is_name" = some (some (.ref f_is_name)))
    (l_is_name : K.lookup f_is_name = some ⟨oc_is_name, od_is_name, .func (PySem.W.fnOf "is_name" "is_name" (defArgs s_is_name) (defBody s_is_name) (defScope s_is_name) .none kv_is_name dc_is_name pm_is_name an_is_name cd_is_name ct_is_name), sl_is_name⟩)
    (c_is_name : PySem.W.codeIn K cd_is_name "is_name" = true)
    (k_is_name : PySem.W.keepIn K (.ref f_is_name) = true)
    (i_is_name : PySem.W.isFn K (.ref f_is_name) = true)
    (a_Picture_init : PySem.W.findIn K (.ref C_Picture) "__init__" = some (some (.ref f_Picture_init)))
    (l_Picture_init : K.lookup f_Picture_init = some ⟨oc_Picture_init, od_Picture_init, .func (PySem.W.fnOf "__init__" "Picture.__init__" (defArgs s_Picture_init) (defBody s_Picture_init) (defScope s_Picture_init) .none kv_Picture_init dc_Picture_init pm_Picture_init an_Picture_init cd_Picture_init ct_Picture_init), sl_Picture_init⟩)
    (c_Picture_init : PySem.W.codeIn K cd_Picture_init "Picture.__init__" = true)
    (k_Picture_init : PySem.W.keepIn K (.ref f_Picture_init) = true)
    (i_Picture_init : PySem.W.isFn K (.ref f_Picture_init) = true)
    (a_Picture_put : PySem.W.findIn K (.ref C_Picture) "put" = some (some (.ref f_Picture_put)))
    (l_Picture_put : K.lookup f_Picture_put = some ⟨oc_Picture_put, od_Picture_put, .func (PySem.W.fnOf "put" "Picture.put" (defArgs s_Picture_put) (defBody s_Picture_put) (defScope s_Picture_put) (.ref T_Picture_put) kv_Picture_put dc_Picture_put pm_Picture_put an_Picture_put cd_Picture_put ct_Picture_put), sl_Picture_put⟩)
    (c_Picture_put : PySem.W.codeIn K cd_Picture_put "Picture.put" = true)
    (k_Picture_put : PySem.W.keepIn K (.ref f_Picture_put) = true)
    (i_Picture_put : PySem.W.isFn K (.ref f_Picture_put) = true)
    (t_Picture_put : K.lookup T_Picture_put = some ⟨toc_Picture_put, tod_Picture_put, .seq #[.str "both" tk0_Picture_put, .int 1 tk1_Picture_put, .none] tn_Picture_put, tsl_Picture_put⟩)
    (a_Picture_take : PySem.W.findIn K (.ref C_Picture) "take" = some (some (.ref f_Picture_take)))
    (l_Picture_take : K.lookup f_Picture_take = some ⟨oc_Picture_take, od_Picture_take, .func (PySem.W.fnOf "take" "Picture.take" (defArgs s_Picture_take) (defBody s_Picture_take) (defScope s_Picture_take) .none kv_Picture_take dc_Picture_take pm_Picture_take an_Picture_take cd_Picture_take ct_Picture_take), sl_Picture_take⟩)
    (c_Picture_take : PySem.W.codeIn K cd_Picture_take "Picture.take" = true)
    (k_Picture_take : PySem.W.keepIn K (.ref f_Picture_take) = true)
    (i_Picture_take : PySem.W.isFn K (.ref f_Picture_take) = true)
    (a_Picture_move : PySem.W.findIn K (.ref C_Picture) "move" = some (some (.ref f_Picture_move)))
    (l_Picture_move : K.lookup f_Picture_move = some ⟨oc_Picture_move, od_Picture_move, .func (PySem.W.fnOf "move" "Picture.move" (defArgs s_Picture_move) (defBody s_Picture_move) (defScope s_Picture_move) .none kv_Picture_move dc_Picture_move pm_Picture_move an_Picture_move cd_Picture_move ct_Picture_move), sl_Picture_move⟩)
    (c_Picture_move : PySem.W.codeIn K cd_Picture_move "Picture.move" = true)
    (k_Picture_move : PySem.W.keepIn K (.ref f_Picture_move) = true)
    (i_Picture_move : PySem.W.isFn K (.ref f_Picture_move) = true)
    (a_Picture_points : PySem.W.findIn K (.ref C_Picture) "points" = some (some (.ref f_Picture_points)))
    (l_Picture_points : K.lookup f_Picture_points = some ⟨oc_Picture_points, od_Picture_points, .func (PySem.W.fnOf "points" "Picture.points" (defArgs s_Picture_points) (defBody s_Picture_points) (defScope s_Picture_points) .none kv_Picture_points dc_Picture_points pm_Picture_points an_Picture_points cd_Picture_points ct_Picture_points), sl_Picture_points⟩)
    (c_Picture_points : PySem.W.codeIn K cd_Picture_points "Picture.points" = true)
    (k_Picture_points : PySem.W.keepIn K (.ref f_Picture_points) = true)
    (i_Picture_points : PySem.W.isFn K (.ref f_Picture_points) = true)
    (a_Picture_seats : PySem.W.findIn K (.ref C_Picture) "seats" = some (some (.ref f_Picture_seats)))
    (l_Picture_seats : K.lookup f_Picture_seats = some ⟨oc_Picture_seats, od_Picture_seats, .func (PySem.W.fnOf "seats" "Picture.seats" (defArgs s_Picture_seats) (defBody s_Picture_seats) (defScope s_Picture_seats) .none kv_Picture_seats dc_Picture_seats pm_Picture_seats an_Picture_seats cd_Picture_seats ct_Picture_seats), sl_Picture_seats⟩)
    (c_Picture_seats : PySem.W.codeIn K cd_Picture_seats "Picture.seats" = true)
    (k_Picture_seats : PySem.W.keepIn K (.ref f_Picture_seats) = true)
    (i_Picture_seats : PySem.W.isFn K (.ref f_Picture_seats) = true)
    (a_Picture_place_of : PySem.W.findIn K (.ref C_Picture) "place_of" = some (some (.ref f_Picture_place_of)))
    (l_Picture_place_of : K.lookup f_Picture_place_of = some ⟨oc_Picture_place_of, od_Picture_place_of, .func (PySem.W.fnOf "place_of" "Picture.place_of" (defArgs s_Picture_place_of) (defBody s_Picture_place_of) (defScope s_Picture_place_of) .none kv_Picture_place_of dc_Picture_place_of pm_Picture_place_of an_Picture_place_of cd_Picture_place_of ct_Picture_place_of), sl_Picture_place_of⟩)
    (c_Picture_place_of : PySem.W.codeIn K cd_Picture_place_of "Picture.place_of" = true)
    (k_Picture_place_of : PySem.W.keepIn K (.ref f_Picture_place_of) = true)
    (i_Picture_place_of : PySem.W.isFn K (.ref f_Picture_place_of) = true)
    (a_Picture_check_name : PySem.W.findIn K (.ref C_Picture) "check_name" = some (some (.ref f_Picture_check_name)))
    (l_Picture_check_name : K.lookup f_Picture_check_name = some ⟨oc_Picture_check_name, od_Picture_check_name, .func (PySem.W.fnOf "check_name" "Picture.check_name" (defArgs s_Picture_check_name) (defBody s_Picture_check_name) (defScope s_Picture_check_name) .none kv_Picture_check_name dc_Picture_check_name pm_Picture_check_name an_Picture_check_name cd_Picture_check_name ct_Picture_check_name), sl_Picture_check_name⟩)
    (c_Picture_check_name : PySem.W.codeIn K cd_Picture_check_name "Picture.check_name" = true)
    (k_Picture_check_name : PySem.W.keepIn K (.ref f_Picture_check_name) = true)
    (i_Picture_check_name : PySem.W.isFn K (.ref f_Picture_check_name) = true)
    (a_Picture_check_cell : PySem.W.findIn K (.ref C_Picture) "check_cell" = some (some (.ref f_Picture_check_cell)))
    (l_Picture_check_cell : K.lookup f_Picture_check_cell = some ⟨oc_Picture_check_cell, od_Picture_check_cell, .func (PySem.W.fnOf "check_cell" "Picture.check_cell" (defArgs s_Picture_check_cell) (defBody s_Picture_check_cell) (defScope s_Picture_check_cell) .none kv_Picture_check_cell dc_Picture_check_cell pm_Picture_check_cell an_Picture_check_cell cd_Picture_check_cell ct_Picture_check_cell), sl_Picture_check_cell⟩)
    (c_Picture_check_cell : PySem.W.codeIn K cd_Picture_check_cell "Picture.check_cell" = true)
    (k_Picture_check_cell : PySem.W.keepIn K (.ref f_Picture_check_cell) = true)
    (i_Picture_check_cell : PySem.W.isFn K (.ref f_Picture_check_cell) = true)
    (a_Picture_check_lines : PySem.W.findIn K (.ref C_Picture) "check_lines" = some (some (.ref f_Picture_check_lines)))
    (l_Picture_check_lines : K.lookup f_Picture_check_lines = some ⟨oc_Picture_check_lines, od_Picture_check_lines, .func (PySem.W.fnOf "check_lines" "Picture.check_lines" (defArgs s_Picture_check_lines) (defBody s_Picture_check_lines) (defScope s_Picture_check_lines) .none kv_Picture_check_lines dc_Picture_check_lines pm_Picture_check_lines an_Picture_check_lines cd_Picture_check_lines ct_Picture_check_lines), sl_Picture_check_lines⟩)
    (c_Picture_check_lines : PySem.W.codeIn K cd_Picture_check_lines "Picture.check_lines" = true)
    (k_Picture_check_lines : PySem.W.keepIn K (.ref f_Picture_check_lines) = true)
    (i_Picture_check_lines : PySem.W.isFn K (.ref f_Picture_check_lines) = true)
    (a_law_cell : PySem.W.nsIn K mainGlobals "_law_cell" = some (some (.ref f_law_cell)))
    (l_law_cell : K.lookup f_law_cell = some ⟨oc_law_cell, od_law_cell, .func (PySem.W.fnOf "_law_cell" "_law_cell" (defArgs s_law_cell) (defBody s_law_cell) (defScope s_law_cell) .none kv_law_cell dc_law_cell pm_law_cell an_law_cell cd_law_cell ct_law_cell), sl_law_cell⟩)
    (c_law_cell : PySem.W.codeIn K cd_law_cell "_law_cell" = true)
    (k_law_cell : PySem.W.keepIn K (.ref f_law_cell) = true)
    (i_law_cell : PySem.W.isFn K (.ref f_law_cell) = true)
    (a_law_mixed : PySem.W.nsIn K mainGlobals "_law_mixed" = some (some (.ref f_law_mixed)))
    (l_law_mixed : K.lookup f_law_mixed = some ⟨oc_law_mixed, od_law_mixed, .func (PySem.W.fnOf "_law_mixed" "_law_mixed" (defArgs s_law_mixed) (defBody s_law_mixed) (defScope s_law_mixed) .none kv_law_mixed dc_law_mixed pm_law_mixed an_law_mixed cd_law_mixed ct_law_mixed), sl_law_mixed⟩)
    (c_law_mixed : PySem.W.codeIn K cd_law_mixed "_law_mixed" = true)
    (k_law_mixed : PySem.W.keepIn K (.ref f_law_mixed) = true)
    (i_law_mixed : PySem.W.isFn K (.ref f_law_mixed) = true)
    (a_law_told : PySem.W.nsIn K mainGlobals "_law_told" = some (some (.ref f_law_told)))
    (l_law_told : K.lookup f_law_told = some ⟨oc_law_told, od_law_told, .func (PySem.W.fnOf "_law_told" "_law_told" (defArgs s_law_told) (defBody s_law_told) (defScope s_law_told) .none kv_law_told dc_law_told pm_law_told an_law_told cd_law_told ct_law_told), sl_law_told⟩)
    (c_law_told : PySem.W.codeIn K cd_law_told "_law_told" = true)
    (k_law_told : PySem.W.keepIn K (.ref f_law_told) = true)
    (i_law_told : PySem.W.isFn K (.ref f_law_told) = true)
    (a_law_told_more : PySem.W.nsIn K mainGlobals "_law_told_more" = some (some (.ref f_law_told_more)))
    (l_law_told_more : K.lookup f_law_told_more = some ⟨oc_law_told_more, od_law_told_more, .func (PySem.W.fnOf "_law_told_more" "_law_told_more" (defArgs s_law_told_more) (defBody s_law_told_more) (defScope s_law_told_more) .none kv_law_told_more dc_law_told_more pm_law_told_more an_law_told_more cd_law_told_more ct_law_told_more), sl_law_told_more⟩)
    (c_law_told_more : PySem.W.codeIn K cd_law_told_more "_law_told_more" = true)
    (k_law_told_more : PySem.W.keepIn K (.ref f_law_told_more) = true)
    (i_law_told_more : PySem.W.isFn K (.ref f_law_told_more) = true)
    (a_law_filled : PySem.W.nsIn K mainGlobals "_law_filled" = some (some (.ref f_law_filled)))
    (l_law_filled : K.lookup f_law_filled = some ⟨oc_law_filled, od_law_filled, .func (PySem.W.fnOf "_law_filled" "_law_filled" (defArgs s_law_filled) (defBody s_law_filled) (defScope s_law_filled) .none kv_law_filled dc_law_filled pm_law_filled an_law_filled cd_law_filled ct_law_filled), sl_law_filled⟩)
    (c_law_filled : PySem.W.codeIn K cd_law_filled "_law_filled" = true)
    (k_law_filled : PySem.W.keepIn K (.ref f_law_filled) = true)
    (i_law_filled : PySem.W.isFn K (.ref f_law_filled) = true)
    (a_law_deed : PySem.W.nsIn K mainGlobals "_law_deed" = some (some (.ref f_law_deed)))
    (l_law_deed : K.lookup f_law_deed = some ⟨oc_law_deed, od_law_deed, .func (PySem.W.fnOf "_law_deed" "_law_deed" (defArgs s_law_deed) (defBody s_law_deed) (defScope s_law_deed) .none kv_law_deed dc_law_deed pm_law_deed an_law_deed cd_law_deed ct_law_deed), sl_law_deed⟩)
    (c_law_deed : PySem.W.codeIn K cd_law_deed "_law_deed" = true)
    (k_law_deed : PySem.W.keepIn K (.ref f_law_deed) = true)
    (i_law_deed : PySem.W.isFn K (.ref f_law_deed) = true)
    (a_law_cell_of : PySem.W.nsIn K mainGlobals "_law_cell_of" = some (some (.ref f_law_cell_of)))
    (l_law_cell_of : K.lookup f_law_cell_of = some ⟨oc_law_cell_of, od_law_cell_of, .func (PySem.W.fnOf "_law_cell_of" "_law_cell_of" (defArgs s_law_cell_of) (defBody s_law_cell_of) (defScope s_law_cell_of) .none kv_law_cell_of dc_law_cell_of pm_law_cell_of an_law_cell_of cd_law_cell_of ct_law_cell_of), sl_law_cell_of⟩)
    (c_law_cell_of : PySem.W.codeIn K cd_law_cell_of "_law_cell_of" = true)
    (k_law_cell_of : PySem.W.keepIn K (.ref f_law_cell_of) = true)
    (i_law_cell_of : PySem.W.isFn K (.ref f_law_cell_of) = true)
    (a_law_is_whole : PySem.W.nsIn K mainGlobals "_law_is_whole" = some (some (.ref f_law_is_whole)))
    (l_law_is_whole : K.lookup f_law_is_whole = some ⟨oc_law_is_whole, od_law_is_whole, .func (PySem.W.fnOf "_law_is_whole" "_law_is_whole" (defArgs s_law_is_whole) (defBody s_law_is_whole) (defScope s_law_is_whole) .none kv_law_is_whole dc_law_is_whole pm_law_is_whole an_law_is_whole cd_law_is_whole ct_law_is_whole), sl_law_is_whole⟩)
    (c_law_is_whole : PySem.W.codeIn K cd_law_is_whole "_law_is_whole" = true)
    (k_law_is_whole : PySem.W.keepIn K (.ref f_law_is_whole) = true)
    (i_law_is_whole : PySem.W.isFn K (.ref f_law_is_whole) = true)
    (a_law_due : PySem.W.nsIn K mainGlobals "_law_due" = some (some (.ref f_law_due)))
    (l_law_due : K.lookup f_law_due = some ⟨oc_law_due, od_law_due, .func (PySem.W.fnOf "_law_due" "_law_due" (defArgs s_law_due) (defBody s_law_due) (defScope s_law_due) .none kv_law_due dc_law_due pm_law_due an_law_due cd_law_due ct_law_due), sl_law_due⟩)
    (c_law_due : PySem.W.codeIn K cd_law_due "_law_due" = true)
    (k_law_due : PySem.W.keepIn K (.ref f_law_due) = true)
    (i_law_due : PySem.W.isFn K (.ref f_law_due) = true)
    (a_law_done : PySem.W.nsIn K mainGlobals "_law_done" = some (some (.ref f_law_done)))
    (l_law_done : K.lookup f_law_done = some ⟨oc_law_done, od_law_done, .func (PySem.W.fnOf "_law_done" "_law_done" (defArgs s_law_done) (defBody s_law_done) (defScope s_law_done) .none kv_law_done dc_law_done pm_law_done an_law_done cd_law_done ct_law_done), sl_law_done⟩)
    (c_law_done : PySem.W.codeIn K cd_law_done "_law_done" = true)
    (k_law_done : PySem.W.keepIn K (.ref f_law_done) = true)
    (i_law_done : PySem.W.isFn K (.ref f_law_done) = true)
    (a_law_again : PySem.W.nsIn K mainGlobals "_law_again" = some (some (.ref f_law_again)))
    (l_law_again : K.lookup f_law_again = some ⟨oc_law_again, od_law_again, .func (PySem.W.fnOf "_law_again" "_law_again" (defArgs s_law_again) (defBody s_law_again) (defScope s_law_again) .none kv_law_again dc_law_again pm_law_again an_law_again cd_law_again ct_law_again), sl_law_again⟩)
    (c_law_again : PySem.W.codeIn K cd_law_again "_law_again" = true)
    (k_law_again : PySem.W.keepIn K (.ref f_law_again) = true)
    (i_law_again : PySem.W.isFn K (.ref f_law_again) = true)
    (a_law_step : PySem.W.nsIn K mainGlobals "_law_step" = some (some (.ref f_law_step)))
    (l_law_step : K.lookup f_law_step = some ⟨oc_law_step, od_law_step, .func (PySem.W.fnOf "_law_step" "_law_step" (defArgs s_law_step) (defBody s_law_step) (defScope s_law_step) .none kv_law_step dc_law_step pm_law_step an_law_step cd_law_step ct_law_step), sl_law_step⟩)
    (c_law_step : PySem.W.codeIn K cd_law_step "_law_step" = true)
    (k_law_step : PySem.W.keepIn K (.ref f_law_step) = true)
    (i_law_step : PySem.W.isFn K (.ref f_law_step) = true)
    (a_law : PySem.W.nsIn K mainGlobals "law" = some (some (.ref f_law)))
    (l_law : K.lookup f_law = some ⟨oc_law, od_law, .func (PySem.W.fnOf "law" "law" (defArgs s_law) (defBody s_law) (defScope s_law) .none kv_law dc_law pm_law an_law cd_law ct_law), sl_law⟩)
    (c_law : PySem.W.codeIn K cd_law "law" = true)
    (k_law : PySem.W.keepIn K (.ref f_law) = true)
    (i_law : PySem.W.isFn K (.ref f_law) = true)
    (kc_RimError : PySem.W.keepIn K (.ref C_RimError) = true)
    (ov_RimError : excOver K C_RimError = true)
    (hd_RimError : PySem.W.hasDictIn K C_RimError = true)
    (sa_RimError : PySem.W.findIn K (.ref C_RimError) "__setattr__" = some (some (.builtin "object.__setattr__")))
    (ga_RimError : PySem.W.findIn K (.ref C_RimError) "__getattribute__" = some (some (.builtin "BaseException.__getattribute__")))
    (gh_RimError : PySem.W.findIn K (.ref C_RimError) "__getattr__" = some none)
    (ca_RimError : PySem.W.findIn K (.ref C_RimError) "__class__" = some (some (.builtin "object.__class__")))
    (mk_RimError : xmkIn K C_RimError = true)
    (kc_NoSize : PySem.W.keepIn K (.ref C_NoSize) = true)
    (ov_NoSize : excOver K C_NoSize = true)
    (hd_NoSize : PySem.W.hasDictIn K C_NoSize = true)
    (sa_NoSize : PySem.W.findIn K (.ref C_NoSize) "__setattr__" = some (some (.builtin "object.__setattr__")))
    (ga_NoSize : PySem.W.findIn K (.ref C_NoSize) "__getattribute__" = some (some (.builtin "BaseException.__getattribute__")))
    (gh_NoSize : PySem.W.findIn K (.ref C_NoSize) "__getattr__" = some none)
    (ca_NoSize : PySem.W.findIn K (.ref C_NoSize) "__class__" = some (some (.builtin "object.__class__")))
    (mk_NoSize : xmkIn K C_NoSize = true)
    (kc_NoName : PySem.W.keepIn K (.ref C_NoName) = true)
    (ov_NoName : excOver K C_NoName = true)
    (hd_NoName : PySem.W.hasDictIn K C_NoName = true)
    (sa_NoName : PySem.W.findIn K (.ref C_NoName) "__setattr__" = some (some (.builtin "object.__setattr__")))
    (ga_NoName : PySem.W.findIn K (.ref C_NoName) "__getattribute__" = some (some (.builtin "BaseException.__getattribute__")))
    (gh_NoName : PySem.W.findIn K (.ref C_NoName) "__getattr__" = some none)
    (ca_NoName : PySem.W.findIn K (.ref C_NoName) "__class__" = some (some (.builtin "object.__class__")))
    (mk_NoName : xmkIn K C_NoName = true)
    (kc_NoCell : PySem.W.keepIn K (.ref C_NoCell) = true)
    (ov_NoCell : excOver K C_NoCell = true)
    (hd_NoCell : PySem.W.hasDictIn K C_NoCell = true)
    (sa_NoCell : PySem.W.findIn K (.ref C_NoCell) "__setattr__" = some (some (.builtin "object.__setattr__")))
    (ga_NoCell : PySem.W.findIn K (.ref C_NoCell) "__getattribute__" = some (some (.builtin "BaseException.__getattribute__")))
    (gh_NoCell : PySem.W.findIn K (.ref C_NoCell) "__getattr__" = some none)
    (ca_NoCell : PySem.W.findIn K (.ref C_NoCell) "__class__" = some (some (.builtin "object.__class__")))
    (mk_NoCell : xmkIn K C_NoCell = true)
    (kc_NoSides : PySem.W.keepIn K (.ref C_NoSides) = true)
    (ov_NoSides : excOver K C_NoSides = true)
    (hd_NoSides : PySem.W.hasDictIn K C_NoSides = true)
    (sa_NoSides : PySem.W.findIn K (.ref C_NoSides) "__setattr__" = some (some (.builtin "object.__setattr__")))
    (ga_NoSides : PySem.W.findIn K (.ref C_NoSides) "__getattribute__" = some (some (.builtin "BaseException.__getattribute__")))
    (gh_NoSides : PySem.W.findIn K (.ref C_NoSides) "__getattr__" = some none)
    (ca_NoSides : PySem.W.findIn K (.ref C_NoSides) "__class__" = some (some (.builtin "object.__class__")))
    (mk_NoSides : xmkIn K C_NoSides = true)
    (kc_NoWindow : PySem.W.keepIn K (.ref C_NoWindow) = true)
    (ov_NoWindow : excOver K C_NoWindow = true)
    (hd_NoWindow : PySem.W.hasDictIn K C_NoWindow = true)
    (sa_NoWindow : PySem.W.findIn K (.ref C_NoWindow) "__setattr__" = some (some (.builtin "object.__setattr__")))
    (ga_NoWindow : PySem.W.findIn K (.ref C_NoWindow) "__getattribute__" = some (some (.builtin "BaseException.__getattribute__")))
    (gh_NoWindow : PySem.W.findIn K (.ref C_NoWindow) "__getattr__" = some none)
    (ca_NoWindow : PySem.W.findIn K (.ref C_NoWindow) "__class__" = some (some (.builtin "object.__class__")))
    (mk_NoWindow : xmkIn K C_NoWindow = true)
    (kc_OldPoint : PySem.W.keepIn K (.ref C_OldPoint) = true)
    (ov_OldPoint : excOver K C_OldPoint = true)
    (hd_OldPoint : PySem.W.hasDictIn K C_OldPoint = true)
    (sa_OldPoint : PySem.W.findIn K (.ref C_OldPoint) "__setattr__" = some (some (.builtin "object.__setattr__")))
    (ga_OldPoint : PySem.W.findIn K (.ref C_OldPoint) "__getattribute__" = some (some (.builtin "BaseException.__getattribute__")))
    (gh_OldPoint : PySem.W.findIn K (.ref C_OldPoint) "__getattr__" = some none)
    (ca_OldPoint : PySem.W.findIn K (.ref C_OldPoint) "__class__" = some (some (.builtin "object.__class__")))
    (mk_OldPoint : xmkIn K C_OldPoint = true)
    (kc_NoPoint : PySem.W.keepIn K (.ref C_NoPoint) = true)
    (ov_NoPoint : excOver K C_NoPoint = true)
    (hd_NoPoint : PySem.W.hasDictIn K C_NoPoint = true)
    (sa_NoPoint : PySem.W.findIn K (.ref C_NoPoint) "__setattr__" = some (some (.builtin "object.__setattr__")))
    (ga_NoPoint : PySem.W.findIn K (.ref C_NoPoint) "__getattribute__" = some (some (.builtin "BaseException.__getattribute__")))
    (gh_NoPoint : PySem.W.findIn K (.ref C_NoPoint) "__getattr__" = some none)
    (ca_NoPoint : PySem.W.findIn K (.ref C_NoPoint) "__class__" = some (some (.builtin "object.__class__")))
    (mk_NoPoint : xmkIn K C_NoPoint = true)
    (kc_TooMany : PySem.W.keepIn K (.ref C_TooMany) = true)
    (ov_TooMany : excOver K C_TooMany = true)
    (hd_TooMany : PySem.W.hasDictIn K C_TooMany = true)
    (sa_TooMany : PySem.W.findIn K (.ref C_TooMany) "__setattr__" = some (some (.builtin "object.__setattr__")))
    (ga_TooMany : PySem.W.findIn K (.ref C_TooMany) "__getattribute__" = some (some (.builtin "BaseException.__getattribute__")))
    (gh_TooMany : PySem.W.findIn K (.ref C_TooMany) "__getattr__" = some none)
    (ca_TooMany : PySem.W.findIn K (.ref C_TooMany) "__class__" = some (some (.builtin "object.__class__")))
    (mk_TooMany : xmkIn K C_TooMany = true)
    (kc_SameColumn : PySem.W.keepIn K (.ref C_SameColumn) = true)
    (ov_SameColumn : excOver K C_SameColumn = true)
    (hd_SameColumn : PySem.W.hasDictIn K C_SameColumn = true)
    (sa_SameColumn : PySem.W.findIn K (.ref C_SameColumn) "__setattr__" = some (some (.builtin "object.__setattr__")))
    (ga_SameColumn : PySem.W.findIn K (.ref C_SameColumn) "__getattribute__" = some (some (.builtin "BaseException.__getattribute__")))
    (gh_SameColumn : PySem.W.findIn K (.ref C_SameColumn) "__getattr__" = some none)
    (ca_SameColumn : PySem.W.findIn K (.ref C_SameColumn) "__class__" = some (some (.builtin "object.__class__")))
    (mk_SameColumn : xmkIn K C_SameColumn = true)
    (kc_SameRow : PySem.W.keepIn K (.ref C_SameRow) = true)
    (ov_SameRow : excOver K C_SameRow = true)
    (hd_SameRow : PySem.W.hasDictIn K C_SameRow = true)
    (sa_SameRow : PySem.W.findIn K (.ref C_SameRow) "__setattr__" = some (some (.builtin "object.__setattr__")))
    (ga_SameRow : PySem.W.findIn K (.ref C_SameRow) "__getattribute__" = some (some (.builtin "BaseException.__getattribute__")))
    (gh_SameRow : PySem.W.findIn K (.ref C_SameRow) "__getattr__" = some none)
    (ca_SameRow : PySem.W.findIn K (.ref C_SameRow) "__class__" = some (some (.builtin "object.__class__")))
    (mk_SameRow : xmkIn K C_SameRow = true)
    (kc_NoSide : PySem.W.keepIn K (.ref C_NoSide) = true)
    (ov_NoSide : excOver K C_NoSide = true)
    (hd_NoSide : PySem.W.hasDictIn K C_NoSide = true)
    (sa_NoSide : PySem.W.findIn K (.ref C_NoSide) "__setattr__" = some (some (.builtin "object.__setattr__")))
    (ga_NoSide : PySem.W.findIn K (.ref C_NoSide) "__getattribute__" = some (some (.builtin "BaseException.__getattribute__")))
    (gh_NoSide : PySem.W.findIn K (.ref C_NoSide) "__getattr__" = some none)
    (ca_NoSide : PySem.W.findIn K (.ref C_NoSide) "__class__" = some (some (.builtin "object.__class__")))
    (mk_NoSide : xmkIn K C_NoSide = true)
    (kc_NoRow : PySem.W.keepIn K (.ref C_NoRow) = true)
    (ov_NoRow : excOver K C_NoRow = true)
    (hd_NoRow : PySem.W.hasDictIn K C_NoRow = true)
    (sa_NoRow : PySem.W.findIn K (.ref C_NoRow) "__setattr__" = some (some (.builtin "object.__setattr__")))
    (ga_NoRow : PySem.W.findIn K (.ref C_NoRow) "__getattribute__" = some (some (.builtin "BaseException.__getattribute__")))
    (gh_NoRow : PySem.W.findIn K (.ref C_NoRow) "__getattr__" = some none)
    (ca_NoRow : PySem.W.findIn K (.ref C_NoRow) "__class__" = some (some (.builtin "object.__class__")))
    (mk_NoRow : xmkIn K C_NoRow = true)
    (kc_OldSeat : PySem.W.keepIn K (.ref C_OldSeat) = true)
    (ov_OldSeat : excOver K C_OldSeat = true)
    (hd_OldSeat : PySem.W.hasDictIn K C_OldSeat = true)
    (sa_OldSeat : PySem.W.findIn K (.ref C_OldSeat) "__setattr__" = some (some (.builtin "object.__setattr__")))
    (ga_OldSeat : PySem.W.findIn K (.ref C_OldSeat) "__getattribute__" = some (some (.builtin "BaseException.__getattribute__")))
    (gh_OldSeat : PySem.W.findIn K (.ref C_OldSeat) "__getattr__" = some none)
    (ca_OldSeat : PySem.W.findIn K (.ref C_OldSeat) "__class__" = some (some (.builtin "object.__class__")))
    (mk_OldSeat : xmkIn K C_OldSeat = true)
    (kc_NoSeat : PySem.W.keepIn K (.ref C_NoSeat) = true)
    (ov_NoSeat : excOver K C_NoSeat = true)
    (hd_NoSeat : PySem.W.hasDictIn K C_NoSeat = true)
    (sa_NoSeat : PySem.W.findIn K (.ref C_NoSeat) "__setattr__" = some (some (.builtin "object.__setattr__")))
    (ga_NoSeat : PySem.W.findIn K (.ref C_NoSeat) "__getattribute__" = some (some (.builtin "BaseException.__getattribute__")))
    (gh_NoSeat : PySem.W.findIn K (.ref C_NoSeat) "__getattr__" = some none)
    (ca_NoSeat : PySem.W.findIn K (.ref C_NoSeat) "__class__" = some (some (.builtin "object.__class__")))
    (mk_NoSeat : xmkIn K C_NoSeat = true)
    (kc_NoRoom : PySem.W.keepIn K (.ref C_NoRoom) = true)
    (ov_NoRoom : excOver K C_NoRoom = true)
    (hd_NoRoom : PySem.W.hasDictIn K C_NoRoom = true)
    (sa_NoRoom : PySem.W.findIn K (.ref C_NoRoom) "__setattr__" = some (some (.builtin "object.__setattr__")))
    (ga_NoRoom : PySem.W.findIn K (.ref C_NoRoom) "__getattribute__" = some (some (.builtin "BaseException.__getattribute__")))
    (gh_NoRoom : PySem.W.findIn K (.ref C_NoRoom) "__getattr__" = some none)
    (ca_NoRoom : PySem.W.findIn K (.ref C_NoRoom) "__class__" = some (some (.builtin "object.__class__")))
    (mk_NoRoom : xmkIn K C_NoRoom = true)
    (kc_NoNotes : PySem.W.keepIn K (.ref C_NoNotes) = true)
    (ov_NoNotes : excOver K C_NoNotes = true)
    (hd_NoNotes : PySem.W.hasDictIn K C_NoNotes = true)
    (sa_NoNotes : PySem.W.findIn K (.ref C_NoNotes) "__setattr__" = some (some (.builtin "object.__setattr__")))
    (ga_NoNotes : PySem.W.findIn K (.ref C_NoNotes) "__getattribute__" = some (some (.builtin "BaseException.__getattribute__")))
    (gh_NoNotes : PySem.W.findIn K (.ref C_NoNotes) "__getattr__" = some none)
    (ca_NoNotes : PySem.W.findIn K (.ref C_NoNotes) "__class__" = some (some (.builtin "object.__class__")))
    (mk_NoNotes : xmkIn K C_NoNotes = true)
    (kc_TooFull : PySem.W.keepIn K (.ref C_TooFull) = true)
    (ov_TooFull : excOver K C_TooFull = true)
    (hd_TooFull : PySem.W.hasDictIn K C_TooFull = true)
    (sa_TooFull : PySem.W.findIn K (.ref C_TooFull) "__setattr__" = some (some (.builtin "object.__setattr__")))
    (ga_TooFull : PySem.W.findIn K (.ref C_TooFull) "__getattribute__" = some (some (.builtin "BaseException.__getattribute__")))
    (gh_TooFull : PySem.W.findIn K (.ref C_TooFull) "__getattr__" = some none)
    (ca_TooFull : PySem.W.findIn K (.ref C_TooFull) "__class__" = some (some (.builtin "object.__class__")))
    (mk_TooFull : xmkIn K C_TooFull = true)
    (kc_TooTall : PySem.W.keepIn K (.ref C_TooTall) = true)
    (ov_TooTall : excOver K C_TooTall = true)
    (hd_TooTall : PySem.W.hasDictIn K C_TooTall = true)
    (sa_TooTall : PySem.W.findIn K (.ref C_TooTall) "__setattr__" = some (some (.builtin "object.__setattr__")))
    (ga_TooTall : PySem.W.findIn K (.ref C_TooTall) "__getattribute__" = some (some (.builtin "BaseException.__getattribute__")))
    (gh_TooTall : PySem.W.findIn K (.ref C_TooTall) "__getattr__" = some none)
    (ca_TooTall : PySem.W.findIn K (.ref C_TooTall) "__class__" = some (some (.builtin "object.__class__")))
    (mk_TooTall : xmkIn K C_TooTall = true)
    (kc_BadLine : PySem.W.keepIn K (.ref C_BadLine) = true)
    (ov_BadLine : excOver K C_BadLine = true)
    (hd_BadLine : PySem.W.hasDictIn K C_BadLine = true)
    (sa_BadLine : PySem.W.findIn K (.ref C_BadLine) "__setattr__" = some (some (.builtin "object.__setattr__")))
    (ga_BadLine : PySem.W.findIn K (.ref C_BadLine) "__getattribute__" = some (some (.builtin "BaseException.__getattribute__")))
    (gh_BadLine : PySem.W.findIn K (.ref C_BadLine) "__getattr__" = some none)
    (ca_BadLine : PySem.W.findIn K (.ref C_BadLine) "__class__" = some (some (.builtin "object.__class__")))
    (mk_BadLine : xmkIn K C_BadLine = true)
    (kc_BadDrawing : PySem.W.keepIn K (.ref C_BadDrawing) = true)
    (ov_BadDrawing : excOver K C_BadDrawing = true)
    (hd_BadDrawing : PySem.W.hasDictIn K C_BadDrawing = true)
    (sa_BadDrawing : PySem.W.findIn K (.ref C_BadDrawing) "__setattr__" = some (some (.builtin "object.__setattr__")))
    (ga_BadDrawing : PySem.W.findIn K (.ref C_BadDrawing) "__getattribute__" = some (some (.builtin "BaseException.__getattribute__")))
    (gh_BadDrawing : PySem.W.findIn K (.ref C_BadDrawing) "__getattr__" = some none)
    (ca_BadDrawing : PySem.W.findIn K (.ref C_BadDrawing) "__class__" = some (some (.builtin "object.__class__")))
    (mk_BadDrawing : xmkIn K C_BadDrawing = true)
    (kc_NoLine : PySem.W.keepIn K (.ref C_NoLine) = true)
    (ov_NoLine : excOver K C_NoLine = true)
    (hd_NoLine : PySem.W.hasDictIn K C_NoLine = true)
    (sa_NoLine : PySem.W.findIn K (.ref C_NoLine) "__setattr__" = some (some (.builtin "object.__setattr__")))
    (ga_NoLine : PySem.W.findIn K (.ref C_NoLine) "__getattribute__" = some (some (.builtin "BaseException.__getattribute__")))
    (gh_NoLine : PySem.W.findIn K (.ref C_NoLine) "__getattr__" = some none)
    (ca_NoLine : PySem.W.findIn K (.ref C_NoLine) "__class__" = some (some (.builtin "object.__class__")))
    (mk_NoLine : xmkIn K C_NoLine = true)
    (kc_Picture : PySem.W.keepIn K (.ref C_Picture) = true)
    (pg_Picture : PySem.W.plainGet K C_Picture Str.empty = true)
    (hd_Picture : PySem.W.hasDictIn K C_Picture = true)
    (po_Picture : PySem.W.plainOver K C_Picture = true)
    (sa_Picture : PySem.W.findIn K (.ref C_Picture) "__setattr__" = some (some (.builtin "object.__setattr__")))
    (mk_Picture : PySem.W.makesIn K C_Picture = true)
    (ca_Picture : PySem.W.findIn K (.ref C_Picture) "__class__" = some (some (.builtin "object.__class__")))
    (mo_Picture : PySem.W.mroIn K C_Picture (.type "object") = some true)
    (cg : PySem.W.specialIn K (.builtin "object.__class__") "__get__" = some (some (.builtin "getset_descriptor.__get__")))
    (ct : PySem.W.takesIn K (.builtin "object.__class__") = some true)
    (n_Picture_placed : PySem.W.findIn K (.ref C_Picture) "placed" = some none)
    (n_Picture_height : PySem.W.findIn K (.ref C_Picture) "height" = some none)
    (n_Picture_width : PySem.W.findIn K (.ref C_Picture) "width" = some none)
    (n_Picture_opened : PySem.W.findIn K (.ref C_Picture) "opened" = some none)
    (n_NoPoint_row : PySem.W.findIn K (.ref C_NoPoint) "row" = some none)
    (n_NoPoint_side : PySem.W.findIn K (.ref C_NoPoint) "side" = some none)
    (n_NoPoint_name : PySem.W.findIn K (.ref C_NoPoint) "name" = some none)
    (n_NoPoint_high : PySem.W.findIn K (.ref C_NoPoint) "high" = some none)
    (n_NoPoint_low : PySem.W.findIn K (.ref C_NoPoint) "low" = some none)
    (n_NoPoint_sides : PySem.W.findIn K (.ref C_NoPoint) "sides" = some none)
    (n_NoPoint_y : PySem.W.findIn K (.ref C_NoPoint) "y" = some none)
    (n_NoPoint_x : PySem.W.findIn K (.ref C_NoPoint) "x" = some none)
    (n_NoCell_row : PySem.W.findIn K (.ref C_NoCell) "row" = some none)
    (n_NoCell_side : PySem.W.findIn K (.ref C_NoCell) "side" = some none)
    (n_NoCell_name : PySem.W.findIn K (.ref C_NoCell) "name" = some none)
    (n_NoCell_high : PySem.W.findIn K (.ref C_NoCell) "high" = some none)
    (n_NoCell_low : PySem.W.findIn K (.ref C_NoCell) "low" = some none)
    (n_NoCell_sides : PySem.W.findIn K (.ref C_NoCell) "sides" = some none)
    (n_NoCell_y : PySem.W.findIn K (.ref C_NoCell) "y" = some none)
    (n_NoCell_x : PySem.W.findIn K (.ref C_NoCell) "x" = some none)
    (n_SameColumn_row : PySem.W.findIn K (.ref C_SameColumn) "row" = some none)
    (n_SameColumn_side : PySem.W.findIn K (.ref C_SameColumn) "side" = some none)
    (n_SameColumn_name : PySem.W.findIn K (.ref C_SameColumn) "name" = some none)
    (n_SameColumn_high : PySem.W.findIn K (.ref C_SameColumn) "high" = some none)
    (n_SameColumn_low : PySem.W.findIn K (.ref C_SameColumn) "low" = some none)
    (n_SameColumn_sides : PySem.W.findIn K (.ref C_SameColumn) "sides" = some none)
    (n_SameColumn_y : PySem.W.findIn K (.ref C_SameColumn) "y" = some none)
    (n_SameColumn_x : PySem.W.findIn K (.ref C_SameColumn) "x" = some none)
    (n_SameRow_row : PySem.W.findIn K (.ref C_SameRow) "row" = some none)
    (n_SameRow_side : PySem.W.findIn K (.ref C_SameRow) "side" = some none)
    (n_SameRow_name : PySem.W.findIn K (.ref C_SameRow) "name" = some none)
    (n_SameRow_high : PySem.W.findIn K (.ref C_SameRow) "high" = some none)
    (n_SameRow_low : PySem.W.findIn K (.ref C_SameRow) "low" = some none)
    (n_SameRow_sides : PySem.W.findIn K (.ref C_SameRow) "sides" = some none)
    (n_SameRow_y : PySem.W.findIn K (.ref C_SameRow) "y" = some none)
    (n_SameRow_x : PySem.W.findIn K (.ref C_SameRow) "x" = some none)
    (n_ValueError : PySem.W.nsIn K mainGlobals "ValueError" = some none)
    (n_bool : PySem.W.nsIn K mainGlobals "bool" = some none)
    (n_int : PySem.W.nsIn K mainGlobals "int" = some none)
    (n_isinstance : PySem.W.nsIn K mainGlobals "isinstance" = some none)
    (n_len : PySem.W.nsIn K mainGlobals "len" = some none)
    (n_list : PySem.W.nsIn K mainGlobals "list" = some none)
    (n_min : PySem.W.nsIn K mainGlobals "min" = some none)
    (n_range : PySem.W.nsIn K mainGlobals "range" = some none)
    (n_sorted : PySem.W.nsIn K mainGlobals "sorted" = some none)
    (n_str : PySem.W.nsIn K mainGlobals "str" = some none)
    (n_tuple : PySem.W.nsIn K mainGlobals "tuple" = some none)
    (kit_NoPoint_NoName : PySem.W.kitOne K (.ref C_NoPoint) (.ref C_NoName) = some false)
    (kit_NoPoint_NoCell : PySem.W.kitOne K (.ref C_NoPoint) (.ref C_NoCell) = some false)
    (kit_NoPoint_NoSides : PySem.W.kitOne K (.ref C_NoPoint) (.ref C_NoSides) = some false)
    (kit_NoPoint_NoWindow : PySem.W.kitOne K (.ref C_NoPoint) (.ref C_NoWindow) = some false)
    (kit_NoPoint_OldPoint : PySem.W.kitOne K (.ref C_NoPoint) (.ref C_OldPoint) = some false)
    (kit_NoPoint_TooMany : PySem.W.kitOne K (.ref C_NoPoint) (.ref C_TooMany) = some false)
    (kit_NoPoint_SameColumn : PySem.W.kitOne K (.ref C_NoPoint) (.ref C_SameColumn) = some false)
    (kit_NoPoint_SameRow : PySem.W.kitOne K (.ref C_NoPoint) (.ref C_SameRow) = some false)
    (kit_NoPoint_NoPoint : PySem.W.kitOne K (.ref C_NoPoint) (.ref C_NoPoint) = some true)
    (kit_NoPoint_NoSide : PySem.W.kitOne K (.ref C_NoPoint) (.ref C_NoSide) = some false)
    (kit_NoPoint_NoRow : PySem.W.kitOne K (.ref C_NoPoint) (.ref C_NoRow) = some false)
    (kit_NoPoint_OldSeat : PySem.W.kitOne K (.ref C_NoPoint) (.ref C_OldSeat) = some false)
    (kit_NoPoint_NoSeat : PySem.W.kitOne K (.ref C_NoPoint) (.ref C_NoSeat) = some false)
    (kany_NoPoint : PySem.W.kitAny K (.ref C_NoPoint) [.ref C_NoSize, .ref C_NoRoom, .ref C_NoNotes, .ref C_TooFull, .ref C_TooTall, .ref C_BadLine, .ref C_BadDrawing, .ref C_NoLine] = some false)
    (kitv_NoPoint : PySem.W.kitOne K (.ref C_NoPoint) (.type "ValueError") = some true)
    (mro_NoPoint : PySem.W.mroIn K C_NoPoint (.ref C_RimError) = some true)
    (kit_NoCell_NoName : PySem.W.kitOne K (.ref C_NoCell) (.ref C_NoName) = some false)
    (kit_NoCell_NoCell : PySem.W.kitOne K (.ref C_NoCell) (.ref C_NoCell) = some true)
    (kit_NoCell_NoSides : PySem.W.kitOne K (.ref C_NoCell) (.ref C_NoSides) = some false)
    (kit_NoCell_NoWindow : PySem.W.kitOne K (.ref C_NoCell) (.ref C_NoWindow) = some false)
    (kit_NoCell_OldPoint : PySem.W.kitOne K (.ref C_NoCell) (.ref C_OldPoint) = some false)
    (kit_NoCell_TooMany : PySem.W.kitOne K (.ref C_NoCell) (.ref C_TooMany) = some false)
    (kit_NoCell_SameColumn : PySem.W.kitOne K (.ref C_NoCell) (.ref C_SameColumn) = some false)
    (kit_NoCell_SameRow : PySem.W.kitOne K (.ref C_NoCell) (.ref C_SameRow) = some false)
    (kit_NoCell_NoPoint : PySem.W.kitOne K (.ref C_NoCell) (.ref C_NoPoint) = some false)
    (kit_NoCell_NoSide : PySem.W.kitOne K (.ref C_NoCell) (.ref C_NoSide) = some false)
    (kit_NoCell_NoRow : PySem.W.kitOne K (.ref C_NoCell) (.ref C_NoRow) = some false)
    (kit_NoCell_OldSeat : PySem.W.kitOne K (.ref C_NoCell) (.ref C_OldSeat) = some false)
    (kit_NoCell_NoSeat : PySem.W.kitOne K (.ref C_NoCell) (.ref C_NoSeat) = some false)
    (kany_NoCell : PySem.W.kitAny K (.ref C_NoCell) [.ref C_NoSize, .ref C_NoRoom, .ref C_NoNotes, .ref C_TooFull, .ref C_TooTall, .ref C_BadLine, .ref C_BadDrawing, .ref C_NoLine] = some false)
    (kitv_NoCell : PySem.W.kitOne K (.ref C_NoCell) (.type "ValueError") = some true)
    (mro_NoCell : PySem.W.mroIn K C_NoCell (.ref C_RimError) = some true)
    (kit_SameColumn_NoName : PySem.W.kitOne K (.ref C_SameColumn) (.ref C_NoName) = some false)
    (kit_SameColumn_NoCell : PySem.W.kitOne K (.ref C_SameColumn) (.ref C_NoCell) = some false)
    (kit_SameColumn_NoSides : PySem.W.kitOne K (.ref C_SameColumn) (.ref C_NoSides) = some false)
    (kit_SameColumn_NoWindow : PySem.W.kitOne K (.ref C_SameColumn) (.ref C_NoWindow) = some false)
    (kit_SameColumn_OldPoint : PySem.W.kitOne K (.ref C_SameColumn) (.ref C_OldPoint) = some false)
    (kit_SameColumn_TooMany : PySem.W.kitOne K (.ref C_SameColumn) (.ref C_TooMany) = some false)
    (kit_SameColumn_SameColumn : PySem.W.kitOne K (.ref C_SameColumn) (.ref C_SameColumn) = some true)
    (kit_SameColumn_SameRow : PySem.W.kitOne K (.ref C_SameColumn) (.ref C_SameRow) = some false)
    (kit_SameColumn_NoPoint : PySem.W.kitOne K (.ref C_SameColumn) (.ref C_NoPoint) = some false)
    (kit_SameColumn_NoSide : PySem.W.kitOne K (.ref C_SameColumn) (.ref C_NoSide) = some false)
    (kit_SameColumn_NoRow : PySem.W.kitOne K (.ref C_SameColumn) (.ref C_NoRow) = some false)
    (kit_SameColumn_OldSeat : PySem.W.kitOne K (.ref C_SameColumn) (.ref C_OldSeat) = some false)
    (kit_SameColumn_NoSeat : PySem.W.kitOne K (.ref C_SameColumn) (.ref C_NoSeat) = some false)
    (kany_SameColumn : PySem.W.kitAny K (.ref C_SameColumn) [.ref C_NoSize, .ref C_NoRoom, .ref C_NoNotes, .ref C_TooFull, .ref C_TooTall, .ref C_BadLine, .ref C_BadDrawing, .ref C_NoLine] = some false)
    (kitv_SameColumn : PySem.W.kitOne K (.ref C_SameColumn) (.type "ValueError") = some true)
    (mro_SameColumn : PySem.W.mroIn K C_SameColumn (.ref C_RimError) = some true)
    (kit_SameRow_NoName : PySem.W.kitOne K (.ref C_SameRow) (.ref C_NoName) = some false)
    (kit_SameRow_NoCell : PySem.W.kitOne K (.ref C_SameRow) (.ref C_NoCell) = some false)
    (kit_SameRow_NoSides : PySem.W.kitOne K (.ref C_SameRow) (.ref C_NoSides) = some false)
    (kit_SameRow_NoWindow : PySem.W.kitOne K (.ref C_SameRow) (.ref C_NoWindow) = some false)
    (kit_SameRow_OldPoint : PySem.W.kitOne K (.ref C_SameRow) (.ref C_OldPoint) = some false)
    (kit_SameRow_TooMany : PySem.W.kitOne K (.ref C_SameRow) (.ref C_TooMany) = some false)
    (kit_SameRow_SameColumn : PySem.W.kitOne K (.ref C_SameRow) (.ref C_SameColumn) = some false)
    (kit_SameRow_SameRow : PySem.W.kitOne K (.ref C_SameRow) (.ref C_SameRow) = some true)
    (kit_SameRow_NoPoint : PySem.W.kitOne K (.ref C_SameRow) (.ref C_NoPoint) = some false)
    (kit_SameRow_NoSide : PySem.W.kitOne K (.ref C_SameRow) (.ref C_NoSide) = some false)
    (kit_SameRow_NoRow : PySem.W.kitOne K (.ref C_SameRow) (.ref C_NoRow) = some false)
    (kit_SameRow_OldSeat : PySem.W.kitOne K (.ref C_SameRow) (.ref C_OldSeat) = some false)
    (kit_SameRow_NoSeat : PySem.W.kitOne K (.ref C_SameRow) (.ref C_NoSeat) = some false)
    (kany_SameRow : PySem.W.kitAny K (.ref C_SameRow) [.ref C_NoSize, .ref C_NoRoom, .ref C_NoNotes, .ref C_TooFull, .ref C_TooTall, .ref C_BadLine, .ref C_BadDrawing, .ref C_NoLine] = some false)
    (kitv_SameRow : PySem.W.kitOne K (.ref C_SameRow) (.type "ValueError") = some true)
    (mro_SameRow : PySem.W.mroIn K C_SameRow (.ref C_RimError) = some true)
    (v_MOST_ROWS : PySem.W.nsIn K mainGlobals "MOST_ROWS" = some (some (.int 16 tkc_MOST_ROWS)))
    (v_MOST_COLUMNS : PySem.W.nsIn K mainGlobals "MOST_COLUMNS" = some (some (.int 30 tkc_MOST_COLUMNS)))
    (v_MOST_POINTS : PySem.W.nsIn K mainGlobals "MOST_POINTS" = some (some (.int 12 tkc_MOST_POINTS)))
    (g_MIRRORED_SIDES : PySem.W.nsIn K mainGlobals "MIRRORED_SIDES" = some (some (.ref D_MIRRORED_SIDES)))
    (l_MIRRORED_SIDES : K.lookup D_MIRRORED_SIDES = some ⟨.type "dict", none, .dict #[⟨hashStr w "left", .str "left" ta0_MIRRORED_SIDES, .str "right" tb0_MIRRORED_SIDES⟩, ⟨hashStr w "right", .str "right" ta1_MIRRORED_SIDES, .str "left" tb1_MIRRORED_SIDES⟩, ⟨hashStr w "both", .str "both" ta2_MIRRORED_SIDES, .str "both" tb2_MIRRORED_SIDES⟩] ep_MIRRORED_SIDES, #[]⟩)
    (ns_MIRRORED_SIDES : (D_MIRRORED_SIDES == sysModules) = false)
    : ∃ t, Txt w K mg t :=
  ⟨⟨f_NoCell_init, _, f_NoPoint_init, _, f_SameColumn_init, _, f_SameRow_init, _, f_is_whole, _, f_is_name, _, f_Picture_init, _, f_Picture_put, _, T_Picture_put, f_Picture_take, _, f_Picture_move, _, f_Picture_points, _, f_Picture_seats, _, f_Picture_place_of, _, f_Picture_check_name, _, f_Picture_check_cell, _, f_Picture_check_lines, _, f_law_cell, _, f_law_mixed, _, f_law_told, _, f_law_told_more, _, f_law_filled, _, f_law_deed, _, f_law_cell_of, _, f_law_is_whole, _, f_law_due, _, f_law_done, _, f_law_again, _, f_law_step, _, f_law, _, C_RimError, C_NoSize, C_NoName, C_NoCell, C_NoSides, C_NoWindow, C_OldPoint, C_NoPoint, C_TooMany, C_SameColumn, C_SameRow, C_NoSide, C_NoRow, C_OldSeat, C_NoSeat, C_NoRoom, C_NoNotes, C_TooFull, C_TooTall, C_BadLine, C_BadDrawing, C_NoLine, C_Picture, D_MIRRORED_SIDES⟩, {
    g_RimError := PySem.W.mg_of X G g_RimError
    g_NoSize := PySem.W.mg_of X G g_NoSize
    g_NoName := PySem.W.mg_of X G g_NoName
    g_NoCell := PySem.W.mg_of X G g_NoCell
    g_NoSides := PySem.W.mg_of X G g_NoSides
    g_NoWindow := PySem.W.mg_of X G g_NoWindow
    g_OldPoint := PySem.W.mg_of X G g_OldPoint
    g_NoPoint := PySem.W.mg_of X G g_NoPoint
    g_TooMany := PySem.W.mg_of X G g_TooMany
    g_SameColumn := PySem.W.mg_of X G g_SameColumn
    g_SameRow := PySem.W.mg_of X G g_SameRow
    g_NoSide := PySem.W.mg_of X G g_NoSide
    g_NoRow := PySem.W.mg_of X G g_NoRow
    g_OldSeat := PySem.W.mg_of X G g_OldSeat
    g_NoSeat := PySem.W.mg_of X G g_NoSeat
    g_NoRoom := PySem.W.mg_of X G g_NoRoom
    g_NoNotes := PySem.W.mg_of X G g_NoNotes
    g_TooFull := PySem.W.mg_of X G g_TooFull
    g_TooTall := PySem.W.mg_of X G g_TooTall
    g_BadLine := PySem.W.mg_of X G g_BadLine
    g_BadDrawing := PySem.W.mg_of X G g_BadDrawing
    g_NoLine := PySem.W.mg_of X G g_NoLine
    g_Picture := PySem.W.mg_of X G g_Picture
    F_NoCell_init := fun_mk (st := s_NoCell_init) l_NoCell_init c_NoCell_init k_NoCell_init
    b_NoCell_init := (fun_mk (st := s_NoCell_init) l_NoCell_init c_NoCell_init k_NoCell_init).binds (ps := ["self", "x", "y"]) fun _ _ _ _ _ _ us hl => match us, hl with | [_, _, _], _ => rfl
    F_NoPoint_init := fun_mk (st := s_NoPoint_init) l_NoPoint_init c_NoPoint_init k_NoPoint_init
    b_NoPoint_init := (fun_mk (st := s_NoPoint_init) l_NoPoint_init c_NoPoint_init k_NoPoint_init).binds (ps := ["self", "name"]) fun _ _ _ _ _ _ us hl => match us, hl with | [_, _], _ => rfl
    F_SameColumn_init := fun_mk (st := s_SameColumn_init) l_SameColumn_init c_SameColumn_init k_SameColumn_init
    b_SameColumn_init := (fun_mk (st := s_SameColumn_init) l_SameColumn_init c_SameColumn_init k_SameColumn_init).binds (ps := ["self", "name"]) fun _ _ _ _ _ _ us hl => match us, hl with | [_, _], _ => rfl
    F_SameRow_init := fun_mk (st := s_SameRow_init) l_SameRow_init c_SameRow_init k_SameRow_init
    b_SameRow_init := (fun_mk (st := s_SameRow_init) l_SameRow_init c_SameRow_init k_SameRow_init).binds (ps := ["self", "name"]) fun _ _ _ _ _ _ us hl => match us, hl with | [_, _], _ => rfl
    g_is_whole := PySem.W.mg_of X G a_is_whole
    F_is_whole := fun_mk (st := s_is_whole) l_is_whole c_is_whole k_is_whole
    b_is_whole := (fun_mk (st := s_is_whole) l_is_whole c_is_whole k_is_whole).binds (ps := ["thing", "low", "high"]) fun _ _ _ _ _ _ us hl => match us, hl with | [_, _, _], _ => rfl
    g_is_name := PySem.W.mg_of X G a_is_name
    F_is_name := fun_mk (st := s_is_name) l_is_name c_is_name k_is_name
    b_is_name := (fun_mk (st := s_is_name) l_is_name c_is_name k_is_name).binds (ps := ["thing"]) fun _ _ _ _ _ _ us hl => match us, hl with | [_], _ => rfl
    F_Picture_init := fun_mk (st := s_Picture_init) l_Picture_init c_Picture_init k_Picture_init
    b_Picture_init := (fun_mk (st := s_Picture_init) l_Picture_init c_Picture_init k_Picture_init).binds (ps := ["self", "width", "height"]) fun _ _ _ _ _ _ us hl => match us, hl with | [_, _, _], _ => rfl
    F_Picture_put := (fund_mk (st := s_Picture_put) l_Picture_put c_Picture_put k_Picture_put)
    b_Picture_put := (fund_mk (st := s_Picture_put) l_Picture_put c_Picture_put k_Picture_put).binds t_Picture_put rfl 7 rfl fun _ _ _ _ _ _ us hl => match us, hl with | [_, _, _, _, _, _, _], _ => ⟨_, rfl, rfl⟩
    F_Picture_take := fun_mk (st := s_Picture_take) l_Picture_take c_Picture_take k_Picture_take
    b_Picture_take := (fun_mk (st := s_Picture_take) l_Picture_take c_Picture_take k_Picture_take).binds (ps := ["self", "name"]) fun _ _ _ _ _ _ us hl => match us, hl with | [_, _], _ => rfl
    F_Picture_move := fun_mk (st := s_Picture_move) l_Picture_move c_Picture_move k_Picture_move
    b_Picture_move := (fun_mk (st := s_Picture_move) l_Picture_move c_Picture_move k_Picture_move).binds (ps := ["self", "name", "x", "y"]) fun _ _ _ _ _ _ us hl => match us, hl with | [_, _, _, _], _ => rfl
    F_Picture_points := fun_mk (st := s_Picture_points) l_Picture_points c_Picture_points k_Picture_points
    b_Picture_points := (fun_mk (st := s_Picture_points) l_Picture_points c_Picture_points k_Picture_points).binds (ps := ["self"]) fun _ _ _ _ _ _ us hl => match us, hl with | [_], _ => rfl
    F_Picture_seats := fun_mk (st := s_Picture_seats) l_Picture_seats c_Picture_seats k_Picture_seats
    b_Picture_seats := (fun_mk (st := s_Picture_seats) l_Picture_seats c_Picture_seats k_Picture_seats).binds (ps := ["self"]) fun _ _ _ _ _ _ us hl => match us, hl with | [_], _ => rfl
    F_Picture_place_of := fun_mk (st := s_Picture_place_of) l_Picture_place_of c_Picture_place_of k_Picture_place_of
    b_Picture_place_of := (fun_mk (st := s_Picture_place_of) l_Picture_place_of c_Picture_place_of k_Picture_place_of).binds (ps := ["self", "name"]) fun _ _ _ _ _ _ us hl => match us, hl with | [_, _], _ => rfl
    F_Picture_check_name := fun_mk (st := s_Picture_check_name) l_Picture_check_name c_Picture_check_name k_Picture_check_name
    b_Picture_check_name := (fun_mk (st := s_Picture_check_name) l_Picture_check_name c_Picture_check_name k_Picture_check_name).binds (ps := ["self", "name"]) fun _ _ _ _ _ _ us hl => match us, hl with | [_, _], _ => rfl
    F_Picture_check_cell := fun_mk (st := s_Picture_check_cell) l_Picture_check_cell c_Picture_check_cell k_Picture_check_cell
    b_Picture_check_cell := (fun_mk (st := s_Picture_check_cell) l_Picture_check_cell c_Picture_check_cell k_Picture_check_cell).binds (ps := ["self", "x", "y"]) fun _ _ _ _ _ _ us hl => match us, hl with | [_, _, _], _ => rfl
    F_Picture_check_lines := fun_mk (st := s_Picture_check_lines) l_Picture_check_lines c_Picture_check_lines k_Picture_check_lines
    b_Picture_check_lines := (fun_mk (st := s_Picture_check_lines) l_Picture_check_lines c_Picture_check_lines k_Picture_check_lines).binds (ps := ["self", "name", "x", "y"]) fun _ _ _ _ _ _ us hl => match us, hl with | [_, _, _, _], _ => rfl
    g_law_cell := PySem.W.mg_of X G a_law_cell
    F_law_cell := fun_mk (st := s_law_cell) l_law_cell c_law_cell k_law_cell
    b_law_cell := (fun_mk (st := s_law_cell) l_law_cell c_law_cell k_law_cell).binds (ps := ["_law_script", "_law_k"]) fun _ _ _ _ _ _ us hl => match us, hl with | [_, _], _ => rfl
    g_law_mixed := PySem.W.mg_of X G a_law_mixed
    F_law_mixed := fun_mk (st := s_law_mixed) l_law_mixed c_law_mixed k_law_mixed
    b_law_mixed := (fun_mk (st := s_law_mixed) l_law_mixed c_law_mixed k_law_mixed).binds (ps := ["_law_cell_here", "_law_k"]) fun _ _ _ _ _ _ us hl => match us, hl with | [_, _], _ => rfl
    g_law_told := PySem.W.mg_of X G a_law_told
    F_law_told := fun_mk (st := s_law_told) l_law_told c_law_told k_law_told
    b_law_told := (fun_mk (st := s_law_told) l_law_told c_law_told k_law_told).binds (ps := ["_law_e"]) fun _ _ _ _ _ _ us hl => match us, hl with | [_], _ => rfl
    g_law_told_more := PySem.W.mg_of X G a_law_told_more
    F_law_told_more := fun_mk (st := s_law_told_more) l_law_told_more c_law_told_more k_law_told_more
    b_law_told_more := (fun_mk (st := s_law_told_more) l_law_told_more c_law_told_more k_law_told_more).binds (ps := ["_law_e"]) fun _ _ _ _ _ _ us hl => match us, hl with | [_], _ => rfl
    g_law_filled := PySem.W.mg_of X G a_law_filled
    F_law_filled := fun_mk (st := s_law_filled) l_law_filled c_law_filled k_law_filled
    b_law_filled := (fun_mk (st := s_law_filled) l_law_filled c_law_filled k_law_filled).binds (ps := ["_law_cell_here", "_law_most"]) fun _ _ _ _ _ _ us hl => match us, hl with | [_, _], _ => rfl
    g_law_deed := PySem.W.mg_of X G a_law_deed
    F_law_deed := fun_mk (st := s_law_deed) l_law_deed c_law_deed k_law_deed
    b_law_deed := (fun_mk (st := s_law_deed) l_law_deed c_law_deed k_law_deed).binds (ps := ["_law_cell_here", "_law_k", "_law_rows"]) fun _ _ _ _ _ _ us hl => match us, hl with | [_, _, _], _ => rfl
    g_law_cell_of := PySem.W.mg_of X G a_law_cell_of
    F_law_cell_of := fun_mk (st := s_law_cell_of) l_law_cell_of c_law_cell_of k_law_cell_of
    b_law_cell_of := (fun_mk (st := s_law_cell_of) l_law_cell_of c_law_cell_of k_law_cell_of).binds (ps := ["_law_deed_here", "_law_size", "_law_rows"]) fun _ _ _ _ _ _ us hl => match us, hl with | [_, _, _], _ => rfl
    g_law_is_whole := PySem.W.mg_of X G a_law_is_whole
    F_law_is_whole := fun_mk (st := s_law_is_whole) l_law_is_whole c_law_is_whole k_law_is_whole
    b_law_is_whole := (fun_mk (st := s_law_is_whole) l_law_is_whole c_law_is_whole k_law_is_whole).binds (ps := ["_law_thing", "_law_low", "_law_high"]) fun _ _ _ _ _ _ us hl => match us, hl with | [_, _, _], _ => rfl
    g_law_due := PySem.W.mg_of X G a_law_due
    F_law_due := fun_mk (st := s_law_due) l_law_due c_law_due k_law_due
    b_law_due := (fun_mk (st := s_law_due) l_law_due c_law_due k_law_due).binds (ps := ["_law_size", "_law_rows", "_law_deed_here", "_law_x", "_law_y"]) fun _ _ _ _ _ _ us hl => match us, hl with | [_, _, _, _, _], _ => rfl
    g_law_done := PySem.W.mg_of X G a_law_done
    F_law_done := fun_mk (st := s_law_done) l_law_done c_law_done k_law_done
    b_law_done := (fun_mk (st := s_law_done) l_law_done c_law_done k_law_done).binds (ps := ["_law_picture", "_law_deed_here", "_law_x", "_law_y"]) fun _ _ _ _ _ _ us hl => match us, hl with | [_, _, _, _], _ => rfl
    g_law_again := PySem.W.mg_of X G a_law_again
    F_law_again := fun_mk (st := s_law_again) l_law_again c_law_again k_law_again
    b_law_again := (fun_mk (st := s_law_again) l_law_again c_law_again k_law_again).binds (ps := ["_law_picture", "_law_rows", "_law_name"]) fun _ _ _ _ _ _ us hl => match us, hl with | [_, _, _], _ => rfl
    g_law_step := PySem.W.mg_of X G a_law_step
    F_law_step := fun_mk (st := s_law_step) l_law_step c_law_step k_law_step
    b_law_step := (fun_mk (st := s_law_step) l_law_step c_law_step k_law_step).binds (ps := ["_law_picture", "_law_empty", "_law_size", "_law_rows", "_law_deed_here"]) fun _ _ _ _ _ _ us hl => match us, hl with | [_, _, _, _, _], _ => rfl
    g_law := PySem.W.mg_of X G a_law
    F_law := fun_mk (st := s_law) l_law c_law k_law
    b_law := (fun_mk (st := s_law) l_law c_law k_law).binds (ps := ["_law_script"]) fun _ _ _ _ _ _ us hl => match us, hl with | [_], _ => rfl
    x_RimError := ⟨ov_RimError, hd_RimError, sa_RimError, ga_RimError, gh_RimError, ca_RimError, cg, ct⟩
    mk_RimError := mk_RimError
    x_NoSize := ⟨ov_NoSize, hd_NoSize, sa_NoSize, ga_NoSize, gh_NoSize, ca_NoSize, cg, ct⟩
    mk_NoSize := mk_NoSize
    x_NoName := ⟨ov_NoName, hd_NoName, sa_NoName, ga_NoName, gh_NoName, ca_NoName, cg, ct⟩
    mk_NoName := mk_NoName
    x_NoCell := ⟨ov_NoCell, hd_NoCell, sa_NoCell, ga_NoCell, gh_NoCell, ca_NoCell, cg, ct⟩
    mk_NoCell := mk_NoCell
    k_NoCell := ⟨mk_NoCell, a_NoCell_init, i_NoCell_init, kc_NoCell⟩
    x_NoSides := ⟨ov_NoSides, hd_NoSides, sa_NoSides, ga_NoSides, gh_NoSides, ca_NoSides, cg, ct⟩
    mk_NoSides := mk_NoSides
    x_NoWindow := ⟨ov_NoWindow, hd_NoWindow, sa_NoWindow, ga_NoWindow, gh_NoWindow, ca_NoWindow, cg, ct⟩
    mk_NoWindow := mk_NoWindow
    x_OldPoint := ⟨ov_OldPoint, hd_OldPoint, sa_OldPoint, ga_OldPoint, gh_OldPoint, ca_OldPoint, cg, ct⟩
    mk_OldPoint := mk_OldPoint
    x_NoPoint := ⟨ov_NoPoint, hd_NoPoint, sa_NoPoint, ga_NoPoint, gh_NoPoint, ca_NoPoint, cg, ct⟩
    mk_NoPoint := mk_NoPoint
    k_NoPoint := ⟨mk_NoPoint, a_NoPoint_init, i_NoPoint_init, kc_NoPoint⟩
    x_TooMany := ⟨ov_TooMany, hd_TooMany, sa_TooMany, ga_TooMany, gh_TooMany, ca_TooMany, cg, ct⟩
    mk_TooMany := mk_TooMany
    x_SameColumn := ⟨ov_SameColumn, hd_SameColumn, sa_SameColumn, ga_SameColumn, gh_SameColumn, ca_SameColumn, cg, ct⟩
    mk_SameColumn := mk_SameColumn
    k_SameColumn := ⟨mk_SameColumn, a_SameColumn_init, i_SameColumn_init, kc_SameColumn⟩
    x_SameRow := ⟨ov_SameRow, hd_SameRow, sa_SameRow, ga_SameRow, gh_SameRow, ca_SameRow, cg, ct⟩
    mk_SameRow := mk_SameRow
    k_SameRow := ⟨mk_SameRow, a_SameRow_init, i_SameRow_init, kc_SameRow⟩
    x_NoSide := ⟨ov_NoSide, hd_NoSide, sa_NoSide, ga_NoSide, gh_NoSide, ca_NoSide, cg, ct⟩
    mk_NoSide := mk_NoSide
    x_NoRow := ⟨ov_NoRow, hd_NoRow, sa_NoRow, ga_NoRow, gh_NoRow, ca_NoRow, cg, ct⟩
    mk_NoRow := mk_NoRow
    x_OldSeat := ⟨ov_OldSeat, hd_OldSeat, sa_OldSeat, ga_OldSeat, gh_OldSeat, ca_OldSeat, cg, ct⟩
    mk_OldSeat := mk_OldSeat
    x_NoSeat := ⟨ov_NoSeat, hd_NoSeat, sa_NoSeat, ga_NoSeat, gh_NoSeat, ca_NoSeat, cg, ct⟩
    mk_NoSeat := mk_NoSeat
    x_NoRoom := ⟨ov_NoRoom, hd_NoRoom, sa_NoRoom, ga_NoRoom, gh_NoRoom, ca_NoRoom, cg, ct⟩
    mk_NoRoom := mk_NoRoom
    x_NoNotes := ⟨ov_NoNotes, hd_NoNotes, sa_NoNotes, ga_NoNotes, gh_NoNotes, ca_NoNotes, cg, ct⟩
    mk_NoNotes := mk_NoNotes
    x_TooFull := ⟨ov_TooFull, hd_TooFull, sa_TooFull, ga_TooFull, gh_TooFull, ca_TooFull, cg, ct⟩
    mk_TooFull := mk_TooFull
    x_TooTall := ⟨ov_TooTall, hd_TooTall, sa_TooTall, ga_TooTall, gh_TooTall, ca_TooTall, cg, ct⟩
    mk_TooTall := mk_TooTall
    x_BadLine := ⟨ov_BadLine, hd_BadLine, sa_BadLine, ga_BadLine, gh_BadLine, ca_BadLine, cg, ct⟩
    mk_BadLine := mk_BadLine
    x_BadDrawing := ⟨ov_BadDrawing, hd_BadDrawing, sa_BadDrawing, ga_BadDrawing, gh_BadDrawing, ca_BadDrawing, cg, ct⟩
    mk_BadDrawing := mk_BadDrawing
    x_NoLine := ⟨ov_NoLine, hd_NoLine, sa_NoLine, ga_NoLine, gh_NoLine, ca_NoLine, cg, ct⟩
    mk_NoLine := mk_NoLine
    c_Picture := ⟨pg_Picture, hd_Picture, po_Picture, sa_Picture⟩
    ca_Picture := ca_Picture
    mo_Picture := mo_Picture
    k_Picture := ⟨mk_Picture, a_Picture_init, i_Picture_init, kc_Picture⟩
    m_Picture_put := ⟨a_Picture_put, i_Picture_put, k_Picture_put⟩
    m_Picture_take := ⟨a_Picture_take, i_Picture_take, k_Picture_take⟩
    m_Picture_move := ⟨a_Picture_move, i_Picture_move, k_Picture_move⟩
    m_Picture_points := ⟨a_Picture_points, i_Picture_points, k_Picture_points⟩
    m_Picture_seats := ⟨a_Picture_seats, i_Picture_seats, k_Picture_seats⟩
    m_Picture_place_of := ⟨a_Picture_place_of, i_Picture_place_of, k_Picture_place_of⟩
    m_Picture_check_name := ⟨a_Picture_check_name, i_Picture_check_name, k_Picture_check_name⟩
    m_Picture_check_cell := ⟨a_Picture_check_cell, i_Picture_check_cell, k_Picture_check_cell⟩
    m_Picture_check_lines := ⟨a_Picture_check_lines, i_Picture_check_lines, k_Picture_check_lines⟩
    cg := cg
    ct := ct
    n_Picture_placed := n_Picture_placed
    n_Picture_height := n_Picture_height
    n_Picture_width := n_Picture_width
    n_Picture_opened := n_Picture_opened
    n_NoPoint_row := n_NoPoint_row
    n_NoPoint_side := n_NoPoint_side
    n_NoPoint_name := n_NoPoint_name
    n_NoPoint_high := n_NoPoint_high
    n_NoPoint_low := n_NoPoint_low
    n_NoPoint_sides := n_NoPoint_sides
    n_NoPoint_y := n_NoPoint_y
    n_NoPoint_x := n_NoPoint_x
    n_NoCell_row := n_NoCell_row
    n_NoCell_side := n_NoCell_side
    n_NoCell_name := n_NoCell_name
    n_NoCell_high := n_NoCell_high
    n_NoCell_low := n_NoCell_low
    n_NoCell_sides := n_NoCell_sides
    n_NoCell_y := n_NoCell_y
    n_NoCell_x := n_NoCell_x
    n_SameColumn_row := n_SameColumn_row
    n_SameColumn_side := n_SameColumn_side
    n_SameColumn_name := n_SameColumn_name
    n_SameColumn_high := n_SameColumn_high
    n_SameColumn_low := n_SameColumn_low
    n_SameColumn_sides := n_SameColumn_sides
    n_SameColumn_y := n_SameColumn_y
    n_SameColumn_x := n_SameColumn_x
    n_SameRow_row := n_SameRow_row
    n_SameRow_side := n_SameRow_side
    n_SameRow_name := n_SameRow_name
    n_SameRow_high := n_SameRow_high
    n_SameRow_low := n_SameRow_low
    n_SameRow_sides := n_SameRow_sides
    n_SameRow_y := n_SameRow_y
    n_SameRow_x := n_SameRow_x
    n_ValueError := PySem.W.mg_none_of X G n_ValueError
    n_bool := PySem.W.mg_none_of X G n_bool
    n_int := PySem.W.mg_none_of X G n_int
    n_isinstance := PySem.W.mg_none_of X G n_isinstance
    n_len := PySem.W.mg_none_of X G n_len
    n_list := PySem.W.mg_none_of X G n_list
    n_min := PySem.W.mg_none_of X G n_min
    n_range := PySem.W.mg_none_of X G n_range
    n_sorted := PySem.W.mg_none_of X G n_sorted
    n_str := PySem.W.mg_none_of X G n_str
    n_tuple := PySem.W.mg_none_of X G n_tuple
    kit_NoPoint_NoName := kit_NoPoint_NoName
    kit_NoPoint_NoCell := kit_NoPoint_NoCell
    kit_NoPoint_NoSides := kit_NoPoint_NoSides
    kit_NoPoint_NoWindow := kit_NoPoint_NoWindow
    kit_NoPoint_OldPoint := kit_NoPoint_OldPoint
    kit_NoPoint_TooMany := kit_NoPoint_TooMany
    kit_NoPoint_SameColumn := kit_NoPoint_SameColumn
    kit_NoPoint_SameRow := kit_NoPoint_SameRow
    kit_NoPoint_NoPoint := kit_NoPoint_NoPoint
    kit_NoPoint_NoSide := kit_NoPoint_NoSide
    kit_NoPoint_NoRow := kit_NoPoint_NoRow
    kit_NoPoint_OldSeat := kit_NoPoint_OldSeat
    kit_NoPoint_NoSeat := kit_NoPoint_NoSeat
    kany_NoPoint := kany_NoPoint
    kitv_NoPoint := kitv_NoPoint
    mro_NoPoint := mro_NoPoint
    kit_NoCell_NoName := kit_NoCell_NoName
    kit_NoCell_NoCell := kit_NoCell_NoCell
    kit_NoCell_NoSides := kit_NoCell_NoSides
    kit_NoCell_NoWindow := kit_NoCell_NoWindow
    kit_NoCell_OldPoint := kit_NoCell_OldPoint
    kit_NoCell_TooMany := kit_NoCell_TooMany
    kit_NoCell_SameColumn := kit_NoCell_SameColumn
    kit_NoCell_SameRow := kit_NoCell_SameRow
    kit_NoCell_NoPoint := kit_NoCell_NoPoint
    kit_NoCell_NoSide := kit_NoCell_NoSide
    kit_NoCell_NoRow := kit_NoCell_NoRow
    kit_NoCell_OldSeat := kit_NoCell_OldSeat
    kit_NoCell_NoSeat := kit_NoCell_NoSeat
    kany_NoCell := kany_NoCell
    kitv_NoCell := kitv_NoCell
    mro_NoCell := mro_NoCell
    kit_SameColumn_NoName := kit_SameColumn_NoName
    kit_SameColumn_NoCell := kit_SameColumn_NoCell
    kit_SameColumn_NoSides := kit_SameColumn_NoSides
    kit_SameColumn_NoWindow := kit_SameColumn_NoWindow
    kit_SameColumn_OldPoint := kit_SameColumn_OldPoint
    kit_SameColumn_TooMany := kit_SameColumn_TooMany
    kit_SameColumn_SameColumn := kit_SameColumn_SameColumn
    kit_SameColumn_SameRow := kit_SameColumn_SameRow
    kit_SameColumn_NoPoint := kit_SameColumn_NoPoint
    kit_SameColumn_NoSide := kit_SameColumn_NoSide
    kit_SameColumn_NoRow := kit_SameColumn_NoRow
    kit_SameColumn_OldSeat := kit_SameColumn_OldSeat
    kit_SameColumn_NoSeat := kit_SameColumn_NoSeat
    kany_SameColumn := kany_SameColumn
    kitv_SameColumn := kitv_SameColumn
    mro_SameColumn := mro_SameColumn
    kit_SameRow_NoName := kit_SameRow_NoName
    kit_SameRow_NoCell := kit_SameRow_NoCell
    kit_SameRow_NoSides := kit_SameRow_NoSides
    kit_SameRow_NoWindow := kit_SameRow_NoWindow
    kit_SameRow_OldPoint := kit_SameRow_OldPoint
    kit_SameRow_TooMany := kit_SameRow_TooMany
    kit_SameRow_SameColumn := kit_SameRow_SameColumn
    kit_SameRow_SameRow := kit_SameRow_SameRow
    kit_SameRow_NoPoint := kit_SameRow_NoPoint
    kit_SameRow_NoSide := kit_SameRow_NoSide
    kit_SameRow_NoRow := kit_SameRow_NoRow
    kit_SameRow_OldSeat := kit_SameRow_OldSeat
    kit_SameRow_NoSeat := kit_SameRow_NoSeat
    kany_SameRow := kany_SameRow
    kitv_SameRow := kitv_SameRow
    mro_SameRow := mro_SameRow
    v_MOST_ROWS := ⟨_, PySem.W.mg_of X G v_MOST_ROWS⟩
    v_MOST_COLUMNS := ⟨_, PySem.W.mg_of X G v_MOST_COLUMNS⟩
    v_MOST_POINTS := ⟨_, PySem.W.mg_of X G v_MOST_POINTS⟩
    g_MIRRORED_SIDES := PySem.W.mg_of X G g_MIRRORED_SIDES
    D_MIRRORED_SIDES := ⟨ns_MIRRORED_SIDES, _, _, l_MIRRORED_SIDES, .cons rfl ⟨_, rfl⟩ ⟨_, rfl⟩ (.cons rfl ⟨_, rfl⟩ ⟨_, rfl⟩ (.cons rfl ⟨_, rfl⟩ ⟨_, rfl⟩ (.nil))), by decide⟩ }⟩
theorem sc_NoCell_init : FnScope ["self", "x", "y"] ["self", "x", "y"] (defScope s_NoCell_init) := ⟨rfl, rfl, rfl, by decide +kernel, rfl, by decide +kernel, by decide +kernel⟩
theorem sc_NoPoint_init : FnScope ["self", "name"] ["self", "name"] (defScope s_NoPoint_init) := ⟨rfl, rfl, rfl, by decide +kernel, rfl, by decide +kernel, by decide +kernel⟩
theorem sc_SameColumn_init : FnScope ["self", "name"] ["self", "name"] (defScope s_SameColumn_init) := ⟨rfl, rfl, rfl, by decide +kernel, rfl, by decide +kernel, by decide +kernel⟩
theorem sc_SameRow_init : FnScope ["self", "name"] ["self", "name"] (defScope s_SameRow_init) := ⟨rfl, rfl, rfl, by decide +kernel, rfl, by decide +kernel, by decide +kernel⟩
theorem sc_is_whole : FnScope ["thing", "low", "high"] ["thing", "low", "high"] (defScope s_is_whole) := ⟨rfl, rfl, rfl, by decide +kernel, rfl, by decide +kernel, by decide +kernel⟩
theorem sc_is_name : FnScope ["thing"] ["thing"] (defScope s_is_name) := ⟨rfl, rfl, rfl, by decide +kernel, rfl, by decide +kernel, by decide +kernel⟩
theorem sc_Picture_init : FnScope ["self", "width", "height"] ["self", "width", "height"] (defScope s_Picture_init) := ⟨rfl, rfl, rfl, by decide +kernel, rfl, by decide +kernel, by decide +kernel⟩
theorem sc_Picture_put : FnScope ["self", "name", "x", "y", "sides", "low", "high", "highest"] ["self", "name", "x", "y", "sides", "low", "high"] (defScope s_Picture_put) := ⟨rfl, rfl, rfl, by decide +kernel, rfl, by decide +kernel, by decide +kernel⟩
theorem sc_Picture_take : FnScope ["self", "name"] ["self", "name"] (defScope s_Picture_take) := ⟨rfl, rfl, rfl, by decide +kernel, rfl, by decide +kernel, by decide +kernel⟩
theorem sc_Picture_move : FnScope ["self", "name", "x", "y"] ["self", "name", "x", "y"] (defScope s_Picture_move) := ⟨rfl, rfl, rfl, by decide +kernel, rfl, by decide +kernel, by decide +kernel⟩
theorem sc_Picture_points : FnScope ["self"] ["self"] (defScope s_Picture_points) := ⟨rfl, rfl, rfl, by decide +kernel, rfl, by decide +kernel, by decide +kernel⟩
theorem sc_Picture_seats : FnScope ["self"] ["self"] (defScope s_Picture_seats) := ⟨rfl, rfl, rfl, by decide +kernel, rfl, by decide +kernel, by decide +kernel⟩
theorem sc_Picture_place_of : FnScope ["self", "name"] ["self", "name"] (defScope s_Picture_place_of) := ⟨rfl, rfl, rfl, by decide +kernel, rfl, by decide +kernel, by decide +kernel⟩
theorem sc_Picture_check_name : FnScope ["self", "name"] ["self", "name"] (defScope s_Picture_check_name) := ⟨rfl, rfl, rfl, by decide +kernel, rfl, by decide +kernel, by decide +kernel⟩
theorem sc_Picture_check_cell : FnScope ["self", "x", "y"] ["self", "x", "y"] (defScope s_Picture_check_cell) := ⟨rfl, rfl, rfl, by decide +kernel, rfl, by decide +kernel, by decide +kernel⟩
theorem sc_Picture_check_lines : FnScope ["self", "name", "x", "y", "others", "other"] ["self", "name", "x", "y"] (defScope s_Picture_check_lines) := ⟨rfl, rfl, rfl, by decide +kernel, rfl, by decide +kernel, by decide +kernel⟩
theorem sc_law_cell : FnScope ["_law_script", "_law_k"] ["_law_script", "_law_k"] (defScope s_law_cell) := ⟨rfl, rfl, rfl, by decide +kernel, rfl, by decide +kernel, by decide +kernel⟩
theorem sc_law_mixed : FnScope ["_law_cell_here", "_law_k", "_law_number"] ["_law_cell_here", "_law_k"] (defScope s_law_mixed) := ⟨rfl, rfl, rfl, by decide +kernel, rfl, by decide +kernel, by decide +kernel⟩
theorem sc_law_told : FnScope ["_law_e", "_law_found"] ["_law_e"] (defScope s_law_told) := ⟨rfl, rfl, rfl, by decide +kernel, rfl, by decide +kernel, by decide +kernel⟩
theorem sc_law_told_more : FnScope ["_law_e", "_law_found"] ["_law_e"] (defScope s_law_told_more) := ⟨rfl, rfl, rfl, by decide +kernel, rfl, by decide +kernel, by decide +kernel⟩
theorem sc_law_filled : FnScope ["_law_cell_here", "_law_most", "_law_width", "_law_height", "_law_picture", "_law_rows", "_law_first", "_law_k", "_law_x", "_law_y", "_law_number", "_law_low", "_law_row"] ["_law_cell_here", "_law_most"] (defScope s_law_filled) := ⟨rfl, rfl, rfl, by decide +kernel, rfl, by decide +kernel, by decide +kernel⟩
theorem sc_law_deed : FnScope ["_law_cell_here", "_law_k", "_law_rows", "_law_draws", "_law_name"] ["_law_cell_here", "_law_k", "_law_rows"] (defScope s_law_deed) := ⟨rfl, rfl, rfl, by decide +kernel, rfl, by decide +kernel, by decide +kernel⟩
theorem sc_law_cell_of : FnScope ["_law_deed_here", "_law_size", "_law_rows", "_law_x", "_law_y", "_law_row"] ["_law_deed_here", "_law_size", "_law_rows"] (defScope s_law_cell_of) := ⟨rfl, rfl, rfl, by decide +kernel, rfl, by decide +kernel, by decide +kernel⟩
theorem sc_law_is_whole : FnScope ["_law_thing", "_law_low", "_law_high"] ["_law_thing", "_law_low", "_law_high"] (defScope s_law_is_whole) := ⟨rfl, rfl, rfl, by decide +kernel, rfl, by decide +kernel, by decide +kernel⟩
theorem sc_law_due : FnScope ["_law_size", "_law_rows", "_law_deed_here", "_law_x", "_law_y", "_law_at", "_law_row"] ["_law_size", "_law_rows", "_law_deed_here", "_law_x", "_law_y"] (defScope s_law_due) := ⟨rfl, rfl, rfl, by decide +kernel, rfl, by decide +kernel, by decide +kernel⟩
theorem sc_law_done : FnScope ["_law_picture", "_law_deed_here", "_law_x", "_law_y", "_law_reply", "_law_told_here", "_law_e"] ["_law_picture", "_law_deed_here", "_law_x", "_law_y"] (defScope s_law_done) := ⟨rfl, rfl, rfl, by decide +kernel, rfl, by decide +kernel, by decide +kernel⟩
theorem sc_law_again : FnScope ["_law_picture", "_law_rows", "_law_name", "_law_old", "_law_row"] ["_law_picture", "_law_rows", "_law_name"] (defScope s_law_again) := ⟨rfl, rfl, rfl, by decide +kernel, rfl, by decide +kernel, by decide +kernel⟩
theorem sc_law_step : FnScope ["_law_picture", "_law_empty", "_law_size", "_law_rows", "_law_deed_here", "_law_x", "_law_y", "_law_due_here", "_law_reply", "_law_told_here", "_law_row", "_law_at"] ["_law_picture", "_law_empty", "_law_size", "_law_rows", "_law_deed_here"] (defScope s_law_step) := ⟨rfl, rfl, rfl, by decide +kernel, rfl, by decide +kernel, by decide +kernel⟩
theorem sc_law : FnScope ["_law_script", "_law_picture", "_law_rows", "_law_size", "_law_empty", "_law_first", "_law_held", "_law_k", "_law_deed_here"] ["_law_script"] (defScope s_law) := ⟨rfl, rfl, rfl, by decide +kernel, rfl, by decide +kernel, by decide +kernel⟩
end S04
set_option maxRecDepth 100000
set_option maxHeartbeats 4000000
namespace S04
open PySem L2 XL PyProof.Rows
theorem kit_same {K : PySem.W.Frag} {v : Value} : PySem.W.kitOne K v v = some true := if_pos (by simp)
theorem same_upd {H H' : Hp} {p : Addr} {o : HO} (s : Same H H') (hp : H' p = none) : Same H (L2.upd H' p o) := fun b u z => by
  have z' := s b u z
  rw [upd_ne (ne_of_none z' hp)]
  exact z'
def sideW (b : Bool) : Str := if b then "left" else "right"
section
variable {P : Program} {w : World} {K : PySem.W.Frag} {mg : Str → Option Value} {base : Heap} {t : Adr}
end
def isNm (x : Str) : Bool := decide (x.length = 1) && (!decide (x.cps.toList < [97]) && !decide ([122] < x.cps.toList))
def spIsW : Sp := fun vs H Q _ => ∃ (i lo hi : Int), vs = [.int i, .int lo, .int hi] ∧ lo ≤ i ∧ i ≤ hi ∧ Q (.bl true) H
def spIsN : Sp := fun vs H Q _ => ∃ (x : Str), vs = [.str x] ∧ isNm x = true ∧ Q (.bl true) H
theorem a_cps : ("a" : Str).cps.toList = [97] := by decide +kernel
theorem z_cps : ("z" : Str).cps.toList = [122] := by decide +kernel
section
variable {P : Program} {w : World} {K : PySem.W.Frag} {mg : Str → Option Value} {base : Heap} {t : Adr}
theorem ok_is_whole (T : Txt w K mg t) : FnOk true P w K mg base (CXo P w) 1 t.f_is_whole t.d_is_whole ["thing", "low", "high"] (spIsW) := by
  refine T.F_is_whole.okn (k := 0) sc_is_whole (fun vs H Q E h => ?_) (fun cdv A outer s H vs Q E hr h => ?_)
  · obtain ⟨i, lo, hi, rfl, _⟩ := h
    rfl
  · obtain ⟨i, lo, hi, rfl, h⟩ := h
    refine ⟨_, pss_one (ps_ret (pe_and (pe_callB call_isin rfl T.n_isinstance boot_isinstance (pa_cons (pv 0) (pa_cons (pe_bltn (v := .ty "int") rfl T.n_int boot_int rfl) (pa_nil)))) (pe_and (pe_not (pe_callB call_isin rfl T.n_isinstance boot_isinstance (pa_cons (pv 0) (pa_cons (pe_bltn (v := .ty "bool") rfl T.n_bool boot_bool rfl) (pa_nil))))) (pe_one (pe_chain op_le op_le (pv 1) (pv 0) (pv 2)))))), ?_⟩
    obtain ⟨c1, c2, q⟩ := h
    refine ⟨_, rfl, _, _, rfl, .inl ⟨_, _, true, .int i, rfl, kit_same, true, rfl, iteT ?_⟩⟩
    refine ⟨_, rfl, _, _, rfl, .inl ⟨_, _, false, .int i, rfl, (by rfl), false, rfl, true, rfl, iteT ?_⟩⟩
    refine ⟨_, rfl, _, rfl, _, _, rfl, rfl, _, rfl, ite2 (fun c => ?_) (fun c => ?_)⟩
    · refine ⟨_, rfl, _, _, rfl, rfl, ?_⟩
      show Q (.bl (decide (i ≤ hi))) H
      rw [decide_eq_true c2]
      exact q
    · exact absurd (decide_eq_true c1) c
theorem ok_is_name (T : Txt w K mg t) : FnOk true P w K mg base (CXo P w) 1 t.f_is_name t.d_is_name ["thing"] (spIsN) := by
  refine T.F_is_name.okn (k := 0) sc_is_name (fun vs H Q E h => ?_) (fun cdv A outer s H vs Q E hr h => ?_)
  · obtain ⟨x, rfl, _⟩ := h
    rfl
  · obtain ⟨x, rfl, h⟩ := h
    refine ⟨_, pss_one (ps_ret (pe_and (pe_callB call_isin rfl T.n_isinstance boot_isinstance (pa_cons (pv 0) (pa_cons (pe_bltn (v := .ty "str") rfl T.n_str boot_str rfl) (pa_nil)))) (pe_and (pe_cmpR op_eq (pe_callB call_len_str rfl T.n_len boot_len (pa_cons (pv 0) (pa_nil))) (pe_int) (nomark _)) (pe_one (pe_chain op_le_str op_le_str (pe_str) (pv 0) (pe_str)))))), ?_⟩
    obtain ⟨hn, q⟩ := h
    unfold isNm at hn
    simp only [Bool.and_eq_true, decide_eq_true_eq, Bool.not_eq_true', decide_eq_false_iff_not] at hn
    obtain ⟨l1, n1, n2⟩ := hn
    refine ⟨_, rfl, _, _, rfl, .inl ⟨_, _, true, .str x, rfl, kit_same, true, rfl, iteT ?_⟩⟩
    refine ⟨_, rfl, _, rfl, (by rw [l1]; decide), rfl, _, rfl, ite2 (fun c => ?_) (fun c => ?_)⟩
    · refine ⟨_, rfl, _, _, rfl, rfl, _, rfl, ite2 (fun d => ?_) (fun d => ?_)⟩
      · refine ⟨_, _, rfl, rfl, ?_⟩
        rw [z_cps, decide_eq_false n2]
        exact q
      · rw [a_cps, decide_eq_false n1] at d
        exact absurd rfl d
    · exact absurd (decide_eq_true (by rw [l1]; rfl)) c
end
section
end
end S04
set_option maxRecDepth 100000
set_option maxHeartbeats 4000000
namespace S04
open PySem L2 XL PyProof.Rows
structure Pt where
  nm : Str
  x : Int
  y : Int
  sd : Str
  lo : Int
  hi : Int
def ptV (p : Pt) : List V := [.int p.x, .int p.y, .str p.sd, .int p.lo, .int p.hi]
inductive Pl (H : Hp) : List Pt → List (Key × V) → Prop
  | nil : Pl H [] []
  | cons {p : Pt} {q : Addr} {ps : List Pt} {kvs : List (Key × V)} (h : H q = some (.tup (ptV p))) (r : Pl H ps kvs) : Pl H (p :: ps) ((.inr p.nm, .ref q) :: kvs)
inductive PtsL (H : Hp) : List Pt → List Addr → Prop
  | nil : PtsL H [] []
  | cons {p : Pt} {q : Addr} {ps : List Pt} {qs : List Addr} (h : H q = some (.tup (.str p.nm :: ptV p))) (r : PtsL H ps qs) : PtsL H (p :: ps) (q :: qs)
theorem tT_if {σ : L2.St} {H : Hp} {A B : Hp → Prop} (h : A H) : tTrue σ H (fun b H4 => if b = true then A H4 else B H4) := by
  show if true = true then A H else B H
  rw [if_pos rfl]
  exact h
def Tups (H H' : Hp) : Prop := ∀ b xs, H b = some (.tup xs) → H' b = some (.tup xs)
theorem Pl.keep {H H' : Hp} (s : Tups H H') {ps : List Pt} {kvs : List (Key × V)} (h : Pl H ps kvs) : Pl H' ps kvs := by
  induction h with
  | nil => exact .nil
  | cons h _ ih => exact .cons (s _ _ h) ih
theorem PtsL.keep {H H' : Hp} (s : Tups H H') {ps : List Pt} {qs : List Addr} (h : PtsL H ps qs) : PtsL H' ps qs := by
  induction h with
  | nil => exact .nil
  | cons h _ ih => exact .cons (s _ _ h) ih
theorem Pl.len {H : Hp} {ps : List Pt} {kvs : List (Key × V)} (h : Pl H ps kvs) : kvs.length = ps.length := by
  induction h with
  | nil => rfl
  | cons _ _ ih => simp [ih]
theorem PtsL.len {H : Hp} {ps : List Pt} {qs : List Addr} (h : PtsL H ps qs) : qs.length = ps.length := by
  induction h with
  | nil => rfl
  | cons _ _ ih => simp [ih]
theorem Pl.find {H : Hp} {ps : List Pt} {kvs : List (Key × V)} (h : Pl H ps kvs) {nm : Str} {pt : Pt} (e : ps.find? (fun p => decide (p.nm = nm)) = some pt) : ∃ q, valV kvs (.inr nm) = some (.ref q) ∧ H q = some (.tup (ptV pt)) := by
  induction h with
  | nil => simp at e
  | @cons p q ps kvs h _ ih =>
    by_cases c : p.nm = nm
    · rw [List.find?_cons_of_pos (by simpa using c)] at e
      cases e
      exact ⟨q, valV_pos (by rw [c]), h⟩
    · rw [List.find?_cons_of_neg (by simpa using c)] at e
      obtain ⟨q', h1, h2⟩ := ih e
      exact ⟨q', by rw [valV_neg (fun z => c (Sum.inr.inj z))]; exact h1, h2⟩
theorem Pl.no {H : Hp} {ps : List Pt} {kvs : List (Key × V)} (h : Pl H ps kvs) {nm : Str} (e : ∀ p ∈ ps, p.nm ≠ nm) : valV kvs (.inr nm) = none := by
  induction h with
  | nil => rfl
  | @cons p q ps kvs h _ ih =>
    rw [valV_neg (fun z => e p List.mem_cons_self (Sum.inr.inj z))]
    exact ih fun p' hp => e p' (List.mem_cons_of_mem _ hp)
theorem Pl.get {H : Hp} {ps : List Pt} {kvs : List (Key × V)} (h : Pl H ps kvs) {i : Nat} {k : Key} {x : V} (e : kvs[i]? = some (k, x)) : ∃ p q, ps[i]? = some p ∧ k = .inr p.nm ∧ x = .ref q ∧ H q = some (.tup (ptV p)) := by
  induction h generalizing i with
  | nil => simp at e
  | @cons p q ps kvs h _ ih =>
    cases i with
    | zero =>
      simp at e
      exact ⟨p, q, rfl, e.1.symm, e.2.symm, h⟩
    | succ j => exact ih (by simpa using e)
theorem PtsL.get {H : Hp} {ps : List Pt} {qs : List Addr} (h : PtsL H ps qs) {i : Nat} {q : Addr} (e : qs[i]? = some q) : ∃ p, ps[i]? = some p ∧ H q = some (.tup (.str p.nm :: ptV p)) := by
  induction h generalizing i with
  | nil => simp at e
  | @cons p q' ps qs h _ ih =>
    cases i with
    | zero =>
      simp at e
      subst e
      exact ⟨p, rfl, h⟩
    | succ j => exact ih (by simpa using e)
theorem Pl.snoc {H : Hp} {ps : List Pt} {kvs : List (Key × V)} (h : Pl H ps kvs) {p : Pt} {q : Addr} (e : H q = some (.tup (ptV p))) : Pl H (ps ++ [p]) (kvs ++ [(.inr p.nm, .ref q)]) := by
  induction h with
  | nil => exact .cons e .nil
  | cons h _ ih => exact .cons h ih
theorem PtsL.snoc {H : Hp} {ps : List Pt} {qs : List Addr} (h : PtsL H ps qs) {p : Pt} {q : Addr} (e : H q = some (.tup (.str p.nm :: ptV p))) : PtsL H (ps ++ [p]) (qs ++ [q]) := by
  induction h with
  | nil => exact .cons e .nil
  | cons h _ ih => exact .cons h ih
abbrev picF (w h : Int) (dp do_ : Addr) : List (Str × V) := [("width", .int w), ("height", .int h), ("placed", .ref dp), ("opened", .ref do_)]
structure Pic (t : Adr) (H : Hp) (a dp do_ : Addr) (w h : Int) (ps : List Pt) : Prop where
  ins : ∃ dx, H a = some (.ins t.C_Picture dx (picF w h dp do_))
  pl : ∃ kvs, H dp = some (.dK kvs) ∧ Pl H ps kvs
  w1 : 1 ≤ w
  w2 : w ≤ 30
  h1 : 1 ≤ h
  h2 : h ≤ 16
  len : ps.length ≤ 12
theorem Same.tups {H H' : Hp} (s : Same H H') : Tups H H' := fun b xs e => s b _ e
theorem Pic.same {t : Adr} {H H' : Hp} {a dp do_ : Addr} {w h : Int} {ps : List Pt} (s : Same H H') (p : Pic t H a dp do_ w h ps) : Pic t H' a dp do_ w h ps :=
  ⟨let ⟨dx, e⟩ := p.ins; ⟨dx, s _ _ e⟩, let ⟨kvs, e, q⟩ := p.pl; ⟨kvs, s _ _ e, q.keep (Same.tups s)⟩, p.w1, p.w2, p.h1, p.h2, p.len⟩
theorem lk_no {w h : Int} {dp do_ : Addr} {m : Str} (e : ((["width", "height", "placed", "opened"] : List Str).all fun k => !(m == k)) = true) : (picF w h dp do_).lookup m = none := by
  simp only [List.all_cons, List.all_nil, Bool.and_eq_true, Bool.not_eq_true'] at e
  obtain ⟨e1, e2, e3, e4, _⟩ := e
  unfold picF
  rw [List.lookup_cons, e1]
  show List.lookup m [("height", V.int h), ("placed", V.ref dp), ("opened", V.ref do_)] = none
  rw [List.lookup_cons, e2]
  show List.lookup m [("placed", V.ref dp), ("opened", V.ref do_)] = none
  rw [List.lookup_cons, e3]
  show List.lookup m [("opened", V.ref do_)] = none
  rw [List.lookup_cons, e4]
  rfl
theorem lkW {w h : Int} {dp do_ : Addr} : (picF w h dp do_).lookup ("width" : Str) = some (.int w) := by
  unfold picF
  rw [List.lookup_cons, show (("width" : Str) == "width") = true from by decide +kernel]
theorem lkH {w h : Int} {dp do_ : Addr} : (picF w h dp do_).lookup ("height" : Str) = some (.int h) := by
  unfold picF
  rw [List.lookup_cons, show (("height" : Str) == "width") = false from by decide +kernel]
  show List.lookup ("height" : Str) [("height", V.int h), ("placed", V.ref dp), ("opened", V.ref do_)] = _
  rw [List.lookup_cons, show (("height" : Str) == "height") = true from by decide +kernel]
theorem lkP {w h : Int} {dp do_ : Addr} : (picF w h dp do_).lookup ("placed" : Str) = some (.ref dp) := by
  unfold picF
  rw [List.lookup_cons, show (("placed" : Str) == "width") = false from by decide +kernel]
  show List.lookup ("placed" : Str) [("height", V.int h), ("placed", V.ref dp), ("opened", V.ref do_)] = _
  rw [List.lookup_cons, show (("placed" : Str) == "height") = false from by decide +kernel]
  show List.lookup ("placed" : Str) [("placed", V.ref dp), ("opened", V.ref do_)] = _
  rw [List.lookup_cons, show (("placed" : Str) == "placed") = true from by decide +kernel]
def spPInit (t : Adr) : Sp := fun vs H Q _ => ∃ (p dx : Addr) (w h : Int), vs = [.ref p, .int w, .int h] ∧ H p = some (.ins t.C_Picture dx []) ∧ 1 ≤ w ∧ w ≤ 30 ∧ 1 ≤ h ∧ h ≤ 16 ∧
  ∀ H' dp do_, H dp = none → H do_ = none → (∀ b u, b ≠ p → H b = some u → H' b = some u) → Pic t H' p dp do_ w h [] → H' do_ = some (.dT []) → Q .non H'
def spCC (t : Adr) : Sp := fun vs H Q _ => ∃ (a dp do_ : Addr) (pw ph : Int) (ps : List Pt) (x y : Int), vs = [.ref a, .int x, .int y] ∧ Pic t H a dp do_ pw ph ps ∧ 1 ≤ x ∧ x ≤ pw ∧ 1 ≤ y ∧ y ≤ ph ∧ Q .non H
def spPts (t : Adr) : Sp := fun vs H Q _ => ∃ (a dp do_ : Addr) (pw ph : Int) (ps : List Pt), vs = [.ref a] ∧ Pic t H a dp do_ pw ph ps ∧ ∀ H' l qs, Same H H' → H' l = some (.lst (qs.map V.ref)) → PtsL H' ps qs → Q (.ref l) H'
def spCL (t : Adr) : Sp := fun vs H Q _ => ∃ (a dp do_ : Addr) (pw ph : Int) (ps : List Pt) (nm : Str) (x y : Int), vs = [.ref a, .str nm, .int x, .int y] ∧ Pic t H a dp do_ pw ph ps ∧ (∀ p ∈ ps, p.nm ≠ nm → p.x ≠ x ∧ p.y ≠ y) ∧ ∀ H', Same H H' → Q .non H'
def spPut (t : Adr) : Sp := fun vs H Q _ => ∃ (a dp do_ : Addr) (pw ph : Int) (ps : List Pt) (nm : Str) (x y : Int) (sd : Str) (lo hi : Int) (hv : V), vs = [.ref a, .str nm, .int x, .int y, .str sd, .int lo, hv] ∧ Pic t H a dp do_ pw ph ps ∧
  ((hv = .non ∧ hi = ph) ∨ hv = .int hi) ∧ isNm nm = true ∧ 1 ≤ x ∧ x ≤ pw ∧ 1 ≤ y ∧ y ≤ ph ∧ (sd = "left" ∨ sd = "right" ∨ sd = "both") ∧ 1 ≤ lo ∧ lo ≤ hi ∧ hi ≤ ph ∧ (∀ p ∈ ps, p.nm ≠ nm ∧ p.x ≠ x ∧ p.y ≠ y) ∧ ps.length < 12 ∧
  ∀ H', (∀ b u, b ≠ dp → H b = some u → H' b = some u) → Pic t H' a dp do_ pw ph (ps ++ [⟨nm, x, y, sd, lo, hi⟩]) → Q .non H'
section
variable {P : Program} {w : World} {K : PySem.W.Frag} {mg : Str → Option Value} {base : Heap} {t : Adr}
theorem ok_Picture_init (T : Txt w K mg t) : FnOk true P w K mg base (CXo P w) 2 t.f_Picture_init t.d_Picture_init ["self", "width", "height"] (spPInit t) := by
  refine T.F_Picture_init.okn (k := 1) sc_Picture_init (fun vs H Q E h => ?_) (fun cdv A outer s H vs Q E hr h => ?_)
  · obtain ⟨p, dx, pw, ph, rfl, _⟩ := h
    rfl
  · obtain ⟨p, dx, pw, ph, rfl, h⟩ := h
    refine ⟨_, pss_cons (ps_if (PW.pt (pw_or (pt_not (pt_val (pe_call (ok_is_whole T) (hr.mono (by decide)) rfl T.g_is_whole T.F_is_whole.kp T.b_is_whole .nil pass_none (pa_cons (pv 1) (pa_cons (pe_int) (pa_cons (pe_glob (v := .int 30) rfl T.v_MOST_COLUMNS.choose_spec ⟨_, rfl⟩) (pa_nil))))))) (pw_or1 (pt_not (pt_val (pe_call (ok_is_whole T) (hr.mono (by decide)) rfl T.g_is_whole T.F_is_whole.kp T.b_is_whole .nil pass_none (pa_cons (pv 2) (pa_cons (pe_int) (pa_cons (pe_glob (v := .int 16) rfl T.v_MOST_ROWS.choose_spec ⟨_, rfl⟩) (pa_nil)))))))))) (pss_one (ps_never)) (pss_nil))
      (pss_cons (ps_fld (pv 0) (pv 1) rfl)
      (pss_cons (ps_fld (pv 0) (pv 2) rfl)
      (pss_cons (ps_fld (pv 0) (pe_dnewK) rfl)
      (pss_one (ps_fld (pv 0) (pe_dnewT) rfl))))), ?_⟩
    obtain ⟨hp, w1, w2, h1, h2, q⟩ := h
    refine ⟨_, rfl, pw, 1, 30, rfl, w1, w2, true, rfl, iteF ⟨_, rfl, ph, 1, 16, rfl, h1, h2, true, rfl, iteF ?_⟩⟩
    refine ⟨_, rfl, _, rfl, p, _, dx, _, rfl, hp, T.c_Picture, T.n_Picture_width, (by show 0 < 1000; decide), ?_⟩
    refine ⟨_, rfl, _, rfl, p, _, dx, _, rfl, upd_same, T.c_Picture, T.n_Picture_height, (by show 1 < 1000; decide), ?_⟩
    rw [upd_upd]
    refine fun dp hdp => ?_
    have n1 : p ≠ dp := ne_of_none upd_same hdp
    refine ⟨_, rfl, p, _, dx, _, rfl, (by rw [upd_ne n1]; exact upd_same), T.c_Picture, T.n_Picture_placed, (by show 2 < 1000; decide), fun do_ hdo => ?_⟩
    have n2 : p ≠ do_ := ne_of_none upd_same hdo
    have n3 : dp ≠ do_ := ne_of_none (by rw [upd_ne (Ne.symm n1)]; exact upd_same) hdo
    refine ⟨_, rfl, p, _, dx, _, rfl, (by rw [upd_ne n2]; exact upd_same), T.c_Picture, T.n_Picture_opened, (by show 3 < 1000; decide), ?_⟩
    rw [upd_ne (Ne.symm n1)] at hdp
    have hdo' : H do_ = none := by
      have z := hdo
      rw [upd_ne (Ne.symm n2), upd_ne (Ne.symm n3), upd_ne (Ne.symm n2)] at z
      exact z
    refine q _ dp do_ hdp hdo' (fun b u nb e => ?_) ⟨⟨dx, upd_same⟩, ⟨[], ?_, .nil⟩, w1, w2, h1, h2, Nat.zero_le _⟩ ?_
    · have c1 : b ≠ dp := ne_of_none e hdp
      have c2 : b ≠ do_ := fun z => by
        subst z
        rw [upd_ne nb, upd_ne c1, upd_ne nb] at hdo
        rw [e] at hdo
        cases hdo
      rw [upd_ne nb, upd_ne c2, upd_ne nb, upd_ne c1, upd_ne nb]
      exact e
    · rw [upd_ne (Ne.symm n1), upd_ne n3, upd_ne (Ne.symm n1)]
      exact upd_same
    · rw [upd_ne (Ne.symm n2)]
      exact upd_same
theorem ok_Picture_check_cell (T : Txt w K mg t) : FnOk true P w K mg base (CXo P w) 2 t.f_Picture_check_cell t.d_Picture_check_cell ["self", "x", "y"] (spCC t) := by
  refine T.F_Picture_check_cell.okn (k := 1) sc_Picture_check_cell (fun vs H Q E h => ?_) (fun cdv A outer s H vs Q E hr h => ?_)
  · obtain ⟨a, dp, do_, pw, ph, ps, x, y, rfl, _⟩ := h
    rfl
  · obtain ⟨a, dp, do_, pw, ph, ps, x, y, rfl, h⟩ := h
    refine ⟨_, pss_one (ps_if (PW.pt (pw_or (pt_not (pt_val (pe_call (ok_is_whole T) (hr.mono (by decide)) rfl T.g_is_whole T.F_is_whole.kp T.b_is_whole .nil pass_none (pa_cons (pv 1) (pa_cons (pe_int) (pa_cons (pe_fld (pv 0) rfl) (pa_nil))))))) (pw_or1 (pt_not (pt_val (pe_call (ok_is_whole T) (hr.mono (by decide)) rfl T.g_is_whole T.F_is_whole.kp T.b_is_whole .nil pass_none (pa_cons (pv 2) (pa_cons (pe_int) (pa_cons (pe_fld (pv 0) rfl) (pa_nil)))))))))) (pss_one (ps_never)) (pss_nil)), ?_⟩
    obtain ⟨pic, x1, x2, y1, y2, q⟩ := h
    obtain ⟨⟨dx, hp⟩, _, _⟩ := id pic
    exact ⟨_, rfl, _, rfl, a, _, dx, _, _, rfl, hp, T.c_Picture, T.n_Picture_width, lkW, x, 1, pw, rfl, x1, x2, true, rfl, iteF ⟨_, rfl, _, rfl, a, _, dx, _, _, rfl, hp, T.c_Picture, T.n_Picture_height, lkH, y, 1, ph, rfl, y1, y2, true, rfl, iteF q⟩⟩
theorem ok_Picture_points (T : Txt w K mg t) : FnOk true P w K mg base (CXo P w) 1 t.f_Picture_points t.d_Picture_points ["self"] (spPts t) := by
  refine T.F_Picture_points.okn (k := 0) sc_Picture_points (fun vs H Q E h => ?_) (fun cdv A outer s H vs Q E hr h => ?_)
  · obtain ⟨a, dp, do_, pw, ph, ps, rfl, _⟩ := h
    rfl
  · obtain ⟨a, dp, do_, pw, ph, ps, rfl, h⟩ := h
    refine ⟨_, pss_one (ps_ret (pe_thaw (pe_compG rfl (blkG_of (zs := ["name", "rest"]) (ys := []) (fr := []) (N0 := ["self"]) (sc0 := defScope s_Picture_points) (by decide +kernel) rfl rfl rfl) (pi_items (pe_fld (pv 0) rfl)) (fun _ _ _ _ _ ow nd => (pg_tup rfl (pgs_cons (pg_name (i := 0) nd rfl (Or.inl (ow _ (by simp))) (Or.inr (ow _ (by simp)))) (pgs_cons (pg_name (i := 1) nd rfl (Or.inl (ow _ (by simp))) (Or.inr (ow _ (by simp)))) (pgs_nil))) : PG _ _ (gTup K 2 _))) (gok_tup (goks_cons (by decide) (goks_cons (by decide) (goks_nil)))) (fun _ _ _ _ _ => pif_nil) (fun _ _ _ _ _ => pe_op (r := rCatT K) op_catT (pe_tup (pa_cons (pv 0) (pa_nil))) (pv 1))))), ?_⟩
    obtain ⟨pic, q⟩ := h
    obtain ⟨⟨dx, hp⟩, ⟨kvs, hk, pl⟩, _⟩ := id pic
    refine ⟨_, rfl, a, _, dx, _, _, rfl, hp, T.c_Picture, T.n_Picture_placed, lkP, dp, kvs, rfl, hk, fun ob nf l hl => ?_⟩
    have nl : l ≠ dp := fun z => by
      rw [z, upd_same] at hl
      cases hl
    have hl0 : H l = none := by rwa [upd_ne nl] at hl
    refine compG_by kvs.length (fun i xs H2 => ∃ qs : List Addr, xs = qs.map V.ref ∧ qs.length ≤ i ∧ H2 dp = some (.frz ob (.dK kvs)) ∧ (∀ b u, b ≠ dp → H b = some u → H2 b = some u) ∧ H2 l = some (.lst xs) ∧ PtsL H2 (ps.take i) qs) ?_ ?_ ?_ ?_
    · refine ⟨[], rfl, Nat.le_refl _, ?_, fun b u nb e => ?_, upd_same, by simpa using PtsL.nil⟩
      · rw [upd_ne (Ne.symm nl)]
        exact upd_same
      · rw [upd_ne (ne_of_none e hl0), upd_ne nb]
        exact e
    · rintro i xs H2 lt ⟨qs, _, _, hd, _⟩
      exact ⟨hd, lt⟩
    · rintro i xs H2 v H3 lt ⟨qs, rfl, ql, hd, sm, hl2, pts⟩ ⟨p, k, x, hx, rfl, hpn, rfl⟩ N hN
      obtain ⟨pt, q0, hpt, rfl, rfl, hq0⟩ := pl.get hx
      have e0 : H2 q0 = some (.tup (ptV pt)) := sm _ _ (ne_of hq0 hk (fun z => nomatch z)) hq0
      refine ⟨p, _, rfl, SqT.of upd_same, rfl, _, _, rfl, _, _, rfl, rfl, ?_⟩
      refine tT_if ?_
      have n0 : q0 ≠ p := ne_of_none e0 hpn
      refine ⟨_, rfl, (by show 1 ≤ sizeLine; decide), fun p1 h1 => ⟨_, rfl, p1, q0, _, ptV pt, rfl, rfl, SqT.of upd_same, SqT.of ?_, (by simp), (by show 1 + 5 ≤ sizeLine; decide), (fun z => nomatch z), fun _ p2 h2 => ?_⟩⟩
      · rw [upd_ne (ne_of_none (by rw [upd_ne n0]; exact e0) h1), upd_ne n0]
        exact e0
      have up : ∀ b u, H2 b = some u → (upd (upd (upd H2 p (.tup [.str pt.nm, .ref q0])) p1 (.tup [.str pt.nm])) p2 (.tup ([.str pt.nm] ++ ptV pt))) b = some u := fun b u e => by
        have c1 : b ≠ p := ne_of_none e hpn
        have e1 : upd H2 p (.tup [.str pt.nm, .ref q0]) b = some u := by rw [upd_ne c1]; exact e
        have c2 : b ≠ p1 := ne_of_none e1 h1
        have e2 : upd (upd H2 p (.tup [.str pt.nm, .ref q0])) p1 (.tup [.str pt.nm]) b = some u := by rw [upd_ne c2]; exact e1
        rw [upd_ne (ne_of_none e2 h2)]
        exact e2
      have c3 : l ≠ p2 := ne_of_none (show upd (upd H2 p (.tup [.str pt.nm, .ref q0])) p1 (.tup [.str pt.nm]) l = some (.lst (qs.map V.ref)) from by
        have c1 : l ≠ p := ne_of_none hl2 hpn
        have e1 : upd H2 p (.tup [.str pt.nm, .ref q0]) l = some (.lst (qs.map V.ref)) := by rw [upd_ne c1]; exact hl2
        rw [upd_ne (ne_of_none e1 h1)]
        exact e1) h2
      have tk : ps.take (i + 1) = ps.take i ++ [pt] := by
        rw [List.take_add_one, hpt]
        rfl
      have ll : qs.length < sizeLine := Nat.lt_trans (by have := pl.len; have := pic.len; omega : qs.length < 13) (by decide)
      refine ⟨up _ _ hl2, by rw [List.length_map]; exact ll, hN _ _ ⟨qs ++ [p2], by simp, by simp; omega, ?_, fun b u nb e => ?_, upd_same, ?_⟩⟩
      · rw [upd_ne (Ne.symm nl)]
        exact up _ _ hd
      · have e2 := up _ _ (sm b u nb e)
        rw [upd_ne (ne_of_none e hl0)]
        exact e2
      · rw [tk]
        refine PtsL.snoc (PtsL.keep (fun b xs e => ?_) pts) ?_
        · have e2 := up _ _ e
          rw [upd_ne (ne_of e2 (up _ _ hl2) (fun z => nomatch z))]
          exact e2
        · rw [upd_ne (Ne.symm c3)]
          exact upd_same
    · rintro xs H2 ⟨qs, rfl, _, hd, sm, hl2, pts⟩
      refine ⟨⟨hd, Nat.le_refl _⟩, dp, ob, _, hd, nf, q _ l qs (fun b u e => ?_) ?_ (PtsL.keep (fun b xs e => ?_) (by rw [pl.len, List.take_length] at pts; exact pts))⟩
      · by_cases c : b = dp
        · subst c
          rw [hk] at e
          cases e
          exact upd_same
        · rw [upd_ne c]
          exact sm b u c e
      · rw [upd_ne nl]
        exact hl2
      · rw [upd_ne (ne_of e hd (fun z => nomatch z))]
        exact e
theorem ok_Picture_check_lines (T : Txt w K mg t) : FnOk true P w K mg base (CXo P w) 2 t.f_Picture_check_lines t.d_Picture_check_lines ["self", "name", "x", "y"] (spCL t) := by
  refine T.F_Picture_check_lines.okn (k := 1) sc_Picture_check_lines (fun vs H Q E h => ?_) (fun cdv A outer s H vs Q E hr h => ?_)
  · obtain ⟨a, dp, do_, pw, ph, ps, nm, x, y, rfl, _⟩ := h
    rfl
  · obtain ⟨a, dp, do_, pw, ph, ps, nm, x, y, rfl, h⟩ := h
    refine ⟨_, pss_cons (ps_setcG rfl (blkG_of (zs := ["other"]) (ys := ["name"]) (fr := [1]) (N0 := ["self", "name", "x", "y", "others", "other"]) (sc0 := defScope s_Picture_check_lines) (by decide +kernel) rfl rfl rfl) (pi_list (pe_meth0 (pv 0) T.c_Picture T.m_Picture_points (ok_Picture_points T) (hr.mono (by decide)) T.b_Picture_points .nil pass_none)) (fun _ _ _ _ _ ow nd => pg_name (i := 0) nd rfl (Or.inl (ow _ (by simp))) (Or.inr (ow _ (by simp)))) (gok_name (by decide)) (fun _ _ _ _ _ => pif_one (pt_cmpR op_ne (pe_ix (r := rIxT K) ix_tup (pv 0) (pe_int) (fun _ _ => rfl)) (pv 1) (nomark _))) (fun _ _ _ _ _ => pv 0) (j := 4) rfl (Or.inl rfl))
      (pss_cons (ps_for PassesOwn.never rfl (pi_list (pv 4)) (pg_name (i := 5) sc_Picture_check_lines.nd rfl (Or.inl rfl)) (pss_one (ps_if (pt_cmpR op_eq (pe_ix ix_tup (pv 5) (pe_int) (fun _ _ => rfl)) (pv 2) (nomark _)) (pss_one (ps_never)) (pss_nil))))
      (pss_one (ps_for PassesOwn.never rfl (pi_list (pv 4)) (pg_name (i := 5) sc_Picture_check_lines.nd rfl (Or.inl rfl)) (pss_one (ps_if (pt_cmpR op_eq (pe_ix ix_tup (pv 5) (pe_int) (fun _ _ => rfl)) (pv 3) (nomark _)) (pss_one (ps_never)) (pss_nil)))))), ?_⟩
    obtain ⟨pic, no, q⟩ := h
    obtain ⟨⟨dx, hp⟩, ⟨kvs, hk, pl⟩, _⟩ := id pic
    refine ⟨_, rfl, a, dx, _, rfl, hp, lk_no (by decide +kernel), a, dp, do_, pw, ph, ps, rfl, pic, fun H1 l1 qs s1 hl1 pt1 => ⟨l1, rfl, ⟨_, SqL.of hl1⟩, fun l hl => ?_⟩⟩
    refine compG_by qs.length (fun i xs H2 => ∃ os : List Addr, xs = os.map V.ref ∧ os.length ≤ i ∧ Same H1 H2 ∧ H2 l = some (.lst xs) ∧ ∀ o ∈ os, ∃ p ∈ ps, p.nm ≠ nm ∧ H1 o = some (.tup (.str p.nm :: ptV p))) ?_ ?_ ?_ ?_
    · exact ⟨[], rfl, Nat.le_refl _, same_upd (Same.refl _) hl, upd_same, fun o z => nomatch z⟩
    · rintro i xs H2 lt ⟨os, _, _, s2, _⟩
      exact ⟨_, .ref qs[i], SqL.of (s2 _ _ hl1), by simp [lt]⟩
    · rintro i xs H2 v H3 lt ⟨os, rfl, ol, s2, hl2, hos⟩ ⟨rfl, hv⟩ N hN
      have hv' := hv _ (SqL.of (s2 _ _ hl1))
      rw [List.getElem?_map] at hv'
      obtain ⟨o, ho, rfl⟩ := Option.map_eq_some_iff.mp hv'
      obtain ⟨p, hpp, ep⟩ := pt1.get ho
      refine ⟨_, rfl, o, _, 0, _, rfl, rfl, SqT.of (s2 _ _ ep), rfl, _, rfl, rfl, _, rfl, ite2 (fun c => ?_) (fun c => ?_)⟩
      · have cn : p.nm ≠ nm := fun z => by
          rw [z] at c
          simp at c
        refine ⟨_, rfl, hl2, (by rw [List.length_map]; exact Nat.lt_trans (by have := pt1.len; have := pic.len; omega : os.length < 13) (by decide)), hN _ _ ⟨os ++ [o], by simp, by simp; omega, ?_, upd_same, ?_⟩⟩
        · intro b u e
          by_cases cb : b = l
          · subst cb
            rw [e] at hl
            cases hl
          · rw [upd_ne cb]
            exact s2 b u e
        · intro o' ho'
          rcases List.mem_append.mp ho' with z | z
          · exact hos o' z
          · have := List.mem_singleton.mp z
            subst this
            exact ⟨p, List.mem_of_getElem? hpp, cn, ep⟩
      · exact hN _ _ ⟨os, rfl, by omega, s2, hl2, hos⟩
    · rintro xs H2 ⟨os, rfl, ol, s2, hl2, hos⟩
      refine ⟨⟨_, SqL.of (s2 _ _ hl1), by simp⟩, ?_⟩
      have loop : ∀ (o : Addr), o ∈ os → ∃ p ∈ ps, p.nm ≠ nm ∧ H2 o = some (.tup (.str p.nm :: ptV p)) := fun o ho => by
        obtain ⟨p, h1, h2, h3⟩ := hos o ho
        exact ⟨p, h1, h2, s2 _ _ h3⟩
      refine ⟨_, rfl, l, rfl, ⟨_, SqL.of hl2⟩, for_list (xs := os.map V.ref) (Pv := fun i σ H3 => ∃ v5 : Option V, σ = [some (.ref a), some (.str nm), some (.int x), some (.int y), some (.ref l), v5] ∧ H2 = H3) ⟨_, rfl, rfl⟩ (fun _ _ _ _ ⟨_, _, z⟩ => by rw [← z]; exact SqL.of hl2) ?_ ?_⟩
      · rintro i v σ _ hv ⟨v5, rfl, rfl⟩
        rw [List.getElem?_map] at hv
        obtain ⟨o, ho, rfl⟩ := Option.map_eq_some_iff.mp hv
        obtain ⟨p, m1, m2, m3⟩ := loop o (List.mem_of_getElem? ho)
        refine ⟨_, rfl, o, _, 1, _, rfl, rfl, SqT.of m3, rfl, _, rfl, rfl, _, rfl, ifN (decide_eq_false fun z => (no p m1 m2).1 (V.int.inj z)) ⟨_, rfl, rfl⟩⟩
      · rintro σ _ ⟨v5, rfl, rfl⟩
        refine ⟨_, rfl, l, rfl, ⟨_, SqL.of hl2⟩, for_list (xs := os.map V.ref) (Pv := fun i σ H3 => ∃ v5 : Option V, σ = [some (.ref a), some (.str nm), some (.int x), some (.int y), some (.ref l), v5] ∧ H2 = H3) ⟨_, rfl, rfl⟩ (fun _ _ _ _ ⟨_, _, z⟩ => by rw [← z]; exact SqL.of hl2) ?_ ?_⟩
        · rintro i v σ _ hv ⟨v5, rfl, rfl⟩
          rw [List.getElem?_map] at hv
          obtain ⟨o, ho, rfl⟩ := Option.map_eq_some_iff.mp hv
          obtain ⟨p, m1, m2, m3⟩ := loop o (List.mem_of_getElem? ho)
          refine ⟨_, rfl, o, _, 2, _, rfl, rfl, SqT.of m3, rfl, _, rfl, rfl, _, rfl, ifN (decide_eq_false fun z => (no p m1 m2).2 (V.int.inj z)) ⟨_, rfl, rfl⟩⟩
        · rintro σ _ ⟨v5, rfl, rfl⟩
          exact q _ (s1.trans s2)
theorem ok_Picture_put (T : Txt w K mg t) : FnOk true P w K mg base (CXo P w) 3 t.f_Picture_put t.d_Picture_put ["self", "name", "x", "y", "sides", "low", "high"] (spPut t) := by
  refine T.F_Picture_put.okn (k := 2) sc_Picture_put (fun vs H Q E h => ?_) (fun cdv A outer s H vs Q E hr h => ?_)
  · obtain ⟨a, dp, do_, pw, ph, ps, nm, x, y, sd, lo, hi, hv, rfl, _⟩ := h
    rfl
  · obtain ⟨a, dp, do_, pw, ph, ps, nm, x, y, sd, lo, hi, hv, rfl, h⟩ := h
    refine ⟨_, pss_cons (ps_set (i := 7) sc_Picture_put.nd rfl (Or.inl rfl) (pe_ifExp (pt_cmpR op_isN (pv 6) (pe_non) (nomark _)) (pe_fld (pv 0) rfl) (pv 6)))
      (pss_cons (ps_if (pt_not (pt_val (pe_call (ok_is_name T) (hr.mono (by decide)) rfl T.g_is_name T.F_is_name.kp T.b_is_name .nil pass_none (pa_cons (pv 1) (pa_nil))))) (pss_one (ps_never)) (pss_nil))
      (pss_cons (ps_expr (pe_meth (pv 0) T.c_Picture T.m_Picture_check_cell (ok_Picture_check_cell T) (hr.mono (by decide)) T.b_Picture_check_cell .nil pass_none (pa_cons (pv 2) (pa_cons (pv 3) (pa_nil)))))
      (pss_cons (ps_if (PW.pt (pw_or (pt_not (pt_val (pe_callB call_isin rfl T.n_isinstance boot_isinstance (pa_cons (pv 4) (pa_cons (pe_bltn (v := .ty "str") rfl T.n_str boot_str rfl) (pa_nil)))))) (pw_or1 (pt_cmp (pc_gnotin (pv 4) rfl T.g_MIRRORED_SIDES T.D_MIRRORED_SIDES))))) (pss_one (ps_never)) (pss_nil))
      (pss_cons (ps_if (PW.pt (pw_or (pt_not (pt_val (pe_call (ok_is_whole T) (hr.mono (by decide)) rfl T.g_is_whole T.F_is_whole.kp T.b_is_whole .nil pass_none (pa_cons (pv 5) (pa_cons (pe_int) (pa_cons (pe_fld (pv 0) rfl) (pa_nil))))))) (pw_or1 (pt_not (pt_val (pe_call (ok_is_whole T) (hr.mono (by decide)) rfl T.g_is_whole T.F_is_whole.kp T.b_is_whole .nil pass_none (pa_cons (pv 7) (pa_cons (pv 5) (pa_cons (pe_fld (pv 0) rfl) (pa_nil)))))))))) (pss_one (ps_never)) (pss_nil))
      (pss_cons (ps_if (pt_cmp (pc_din (hu_of hr) (pv 1) (pe_fld (pv 0) rfl))) (pss_one (ps_never)) (pss_nil))
      (pss_cons (ps_if (pt_cmpR op_ge (pe_callB call_lenD rfl T.n_len boot_len (pa_cons (pe_fld (pv 0) rfl) (pa_nil))) (pe_glob (v := .int 12) rfl T.v_MOST_POINTS.choose_spec ⟨_, rfl⟩) (nomark _)) (pss_one (ps_never)) (pss_nil))
      (pss_cons (ps_expr (pe_meth (pv 0) T.c_Picture T.m_Picture_check_lines (ok_Picture_check_lines T) (hr.mono (by decide)) T.b_Picture_check_lines .nil pass_none (pa_cons (pv 1) (pa_cons (pv 2) (pa_cons (pv 3) (pa_nil))))))
      (pss_one (ps_dput (hu_of hr) (pe_fld (pv 0) rfl) (pv 1) (pe_tup (pa_cons (pv 2) (pa_cons (pv 3) (pa_cons (pv 4) (pa_cons (pv 5) (pa_cons (pv 7) (pa_nil))))))) rfl))))))))), ?_⟩
    obtain ⟨pic, hhv, hn, x1, x2, y1, y2, hsd, l1, l2, l3, no, len, q⟩ := h
    obtain ⟨⟨dx, hp⟩, ⟨kvs, hk, pl⟩, _⟩ := id pic
    have hsd' : (valV ([(Sum.inr "left", V.str "right"), (Sum.inr "right", V.str "left"), (Sum.inr "both", V.str "both")] : List (Key × V)) (Sum.inr sd)).isSome = true := by
      rcases hsd with rfl | rfl | rfl <;> decide +kernel
    rcases hhv with ⟨rfl, e⟩ | rfl
    · obtain rfl := e.symm
      refine ⟨_, rfl, rfl, _, rfl, ifP (by rfl) ⟨_, rfl, a, _, dx, _, _, rfl, hp, T.c_Picture, T.n_Picture_height, lkH, ?_⟩⟩
      refine ⟨_, rfl, nm, rfl, hn, true, rfl, iteF ?_⟩
      refine ⟨_, rfl, a, dx, _, rfl, hp, lk_no (by decide +kernel), _, rfl, _, rfl, a, dp, do_, pw, ph, ps, x, y, rfl, pic, x1, x2, y1, y2, ?_⟩
      refine ⟨_, rfl, _, _, rfl, .inl ⟨_, _, true, .str _, rfl, kit_same, true, rfl, iteF ⟨_, rfl, .inr sd, rfl, false, (by rw [hsd']; rfl), iteF ?_⟩⟩⟩
      refine ⟨_, rfl, _, rfl, a, _, dx, _, _, rfl, hp, T.c_Picture, T.n_Picture_height, lkH, lo, 1, ph, rfl, l1, (by omega), true, rfl, iteF ⟨_, rfl, _, rfl, _, rfl, a, _, dx, _, _, rfl, hp, T.c_Picture, T.n_Picture_height, lkH, ph, lo, ph, rfl, (by omega), (by omega), true, rfl, iteF ?_⟩⟩
      refine ⟨_, rfl, _, rfl, a, _, dx, _, _, rfl, hp, T.c_Picture, T.n_Picture_placed, lkP, dp, none, rfl, (by rw [← pl.no (nm := nm) (fun p hp => (no p hp).1)]; exact DGet.k (k := .inr nm) hk), false, rfl, iteF ?_⟩
      refine ⟨_, rfl, a, _, dx, _, _, rfl, hp, T.c_Picture, T.n_Picture_placed, lkP, dp, kvs, rfl, hk, _, _, rfl, rfl, _, rfl, ifN (decide_eq_false (by have := pl.len; omega)) ?_⟩
      refine ⟨_, rfl, a, dx, _, rfl, hp, lk_no (by decide +kernel), _, rfl, _, rfl, _, rfl, a, dp, do_, pw, ph, ps, nm, x, y, rfl, pic, fun p hp _ => (no p hp).2, fun H1 s1 => ?_⟩
      refine ⟨_, rfl, _, rfl, _, rfl, _, rfl, _, rfl, (by show 5 ≤ sizeLine; decide), fun q1 hq1 => ?_⟩
      have hp1 : upd H1 q1 (.tup [.int x, .int y, .str sd, .int lo, .int ph]) a = some (.ins t.C_Picture dx (picF pw ph dp do_)) := by rw [upd_ne (ne_of_none (s1 _ _ hp) hq1)]; exact s1 _ _ hp
      have hk1 : upd H1 q1 (.tup [.int x, .int y, .str sd, .int lo, .int ph]) dp = some (.dK kvs) := by rw [upd_ne (ne_of_none (s1 _ _ hk) hq1)]; exact s1 _ _ hk
      refine ⟨_, rfl, a, _, dx, _, _, rfl, hp1, T.c_Picture, T.n_Picture_placed, lkP, _, rfl, dp, _, rfl, DPut.k (k := .inr nm) hk1 (Nat.lt_trans (by have := pl.len; omega : kvs.length < 12) (by decide)), ?_⟩
      rw [putK_new (.ref q1) (pl.no (nm := nm) (fun p hp => (no p hp).1))]
      have nq : q1 ≠ dp := fun z => by
        subst z
        rw [s1 _ _ hk] at hq1
        cases hq1
      refine q _ (fun b u nb e => ?_) ⟨⟨dx, ?_⟩, ⟨_, upd_same, Pl.snoc (p := ⟨nm, x, y, sd, lo, ph⟩) (pl.keep (fun b xs e => ?_)) ?_⟩, pic.w1, pic.w2, pic.h1, pic.h2, (by rw [List.length_append]; exact len)⟩
      · rw [upd_ne nb, upd_ne (ne_of_none (s1 _ _ e) hq1)]
        exact s1 _ _ e
      · rw [upd_ne (ne_of hp1 hk1 (fun z => nomatch z))]
        exact hp1
      · have e' := s1 _ _ e
        rw [upd_ne (ne_of e' (s1 _ _ hk) (fun z => nomatch z)), upd_ne (ne_of_none e' hq1)]
        exact e'
      · rw [upd_ne nq]
        exact upd_same
    · refine ⟨_, rfl, rfl, _, rfl, ifN (by rfl) ⟨_, rfl, ?_⟩⟩
      refine ⟨_, rfl, nm, rfl, hn, true, rfl, iteF ?_⟩
      refine ⟨_, rfl, a, dx, _, rfl, hp, lk_no (by decide +kernel), _, rfl, _, rfl, a, dp, do_, pw, ph, ps, x, y, rfl, pic, x1, x2, y1, y2, ?_⟩
      refine ⟨_, rfl, _, _, rfl, .inl ⟨_, _, true, .str _, rfl, kit_same, true, rfl, iteF ⟨_, rfl, .inr sd, rfl, false, (by rw [hsd']; rfl), iteF ?_⟩⟩⟩
      refine ⟨_, rfl, _, rfl, a, _, dx, _, _, rfl, hp, T.c_Picture, T.n_Picture_height, lkH, lo, 1, ph, rfl, l1, (by omega), true, rfl, iteF ⟨_, rfl, _, rfl, _, rfl, a, _, dx, _, _, rfl, hp, T.c_Picture, T.n_Picture_height, lkH, hi, lo, ph, rfl, (by omega), (by omega), true, rfl, iteF ?_⟩⟩
      refine ⟨_, rfl, _, rfl, a, _, dx, _, _, rfl, hp, T.c_Picture, T.n_Picture_placed, lkP, dp, none, rfl, (by rw [← pl.no (nm := nm) (fun p hp => (no p hp).1)]; exact DGet.k (k := .inr nm) hk), false, rfl, iteF ?_⟩
      refine ⟨_, rfl, a, _, dx, _, _, rfl, hp, T.c_Picture, T.n_Picture_placed, lkP, dp, kvs, rfl, hk, _, _, rfl, rfl, _, rfl, ifN (decide_eq_false (by have := pl.len; omega)) ?_⟩
      refine ⟨_, rfl, a, dx, _, rfl, hp, lk_no (by decide +kernel), _, rfl, _, rfl, _, rfl, a, dp, do_, pw, ph, ps, nm, x, y, rfl, pic, fun p hp _ => (no p hp).2, fun H1 s1 => ?_⟩
      refine ⟨_, rfl, _, rfl, _, rfl, _, rfl, _, rfl, (by show 5 ≤ sizeLine; decide), fun q1 hq1 => ?_⟩
      have hp1 : upd H1 q1 (.tup [.int x, .int y, .str sd, .int lo, .int hi]) a = some (.ins t.C_Picture dx (picF pw ph dp do_)) := by rw [upd_ne (ne_of_none (s1 _ _ hp) hq1)]; exact s1 _ _ hp
      have hk1 : upd H1 q1 (.tup [.int x, .int y, .str sd, .int lo, .int hi]) dp = some (.dK kvs) := by rw [upd_ne (ne_of_none (s1 _ _ hk) hq1)]; exact s1 _ _ hk
      refine ⟨_, rfl, a, _, dx, _, _, rfl, hp1, T.c_Picture, T.n_Picture_placed, lkP, _, rfl, dp, _, rfl, DPut.k (k := .inr nm) hk1 (Nat.lt_trans (by have := pl.len; omega : kvs.length < 12) (by decide)), ?_⟩
      rw [putK_new (.ref q1) (pl.no (nm := nm) (fun p hp => (no p hp).1))]
      have nq : q1 ≠ dp := fun z => by
        subst z
        rw [s1 _ _ hk] at hq1
        cases hq1
      refine q _ (fun b u nb e => ?_) ⟨⟨dx, ?_⟩, ⟨_, upd_same, Pl.snoc (p := ⟨nm, x, y, sd, lo, hi⟩) (pl.keep (fun b xs e => ?_)) ?_⟩, pic.w1, pic.w2, pic.h1, pic.h2, (by rw [List.length_append]; exact len)⟩
      · rw [upd_ne nb, upd_ne (ne_of_none (s1 _ _ e) hq1)]
        exact s1 _ _ e
      · rw [upd_ne (ne_of hp1 hk1 (fun z => nomatch z))]
        exact hp1
      · have e' := s1 _ _ e
        rw [upd_ne (ne_of e' (s1 _ _ hk) (fun z => nomatch z)), upd_ne (ne_of_none e' hq1)]
        exact e'
      · rw [upd_ne nq]
        exact upd_same
end
end S04
set_option maxRecDepth 100000
set_option maxHeartbeats 4000000
namespace S04
open PySem L2 XL PyProof.Rows
theorem lkO {w h : Int} {dp do_ : Addr} : (picF w h dp do_).lookup ("opened" : Str) = some (.ref do_) := by
  unfold picF
  rw [List.lookup_cons, show (("opened" : Str) == "width") = false from by decide +kernel]
  show List.lookup ("opened" : Str) [("height", V.int h), ("placed", V.ref dp), ("opened", V.ref do_)] = _
  rw [List.lookup_cons, show (("opened" : Str) == "height") = false from by decide +kernel]
  show List.lookup ("opened" : Str) [("placed", V.ref dp), ("opened", V.ref do_)] = _
  rw [List.lookup_cons, show (("opened" : Str) == "placed") = false from by decide +kernel]
  show List.lookup ("opened" : Str) [("opened", V.ref do_)] = _
  rw [List.lookup_cons, show (("opened" : Str) == "opened") = true from by decide +kernel]
abbrev Seat := Bool × Int
def seatK (s : Seat) : List Key := [.inr (sideW s.1), .inl s.2]
def seatV (s : Seat) : List V := [.str (sideW s.1), .int s.2]
theorem sideW_inj {a b : Bool} (h : sideW a = sideW b) : a = b := by
  cases a <;> cases b <;> first | rfl | exact absurd h (by decide +kernel)
def Sts (H : Hp) (do_ : Addr) (ss : List Seat) : Prop := ∃ kvs : List (List Key × V), H do_ = some (.dT kvs) ∧ kvs.map (·.1) = ss.map seatK ∧ ss.Nodup ∧ ss.length ≤ 32
inductive SeatsL (H : Hp) : List Seat → List Addr → Prop
  | nil : SeatsL H [] []
  | cons {s : Seat} {q : Addr} {ss : List Seat} {qs : List Addr} (h : H q = some (.tup (seatV s))) (r : SeatsL H ss qs) : SeatsL H (s :: ss) (q :: qs)
def seatLt (s t : Seat) : Prop := (s.1 = true ∧ t.1 = false) ∨ (s.1 = t.1 ∧ s.2 < t.2)
theorem lex_seat {s t : Seat} (h : lexK (seatK s) (seatK t) = true) : seatLt s t := by
  obtain ⟨a, i⟩ := s
  obtain ⟨b, j⟩ := t
  unfold seatK at h
  unfold lexK at h
  by_cases e : sideW a = sideW b
  · rw [if_pos (by rw [e])] at h
    unfold lexK at h
    by_cases e2 : i = j
    · rw [if_pos (by rw [e2])] at h
      unfold lexK at h
      cases h
    · rw [if_neg (fun z => e2 (Sum.inl.inj z))] at h
      exact .inr ⟨sideW_inj e, of_decide_eq_true h⟩
  · rw [if_neg (fun z => e (Sum.inr.inj z))] at h
    cases a <;> cases b
    · exact absurd rfl e
    · exact absurd h (by show ¬ kLess (.inr (sideW false)) (.inr (sideW true)) = true; decide +kernel)
    · exact .inl ⟨rfl, rfl⟩
    · exact absurd rfl e
def unK : List Key → Seat
  | [.inr s, .inl r] => (decide (s = "left"), r)
  | _ => (true, 0)
theorem unK_seat (s : Seat) : unK (seatK s) = s := by
  obtain ⟨b, r⟩ := s
  cases b
  · show (decide (("right" : Str) = "left"), r) = _
    rw [decide_eq_false (by decide +kernel)]
  · show (decide (("left" : Str) = "left"), r) = _
    rw [decide_eq_true rfl]
def spSeats (t : Adr) : Sp := fun vs H Q _ => ∃ (a dp do_ : Addr) (pw ph : Int) (ps : List Pt) (ss : List Seat), vs = [.ref a] ∧ Pic t H a dp do_ pw ph ps ∧ Sts H do_ ss ∧
  ∀ (l : Addr) (ss' : List Seat) (qs : List Addr), H l = none → SeatsL H ss' qs → ss'.Perm ss → ss'.Pairwise seatLt → Q (.ref l) (upd H l (.lst (qs.map V.ref)))
section
variable {P : Program} {w : World} {K : PySem.W.Frag} {mg : Str → Option Value} {base : Heap} {t : Adr}
theorem ok_Picture_seats (T : Txt w K mg t) : FnOk true P w K mg base (CXo P w) 1 t.f_Picture_seats t.d_Picture_seats ["self"] (spSeats t) := by
  refine T.F_Picture_seats.okn (k := 0) sc_Picture_seats (fun vs H Q E h => ?_) (fun cdv A outer s H vs Q E hr h => ?_)
  · obtain ⟨a, dp, do_, pw, ph, ps, ss, rfl, _⟩ := h
    rfl
  · obtain ⟨a, dp, do_, pw, ph, ps, ss, rfl, h⟩ := h
    refine ⟨_, pss_one (ps_ret (pe_callB (call_sortedD rfl) rfl T.n_sorted PyProof.Rows.Boot.«sorted» (pa_cons (pe_fld (pv 0) rfl) (pa_nil)))), ?_⟩
    obtain ⟨pic, st, q⟩ := h
    obtain ⟨⟨dx, hp⟩, _, _⟩ := id pic
    obtain ⟨kvs, hk, ek, nd, l32⟩ := id st
    have kl : kvs.length = ss.length := by
      have := congrArg List.length ek
      simpa using this
    refine ⟨_, rfl, a, _, dx, _, _, rfl, hp, T.c_Picture, T.n_Picture_opened, lkO, do_, kvs, [false, true], rfl, hk, by omega, fun p hp' => ?_, by decide, fun l ts fr tm pm pw' => ?_⟩
    · have m : p.1 ∈ kvs.map (·.1) := List.mem_map.mpr ⟨p, hp', rfl⟩
      rw [ek] at m
      obtain ⟨s, _, e⟩ := List.mem_map.mp m
      rw [← e]
      rfl
    rw [ek] at pm
    have back : ∀ t ∈ ts, seatK (unK t.1) = t.1 := fun t ht => by
      obtain ⟨s, _, e⟩ := List.mem_map.mp (pm.mem_iff.mp (List.mem_map.mpr ⟨t, ht, rfl⟩))
      rw [← e, unK_seat]
    have z := q l ((ts.map (·.1)).map unK) (ts.map (·.2)) fr ?_ ?_ ?_
    · rw [List.map_map] at z
      exact z
    · clear pm pw'
      induction ts with
      | nil => exact .nil
      | cons t ts ih =>
        refine .cons ?_ (ih (fun x hx => tm x (List.mem_cons_of_mem _ hx)) fun x hx => back x (List.mem_cons_of_mem _ hx))
        have e := tm t List.mem_cons_self
        rw [← back t List.mem_cons_self] at e
        exact e
    · have z2 := pm.map unK
      have e2 : (ss.map seatK).map unK = ss := by
        rw [List.map_map, show (unK ∘ seatK) = id from funext unK_seat]
        exact List.map_id _
      rw [e2] at z2
      exact z2
    · rw [List.pairwise_map] at pw'
      rw [List.map_map, List.pairwise_map]
      refine pw'.imp_of_mem fun {x y} hx hy hxy => lex_seat ?_
      show lexK (seatK (unK x.1)) (seatK (unK y.1)) = true
      rw [back x hx, back y hy]
      exact hxy
end
end S04
set_option maxRecDepth 100000
set_option maxHeartbeats 4000000
namespace S04
open PySem L2 XL PyProof.Rows
theorem Pl.drop {H : Hp} {ps : List Pt} {kvs : List (Key × V)} (h : Pl H ps kvs) (nm : Str) : Pl H (ps.filter fun p => decide (p.nm ≠ nm)) (dropK kvs (.inr nm)) := by
  induction h with
  | nil => exact .nil
  | @cons p q ps kvs h r ih =>
    unfold dropK at ih ⊢
    by_cases c : p.nm = nm
    · rw [List.filter_cons_of_neg (by simp [c]), List.filter_cons_of_neg (by simp [c])]
      exact ih
    · have c' : ¬ (Sum.inr p.nm : Key) = Sum.inr nm := fun z => c (Sum.inr.inj z)
      rw [List.filter_cons_of_pos (by simpa using c), List.filter_cons_of_pos (by simpa using c')]
      exact .cons h ih
section
variable {P : Program} {w : World} {K : PySem.W.Frag} {mg : Str → Option Value} {base : Heap} {t : Adr}
end
end S04
set_option maxRecDepth 100000
set_option maxHeartbeats 4000000
namespace S04
open PySem L2 XL PyProof.Rows
def spPtsF (t : Adr) : Sp := fun vs H Q _ => ∃ (a dp do_ : Addr) (pw ph : Int) (ps : List Pt), vs = [.ref a] ∧ Pic t H a dp do_ pw ph ps ∧ ∀ H' l qs, H l = none → Same H H' → H' l = some (.lst (qs.map V.ref)) → PtsL H' ps qs → Q (.ref l) H'
section
variable {P : Program} {w : World} {K : PySem.W.Frag} {mg : Str → Option Value} {base : Heap} {t : Adr}
theorem okF_Picture_points (T : Txt w K mg t) : FnOk true P w K mg base (CXo P w) 1 t.f_Picture_points t.d_Picture_points ["self"] (spPtsF t) := by
  refine T.F_Picture_points.okn (k := 0) sc_Picture_points (fun vs H Q E h => ?_) (fun cdv A outer s H vs Q E hr h => ?_)
  · obtain ⟨a, dp, do_, pw, ph, ps, rfl, _⟩ := h
    rfl
  · obtain ⟨a, dp, do_, pw, ph, ps, rfl, h⟩ := h
    refine ⟨_, pss_one (ps_ret (pe_thaw (pe_compG rfl (blkG_of (zs := ["name", "rest"]) (ys := []) (fr := []) (N0 := ["self"]) (sc0 := defScope s_Picture_points) (by decide +kernel) rfl rfl rfl) (pi_items (pe_fld (pv 0) rfl)) (fun _ _ _ _ _ ow nd => (pg_tup rfl (pgs_cons (pg_name (i := 0) nd rfl (Or.inl (ow _ (by simp))) (Or.inr (ow _ (by simp)))) (pgs_cons (pg_name (i := 1) nd rfl (Or.inl (ow _ (by simp))) (Or.inr (ow _ (by simp)))) (pgs_nil))) : PG _ _ (gTup K 2 _))) (gok_tup (goks_cons (by decide) (goks_cons (by decide) (goks_nil)))) (fun _ _ _ _ _ => pif_nil) (fun _ _ _ _ _ => pe_op (r := rCatT K) op_catT (pe_tup (pa_cons (pv 0) (pa_nil))) (pv 1))))), ?_⟩
    obtain ⟨pic, q⟩ := h
    obtain ⟨⟨dx, hp⟩, ⟨kvs, hk, pl⟩, _⟩ := id pic
    refine ⟨_, rfl, a, _, dx, _, _, rfl, hp, T.c_Picture, T.n_Picture_placed, lkP, dp, kvs, rfl, hk, fun ob nf l hl => ?_⟩
    have nl : l ≠ dp := fun z => by
      rw [z, upd_same] at hl
      cases hl
    have hl0 : H l = none := by rwa [upd_ne nl] at hl
    refine compG_by kvs.length (fun i xs H2 => ∃ qs : List Addr, xs = qs.map V.ref ∧ qs.length ≤ i ∧ H2 dp = some (.frz ob (.dK kvs)) ∧ (∀ b u, b ≠ dp → H b = some u → H2 b = some u) ∧ H2 l = some (.lst xs) ∧ PtsL H2 (ps.take i) qs) ?_ ?_ ?_ ?_
    · refine ⟨[], rfl, Nat.le_refl _, ?_, fun b u nb e => ?_, upd_same, by simpa using PtsL.nil⟩
      · rw [upd_ne (Ne.symm nl)]
        exact upd_same
      · rw [upd_ne (ne_of_none e hl0), upd_ne nb]
        exact e
    · rintro i xs H2 lt ⟨qs, _, _, hd, _⟩
      exact ⟨hd, lt⟩
    · rintro i xs H2 v H3 lt ⟨qs, rfl, ql, hd, sm, hl2, pts⟩ ⟨p, k, x, hx, rfl, hpn, rfl⟩ N hN
      obtain ⟨pt, q0, hpt, rfl, rfl, hq0⟩ := pl.get hx
      have e0 : H2 q0 = some (.tup (ptV pt)) := sm _ _ (ne_of hq0 hk (fun z => nomatch z)) hq0
      refine ⟨p, _, rfl, SqT.of upd_same, rfl, _, _, rfl, _, _, rfl, rfl, ?_⟩
      refine tT_if ?_
      have n0 : q0 ≠ p := ne_of_none e0 hpn
      refine ⟨_, rfl, (by show 1 ≤ sizeLine; decide), fun p1 h1 => ⟨_, rfl, p1, q0, _, ptV pt, rfl, rfl, SqT.of upd_same, SqT.of ?_, (by simp), (by show 1 + 5 ≤ sizeLine; decide), (fun z => nomatch z), fun _ p2 h2 => ?_⟩⟩
      · rw [upd_ne (ne_of_none (by rw [upd_ne n0]; exact e0) h1), upd_ne n0]
        exact e0
      have up : ∀ b u, H2 b = some u → (upd (upd (upd H2 p (.tup [.str pt.nm, .ref q0])) p1 (.tup [.str pt.nm])) p2 (.tup ([.str pt.nm] ++ ptV pt))) b = some u := fun b u e => by
        have c1 : b ≠ p := ne_of_none e hpn
        have e1 : upd H2 p (.tup [.str pt.nm, .ref q0]) b = some u := by rw [upd_ne c1]; exact e
        have c2 : b ≠ p1 := ne_of_none e1 h1
        have e2 : upd (upd H2 p (.tup [.str pt.nm, .ref q0])) p1 (.tup [.str pt.nm]) b = some u := by rw [upd_ne c2]; exact e1
        rw [upd_ne (ne_of_none e2 h2)]
        exact e2
      have c3 : l ≠ p2 := ne_of_none (show upd (upd H2 p (.tup [.str pt.nm, .ref q0])) p1 (.tup [.str pt.nm]) l = some (.lst (qs.map V.ref)) from by
        have c1 : l ≠ p := ne_of_none hl2 hpn
        have e1 : upd H2 p (.tup [.str pt.nm, .ref q0]) l = some (.lst (qs.map V.ref)) := by rw [upd_ne c1]; exact hl2
        rw [upd_ne (ne_of_none e1 h1)]
        exact e1) h2
      have tk : ps.take (i + 1) = ps.take i ++ [pt] := by
        rw [List.take_add_one, hpt]
        rfl
      have ll : qs.length < sizeLine := Nat.lt_trans (by have := pl.len; have := pic.len; omega : qs.length < 13) (by decide)
      refine ⟨up _ _ hl2, by rw [List.length_map]; exact ll, hN _ _ ⟨qs ++ [p2], by simp, by simp; omega, ?_, fun b u nb e => ?_, upd_same, ?_⟩⟩
      · rw [upd_ne (Ne.symm nl)]
        exact up _ _ hd
      · have e2 := up _ _ (sm b u nb e)
        rw [upd_ne (ne_of_none e hl0)]
        exact e2
      · rw [tk]
        refine PtsL.snoc (PtsL.keep (fun b xs e => ?_) pts) ?_
        · have e2 := up _ _ e
          rw [upd_ne (ne_of e2 (up _ _ hl2) (fun z => nomatch z))]
          exact e2
        · rw [upd_ne (Ne.symm c3)]
          exact upd_same
    · rintro xs H2 ⟨qs, rfl, _, hd, sm, hl2, pts⟩
      refine ⟨⟨hd, Nat.le_refl _⟩, dp, ob, _, hd, nf, q _ l qs hl0 (fun b u e => ?_) ?_ (PtsL.keep (fun b xs e => ?_) (by rw [pl.len, List.take_length] at pts; exact pts))⟩
      · by_cases c : b = dp
        · subst c
          rw [hk] at e
          cases e
          exact upd_same
        · rw [upd_ne c]
          exact sm b u c e
      · rw [upd_ne nl]
        exact hl2
      · rw [upd_ne (ne_of e hd (fun z => nomatch z))]
        exact e
end
end S04
set_option maxRecDepth 100000
set_option maxHeartbeats 4000000
namespace S04
open PySem L2 XL PyProof.Rows
def scD : V → DV
  | .int i => .int i
  | .bl b => .bl b
  | .str s => .str s
  | _ => .non
def scV : V → Bool
  | .int _ => true
  | .bl _ => true
  | .str _ => true
  | .non => true
  | _ => false
inductive Thg (H : Hp) : V → DV → Prop
  | non : Thg H .non .non
  | bl (b : Bool) : Thg H (.bl b) (.bl b)
  | int (i : Int) : Thg H (.int i) (.int i)
  | str (s : Str) (h : s.length ≤ 1000) : Thg H (.str s) (.str s)
  | lst {q : Addr} {xs : List V} (h : H q = some (.lst xs)) (f : xs.all scV = true) : Thg H (.ref q) (.lst (xs.map scD))
  | tup {q : Addr} {xs : List V} (h : H q = some (.tup xs)) (f : xs.all scV = true) : Thg H (.ref q) (.tup (xs.map scD))
theorem Thg.same {H H' : Hp} (s : Same H H') {v : V} {d : DV} (h : Thg H v d) : Thg H' v d := by
  cases h with
  | non => exact .non
  | bl b => exact .bl b
  | int i => exact .int i
  | str s h => exact .str s h
  | lst h f => exact .lst (s _ _ h) f
  | tup h f => exact .tup (s _ _ h) f
theorem sc_dv {K : PySem.W.Frag} {H : Hp} {v : V} (h : scV v = true) : Dv K H 0 v (scD v) := by
  cases v with
  | int i => exact .int
  | bl b => exact .bl
  | str s => exact .str
  | non => exact .non
  | _ => cases h
theorem scs_dv {K : PySem.W.Frag} {H : Hp} {xs : List V} (f : xs.all scV = true) (j : Nat) (x : V) (d : DV) (h1 : xs[j]? = some x) (h2 : (xs.map scD)[j]? = some d) : Dv K H 0 x d := by
  rw [List.getElem?_map, h1] at h2
  cases h2
  exact sc_dv (List.all_eq_true.mp f x (List.mem_of_getElem? h1))
theorem Thg.dv {K : PySem.W.Frag} {H : Hp} {v : V} {d : DV} (h : Thg H v d) : Dv K H 1 v d := by
  cases h with
  | non => exact .non
  | bl b => exact .bl
  | int i => exact .int
  | str s h => exact .str
  | lst h f => exact .lst (SqL.of h) (by rw [List.length_map]) (scs_dv f)
  | tup h f => exact .tup (SqT.of h) (by rw [List.length_map]) (scs_dv f)
def wholeD : DV → Int → Int → Bool
  | .int i, lo, hi => decide (lo ≤ i) && decide (i ≤ hi)
  | _, _, _ => false
theorem wholeD_of {d : DV} {lo hi : Int} (h : wholeD d lo hi = true) : ∃ i, d = .int i ∧ lo ≤ i ∧ i ≤ hi := by
  cases d with
  | int i =>
    simp only [wholeD, Bool.and_eq_true, decide_eq_true_eq] at h
    exact ⟨i, rfl, h.1, h.2⟩
  | _ => cases h
def intD : DV → Int
  | .int i => i
  | _ => 0
theorem Thg.int_of {H : Hp} {v : V} {i : Int} (h : Thg H v (.int i)) : v = .int i := by cases h; rfl
theorem Thg.str_of {H : Hp} {v : V} {s : Str} (h : Thg H v (.str s)) : v = .str s := by cases h; rfl
def nameD : DV → Bool
  | .str s => isNm s
  | _ => false
inductive Er where
  | noPoint (v0 : V)
  | noCell (v0 : V) (v1 : V)
  | sameColumn (v0 : V)
  | sameRow (v0 : V)
def Er.cls (t : Adr) : Er → Addr
  | .noPoint _ => t.C_NoPoint
  | .noCell _ _ => t.C_NoCell
  | .sameColumn _ => t.C_SameColumn
  | .sameRow _ => t.C_SameRow
def Er.fs : Er → List (Str × V)
  | .noPoint v0 => [("name", v0)]
  | .noCell v0 v1 => [("x", v0), ("y", v1)]
  | .sameColumn v0 => [("name", v0)]
  | .sameRow v0 => [("name", v0)]
def Er.told : Er → List V
  | .noPoint v0 => [.str "point", v0]
  | .noCell v0 v1 => [.str "cell", v0, v1]
  | .sameColumn v0 => [.str "column", v0]
  | .sameRow v0 => [.str "row", v0]
def ErAt (t : Adr) (H : Hp) (e : Addr) (er : Er) : Prop := (er.fs = [] ∧ H e = some (XO e (er.cls t) none)) ∨ (er.fs ≠ [] ∧ ∃ dx, H e = some (XO e (er.cls t) (some dx)) ∧ H dx = some (XD dx er.fs))
def RaisedE (t : Adr) (H H' : Hp) (e : Addr) (er : Er) : Prop := Same H H' ∧ ErAt t H' e er
theorem RaisedE.pre {t : Adr} {H H1 H' : Hp} {e : Addr} {er : Er} (s : Same H H1) (h : RaisedE t H1 H' e er) : RaisedE t H H' e er := ⟨s.trans h.1, h.2⟩
theorem ErAt.same {t : Adr} {H H' : Hp} {e : Addr} {er : Er} (s : Same H H') (h : ErAt t H e er) : ErAt t H' e er := by
  rcases h with ⟨a, b⟩ | ⟨ne, dx, a, b⟩
  · exact .inl ⟨a, s _ _ b⟩
  · exact .inr ⟨ne, dx, s _ _ a, s _ _ b⟩
def Outs (t : Adr) (H : Hp) (out : Option Er) (E : XK) (D : Prop) : Prop := (∀ er, out = some er → ∀ e H', RaisedE t H H' e er → E e (er.cls t) H') ∧ (out = none → D)
def spX1 (C : Addr) (f : Str) : Sp := fun vs H Q _ => ∃ (e : Addr) (v : V), vs = [.ref e, v] ∧ H e = some (XN e C none) ∧ ∀ dx, H dx = none → Q .non (upd (upd H dx (XD dx [(f, v)])) e (XN e C (some dx)))
def spX2 (C : Addr) (f g : Str) : Sp := fun vs H Q _ => ∃ (e : Addr) (v w : V), vs = [.ref e, v, w] ∧ H e = some (XN e C none) ∧ ∀ dx, H dx = none → Q .non (upd (upd (upd H dx (XD dx [(f, v)])) e (XN e C (some dx))) dx (XD dx (putF g w [(f, v)])))
theorem lk_1 {f : Str} {v : V} {r : List (Str × V)} : ((f, v) :: r).lookup f = some v := by simp
theorem lk_2 {f g : Str} {v w : V} (h : (g == f) = false) : ([(f, v), (g, w)] : List (Str × V)).lookup g = some w := by
  rw [List.lookup_cons, h]
  simp
theorem raised1 {t : Adr} {H : Hp} {e dx C : Addr} {er : Er} {fs : List (Str × V)} (hc : er.cls t = C) (hf : er.fs = fs) (he : H e = none) (hdx : upd H e (XN e C none) dx = none) (hn : fs ≠ [] := by (intro z; cases z)) : RaisedE t H (upd (upd (upd (upd H e (XN e C none)) dx (XD dx fs)) e (XN e C (some dx))) e (XO e C (some dx))) e er := by
  have ne : dx ≠ e := fun z => by rw [z, upd_same] at hdx; cases hdx
  rw [upd_ne ne] at hdx
  subst hc hf
  refine ⟨fun y o q => ?_, .inr ⟨hn, dx, upd_same, ?_⟩⟩
  · rw [upd_ne (ne_of_none q he), upd_ne (ne_of_none q he), upd_ne (ne_of_none q hdx), upd_ne (ne_of_none q he)]
    exact q
  · rw [upd_ne ne, upd_ne ne, upd_same]
theorem raised2 {t : Adr} {H : Hp} {e dx C : Addr} {er : Er} {fs fs0 : List (Str × V)} (hc : er.cls t = C) (hf : er.fs = fs) (he : H e = none) (hdx : upd H e (XN e C none) dx = none) (hn : fs ≠ [] := by (intro z; cases z)) : RaisedE t H (upd (upd (upd (upd (upd H e (XN e C none)) dx (XD dx fs0)) e (XN e C (some dx))) dx (XD dx fs)) e (XO e C (some dx))) e er := by
  have ne : dx ≠ e := fun z => by rw [z, upd_same] at hdx; cases hdx
  rw [upd_ne ne] at hdx
  subst hc hf
  refine ⟨fun y o q => ?_, .inr ⟨hn, dx, upd_same, ?_⟩⟩
  · rw [upd_ne (ne_of_none q he), upd_ne (ne_of_none q hdx), upd_ne (ne_of_none q he), upd_ne (ne_of_none q hdx), upd_ne (ne_of_none q he)]
    exact q
  · rw [upd_ne ne, upd_same]
theorem xn2_at' {H : Hp} {e dx C : Addr} {a b c : HO} (hdx : upd H e a dx = none) : upd (upd (upd (upd H e a) dx b) e (XN e C (some dx))) dx c e = some (XN e C (some dx)) := by
  have ne : dx ≠ e := fun z => by rw [z, upd_same] at hdx; cases hdx
  rw [upd_ne (Ne.symm ne), upd_same]
section
variable {P : Program} {w : World} {K : PySem.W.Frag} {mg : Str → Option Value} {base : Heap} {t : Adr}
theorem ok_NoPoint_init (T : Txt w K mg t) : FnOk true P w K mg base (CXo P w) 1 t.f_NoPoint_init t.d_NoPoint_init ["self", "name"] (spX1 t.C_NoPoint "name") := by
  refine T.F_NoPoint_init.okn (k := 0) sc_NoPoint_init (fun vs H Q E h => ?_) (fun cdv A outer s H vs Q E hr h => ?_)
  · obtain ⟨e, v, rfl, _⟩ := h
    rfl
  · obtain ⟨e, v, rfl, h⟩ := h
    refine ⟨_, pss_one (ps_xfld (pv 0) (pv 1) rfl), ?_⟩
    obtain ⟨he, q⟩ := h
    exact ⟨_, rfl, _, rfl, e, t.C_NoPoint, rfl, T.x_NoPoint, T.n_NoPoint_name, .inl ⟨he, q⟩⟩
theorem ok_NoCell_init (T : Txt w K mg t) : FnOk true P w K mg base (CXo P w) 1 t.f_NoCell_init t.d_NoCell_init ["self", "x", "y"] (spX2 t.C_NoCell "x" "y") := by
  refine T.F_NoCell_init.okn (k := 0) sc_NoCell_init (fun vs H Q E h => ?_) (fun cdv A outer s H vs Q E hr h => ?_)
  · obtain ⟨e, v, w2, rfl, _⟩ := h
    rfl
  · obtain ⟨e, v, w2, rfl, h⟩ := h
    refine ⟨_, pss_cons (ps_xfld (pv 0) (pv 1) rfl)
      (pss_one (ps_xfld (pv 0) (pv 2) rfl)), ?_⟩
    obtain ⟨he, q⟩ := h
    refine ⟨_, rfl, _, rfl, e, t.C_NoCell, rfl, T.x_NoCell, T.n_NoCell_x, .inl ⟨he, fun dx hdx => ?_⟩⟩
    have ne : dx ≠ e := fun z => by rw [z, he] at hdx; cases hdx
    exact ⟨_, rfl, _, rfl, e, t.C_NoCell, rfl, T.x_NoCell, T.n_NoCell_y, .inr ⟨dx, _, upd_same, (by rw [upd_ne ne]; exact upd_same), (by show 1 < 1000; decide), q dx hdx⟩⟩
theorem ok_SameColumn_init (T : Txt w K mg t) : FnOk true P w K mg base (CXo P w) 1 t.f_SameColumn_init t.d_SameColumn_init ["self", "name"] (spX1 t.C_SameColumn "name") := by
  refine T.F_SameColumn_init.okn (k := 0) sc_SameColumn_init (fun vs H Q E h => ?_) (fun cdv A outer s H vs Q E hr h => ?_)
  · obtain ⟨e, v, rfl, _⟩ := h
    rfl
  · obtain ⟨e, v, rfl, h⟩ := h
    refine ⟨_, pss_one (ps_xfld (pv 0) (pv 1) rfl), ?_⟩
    obtain ⟨he, q⟩ := h
    exact ⟨_, rfl, _, rfl, e, t.C_SameColumn, rfl, T.x_SameColumn, T.n_SameColumn_name, .inl ⟨he, q⟩⟩
theorem ok_SameRow_init (T : Txt w K mg t) : FnOk true P w K mg base (CXo P w) 1 t.f_SameRow_init t.d_SameRow_init ["self", "name"] (spX1 t.C_SameRow "name") := by
  refine T.F_SameRow_init.okn (k := 0) sc_SameRow_init (fun vs H Q E h => ?_) (fun cdv A outer s H vs Q E hr h => ?_)
  · obtain ⟨e, v, rfl, _⟩ := h
    rfl
  · obtain ⟨e, v, rfl, h⟩ := h
    refine ⟨_, pss_one (ps_xfld (pv 0) (pv 1) rfl), ?_⟩
    obtain ⟨he, q⟩ := h
    exact ⟨_, rfl, _, rfl, e, t.C_SameRow, rfl, T.x_SameRow, T.n_SameRow_name, .inl ⟨he, q⟩⟩
end
end S04
set_option maxRecDepth 100000
set_option maxHeartbeats 4000000
namespace S04
open PySem L2 XL PyProof.Rows
def spWT : Sp := fun vs H Q _ => ∃ (x : V) (d : DV) (lo hi : Int), vs = [x, .int lo, .int hi] ∧ Thg H x d ∧ Q (.bl (wholeD d lo hi)) H
def spNT : Sp := fun vs H Q _ => ∃ (x : V) (d : DV), vs = [x] ∧ Thg H x d ∧ Q (.bl (nameD d)) H
section
variable {P : Program} {w : World} {K : PySem.W.Frag} {mg : Str → Option Value} {base : Heap} {t : Adr}
theorem okT_is_whole (T : Txt w K mg t) : FnOk true P w K mg base (CXo P w) 1 t.f_is_whole t.d_is_whole ["thing", "low", "high"] (spWT) := by
  refine T.F_is_whole.okn (k := 0) sc_is_whole (fun vs H Q E h => ?_) (fun cdv A outer s H vs Q E hr h => ?_)
  · obtain ⟨x, d, lo, hi, rfl, _⟩ := h
    rfl
  · obtain ⟨x, d, lo, hi, rfl, h⟩ := h
    refine ⟨_, pss_one (ps_ret (pe_and (pe_callB call_isin rfl T.n_isinstance boot_isinstance (pa_cons (pv 0) (pa_cons (pe_bltn (v := .ty "int") rfl T.n_int boot_int rfl) (pa_nil)))) (pe_and (pe_not (pe_callB call_isin rfl T.n_isinstance boot_isinstance (pa_cons (pv 0) (pa_cons (pe_bltn (v := .ty "bool") rfl T.n_bool boot_bool rfl) (pa_nil))))) (pe_one (pe_chain op_le op_le (pv 1) (pv 0) (pv 2)))))), ?_⟩
    obtain ⟨tx, q⟩ := h
    cases tx with
    | int i =>
      refine ⟨_, rfl, _, _, rfl, .inl ⟨_, _, true, .int i, rfl, kit_same, true, rfl, iteT ?_⟩⟩
      refine ⟨_, rfl, _, _, rfl, .inl ⟨_, _, false, .int i, rfl, (by rfl), false, rfl, true, rfl, iteT ?_⟩⟩
      refine ⟨_, rfl, _, rfl, _, _, rfl, rfl, _, rfl, ite2 (fun c => ?_) (fun c => ?_)⟩
      · refine ⟨_, rfl, _, _, rfl, rfl, ?_⟩
        change Q (.bl (decide (lo ≤ i) && decide (i ≤ hi))) H at q
        rw [c, Bool.true_and] at q
        exact q
      · change Q (.bl (decide (lo ≤ i) && decide (i ≤ hi))) H at q
        rw [Bool.eq_false_iff.mpr c, Bool.false_and] at q
        exact q
    | bl b =>
      refine ⟨_, rfl, _, _, rfl, .inl ⟨_, _, true, .bl b, rfl, (by rfl), true, rfl, iteT ?_⟩⟩
      exact ⟨_, rfl, _, _, rfl, .inl ⟨_, _, true, .bl b, rfl, kit_same, true, rfl, false, rfl, iteF q⟩⟩
    | str y => exact ⟨_, rfl, _, _, rfl, .inl ⟨_, _, false, .str y, rfl, (by rfl), false, rfl, iteF q⟩⟩
    | non => exact ⟨_, rfl, _, _, rfl, .inl ⟨_, _, false, .non, rfl, (by rfl), false, rfl, iteF q⟩⟩
    | lst hq => exact ⟨_, rfl, _, _, rfl, .inl ⟨_, _, false, .lst hq, rfl, (by rfl), false, rfl, iteF q⟩⟩
    | tup hq => exact ⟨_, rfl, _, _, rfl, .inl ⟨_, _, false, .tup hq, rfl, (by rfl), false, rfl, iteF q⟩⟩
theorem okT_is_name (T : Txt w K mg t) : FnOk true P w K mg base (CXo P w) 1 t.f_is_name t.d_is_name ["thing"] (spNT) := by
  refine T.F_is_name.okn (k := 0) sc_is_name (fun vs H Q E h => ?_) (fun cdv A outer s H vs Q E hr h => ?_)
  · obtain ⟨v, d, rfl, _⟩ := h
    rfl
  · obtain ⟨v, d, rfl, h⟩ := h
    refine ⟨_, pss_one (ps_ret (pe_and (pe_callB call_isin rfl T.n_isinstance boot_isinstance (pa_cons (pv 0) (pa_cons (pe_bltn (v := .ty "str") rfl T.n_str boot_str rfl) (pa_nil)))) (pe_and (pe_cmpR op_eq (pe_callB call_len_str rfl T.n_len boot_len (pa_cons (pv 0) (pa_nil))) (pe_int) (nomark _)) (pe_one (pe_chain op_le_str op_le_str (pe_str) (pv 0) (pe_str)))))), ?_⟩
    obtain ⟨tx, q⟩ := h
    cases tx with
    | str x xl =>
      refine ⟨_, rfl, _, _, rfl, .inl ⟨_, _, true, .str x, rfl, kit_same, true, rfl, iteT ?_⟩⟩
      refine ⟨_, rfl, _, rfl, (by first | exact Nat.lt_of_le_of_lt xl (by decide) | exact Nat.le_trans xl (by decide) | omega), rfl, _, rfl, ite2 (fun c => ?_) (fun c => ?_)⟩
      · have l1 : x.length = 1 := by
          have z : (x.length : Int) = 1 := by simpa using c
          omega
        change Q (.bl (isNm x)) H at q
        unfold isNm at q
        rw [decide_eq_true l1, Bool.true_and] at q
        refine ⟨_, rfl, _, _, rfl, rfl, _, rfl, ite2 (fun d => ?_) (fun d => ?_)⟩
        · refine ⟨_, _, rfl, rfl, ?_⟩
          rw [a_cps] at d
          rw [z_cps]
          rw [d, Bool.true_and] at q
          exact q
        · rw [a_cps] at d
          rw [Bool.eq_false_iff.mpr d, Bool.false_and] at q
          exact q
      · have l1 : ¬ x.length = 1 := fun z => c (by rw [z]; rfl)
        change Q (.bl (isNm x)) H at q
        unfold isNm at q
        rw [decide_eq_false l1, Bool.false_and] at q
        exact q
    | int i => exact ⟨_, rfl, _, _, rfl, .inl ⟨_, _, false, .int i, rfl, (by rfl), false, rfl, iteF q⟩⟩
    | bl b => exact ⟨_, rfl, _, _, rfl, .inl ⟨_, _, false, .bl b, rfl, (by rfl), false, rfl, iteF q⟩⟩
    | non => exact ⟨_, rfl, _, _, rfl, .inl ⟨_, _, false, .non, rfl, (by rfl), false, rfl, iteF q⟩⟩
    | lst hq => exact ⟨_, rfl, _, _, rfl, .inl ⟨_, _, false, .lst hq, rfl, (by rfl), false, rfl, iteF q⟩⟩
    | tup hq => exact ⟨_, rfl, _, _, rfl, .inl ⟨_, _, false, .tup hq, rfl, (by rfl), false, rfl, iteF q⟩⟩
end
end S04
set_option maxRecDepth 100000
set_option maxHeartbeats 4000000
namespace S04
open PySem L2 XL PyProof.Rows
structure PtOk (w h : Int) (p : Pt) : Prop where
  nm : isNm p.nm = true
  x1 : 1 ≤ p.x
  x2 : p.x ≤ w
  y1 : 1 ≤ p.y
  y2 : p.y ≤ h
  sd : p.sd = "left" ∨ p.sd = "right" ∨ p.sd = "both"
  l1 : 1 ≤ p.lo
  l2 : p.lo ≤ p.hi
  l3 : p.hi ≤ h
structure PtsOk (w h : Int) (ps : List Pt) : Prop where
  ok : ∀ p ∈ ps, PtOk w h p
  nn : (ps.map (·.nm)).Nodup
  nx : (ps.map (·.x)).Nodup
  ny : (ps.map (·.y)).Nodup
  le : ps.length ≤ 12
def ptD (p : Pt) : DV := .tup [.str p.nm, .int p.x, .int p.y, .str p.sd, .int p.lo, .int p.hi]
theorem ptD_pl (p : Pt) : (ptD p).pl = true := rfl
theorem dv_pt {K : PySem.W.Frag} {H : Hp} {q : Addr} {p : Pt} (h : H q = some (.tup (.str p.nm :: ptV p))) : Dv K H 1 (.ref q) (ptD p) := by
  refine .tup (SqT.of h) rfl fun j x d h1 h2 => ?_
  match j, h1, h2 with
  | 0, h1, h2 => cases h1; cases h2; exact .str
  | 1, h1, h2 => cases h1; cases h2; exact .int
  | 2, h1, h2 => cases h1; cases h2; exact .int
  | 3, h1, h2 => cases h1; cases h2; exact .str
  | 4, h1, h2 => cases h1; cases h2; exact .int
  | 5, h1, h2 => cases h1; cases h2; exact .int
  | j + 6, h1, h2 => simp [ptV] at h1
theorem PtsL.dv {K : PySem.W.Frag} {H : Hp} {ps : List Pt} {qs : List Addr} (h : PtsL H ps qs) {l : Addr} (e : H l = some (.lst (qs.map V.ref))) : Dv K H 2 (.ref l) (.lst (ps.map ptD)) := by
  refine .lst (SqL.of e) (by rw [List.length_map, List.length_map, h.len]) fun j x d h1 h2 => ?_
  rw [List.getElem?_map] at h1 h2
  obtain ⟨q, hq, rfl⟩ := Option.map_eq_some_iff.mp h1
  obtain ⟨p, hp, rfl⟩ := Option.map_eq_some_iff.mp h2
  obtain ⟨p', hp', e'⟩ := h.get hq
  rw [hp] at hp'
  cases hp'
  exact dv_pt e'
theorem dv_two {K : PySem.W.Frag} {H : Hp} {q : Addr} {a b : Int} (h : H q = some (.tup [.int a, .int b])) : Dv K H 1 (.ref q) (.tup [.int a, .int b]) := by
  refine .tup (SqT.of h) rfl fun j x d h1 h2 => ?_
  match j, h1, h2 with
  | 0, h1, h2 => cases h1; cases h2; exact .int
  | 1, h1, h2 => cases h1; cases h2; exact .int
  | j + 2, h1, h2 => simp at h1
theorem PtsL.pick {H : Hp} : ∀ {ps : List Pt} {ys : List V}, ys.length = ps.length → (∀ (j : Nat) (y : V) (p : Pt), ys[j]? = some y → ps[j]? = some p → ∃ q, y = .ref q ∧ H q = some (.tup (.str p.nm :: ptV p))) → ∃ rs : List Addr, ys = rs.map V.ref ∧ PtsL H ps rs
  | [], [], _, _ => ⟨[], rfl, .nil⟩
  | [], _ :: _, h, _ => by cases h
  | _ :: _, [], h, _ => by cases h
  | s :: ss, y :: ys, h, k => by
    obtain ⟨q, e, hq⟩ := k 0 y s rfl rfl
    obtain ⟨rs, e2, r⟩ := PtsL.pick (ps := ss) (ys := ys) (by simpa using h) fun j y s h1 h2 => k (j + 1) y s (by simpa using h1) (by simpa using h2)
    exact ⟨q :: rs, by rw [e, e2]; rfl, .cons hq r⟩
theorem PtsOk.filt {w h : Int} {ps : List Pt} (o : PtsOk w h ps) (f : Pt → Bool) : PtsOk w h (ps.filter f) :=
  ⟨fun p hp => o.ok p (List.mem_filter.mp hp).1, o.nn.sublist (List.filter_sublist.map _), o.nx.sublist (List.filter_sublist.map _), o.ny.sublist (List.filter_sublist.map _), Nat.le_trans (List.length_filter_le _ _) o.le⟩
theorem drop_one {ps : List Pt} (nd : (ps.map (·.nm)).Nodup) {k : Nat} {p : Pt} (e : ps[k]? = some p) : (ps.filter fun q => decide (q.nm ≠ p.nm)) = ps.take k ++ ps.drop (k + 1) := by
  induction ps generalizing k with
  | nil => simp at e
  | cons a ps ih =>
    rw [List.map_cons, List.nodup_cons] at nd
    cases k with
    | zero =>
      simp at e
      subst e
      rw [List.filter_cons_of_neg (by simp)]
      show _ = ps
      refine List.filter_eq_self.mpr fun q hq => ?_
      have : q.nm ≠ a.nm := fun z => nd.1 (z ▸ List.mem_map.mpr ⟨q, hq, rfl⟩)
      simpa using this
    | succ k =>
      have e' : ps[k]? = some p := by simpa using e
      have ne : a.nm ≠ p.nm := fun z => nd.1 (z ▸ List.mem_map.mpr ⟨p, List.mem_of_getElem? e', rfl⟩)
      rw [List.filter_cons_of_pos (by simpa using ne), ih nd.2 e']
      rfl
section
variable {P : Program} {w : World} {K : PySem.W.Frag} {mg : Str → Option Value} {base : Heap} {t : Adr}
end
end S04
set_option maxRecDepth 100000
set_option maxHeartbeats 4000000
namespace S04
open PySem L2 XL PyProof.Rows
def hasN (ps : List Pt) (d : DV) : Bool := match d with
  | .str s => isNm s && ps.any fun p => decide (p.nm = s)
  | _ => false
def outCN (ps : List Pt) (d : DV) (n : V) : Option Er := if hasN ps d then none else some (.noPoint n)
theorem outCN_no {ps : List Pt} {d : DV} {n : V} (h : hasN ps d = false) : outCN ps d n = some (.noPoint n) := by
  unfold outCN
  rw [h]
  rfl
theorem outCN_yes {ps : List Pt} {d : DV} {n : V} (h : hasN ps d = true) : outCN ps d n = none := by
  unfold outCN
  rw [h]
  rfl
theorem hasN_of {ps : List Pt} {d : DV} (h : hasN ps d = true) : ∃ s pt, d = .str s ∧ isNm s = true ∧ ps.find? (fun p => decide (p.nm = s)) = some pt ∧ pt ∈ ps ∧ pt.nm = s := by
  cases d with
  | str s =>
    change (isNm s && ps.any fun p => decide (p.nm = s)) = true at h
    rw [Bool.and_eq_true, List.any_eq_true] at h
    obtain ⟨h1, p, hp, e⟩ := h
    cases z : ps.find? (fun p => decide (p.nm = s)) with
    | none => exact absurd e (List.find?_eq_none.mp z p hp)
    | some pt => exact ⟨s, pt, rfl, h1, z, List.mem_of_find?_eq_some z, by simpa using List.find?_some z⟩
  | _ => cases h
def outCC (pw ph : Int) (dx dy : DV) (x y : V) : Option Er := if wholeD dx 1 pw && wholeD dy 1 ph then none else some (.noCell x y)
def outCL (ps : List Pt) (nm : Str) (x y : Int) : Option Er := match ps.find? (fun p => decide (p.nm ≠ nm) && decide (p.x = x)) with
  | some p => some (.sameColumn (.str p.nm))
  | none => match ps.find? (fun p => decide (p.nm ≠ nm) && decide (p.y = y)) with
    | some p => some (.sameRow (.str p.nm))
    | none => none
theorem outCL_none {ps : List Pt} {nm : Str} {x y : Int} (h : outCL ps nm x y = none) : ∀ p ∈ ps, p.nm ≠ nm → p.x ≠ x ∧ p.y ≠ y := by
  unfold outCL at h
  cases z : ps.find? (fun p => decide (p.nm ≠ nm) && decide (p.x = x)) with
  | some p => rw [z] at h; cases h
  | none =>
    rw [z] at h
    dsimp only at h
    cases z2 : ps.find? (fun p => decide (p.nm ≠ nm) && decide (p.y = y)) with
    | some p => rw [z2] at h; cases h
    | none =>
      intro p hp hn
      have a := List.find?_eq_none.mp z p hp
      have b := List.find?_eq_none.mp z2 p hp
      simp [hn] at a b
      exact ⟨a, b⟩
theorem find_at {α : Type} {f : α → Bool} : ∀ {l : List α} {j : Nat} {p : α}, l[j]? = some p → f p = true → (∀ (k : Nat) (p' : α), k < j → l[k]? = some p' → f p' = false) → l.find? f = some p
  | [], _, _, h, _, _ => by simp at h
  | a :: l, 0, p, h, fp, _ => by
    simp at h
    subst h
    rw [List.find?_cons_of_pos fp]
  | a :: l, j + 1, p, h, fp, no => by
    rw [List.find?_cons_of_neg (by rw [no 0 a (Nat.succ_pos _) rfl]; decide)]
    exact find_at (by simpa using h) fp fun k p' hk hp' => no (k + 1) p' (by omega) (by simpa using hp')
theorem find_filter {α : Type} {p f : α → Bool} : ∀ l : List α, (l.filter p).find? f = l.find? fun a => p a && f a
  | [] => rfl
  | a :: l => by
    cases h : p a with
    | true =>
      rw [List.filter_cons_of_pos h, List.find?_cons, List.find?_cons, find_filter l, h, Bool.true_and]
    | false =>
      rw [List.filter_cons_of_neg (by rw [h]; decide), List.find?_cons, find_filter l, h, Bool.false_and]
def spCNT (t : Adr) : Sp := fun vs H Q E => ∃ (a dp do_ : Addr) (pw ph : Int) (ps : List Pt) (n : V) (d : DV), vs = [.ref a, n] ∧ Pic t H a dp do_ pw ph ps ∧ Thg H n d ∧ Outs t H (outCN ps d n) E (Q .non H)
def spCCT (t : Adr) : Sp := fun vs H Q E => ∃ (a dp do_ : Addr) (pw ph : Int) (ps : List Pt) (x y : V) (dx dy : DV), vs = [.ref a, x, y] ∧ Pic t H a dp do_ pw ph ps ∧ Thg H x dx ∧ Thg H y dy ∧ Outs t H (outCC pw ph dx dy x y) E (Q .non H)
def spCLT (t : Adr) : Sp := fun vs H Q E => ∃ (a dp do_ : Addr) (pw ph : Int) (ps : List Pt) (nm : Str) (x y : Int), vs = [.ref a, .str nm, .int x, .int y] ∧ Pic t H a dp do_ pw ph ps ∧ Outs t H (outCL ps nm x y) E (∀ H', Same H H' → Q .non H')
def spTakeT (t : Adr) : Sp := fun vs H Q E => ∃ (a dp do_ : Addr) (pw ph : Int) (ps : List Pt) (n : V) (d : DV), vs = [.ref a, n] ∧ Pic t H a dp do_ pw ph ps ∧ Thg H n d ∧ Outs t H (outCN ps d n) E (∀ nm H', d = .str nm → (∀ b u, b ≠ dp → H b = some u → H' b = some u) → Pic t H' a dp do_ pw ph (ps.filter fun p => decide (p.nm ≠ nm)) → Q .non H')
def spPlcT (t : Adr) : Sp := fun vs H Q E => ∃ (a dp do_ : Addr) (pw ph : Int) (ps : List Pt) (n : V) (d : DV), vs = [.ref a, n] ∧ Pic t H a dp do_ pw ph ps ∧ Thg H n d ∧ Outs t H (outCN ps d n) E (∀ pt H' q, pt ∈ ps → d = .str pt.nm → ps.find? (fun p => decide (p.nm = pt.nm)) = some pt → Same H H' → H' q = some (.tup [.int pt.x, .int pt.y]) → Q (.ref q) H')
def mvP (nm : Str) (x y : Int) (p : Pt) : Pt := if p.nm = nm then { p with x := x, y := y } else p
def outMv (pw ph : Int) (ps : List Pt) (d dx dy : DV) (n x y : V) : Option Er := if hasN ps d then (if wholeD dx 1 pw && wholeD dy 1 ph then (match d with | .str s => outCL ps s (intD dx) (intD dy) | _ => none) else some (.noCell x y)) else some (.noPoint n)
def spMvT (t : Adr) : Sp := fun vs H Q E => ∃ (a dp do_ : Addr) (pw ph : Int) (ps : List Pt) (n x y : V) (d dx dy : DV), vs = [.ref a, n, x, y] ∧ Pic t H a dp do_ pw ph ps ∧ (ps.map (·.nm)).Nodup ∧ Thg H n d ∧ Thg H x dx ∧ Thg H y dy ∧ Outs t H (outMv pw ph ps d dx dy n x y) E (∀ nm i j H', d = .str nm → dx = .int i → dy = .int j → (∀ b u, b ≠ dp → H b = some u → H' b = some u) → Pic t H' a dp do_ pw ph (ps.map (mvP nm i j)) → Q .non H')
theorem Pl.get? {H : Hp} {ps : List Pt} {kvs : List (Key × V)} (h : Pl H ps kvs) {nm : Str} (no : ¬ (ps.any fun p => decide (p.nm = nm)) = true) : valV kvs (.inr nm) = none := h.no fun p hp e => no (List.any_eq_true.mpr ⟨p, hp, by simpa using e⟩)
theorem Pl.mv {H H' : Hp} {nm : Str} {x y : Int} {q1 : Addr} {ps : List Pt} {kvs : List (Key × V)} (h : Pl H ps kvs) (tp : Tups H H') (hq : ∀ p ∈ ps, p.nm = nm → H' q1 = some (.tup (ptV { p with x := x, y := y }))) : Pl H' (ps.map (mvP nm x y)) (kvs.map fun kv => if kv.1 = .inr nm then (kv.1, .ref q1) else kv) := by
  induction h with
  | nil => exact .nil
  | @cons p q ps kvs h r ih =>
    have ih' := ih fun p' hp' => hq p' (List.mem_cons_of_mem _ hp')
    rw [List.map_cons, List.map_cons]
    by_cases c : p.nm = nm
    · rw [if_pos (by rw [c]), show mvP nm x y p = { p with x := x, y := y } from if_pos c]
      exact .cons (hq p List.mem_cons_self c) ih'
    · rw [if_neg (fun z => c (Sum.inr.inj z)), show mvP nm x y p = p from if_neg c]
      exact .cons (tp _ _ h) ih'
theorem nd_one {ps : List Pt} (nd : (ps.map (·.nm)).Nodup) {p q : Pt} (hp : p ∈ ps) (hq : q ∈ ps) (e : p.nm = q.nm) : p = q := by
  induction ps with
  | nil => exact (nomatch hp)
  | cons a ps ih =>
    rw [List.map_cons, List.nodup_cons] at nd
    rcases List.mem_cons.mp hp with z | z <;> rcases List.mem_cons.mp hq with z2 | z2
    · rw [z, z2]
    · exact absurd (List.mem_map.mpr ⟨q, z2, by rw [← e, z]⟩) nd.1
    · exact absurd (List.mem_map.mpr ⟨p, z, by rw [e, z2]⟩) nd.1
    · exact ih nd.2 z z2
section
variable {P : Program} {w : World} {K : PySem.W.Frag} {mg : Str → Option Value} {base : Heap} {t : Adr}
theorem okT_Picture_check_name (T : Txt w K mg t) : FnOk true P w K mg base (CXo P w) 3 t.f_Picture_check_name t.d_Picture_check_name ["self", "name"] (spCNT t) := by
  refine T.F_Picture_check_name.okx (k := 2) sc_Picture_check_name (fun vs H Q E h => ?_) (fun cdv A outer s H vs Q E hr h => ?_)
  · obtain ⟨a, dp, do_, pw, ph, ps, n, d, rfl, _⟩ := h
    rfl
  · obtain ⟨a, dp, do_, pw, ph, ps, n, d, rfl, h⟩ := h
    refine ⟨_, pss_one (ps_if (PW.pt (pw_or (pt_not (pt_val (pe_call (okT_is_name T) (hr.mono (by decide)) rfl T.g_is_name T.F_is_name.kp T.b_is_name .nil takes_def.pass (pa_cons (pv 1) (pa_nil))))) (pw_or1 (pt_cmp (pc_dnotin (hu_of hr) (pv 1) (pe_fld (pv 0) rfl)))))) (pss_one (ps_raise (hr.hd rfl) takes_def (pe_xmake T.k_NoPoint (ok_NoPoint_init T) (hr.mono (by decide)) rfl T.g_NoPoint T.b_NoPoint_init .nil (pa_cons (pv 1) (pa_nil))))) (pss_nil)), ?_⟩
    obtain ⟨pic, tn, hE, q⟩ := h
    obtain ⟨⟨dx0, hp⟩, ⟨kvs, hk, pl⟩, _⟩ := id pic
    refine ⟨_, rfl, n, d, rfl, tn, _, rfl, ?_⟩
    cases hn : nameD d with
    | false =>
      have no : hasN ps d = false := by
        cases d with
        | str s => change (isNm s && _) = false; rw [show isNm s = false from hn]; rfl
        | _ => rfl
      exact iteT (iteT ⟨_, rfl, (by show 1 ≤ 1000; decide), fun e he => ⟨e, _, rfl, upd_same, fun dx hdx => ⟨rfl, e, t.C_NoPoint, some dx, rfl, upd_same, T.mk_NoPoint, hE (.noPoint _) (outCN_no no) e _ (raised1 rfl rfl he hdx)⟩⟩⟩)
    | true =>
      obtain ⟨s, rfl⟩ : ∃ s, d = .str s := by
        cases d with
        | str s => exact ⟨s, rfl⟩
        | _ => cases hn
      obtain rfl := tn.str_of
      refine iteF ?_
      cases ha : (ps.any fun p => decide (p.nm = s)) with
      | true =>
        have yes : hasN ps (.str s) = true := by change (isNm s && _) = true; rw [show isNm s = true from hn, ha]; rfl
        obtain ⟨s', pt, e, _, hf, _⟩ := hasN_of yes
        cases e
        obtain ⟨q0, e, _⟩ := pl.find hf
        exact ⟨_, rfl, _, rfl, a, _, _, _, _, rfl, hp, T.c_Picture, T.n_Picture_placed, lkP, dp, some (.ref q0), rfl, (by rw [← e]; exact DGet.k (k := .inr s) hk), false, rfl, iteF (q (outCN_yes yes))⟩
      | false =>
        have no : hasN ps (.str s) = false := by change (isNm s && _) = false; rw [ha]; exact Bool.and_false _
        refine ⟨_, rfl, _, rfl, a, _, _, _, _, rfl, hp, T.c_Picture, T.n_Picture_placed, lkP, dp, none, rfl, (by rw [← pl.get? (nm := s) (by rw [ha]; decide)]; exact DGet.k (k := .inr s) hk), true, rfl, iteT ?_⟩
        exact ⟨_, rfl, (by show 1 ≤ 1000; decide), fun e he => ⟨e, _, rfl, upd_same, fun dx hdx => ⟨rfl, e, t.C_NoPoint, some dx, rfl, upd_same, T.mk_NoPoint, hE (.noPoint _) (outCN_no no) e _ (raised1 rfl rfl he hdx)⟩⟩⟩
theorem okT_Picture_check_cell (T : Txt w K mg t) : FnOk true P w K mg base (CXo P w) 3 t.f_Picture_check_cell t.d_Picture_check_cell ["self", "x", "y"] (spCCT t) := by
  refine T.F_Picture_check_cell.okx (k := 2) sc_Picture_check_cell (fun vs H Q E h => ?_) (fun cdv A outer s H vs Q E hr h => ?_)
  · obtain ⟨a, dp, do_, pw, ph, ps, x, y, dx, dy, rfl, _⟩ := h
    rfl
  · obtain ⟨a, dp, do_, pw, ph, ps, x, y, dx, dy, rfl, h⟩ := h
    refine ⟨_, pss_one (ps_if (PW.pt (pw_or (pt_not (pt_val (pe_call (okT_is_whole T) (hr.mono (by decide)) rfl T.g_is_whole T.F_is_whole.kp T.b_is_whole .nil takes_def.pass (pa_cons (pv 1) (pa_cons (pe_int) (pa_cons (pe_fld (pv 0) rfl) (pa_nil))))))) (pw_or1 (pt_not (pt_val (pe_call (okT_is_whole T) (hr.mono (by decide)) rfl T.g_is_whole T.F_is_whole.kp T.b_is_whole .nil takes_def.pass (pa_cons (pv 2) (pa_cons (pe_int) (pa_cons (pe_fld (pv 0) rfl) (pa_nil)))))))))) (pss_one (ps_raise (hr.hd rfl) takes_def (pe_xmake T.k_NoCell (ok_NoCell_init T) (hr.mono (by decide)) rfl T.g_NoCell T.b_NoCell_init .nil (pa_cons (pv 1) (pa_cons (pv 2) (pa_nil)))))) (pss_nil)), ?_⟩
    obtain ⟨pic, tx, ty, hE, q⟩ := h
    obtain ⟨⟨dx0, hp⟩, _⟩ := id pic
    refine ⟨_, rfl, _, rfl, a, _, _, _, _, rfl, hp, T.c_Picture, T.n_Picture_width, lkW, x, dx, 1, pw, rfl, tx, _, rfl, ?_⟩
    cases wx : wholeD dx 1 pw with
    | false =>
      have oo : outCC pw ph dx dy x y = some (.noCell x y) := by unfold outCC; rw [wx]; rfl
      exact iteT (iteT ⟨_, rfl, _, rfl, (by show 2 ≤ 1000; decide), fun e he => ⟨e, _, _, rfl, upd_same, fun dx hdx => ⟨rfl, e, t.C_NoCell, some dx, rfl, xn2_at' hdx, T.mk_NoCell, hE (.noCell _ _) (oo) e _ (raised2 rfl rfl he hdx)⟩⟩⟩)
    | true =>
      refine iteF ⟨_, rfl, _, rfl, a, _, _, _, _, rfl, hp, T.c_Picture, T.n_Picture_height, lkH, y, dy, 1, ph, rfl, ty, _, rfl, ?_⟩
      cases wy : wholeD dy 1 ph with
      | false =>
        have oo : outCC pw ph dx dy x y = some (.noCell x y) := by unfold outCC; rw [wx, wy]; rfl
        exact iteT ⟨_, rfl, _, rfl, (by show 2 ≤ 1000; decide), fun e he => ⟨e, _, _, rfl, upd_same, fun dx hdx => ⟨rfl, e, t.C_NoCell, some dx, rfl, xn2_at' hdx, T.mk_NoCell, hE (.noCell _ _) (oo) e _ (raised2 rfl rfl he hdx)⟩⟩⟩
      | true => exact iteF (q (by unfold outCC; rw [wx, wy]; rfl))
theorem okT_Picture_check_lines (T : Txt w K mg t) : FnOk true P w K mg base (CXo P w) 3 t.f_Picture_check_lines t.d_Picture_check_lines ["self", "name", "x", "y"] (spCLT t) := by
  refine T.F_Picture_check_lines.okx (k := 2) sc_Picture_check_lines (fun vs H Q E h => ?_) (fun cdv A outer s H vs Q E hr h => ?_)
  · obtain ⟨a, dp, do_, pw, ph, ps, nm, x, y, rfl, _⟩ := h
    rfl
  · obtain ⟨a, dp, do_, pw, ph, ps, nm, x, y, rfl, h⟩ := h
    refine ⟨_, pss_cons (ps_setcG rfl (blkG_of (zs := ["other"]) (ys := ["name"]) (fr := [1]) (N0 := ["self", "name", "x", "y", "others", "other"]) (sc0 := defScope s_Picture_check_lines) (by decide +kernel) rfl rfl rfl) (pi_list (pe_meth0 (pv 0) T.c_Picture T.m_Picture_points (ok_Picture_points T) (hr.mono (by decide)) T.b_Picture_points .nil pass_none)) (fun _ _ _ _ _ ow nd => pg_name (i := 0) nd rfl (Or.inl (ow _ (by simp))) (Or.inr (ow _ (by simp)))) (gok_name (by decide)) (fun _ _ _ _ _ => pif_one (pt_cmpR op_ne (pe_ix (r := rIxT K) ix_tup (pv 0) (pe_int) (fun _ _ => rfl)) (pv 1) (nomark _))) (fun _ _ _ _ _ => pv 0) (j := 4) rfl (Or.inl rfl))
      (pss_cons (ps_for PassesOwn.leaving rfl (pi_list (pv 4)) (pg_name (i := 5) sc_Picture_check_lines.nd rfl (Or.inl rfl)) (pss_one (ps_if (pt_cmpR op_eq (pe_ix ix_tup (pv 5) (pe_int) (fun _ _ => rfl)) (pv 2) (nomark _)) (pss_one (ps_raise (hr.hd rfl) takes_def (pe_xmake T.k_SameColumn (ok_SameColumn_init T) (hr.mono (by decide)) rfl T.g_SameColumn T.b_SameColumn_init .nil (pa_cons (pe_ix ix_tup (pv 5) (pe_int) (fun _ _ => rfl)) (pa_nil))))) (pss_nil))))
      (pss_one (ps_for PassesOwn.leaving rfl (pi_list (pv 4)) (pg_name (i := 5) sc_Picture_check_lines.nd rfl (Or.inl rfl)) (pss_one (ps_if (pt_cmpR op_eq (pe_ix ix_tup (pv 5) (pe_int) (fun _ _ => rfl)) (pv 3) (nomark _)) (pss_one (ps_raise (hr.hd rfl) takes_def (pe_xmake T.k_SameRow (ok_SameRow_init T) (hr.mono (by decide)) rfl T.g_SameRow T.b_SameRow_init .nil (pa_cons (pe_ix ix_tup (pv 5) (pe_int) (fun _ _ => rfl)) (pa_nil))))) (pss_nil)))))), ?_⟩
    obtain ⟨pic, hE, q⟩ := h
    obtain ⟨⟨dx0, hp⟩, _⟩ := id pic
    have ple := pic.len
    refine ⟨_, rfl, a, dx0, _, rfl, hp, lk_no (by decide +kernel), a, dp, do_, pw, ph, ps, rfl, pic, fun H1 l1 qs s1 hl1 pt1 => ⟨l1, rfl, ⟨_, SqL.of hl1⟩, fun l hl => ?_⟩⟩
    have ql := pt1.len
    refine comp_listF (SqL.of hl1) (by rw [List.length_map]; exact Nat.lt_trans (by omega : qs.length < 13) (by decide)) hl (fun i => ((ps[i]?).map fun p => decide (p.nm ≠ nm)).getD false) (fun i y H => ∃ p q, ps[i]? = some p ∧ y = .ref q ∧ H q = some (.tup (.str p.nm :: ptV p))) (fun i y H H' tp ⟨p, q, e1, e2, e3⟩ => ⟨p, q, e1, e2, tp _ _ e3⟩) (fun i z H2 hz s2 N M hN hM => ?_) (fun ys H2 s2 el2 ly f2 => ?_)
    · rw [List.getElem?_map] at hz
      obtain ⟨o, ho, rfl⟩ := Option.map_eq_some_iff.mp hz
      obtain ⟨p, hpp, ep⟩ := pt1.get ho
      refine ⟨_, rfl, o, _, 0, _, rfl, rfl, SqT.of (s2 _ _ ep), rfl, _, rfl, rfl, _, rfl, ite2 (fun c => ?_) (fun c => ?_)⟩
      · have cn : p.nm ≠ nm := fun z => by
          rw [z] at c
          simp at c
        exact ⟨_, rfl, hN _ _ (Same.refl _) (by rw [hpp]; simpa using cn) ⟨p, o, hpp, rfl, s2 _ _ ep⟩⟩
      · have cn : p.nm = nm := by
          by_cases z : p.nm = nm
          · exact z
          · exact absurd (by simpa using fun e => z e) c
        exact hM _ (Same.refl _) (by rw [hpp]; simpa using cn)
    have fi := ix_filt (fun p : Pt => decide (p.nm ≠ nm)) (as := ps) (p := fun i => ((ps[i]?).map fun p => decide (p.nm ≠ nm)).getD false) (fun i p hp => by rw [hp]; rfl)
    rw [List.length_map, ql] at ly f2
    obtain ⟨os, eo, ptO⟩ := PtsL.pick (H := H2) (ps := ps.filter fun p => decide (p.nm ≠ nm)) (ys := ys) (by rw [ly, fi.1]) (fun j y p hy hp => by
      have hj : j < ((List.range ps.length).filter fun i => ((ps[i]?).map fun p => decide (p.nm ≠ nm)).getD false).length := by
        rw [← ly]
        exact (List.getElem?_eq_some_iff.mp hy).1
      obtain ⟨p', q', h1, h2, h3⟩ := f2 j y _ hy (List.getElem?_eq_getElem hj)
      rw [fi.2 j _ (List.getElem?_eq_getElem hj), hp] at h1
      cases h1
      exact ⟨q', h2, h3⟩)
    subst eo
    have s02 := s1.trans s2
    have rs1 : ∀ (f : Pt → Bool) (j : Nat) (p : Pt), (ps.filter fun p => decide (p.nm ≠ nm))[j]? = some p → f p = true → (∀ (k : Nat) (p' : Pt), k < j → (ps.filter fun p => decide (p.nm ≠ nm))[k]? = some p' → f p' = false) → ps.find? (fun p => decide (p.nm ≠ nm) && f p) = some p := fun f j p hp fp no => by
      rw [← find_filter]
      exact find_at hp fp no
    have rs0 : ∀ (f : Pt → Bool), (∀ (k : Nat) (p' : Pt), (ps.filter fun p => decide (p.nm ≠ nm))[k]? = some p' → f p' = false) → ps.find? (fun p => decide (p.nm ≠ nm) && f p) = none := fun f no => by
      rw [← find_filter, List.find?_eq_none]
      intro p hp
      obtain ⟨k, hk⟩ := List.getElem?_of_mem hp
      rw [no k p hk]
      decide
    refine ⟨_, rfl, l, rfl, ⟨_, SqL.of el2⟩, for_list (xs := os.map V.ref) (Pv := fun i σ H3 => ∃ v5 : Option V, σ = [some (.ref a), some (.str nm), some (.int x), some (.int y), some (.ref l), v5] ∧ H2 = H3 ∧ ∀ (k : Nat) (p' : Pt), k < i → (ps.filter fun p => decide (p.nm ≠ nm))[k]? = some p' → decide (p'.x = x) = false) ⟨_, rfl, rfl, fun k p' h => absurd h (Nat.not_lt_zero _)⟩ (fun _ _ _ _ ⟨_, _, z, _⟩ => by rw [← z]; exact SqL.of el2) ?_ ?_⟩
    · rintro i v σ _ hv ⟨v5, rfl, rfl, no⟩
      rw [List.getElem?_map] at hv
      obtain ⟨o, ho, rfl⟩ := Option.map_eq_some_iff.mp hv
      obtain ⟨p, hpp, ep⟩ := ptO.get ho
      refine ⟨_, rfl, o, _, 1, _, rfl, rfl, SqT.of ep, rfl, _, rfl, rfl, _, rfl, ?_⟩
      by_cases c : p.x = x
      · have oo : outCL ps nm x y = some (.sameColumn (.str p.nm)) := by
          unfold outCL
          rw [rs1 (fun p => decide (p.x = x)) i p hpp (decide_eq_true c) no]
        refine ifP (decide_eq_true (by rw [c])) ⟨_, rfl, o, _, 0, _, rfl, rfl, SqT.of ep, rfl, (by show 1 ≤ 1000; decide), fun e he => ⟨e, _, rfl, upd_same, fun dx hdx => ⟨rfl, e, t.C_SameColumn, some dx, rfl, upd_same, T.mk_SameColumn, hE _ oo e _ (RaisedE.pre s02 (raised1 rfl rfl he hdx))⟩⟩⟩
      · refine ifN (decide_eq_false fun z => c (V.int.inj z)) ⟨_, rfl, rfl, fun k p' hk hp' => ?_⟩
        by_cases d : k = i
        · subst d
          rw [hpp] at hp'
          cases hp'
          exact decide_eq_false c
        · exact no k p' (by omega) hp'
    · rintro σ _ ⟨v5, rfl, rfl, noX⟩
      have ol := ptO.len
      have noX' : ∀ (k : Nat) (p' : Pt), (ps.filter fun p => decide (p.nm ≠ nm))[k]? = some p' → decide (p'.x = x) = false := fun k p' hk => noX k p' (by rw [List.length_map, ol]; exact (List.getElem?_eq_some_iff.mp hk).1) hk
      have e1 := rs0 (fun p => decide (p.x = x)) noX'
      refine ⟨_, rfl, l, rfl, ⟨_, SqL.of el2⟩, for_list (xs := os.map V.ref) (Pv := fun i σ H3 => ∃ v5 : Option V, σ = [some (.ref a), some (.str nm), some (.int x), some (.int y), some (.ref l), v5] ∧ H2 = H3 ∧ ∀ (k : Nat) (p' : Pt), k < i → (ps.filter fun p => decide (p.nm ≠ nm))[k]? = some p' → decide (p'.y = y) = false) ⟨_, rfl, rfl, fun k p' h => absurd h (Nat.not_lt_zero _)⟩ (fun _ _ _ _ ⟨_, _, z, _⟩ => by rw [← z]; exact SqL.of el2) ?_ ?_⟩
      · rintro i v σ _ hv ⟨v5, rfl, rfl, no⟩
        rw [List.getElem?_map] at hv
        obtain ⟨o, ho, rfl⟩ := Option.map_eq_some_iff.mp hv
        obtain ⟨p, hpp, ep⟩ := ptO.get ho
        refine ⟨_, rfl, o, _, 2, _, rfl, rfl, SqT.of ep, rfl, _, rfl, rfl, _, rfl, ?_⟩
        by_cases c : p.y = y
        · have oo : outCL ps nm x y = some (.sameRow (.str p.nm)) := by
            unfold outCL
            rw [e1, rs1 (fun p => decide (p.y = y)) i p hpp (decide_eq_true c) no]
          refine ifP (decide_eq_true (by rw [c])) ⟨_, rfl, o, _, 0, _, rfl, rfl, SqT.of ep, rfl, (by show 1 ≤ 1000; decide), fun e he => ⟨e, _, rfl, upd_same, fun dx hdx => ⟨rfl, e, t.C_SameRow, some dx, rfl, upd_same, T.mk_SameRow, hE _ oo e _ (RaisedE.pre s02 (raised1 rfl rfl he hdx))⟩⟩⟩
        · refine ifN (decide_eq_false fun z => c (V.int.inj z)) ⟨_, rfl, rfl, fun k p' hk hp' => ?_⟩
          by_cases d : k = i
          · subst d
            rw [hpp] at hp'
            cases hp'
            exact decide_eq_false c
          · exact no k p' (by omega) hp'
      · rintro σ _ ⟨v5, rfl, rfl, noY⟩
        have e2 := rs0 (fun p => decide (p.y = y)) fun k p' hk => noY k p' (by rw [List.length_map, ol]; exact (List.getElem?_eq_some_iff.mp hk).1) hk
        exact q (by unfold outCL; rw [e1, e2]) _ s02
theorem okT_Picture_take (T : Txt w K mg t) : FnOk true P w K mg base (CXo P w) 4 t.f_Picture_take t.d_Picture_take ["self", "name"] (spTakeT t) := by
  refine T.F_Picture_take.okx (k := 3) sc_Picture_take (fun vs H Q E h => ?_) (fun cdv A outer s H vs Q E hr h => ?_)
  · obtain ⟨a, dp, do_, pw, ph, ps, n, d, rfl, _⟩ := h
    rfl
  · obtain ⟨a, dp, do_, pw, ph, ps, n, d, rfl, h⟩ := h
    refine ⟨_, pss_cons (ps_expr (pe_meth (pv 0) T.c_Picture T.m_Picture_check_name (okT_Picture_check_name T) (hr.mono (by decide)) T.b_Picture_check_name .nil takes_def.pass (pa_cons (pv 1) (pa_nil))))
      (pss_one (ps_expr (pe_dpop1 (pe_fld (pv 0) rfl) (pv 1) ⟨rfl, rfl, rfl, rfl⟩))), ?_⟩
    obtain ⟨pic, tn, hE, q⟩ := h
    obtain ⟨⟨dx0, hp⟩, ⟨kvs, hk, pl⟩, w1, w2, h1, h2, le⟩ := id pic
    refine ⟨_, rfl, a, dx0, _, rfl, hp, lk_no (by decide +kernel), _, rfl, a, dp, do_, pw, ph, ps, n, d, rfl, pic, tn, hE, fun out => ?_⟩
    have yes : hasN ps d = true := by
      cases z : hasN ps d with
      | true => rfl
      | false => rw [outCN_no z] at out; cases out
    obtain ⟨nm, pt, rfl, hn, hf, _⟩ := hasN_of yes
    obtain rfl := tn.str_of
    obtain ⟨q0, e, hq0⟩ := pl.find hf
    refine ⟨_, rfl, a, _, _, _, _, rfl, hp, T.c_Picture, T.n_Picture_placed, lkP, dp, rfl, .inl ⟨_, .inl hk⟩, _, rfl, kvs, .inr nm, .ref q0, hk, rfl, e, ?_⟩
    have bt : ∀ b u, b ≠ dp → H b = some u → upd H dp (.dK (dropK kvs (.inr nm))) b = some u := fun b u nb e => by
      rw [upd_ne nb]
      exact e
    exact q out nm _ rfl bt ⟨⟨dx0, bt _ _ (ne_of hp hk (fun z => nomatch z)) hp⟩, ⟨_, upd_same, (pl.drop nm).keep fun b xs e => bt _ _ (ne_of e hk (fun z => nomatch z)) e⟩, w1, w2, h1, h2, Nat.le_trans (List.length_filter_le _ _) le⟩
theorem okT_Picture_place_of (T : Txt w K mg t) : FnOk true P w K mg base (CXo P w) 4 t.f_Picture_place_of t.d_Picture_place_of ["self", "name"] (spPlcT t) := by
  refine T.F_Picture_place_of.okx (k := 3) sc_Picture_place_of (fun vs H Q E h => ?_) (fun cdv A outer s H vs Q E hr h => ?_)
  · obtain ⟨a, dp, do_, pw, ph, ps, n, d, rfl, _⟩ := h
    rfl
  · obtain ⟨a, dp, do_, pw, ph, ps, n, d, rfl, h⟩ := h
    refine ⟨_, pss_cons (ps_expr (pe_meth (pv 0) T.c_Picture T.m_Picture_check_name (okT_Picture_check_name T) (hr.mono (by decide)) T.b_Picture_check_name .nil takes_def.pass (pa_cons (pv 1) (pa_nil))))
      (pss_one (ps_ret (pe_slice sl_tup (pe_dget (hu_of hr) (pe_fld (pv 0) rfl) (pv 1) (fun _ _ => rfl)) po_none (po_some (pe_int))))), ?_⟩
    obtain ⟨pic, tn, hE, q⟩ := h
    obtain ⟨⟨dx0, hp⟩, ⟨kvs, hk, pl⟩, _⟩ := id pic
    refine ⟨_, rfl, a, dx0, _, rfl, hp, lk_no (by decide +kernel), _, rfl, a, dp, do_, pw, ph, ps, n, d, rfl, pic, tn, hE, fun out => ?_⟩
    have yes : hasN ps d = true := by
      cases z : hasN ps d with
      | true => rfl
      | false => rw [outCN_no z] at out; cases out
    obtain ⟨nm, pt, rfl, hn, hf, hpt, rfl⟩ := hasN_of yes
    obtain rfl := tn.str_of
    obtain ⟨q0, e, hq0⟩ := pl.find hf
    exact ⟨_, rfl, a, _, _, _, _, rfl, hp, T.c_Picture, T.n_Picture_placed, lkP, _, rfl, dp, .ref q0, rfl, (by rw [← e]; exact DGet.k (k := .inr pt.nm) hk), 2, rfl, q0, ptV pt, rfl, SqT.of hq0, (fun z => absurd z.2 (by show ¬ ((2 : Nat) = 5); decide)), fun p hp' => q out pt _ p hpt rfl hf (same_upd (Same.refl _) hp') upd_same⟩
theorem okT_Picture_move (T : Txt w K mg t) : FnOk true P w K mg base (CXo P w) 4 t.f_Picture_move t.d_Picture_move ["self", "name", "x", "y"] (spMvT t) := by
  refine T.F_Picture_move.okx (k := 3) sc_Picture_move (fun vs H Q E h => ?_) (fun cdv A outer s H vs Q E hr h => ?_)
  · obtain ⟨a, dp, do_, pw, ph, ps, n, x, y, d, dx, dy, rfl, _⟩ := h
    rfl
  · obtain ⟨a, dp, do_, pw, ph, ps, n, x, y, d, dx, dy, rfl, h⟩ := h
    refine ⟨_, pss_cons (ps_expr (pe_meth (pv 0) T.c_Picture T.m_Picture_check_name (okT_Picture_check_name T) (hr.mono (by decide)) T.b_Picture_check_name .nil takes_def.pass (pa_cons (pv 1) (pa_nil))))
      (pss_cons (ps_expr (pe_meth (pv 0) T.c_Picture T.m_Picture_check_cell (okT_Picture_check_cell T) (hr.mono (by decide)) T.b_Picture_check_cell .nil takes_def.pass (pa_cons (pv 2) (pa_cons (pv 3) (pa_nil)))))
      (pss_cons (ps_expr (pe_meth (pv 0) T.c_Picture T.m_Picture_check_lines (okT_Picture_check_lines T) (hr.mono (by decide)) T.b_Picture_check_lines .nil takes_def.pass (pa_cons (pv 1) (pa_cons (pv 2) (pa_cons (pv 3) (pa_nil))))))
      (pss_one (ps_dput (hu_of hr) (pe_fld (pv 0) rfl) (pv 1) (pe_op op_catT (pe_tup (pa_cons (pv 2) (pa_cons (pv 3) (pa_nil)))) (pe_slice sl_tup (pe_dget (hu_of hr) (pe_fld (pv 0) rfl) (pv 1) (fun _ _ => rfl)) (po_some (pe_int)) po_none)) rfl)))), ?_⟩
    obtain ⟨pic, nd, tn, tx, ty, hE, q⟩ := h
    obtain ⟨⟨dx0, hp⟩, ⟨kvs, hk, pl⟩, w1, w2, h1, h2, le⟩ := id pic
    refine ⟨_, rfl, a, dx0, _, rfl, hp, lk_no (by decide +kernel), _, rfl, a, dp, do_, pw, ph, ps, n, d, rfl, pic, tn, ?_, fun out => ?_⟩
    · intro er her e H' z
      unfold outCN at her
      cases y1 : hasN ps d with
      | true => rw [y1] at her; cases her
      | false =>
        rw [y1] at her
        cases her
        exact hE _ (by unfold outMv; rw [y1]; rfl) e H' z
    have yes : hasN ps d = true := by
      cases z : hasN ps d with
      | true => rfl
      | false => rw [outCN_no z] at out; cases out
    refine ⟨_, rfl, a, dx0, _, rfl, hp, lk_no (by decide +kernel), _, rfl, _, rfl, a, dp, do_, pw, ph, ps, x, y, dx, dy, rfl, pic, tx, ty, ?_, fun out2 => ?_⟩
    · intro er her e H' z
      unfold outCC at her
      cases y1 : (wholeD dx 1 pw && wholeD dy 1 ph) with
      | true => rw [y1] at her; cases her
      | false =>
        rw [y1] at her
        cases her
        exact hE _ (by unfold outMv; rw [yes, y1]; rfl) e H' z
    have wc : (wholeD dx 1 pw && wholeD dy 1 ph) = true := by
      cases z : (wholeD dx 1 pw && wholeD dy 1 ph) with
      | true => rfl
      | false => unfold outCC at out2; rw [z] at out2; cases out2
    obtain ⟨wx, wy⟩ := Bool.and_eq_true_iff.mp wc
    obtain ⟨i, rfl, i1, i2⟩ := wholeD_of wx
    obtain ⟨j, rfl, j1, j2⟩ := wholeD_of wy
    obtain ⟨nm, pt, rfl, hn, hf, hpt, ept⟩ := hasN_of yes
    obtain rfl := tn.str_of
    obtain rfl := tx.int_of
    obtain rfl := ty.int_of
    have om : outMv pw ph ps (.str nm) (.int i) (.int j) (.str nm) (.int i) (.int j) = outCL ps nm i j := by unfold outMv; rw [yes, wc]; rfl
    refine ⟨_, rfl, a, dx0, _, rfl, hp, lk_no (by decide +kernel), _, rfl, _, rfl, _, rfl, a, dp, do_, pw, ph, ps, nm, i, j, rfl, pic, fun er her e H' z => hE er (om.trans her) e H' z, fun out3 H1 s1 => ?_⟩
    obtain ⟨q0, e0, hq0⟩ := pl.find hf
    have hp1 := s1 _ _ hp
    have hk1 := s1 _ _ hk
    refine ⟨_, rfl, _, rfl, (by show 2 ≤ sizeLine; decide), fun q1 hq1 => ?_⟩
    have s2 : Same H1 (upd H1 q1 (.tup [.int i, .int j])) := same_upd (Same.refl _) hq1
    have g2 : upd H1 q1 (.tup [.int i, .int j]) q1 = some (.tup [.int i, .int j]) := upd_same
    revert s2 g2
    generalize upd H1 q1 (.tup [.int i, .int j]) = H2
    intro s2 g2
    have hp2 := s2 _ _ hp1
    have hk2 := s2 _ _ hk1
    have hq2 := s2 _ _ (s1 _ _ hq0)
    refine ⟨_, rfl, a, _, _, _, _, rfl, hp2, T.c_Picture, T.n_Picture_placed, lkP, _, rfl, dp, .ref q0, rfl, (by rw [← e0]; exact DGet.k (k := .inr nm) hk2), 2, rfl, q0, ptV pt, rfl, SqT.of hq2, (fun z => absurd z.1 (by show ¬ ((2 : Nat) = 0); decide)), fun q3 hq3 => ?_⟩
    have s3 : Same H2 (upd H2 q3 (.tup [.str pt.sd, .int pt.lo, .int pt.hi])) := same_upd (Same.refl _) hq3
    have g3 : upd H2 q3 (.tup [.str pt.sd, .int pt.lo, .int pt.hi]) q3 = some (.tup [.str pt.sd, .int pt.lo, .int pt.hi]) := upd_same
    refine ⟨q1, q3, _, [.str pt.sd, .int pt.lo, .int pt.hi], rfl, rfl, SqT.of (s3 _ _ g2), SqT.of g3, (by simp), (by show 2 + 3 ≤ sizeLine; decide), (fun z => nomatch z), fun _ q4 hq4 => ?_⟩
    have s4 := s3.trans (same_upd (o := .tup (ptV { pt with x := i, y := j })) (Same.refl _) hq4)
    have g4 : upd (upd H2 q3 (.tup [.str pt.sd, .int pt.lo, .int pt.hi])) q4 (.tup (ptV { pt with x := i, y := j })) q4 = some (.tup (ptV { pt with x := i, y := j })) := upd_same
    change _ at g4
    have hp4 := s4 _ _ hp2
    have hk4 := s4 _ _ hk2
    refine ⟨_, rfl, a, _, _, _, _, rfl, hp4, T.c_Picture, T.n_Picture_placed, lkP, _, rfl, dp, _, rfl, DPut.k (k := .inr nm) hk4 (Nat.lt_trans (by have := pl.len; omega : kvs.length < 13) (by decide)), ?_⟩
    have ek : putK kvs (.inr nm) (.ref q4) = kvs.map fun kv => if kv.1 = .inr nm then (kv.1, .ref q4) else kv := by
      unfold putK
      rw [valV_any, e0]
      rfl
    rw [ek]
    have s04 := s1.trans (s2.trans s4)
    have bt : ∀ b u, b ≠ dp → H b = some u → upd (upd (upd H2 q3 (.tup [.str pt.sd, .int pt.lo, .int pt.hi])) q4 (.tup (ptV { pt with x := i, y := j }))) dp (.dK (kvs.map fun kv => if kv.1 = .inr nm then (kv.1, .ref q4) else kv)) b = some u := fun b u nb e => by
      rw [upd_ne nb]
      exact s04 _ _ e
    refine q (om.trans out3) nm i j _ rfl rfl rfl bt ⟨⟨dx0, bt _ _ (ne_of hp hk (fun z => nomatch z)) hp⟩, ⟨_, upd_same, pl.mv (fun b xs e => bt _ _ (ne_of e hk (fun z => nomatch z)) e) fun p hp' ep => ?_⟩, w1, w2, h1, h2, by rw [List.length_map]; exact le⟩
    rw [nd_one nd hp' hpt (ep.trans ept.symm), upd_ne (Ne.symm (ne_of_none (s3 _ _ hk2) hq4))]
    exact g4
end
end S04
set_option maxRecDepth 100000
set_option maxHeartbeats 4000000
namespace S04
open PySem L2 XL PyProof.Rows
def spLTold (t : Adr) : Sp := fun vs H Q _ => ∃ (e : Addr) (er : Er), vs = [.ref e] ∧ ErAt t H e er ∧ ∀ H' l, Same H H' → H' l = some (.lst er.told) → Q (.ref l) H'
def Er.more : Er → List V
  | .noPoint v0 => [.str "point", v0]
  | .noCell _ _ => []
  | .sameColumn _ => []
  | .sameRow _ => []
def spLMore (t : Adr) : Sp := fun vs H Q _ => ∃ (e : Addr) (er : Er), vs = [.ref e] ∧ ErAt t H e er ∧ ∀ H' l, Same H H' → H' l = some (.lst er.more) → Q (.ref l) H'
section
variable {P : Program} {w : World} {K : PySem.W.Frag} {mg : Str → Option Value} {base : Heap} {t : Adr}
theorem ok_law_told_more (T : Txt w K mg t) : FnOk false P w K mg base (CXo P w) 1 t.f_law_told_more t.d_law_told_more ["_law_e"] (spLMore t) := by
  refine T.F_law_told_more.okn (k := 0) sc_law_told_more (fun vs H Q E h => ?_) (fun cdv A outer s H vs Q E hr h => ?_)
  · obtain ⟨e, er, rfl, _⟩ := h
    rfl
  · obtain ⟨e, er, rfl, h⟩ := h
    refine ⟨_, pss_cons (ps_set (i := 1) sc_law_told_more.nd rfl (Or.inl rfl) (pe_lst (pa_nil)))
      (pss_cons (ps_if (pt_val (pe_callB call_isin rfl T.n_isinstance boot_isinstance (pa_cons (pv 0) (pa_cons (pe_glob (v := .ref _) rfl T.g_NoPoint rfl) (pa_nil))))) (pss_one (ps_set (i := 1) sc_law_told_more.nd rfl (Or.inl rfl) (pe_op op_cat (pv 1) (pe_lst (pa_cons (pe_str) (pa_cons (pe_xfld (pv 0) rfl) (pa_nil))))))) (pss_nil))
      (pss_cons (ps_if (pt_val (pe_callB call_isin rfl T.n_isinstance boot_isinstance (pa_cons (pv 0) (pa_cons (pe_glob (v := .ref _) rfl T.g_NoSide rfl) (pa_nil))))) (pss_one (ps_set (i := 1) sc_law_told_more.nd rfl (Or.inl rfl) (pe_op op_cat (pv 1) (pe_lst (pa_cons (pe_str) (pa_cons (pe_xfld (pv 0) rfl) (pa_nil))))))) (pss_nil))
      (pss_cons (ps_if (pt_val (pe_callB call_isin rfl T.n_isinstance boot_isinstance (pa_cons (pv 0) (pa_cons (pe_glob (v := .ref _) rfl T.g_NoRow rfl) (pa_nil))))) (pss_one (ps_set (i := 1) sc_law_told_more.nd rfl (Or.inl rfl) (pe_op op_cat (pv 1) (pe_lst (pa_cons (pe_str) (pa_cons (pe_xfld (pv 0) rfl) (pa_nil))))))) (pss_nil))
      (pss_cons (ps_if (pt_val (pe_callB call_isin rfl T.n_isinstance boot_isinstance (pa_cons (pv 0) (pa_cons (pe_glob (v := .ref _) rfl T.g_OldSeat rfl) (pa_nil))))) (pss_one (ps_set (i := 1) sc_law_told_more.nd rfl (Or.inl rfl) (pe_op op_cat (pv 1) (pe_lst (pa_cons (pe_str) (pa_cons (pe_xfld (pv 0) rfl) (pa_cons (pe_xfld (pv 0) rfl) (pa_nil)))))))) (pss_nil))
      (pss_cons (ps_if (pt_val (pe_callB call_isin rfl T.n_isinstance boot_isinstance (pa_cons (pv 0) (pa_cons (pe_glob (v := .ref _) rfl T.g_NoSeat rfl) (pa_nil))))) (pss_one (ps_set (i := 1) sc_law_told_more.nd rfl (Or.inl rfl) (pe_op op_cat (pv 1) (pe_lst (pa_cons (pe_str) (pa_cons (pe_xfld (pv 0) rfl) (pa_cons (pe_xfld (pv 0) rfl) (pa_nil)))))))) (pss_nil))
      (pss_cons ((by (with_reducible refine' ps_if ?c1 ?a2 ?b3); (case c1 => exact pt_val (pe_callB call_isin rfl T.n_isinstance boot_isinstance (pa_cons (pv 0) (pa_cons (pe_tup (pa_consP (pe_glob (v := .ref _) rfl T.g_NoSize rfl) (pa_consP (pe_glob (v := .ref _) rfl T.g_NoRoom rfl) (pa_consP (pe_glob (v := .ref _) rfl T.g_NoNotes rfl) (pa_consP (pe_glob (v := .ref _) rfl T.g_TooFull rfl) (pa_consP (pe_glob (v := .ref _) rfl T.g_TooTall rfl) (pa_consP (pe_glob (v := .ref _) rfl T.g_BadLine rfl) (pa_consP (pe_glob (v := .ref _) rfl T.g_BadDrawing rfl) (pa_consP (pe_glob (v := .ref _) rfl T.g_NoLine rfl) (pa_nil) rfl) rfl) rfl) rfl) rfl) rfl) rfl) rfl)) (pa_nil))))); (case a2 => ((with_reducible refine' pss_one ?c4); (case c4 => ((exact ps_set (i := 1) sc_law_told_more.nd rfl (Or.inl rfl) (pe_op op_cat (pv 1) (pe_lst (pa_cons (pe_str) (pa_nil))))))))); (case b3 => ((exact pss_nil)))))
      (pss_cons (ps_if (pt_not (pt_val (pe_callB call_isin rfl T.n_isinstance boot_isinstance (pa_cons (pv 0) (pa_cons (pe_bltn (v := .ty "ValueError") rfl T.n_ValueError PyProof.Rows.Boot.«ValueError» rfl) (pa_nil)))))) (pss_one (ps_set (i := 1) sc_law_told_more.nd rfl (Or.inl rfl) (pe_op op_cat (pv 1) (pe_lst (pa_cons (pe_str) (pa_nil)))))) (pss_nil))
      (pss_one (ps_ret (pv 1)))))))))), ?_⟩
    obtain ⟨ea, q⟩ := h
    cases er with
    | noPoint v0 =>
      rcases ea with ⟨z, _⟩ | ⟨_, dx, he, hdx⟩
      · cases z
      refine ⟨(by show 0 ≤ sizeLine; exact Nat.zero_le _), fun l0 hl0 => ?_⟩
      have sa : Same H (upd H l0 (.lst [])) := same_upd (Same.refl _) hl0
      have ga : upd H l0 (.lst []) l0 = some (.lst []) := upd_same
      revert sa ga
      generalize upd H l0 (.lst []) = Ha
      intro sa ga
      have ha : Same H Ha := sa
      have hda : ∀ d, some dx = some d → ∃ fs, Ha d = some (XD d fs) := fun d z => by cases z; exact ⟨_, ha _ _ hdx⟩
      refine ⟨_, rfl, _, _, rfl, .inr (.inl ⟨e, _, _, _, true, rfl, (ha _ _ he), (hda), T.x_NoPoint, rfl, T.kit_NoPoint_NoPoint, true, rfl, iteT ?_⟩)⟩
      refine ⟨_, rfl, _, rfl, e, _, dx, _, v0, rfl, ha _ _ he, ha _ _ hdx, T.x_NoPoint, T.n_NoPoint_name, lk_1, (by show 2 ≤ sizeLine; decide), fun l1 hl1 => ?_⟩
      have sb : Same Ha (upd Ha l1 (.lst [.str "point", v0])) := same_upd (Same.refl _) hl1
      have gb : upd Ha l1 (.lst [.str "point", v0]) l1 = some (.lst [.str "point", v0]) := upd_same
      revert sb gb
      generalize upd Ha l1 (.lst [.str "point", v0]) = Hb
      intro sb gb
      refine ⟨l0, l1, _, _, rfl, rfl, sb _ _ ga, gb, (by show 0 + 2 ≤ sizeLine; decide), fun l2 hl2 => ?_⟩
      have sc : Same Hb (upd Hb l2 (.lst ([] ++ [.str "point", v0]))) := same_upd (Same.refl _) hl2
      have gc : upd Hb l2 (.lst ([] ++ [.str "point", v0])) l2 = some (.lst ([] ++ [.str "point", v0])) := upd_same
      revert sc gc
      generalize upd Hb l2 (.lst ([] ++ [.str "point", v0])) = Hc
      intro sc gc
      have hc : Same H Hc := ha.trans (sb.trans sc)
      have hdc : ∀ d, some dx = some d → ∃ fs, Hc d = some (XD d fs) := fun d z => by cases z; exact ⟨_, hc _ _ hdx⟩
      refine ⟨_, rfl, _, _, rfl, .inr (.inl ⟨e, _, _, _, false, rfl, (hc _ _ he), (hdc), T.x_NoPoint, rfl, T.kit_NoPoint_NoSide, false, rfl, iteF ?_⟩)⟩
      refine ⟨_, rfl, _, _, rfl, .inr (.inl ⟨e, _, _, _, false, rfl, (hc _ _ he), (hdc), T.x_NoPoint, rfl, T.kit_NoPoint_NoRow, false, rfl, iteF ?_⟩)⟩
      refine ⟨_, rfl, _, _, rfl, .inr (.inl ⟨e, _, _, _, false, rfl, (hc _ _ he), (hdc), T.x_NoPoint, rfl, T.kit_NoPoint_OldSeat, false, rfl, iteF ?_⟩)⟩
      refine ⟨_, rfl, _, _, rfl, .inr (.inl ⟨e, _, _, _, false, rfl, (hc _ _ he), (hdc), T.x_NoPoint, rfl, T.kit_NoPoint_NoSeat, false, rfl, iteF ?_⟩)⟩
      refine ⟨_, rfl, (by show 8 ≤ sizeLine; decide), fun tq htq => ?_⟩
      have st : Same Hc (upd Hc tq (.tup [.ref t.C_NoSize, .ref t.C_NoRoom, .ref t.C_NoNotes, .ref t.C_TooFull, .ref t.C_TooTall, .ref t.C_BadLine, .ref t.C_BadDrawing, .ref t.C_NoLine])) := same_upd (Same.refl _) htq
      have gt : upd Hc tq (.tup [.ref t.C_NoSize, .ref t.C_NoRoom, .ref t.C_NoNotes, .ref t.C_TooFull, .ref t.C_TooTall, .ref t.C_BadLine, .ref t.C_BadDrawing, .ref t.C_NoLine]) tq = some (.tup [.ref t.C_NoSize, .ref t.C_NoRoom, .ref t.C_NoNotes, .ref t.C_TooFull, .ref t.C_TooTall, .ref t.C_BadLine, .ref t.C_BadDrawing, .ref t.C_NoLine]) := upd_same
      revert st gt
      generalize upd Hc tq (.tup [.ref t.C_NoSize, .ref t.C_NoRoom, .ref t.C_NoNotes, .ref t.C_TooFull, .ref t.C_TooTall, .ref t.C_BadLine, .ref t.C_BadDrawing, .ref t.C_NoLine]) = Ht
      intro st gt
      refine ⟨_, _, rfl, .inr (.inr ⟨e, _, _, tq, _, _, false, rfl, (st _ _ (hc _ _ he)), (fun d z => let ⟨fs, y⟩ := hdc d z; ⟨fs, st _ _ y⟩), T.x_NoPoint, rfl, SqT.of gt, rfl, T.kany_NoPoint, false, rfl, iteF ?_⟩)⟩
      refine ⟨_, rfl, _, _, rfl, .inr (.inl ⟨e, _, _, _, true, rfl, (st _ _ (hc _ _ he)), (fun d z => let ⟨fs, y⟩ := hdc d z; ⟨fs, st _ _ y⟩), T.x_NoPoint, rfl, T.kitv_NoPoint, true, rfl, iteF ?_⟩)⟩
      exact ⟨_, rfl, q _ l2 (hc.trans st) (st _ _ gc)⟩
    | noCell v0 v1 =>
      rcases ea with ⟨z, _⟩ | ⟨_, dx, he, hdx⟩
      · cases z
      refine ⟨(by show 0 ≤ sizeLine; exact Nat.zero_le _), fun l0 hl0 => ?_⟩
      have sa : Same H (upd H l0 (.lst [])) := same_upd (Same.refl _) hl0
      have ga : upd H l0 (.lst []) l0 = some (.lst []) := upd_same
      revert sa ga
      generalize upd H l0 (.lst []) = Ha
      intro sa ga
      have ha : Same H Ha := sa
      have hda : ∀ d, some dx = some d → ∃ fs, Ha d = some (XD d fs) := fun d z => by cases z; exact ⟨_, ha _ _ hdx⟩
      refine ⟨_, rfl, _, _, rfl, .inr (.inl ⟨e, _, _, _, false, rfl, (ha _ _ he), (hda), T.x_NoCell, rfl, T.kit_NoCell_NoPoint, false, rfl, iteF ?_⟩)⟩
      refine ⟨_, rfl, _, _, rfl, .inr (.inl ⟨e, _, _, _, false, rfl, (ha _ _ he), (hda), T.x_NoCell, rfl, T.kit_NoCell_NoSide, false, rfl, iteF ?_⟩)⟩
      refine ⟨_, rfl, _, _, rfl, .inr (.inl ⟨e, _, _, _, false, rfl, (ha _ _ he), (hda), T.x_NoCell, rfl, T.kit_NoCell_NoRow, false, rfl, iteF ?_⟩)⟩
      refine ⟨_, rfl, _, _, rfl, .inr (.inl ⟨e, _, _, _, false, rfl, (ha _ _ he), (hda), T.x_NoCell, rfl, T.kit_NoCell_OldSeat, false, rfl, iteF ?_⟩)⟩
      refine ⟨_, rfl, _, _, rfl, .inr (.inl ⟨e, _, _, _, false, rfl, (ha _ _ he), (hda), T.x_NoCell, rfl, T.kit_NoCell_NoSeat, false, rfl, iteF ?_⟩)⟩
      refine ⟨_, rfl, (by show 8 ≤ sizeLine; decide), fun tq htq => ?_⟩
      have st : Same Ha (upd Ha tq (.tup [.ref t.C_NoSize, .ref t.C_NoRoom, .ref t.C_NoNotes, .ref t.C_TooFull, .ref t.C_TooTall, .ref t.C_BadLine, .ref t.C_BadDrawing, .ref t.C_NoLine])) := same_upd (Same.refl _) htq
      have gt : upd Ha tq (.tup [.ref t.C_NoSize, .ref t.C_NoRoom, .ref t.C_NoNotes, .ref t.C_TooFull, .ref t.C_TooTall, .ref t.C_BadLine, .ref t.C_BadDrawing, .ref t.C_NoLine]) tq = some (.tup [.ref t.C_NoSize, .ref t.C_NoRoom, .ref t.C_NoNotes, .ref t.C_TooFull, .ref t.C_TooTall, .ref t.C_BadLine, .ref t.C_BadDrawing, .ref t.C_NoLine]) := upd_same
      revert st gt
      generalize upd Ha tq (.tup [.ref t.C_NoSize, .ref t.C_NoRoom, .ref t.C_NoNotes, .ref t.C_TooFull, .ref t.C_TooTall, .ref t.C_BadLine, .ref t.C_BadDrawing, .ref t.C_NoLine]) = Ht
      intro st gt
      refine ⟨_, _, rfl, .inr (.inr ⟨e, _, _, tq, _, _, false, rfl, (st _ _ (ha _ _ he)), (fun d z => let ⟨fs, y⟩ := hda d z; ⟨fs, st _ _ y⟩), T.x_NoCell, rfl, SqT.of gt, rfl, T.kany_NoCell, false, rfl, iteF ?_⟩)⟩
      refine ⟨_, rfl, _, _, rfl, .inr (.inl ⟨e, _, _, _, true, rfl, (st _ _ (ha _ _ he)), (fun d z => let ⟨fs, y⟩ := hda d z; ⟨fs, st _ _ y⟩), T.x_NoCell, rfl, T.kitv_NoCell, true, rfl, iteF ?_⟩)⟩
      exact ⟨_, rfl, q _ l0 (ha.trans st) (st _ _ ga)⟩
    | sameColumn v0 =>
      rcases ea with ⟨z, _⟩ | ⟨_, dx, he, hdx⟩
      · cases z
      refine ⟨(by show 0 ≤ sizeLine; exact Nat.zero_le _), fun l0 hl0 => ?_⟩
      have sa : Same H (upd H l0 (.lst [])) := same_upd (Same.refl _) hl0
      have ga : upd H l0 (.lst []) l0 = some (.lst []) := upd_same
      revert sa ga
      generalize upd H l0 (.lst []) = Ha
      intro sa ga
      have ha : Same H Ha := sa
      have hda : ∀ d, some dx = some d → ∃ fs, Ha d = some (XD d fs) := fun d z => by cases z; exact ⟨_, ha _ _ hdx⟩
      refine ⟨_, rfl, _, _, rfl, .inr (.inl ⟨e, _, _, _, false, rfl, (ha _ _ he), (hda), T.x_SameColumn, rfl, T.kit_SameColumn_NoPoint, false, rfl, iteF ?_⟩)⟩
      refine ⟨_, rfl, _, _, rfl, .inr (.inl ⟨e, _, _, _, false, rfl, (ha _ _ he), (hda), T.x_SameColumn, rfl, T.kit_SameColumn_NoSide, false, rfl, iteF ?_⟩)⟩
      refine ⟨_, rfl, _, _, rfl, .inr (.inl ⟨e, _, _, _, false, rfl, (ha _ _ he), (hda), T.x_SameColumn, rfl, T.kit_SameColumn_NoRow, false, rfl, iteF ?_⟩)⟩
      refine ⟨_, rfl, _, _, rfl, .inr (.inl ⟨e, _, _, _, false, rfl, (ha _ _ he), (hda), T.x_SameColumn, rfl, T.kit_SameColumn_OldSeat, false, rfl, iteF ?_⟩)⟩
      refine ⟨_, rfl, _, _, rfl, .inr (.inl ⟨e, _, _, _, false, rfl, (ha _ _ he), (hda), T.x_SameColumn, rfl, T.kit_SameColumn_NoSeat, false, rfl, iteF ?_⟩)⟩
      refine ⟨_, rfl, (by show 8 ≤ sizeLine; decide), fun tq htq => ?_⟩
      have st : Same Ha (upd Ha tq (.tup [.ref t.C_NoSize, .ref t.C_NoRoom, .ref t.C_NoNotes, .ref t.C_TooFull, .ref t.C_TooTall, .ref t.C_BadLine, .ref t.C_BadDrawing, .ref t.C_NoLine])) := same_upd (Same.refl _) htq
      have gt : upd Ha tq (.tup [.ref t.C_NoSize, .ref t.C_NoRoom, .ref t.C_NoNotes, .ref t.C_TooFull, .ref t.C_TooTall, .ref t.C_BadLine, .ref t.C_BadDrawing, .ref t.C_NoLine]) tq = some (.tup [.ref t.C_NoSize, .ref t.C_NoRoom, .ref t.C_NoNotes, .ref t.C_TooFull, .ref t.C_TooTall, .ref t.C_BadLine, .ref t.C_BadDrawing, .ref t.C_NoLine]) := upd_same
      revert st gt
      generalize upd Ha tq (.tup [.ref t.C_NoSize, .ref t.C_NoRoom, .ref t.C_NoNotes, .ref t.C_TooFull, .ref t.C_TooTall, .ref t.C_BadLine, .ref t.C_BadDrawing, .ref t.C_NoLine]) = Ht
      intro st gt
      refine ⟨_, _, rfl, .inr (.inr ⟨e, _, _, tq, _, _, false, rfl, (st _ _ (ha _ _ he)), (fun d z => let ⟨fs, y⟩ := hda d z; ⟨fs, st _ _ y⟩), T.x_SameColumn, rfl, SqT.of gt, rfl, T.kany_SameColumn, false, rfl, iteF ?_⟩)⟩
      refine ⟨_, rfl, _, _, rfl, .inr (.inl ⟨e, _, _, _, true, rfl, (st _ _ (ha _ _ he)), (fun d z => let ⟨fs, y⟩ := hda d z; ⟨fs, st _ _ y⟩), T.x_SameColumn, rfl, T.kitv_SameColumn, true, rfl, iteF ?_⟩)⟩
      exact ⟨_, rfl, q _ l0 (ha.trans st) (st _ _ ga)⟩
    | sameRow v0 =>
      rcases ea with ⟨z, _⟩ | ⟨_, dx, he, hdx⟩
      · cases z
      refine ⟨(by show 0 ≤ sizeLine; exact Nat.zero_le _), fun l0 hl0 => ?_⟩
      have sa : Same H (upd H l0 (.lst [])) := same_upd (Same.refl _) hl0
      have ga : upd H l0 (.lst []) l0 = some (.lst []) := upd_same
      revert sa ga
      generalize upd H l0 (.lst []) = Ha
      intro sa ga
      have ha : Same H Ha := sa
      have hda : ∀ d, some dx = some d → ∃ fs, Ha d = some (XD d fs) := fun d z => by cases z; exact ⟨_, ha _ _ hdx⟩
      refine ⟨_, rfl, _, _, rfl, .inr (.inl ⟨e, _, _, _, false, rfl, (ha _ _ he), (hda), T.x_SameRow, rfl, T.kit_SameRow_NoPoint, false, rfl, iteF ?_⟩)⟩
      refine ⟨_, rfl, _, _, rfl, .inr (.inl ⟨e, _, _, _, false, rfl, (ha _ _ he), (hda), T.x_SameRow, rfl, T.kit_SameRow_NoSide, false, rfl, iteF ?_⟩)⟩
      refine ⟨_, rfl, _, _, rfl, .inr (.inl ⟨e, _, _, _, false, rfl, (ha _ _ he), (hda), T.x_SameRow, rfl, T.kit_SameRow_NoRow, false, rfl, iteF ?_⟩)⟩
      refine ⟨_, rfl, _, _, rfl, .inr (.inl ⟨e, _, _, _, false, rfl, (ha _ _ he), (hda), T.x_SameRow, rfl, T.kit_SameRow_OldSeat, false, rfl, iteF ?_⟩)⟩
      refine ⟨_, rfl, _, _, rfl, .inr (.inl ⟨e, _, _, _, false, rfl, (ha _ _ he), (hda), T.x_SameRow, rfl, T.kit_SameRow_NoSeat, false, rfl, iteF ?_⟩)⟩
      refine ⟨_, rfl, (by show 8 ≤ sizeLine; decide), fun tq htq => ?_⟩
      have st : Same Ha (upd Ha tq (.tup [.ref t.C_NoSize, .ref t.C_NoRoom, .ref t.C_NoNotes, .ref t.C_TooFull, .ref t.C_TooTall, .ref t.C_BadLine, .ref t.C_BadDrawing, .ref t.C_NoLine])) := same_upd (Same.refl _) htq
      have gt : upd Ha tq (.tup [.ref t.C_NoSize, .ref t.C_NoRoom, .ref t.C_NoNotes, .ref t.C_TooFull, .ref t.C_TooTall, .ref t.C_BadLine, .ref t.C_BadDrawing, .ref t.C_NoLine]) tq = some (.tup [.ref t.C_NoSize, .ref t.C_NoRoom, .ref t.C_NoNotes, .ref t.C_TooFull, .ref t.C_TooTall, .ref t.C_BadLine, .ref t.C_BadDrawing, .ref t.C_NoLine]) := upd_same
      revert st gt
      generalize upd Ha tq (.tup [.ref t.C_NoSize, .ref t.C_NoRoom, .ref t.C_NoNotes, .ref t.C_TooFull, .ref t.C_TooTall, .ref t.C_BadLine, .ref t.C_BadDrawing, .ref t.C_NoLine]) = Ht
      intro st gt
      refine ⟨_, _, rfl, .inr (.inr ⟨e, _, _, tq, _, _, false, rfl, (st _ _ (ha _ _ he)), (fun d z => let ⟨fs, y⟩ := hda d z; ⟨fs, st _ _ y⟩), T.x_SameRow, rfl, SqT.of gt, rfl, T.kany_SameRow, false, rfl, iteF ?_⟩)⟩
      refine ⟨_, rfl, _, _, rfl, .inr (.inl ⟨e, _, _, _, true, rfl, (st _ _ (ha _ _ he)), (fun d z => let ⟨fs, y⟩ := hda d z; ⟨fs, st _ _ y⟩), T.x_SameRow, rfl, T.kitv_SameRow, true, rfl, iteF ?_⟩)⟩
      exact ⟨_, rfl, q _ l0 (ha.trans st) (st _ _ ga)⟩
theorem ok_law_told (T : Txt w K mg t) : FnOk false P w K mg base (CXo P w) 2 t.f_law_told t.d_law_told ["_law_e"] (spLTold t) := by
  refine T.F_law_told.okn (k := 1) sc_law_told (fun vs H Q E h => ?_) (fun cdv A outer s H vs Q E hr h => ?_)
  · obtain ⟨e, er, rfl, _⟩ := h
    rfl
  · obtain ⟨e, er, rfl, h⟩ := h
    refine ⟨_, pss_cons (ps_set (i := 1) sc_law_told.nd rfl (Or.inl rfl) (pe_lst (pa_nil)))
      (pss_cons (ps_if (pt_val (pe_callB call_isin rfl T.n_isinstance boot_isinstance (pa_cons (pv 0) (pa_cons (pe_glob (v := .ref _) rfl T.g_NoName rfl) (pa_nil))))) (pss_one (ps_set (i := 1) sc_law_told.nd rfl (Or.inl rfl) (pe_op op_cat (pv 1) (pe_lst (pa_cons (pe_str) (pa_cons (pe_xfld (pv 0) rfl) (pa_nil))))))) (pss_nil))
      (pss_cons (ps_if (pt_val (pe_callB call_isin rfl T.n_isinstance boot_isinstance (pa_cons (pv 0) (pa_cons (pe_glob (v := .ref _) rfl T.g_NoCell rfl) (pa_nil))))) (pss_one (ps_set (i := 1) sc_law_told.nd rfl (Or.inl rfl) (pe_op op_cat (pv 1) (pe_lst (pa_cons (pe_str) (pa_cons (pe_xfld (pv 0) rfl) (pa_cons (pe_xfld (pv 0) rfl) (pa_nil)))))))) (pss_nil))
      (pss_cons (ps_if (pt_val (pe_callB call_isin rfl T.n_isinstance boot_isinstance (pa_cons (pv 0) (pa_cons (pe_glob (v := .ref _) rfl T.g_NoSides rfl) (pa_nil))))) (pss_one (ps_set (i := 1) sc_law_told.nd rfl (Or.inl rfl) (pe_op op_cat (pv 1) (pe_lst (pa_cons (pe_str) (pa_cons (pe_xfld (pv 0) rfl) (pa_nil))))))) (pss_nil))
      (pss_cons (ps_if (pt_val (pe_callB call_isin rfl T.n_isinstance boot_isinstance (pa_cons (pv 0) (pa_cons (pe_glob (v := .ref _) rfl T.g_NoWindow rfl) (pa_nil))))) (pss_one (ps_set (i := 1) sc_law_told.nd rfl (Or.inl rfl) (pe_op op_cat (pv 1) (pe_lst (pa_cons (pe_str) (pa_cons (pe_xfld (pv 0) rfl) (pa_cons (pe_xfld (pv 0) rfl) (pa_nil)))))))) (pss_nil))
      (pss_cons (ps_if (pt_val (pe_callB call_isin rfl T.n_isinstance boot_isinstance (pa_cons (pv 0) (pa_cons (pe_glob (v := .ref _) rfl T.g_OldPoint rfl) (pa_nil))))) (pss_one (ps_set (i := 1) sc_law_told.nd rfl (Or.inl rfl) (pe_op op_cat (pv 1) (pe_lst (pa_cons (pe_str) (pa_cons (pe_xfld (pv 0) rfl) (pa_nil))))))) (pss_nil))
      (pss_cons (ps_if (pt_val (pe_callB call_isin rfl T.n_isinstance boot_isinstance (pa_cons (pv 0) (pa_cons (pe_glob (v := .ref _) rfl T.g_TooMany rfl) (pa_nil))))) (pss_one (ps_set (i := 1) sc_law_told.nd rfl (Or.inl rfl) (pe_op op_cat (pv 1) (pe_lst (pa_cons (pe_str) (pa_nil)))))) (pss_nil))
      (pss_cons (ps_if (pt_val (pe_callB call_isin rfl T.n_isinstance boot_isinstance (pa_cons (pv 0) (pa_cons (pe_glob (v := .ref _) rfl T.g_SameColumn rfl) (pa_nil))))) (pss_one (ps_set (i := 1) sc_law_told.nd rfl (Or.inl rfl) (pe_op op_cat (pv 1) (pe_lst (pa_cons (pe_str) (pa_cons (pe_xfld (pv 0) rfl) (pa_nil))))))) (pss_nil))
      (pss_cons (ps_if (pt_val (pe_callB call_isin rfl T.n_isinstance boot_isinstance (pa_cons (pv 0) (pa_cons (pe_glob (v := .ref _) rfl T.g_SameRow rfl) (pa_nil))))) (pss_one (ps_set (i := 1) sc_law_told.nd rfl (Or.inl rfl) (pe_op op_cat (pv 1) (pe_lst (pa_cons (pe_str) (pa_cons (pe_xfld (pv 0) rfl) (pa_nil))))))) (pss_nil))
      (pss_one (ps_ret (pe_op op_cat (pv 1) (pe_call (ok_law_told_more T) (hr.mono (by decide)) rfl T.g_law_told_more T.F_law_told_more.kp T.b_law_told_more .nil pass_none (pa_cons (pv 0) (pa_nil)))))))))))))), ?_⟩
    obtain ⟨ea, q⟩ := h
    cases er with
    | noPoint v0 =>
      have ea0 := ea
      rcases ea with ⟨z, _⟩ | ⟨_, dx, he, hdx⟩
      · cases z
      refine ⟨(by show 0 ≤ sizeLine; exact Nat.zero_le _), fun l0 hl0 => ?_⟩
      have sa : Same H (upd H l0 (.lst [])) := same_upd (Same.refl _) hl0
      have ga : upd H l0 (.lst []) l0 = some (.lst []) := upd_same
      revert sa ga
      generalize upd H l0 (.lst []) = Ha
      intro sa ga
      have ha : Same H Ha := sa
      have hda : ∀ d, some dx = some d → ∃ fs, Ha d = some (XD d fs) := fun d z => by cases z; exact ⟨_, ha _ _ hdx⟩
      refine ⟨_, rfl, _, _, rfl, .inr (.inl ⟨e, _, _, _, false, rfl, (ha _ _ he), (hda), T.x_NoPoint, rfl, T.kit_NoPoint_NoName, false, rfl, iteF ?_⟩)⟩
      refine ⟨_, rfl, _, _, rfl, .inr (.inl ⟨e, _, _, _, false, rfl, (ha _ _ he), (hda), T.x_NoPoint, rfl, T.kit_NoPoint_NoCell, false, rfl, iteF ?_⟩)⟩
      refine ⟨_, rfl, _, _, rfl, .inr (.inl ⟨e, _, _, _, false, rfl, (ha _ _ he), (hda), T.x_NoPoint, rfl, T.kit_NoPoint_NoSides, false, rfl, iteF ?_⟩)⟩
      refine ⟨_, rfl, _, _, rfl, .inr (.inl ⟨e, _, _, _, false, rfl, (ha _ _ he), (hda), T.x_NoPoint, rfl, T.kit_NoPoint_NoWindow, false, rfl, iteF ?_⟩)⟩
      refine ⟨_, rfl, _, _, rfl, .inr (.inl ⟨e, _, _, _, false, rfl, (ha _ _ he), (hda), T.x_NoPoint, rfl, T.kit_NoPoint_OldPoint, false, rfl, iteF ?_⟩)⟩
      refine ⟨_, rfl, _, _, rfl, .inr (.inl ⟨e, _, _, _, false, rfl, (ha _ _ he), (hda), T.x_NoPoint, rfl, T.kit_NoPoint_TooMany, false, rfl, iteF ?_⟩)⟩
      refine ⟨_, rfl, _, _, rfl, .inr (.inl ⟨e, _, _, _, false, rfl, (ha _ _ he), (hda), T.x_NoPoint, rfl, T.kit_NoPoint_SameColumn, false, rfl, iteF ?_⟩)⟩
      refine ⟨_, rfl, _, _, rfl, .inr (.inl ⟨e, _, _, _, false, rfl, (ha _ _ he), (hda), T.x_NoPoint, rfl, T.kit_NoPoint_SameRow, false, rfl, iteF ?_⟩)⟩
      refine ⟨_, rfl, _, rfl, e, _, rfl, ErAt.same ha ea0, fun H9 l9 s9 g9 => ?_⟩
      refine ⟨l0, l9, _, _, rfl, rfl, s9 _ _ ga, g9, (by show 0 + 2 ≤ sizeLine; decide), fun l8 hl8 => ?_⟩
      exact q _ l8 (ha.trans (s9.trans (same_upd (Same.refl _) hl8))) (by rw [upd_same]; rfl)
    | noCell v0 v1 =>
      have ea0 := ea
      rcases ea with ⟨z, _⟩ | ⟨_, dx, he, hdx⟩
      · cases z
      refine ⟨(by show 0 ≤ sizeLine; exact Nat.zero_le _), fun l0 hl0 => ?_⟩
      have sa : Same H (upd H l0 (.lst [])) := same_upd (Same.refl _) hl0
      have ga : upd H l0 (.lst []) l0 = some (.lst []) := upd_same
      revert sa ga
      generalize upd H l0 (.lst []) = Ha
      intro sa ga
      have ha : Same H Ha := sa
      have hda : ∀ d, some dx = some d → ∃ fs, Ha d = some (XD d fs) := fun d z => by cases z; exact ⟨_, ha _ _ hdx⟩
      refine ⟨_, rfl, _, _, rfl, .inr (.inl ⟨e, _, _, _, false, rfl, (ha _ _ he), (hda), T.x_NoCell, rfl, T.kit_NoCell_NoName, false, rfl, iteF ?_⟩)⟩
      refine ⟨_, rfl, _, _, rfl, .inr (.inl ⟨e, _, _, _, true, rfl, (ha _ _ he), (hda), T.x_NoCell, rfl, T.kit_NoCell_NoCell, true, rfl, iteT ?_⟩)⟩
      refine ⟨_, rfl, _, rfl, e, _, dx, _, v0, rfl, ha _ _ he, ha _ _ hdx, T.x_NoCell, T.n_NoCell_x, lk_1, _, rfl, e, _, dx, _, v1, rfl, ha _ _ he, ha _ _ hdx, T.x_NoCell, T.n_NoCell_y, (lk_2 (by decide +kernel)), (by show 3 ≤ sizeLine; decide), fun l1 hl1 => ?_⟩
      have sb : Same Ha (upd Ha l1 (.lst [.str "cell", v0, v1])) := same_upd (Same.refl _) hl1
      have gb : upd Ha l1 (.lst [.str "cell", v0, v1]) l1 = some (.lst [.str "cell", v0, v1]) := upd_same
      revert sb gb
      generalize upd Ha l1 (.lst [.str "cell", v0, v1]) = Hb
      intro sb gb
      refine ⟨l0, l1, _, _, rfl, rfl, sb _ _ ga, gb, (by show 0 + 3 ≤ sizeLine; decide), fun l2 hl2 => ?_⟩
      have sc : Same Hb (upd Hb l2 (.lst ([] ++ [.str "cell", v0, v1]))) := same_upd (Same.refl _) hl2
      have gc : upd Hb l2 (.lst ([] ++ [.str "cell", v0, v1])) l2 = some (.lst ([] ++ [.str "cell", v0, v1])) := upd_same
      revert sc gc
      generalize upd Hb l2 (.lst ([] ++ [.str "cell", v0, v1])) = Hc
      intro sc gc
      have hc : Same H Hc := ha.trans (sb.trans sc)
      have hdc : ∀ d, some dx = some d → ∃ fs, Hc d = some (XD d fs) := fun d z => by cases z; exact ⟨_, hc _ _ hdx⟩
      refine ⟨_, rfl, _, _, rfl, .inr (.inl ⟨e, _, _, _, false, rfl, (hc _ _ he), (hdc), T.x_NoCell, rfl, T.kit_NoCell_NoSides, false, rfl, iteF ?_⟩)⟩
      refine ⟨_, rfl, _, _, rfl, .inr (.inl ⟨e, _, _, _, false, rfl, (hc _ _ he), (hdc), T.x_NoCell, rfl, T.kit_NoCell_NoWindow, false, rfl, iteF ?_⟩)⟩
      refine ⟨_, rfl, _, _, rfl, .inr (.inl ⟨e, _, _, _, false, rfl, (hc _ _ he), (hdc), T.x_NoCell, rfl, T.kit_NoCell_OldPoint, false, rfl, iteF ?_⟩)⟩
      refine ⟨_, rfl, _, _, rfl, .inr (.inl ⟨e, _, _, _, false, rfl, (hc _ _ he), (hdc), T.x_NoCell, rfl, T.kit_NoCell_TooMany, false, rfl, iteF ?_⟩)⟩
      refine ⟨_, rfl, _, _, rfl, .inr (.inl ⟨e, _, _, _, false, rfl, (hc _ _ he), (hdc), T.x_NoCell, rfl, T.kit_NoCell_SameColumn, false, rfl, iteF ?_⟩)⟩
      refine ⟨_, rfl, _, _, rfl, .inr (.inl ⟨e, _, _, _, false, rfl, (hc _ _ he), (hdc), T.x_NoCell, rfl, T.kit_NoCell_SameRow, false, rfl, iteF ?_⟩)⟩
      refine ⟨_, rfl, _, rfl, e, _, rfl, ErAt.same hc ea0, fun H9 l9 s9 g9 => ?_⟩
      refine ⟨l2, l9, _, _, rfl, rfl, s9 _ _ gc, g9, (by show 3 + 0 ≤ sizeLine; decide), fun l8 hl8 => ?_⟩
      exact q _ l8 (hc.trans (s9.trans (same_upd (Same.refl _) hl8))) (by rw [upd_same]; rfl)
    | sameColumn v0 =>
      have ea0 := ea
      rcases ea with ⟨z, _⟩ | ⟨_, dx, he, hdx⟩
      · cases z
      refine ⟨(by show 0 ≤ sizeLine; exact Nat.zero_le _), fun l0 hl0 => ?_⟩
      have sa : Same H (upd H l0 (.lst [])) := same_upd (Same.refl _) hl0
      have ga : upd H l0 (.lst []) l0 = some (.lst []) := upd_same
      revert sa ga
      generalize upd H l0 (.lst []) = Ha
      intro sa ga
      have ha : Same H Ha := sa
      have hda : ∀ d, some dx = some d → ∃ fs, Ha d = some (XD d fs) := fun d z => by cases z; exact ⟨_, ha _ _ hdx⟩
      refine ⟨_, rfl, _, _, rfl, .inr (.inl ⟨e, _, _, _, false, rfl, (ha _ _ he), (hda), T.x_SameColumn, rfl, T.kit_SameColumn_NoName, false, rfl, iteF ?_⟩)⟩
      refine ⟨_, rfl, _, _, rfl, .inr (.inl ⟨e, _, _, _, false, rfl, (ha _ _ he), (hda), T.x_SameColumn, rfl, T.kit_SameColumn_NoCell, false, rfl, iteF ?_⟩)⟩
      refine ⟨_, rfl, _, _, rfl, .inr (.inl ⟨e, _, _, _, false, rfl, (ha _ _ he), (hda), T.x_SameColumn, rfl, T.kit_SameColumn_NoSides, false, rfl, iteF ?_⟩)⟩
      refine ⟨_, rfl, _, _, rfl, .inr (.inl ⟨e, _, _, _, false, rfl, (ha _ _ he), (hda), T.x_SameColumn, rfl, T.kit_SameColumn_NoWindow, false, rfl, iteF ?_⟩)⟩
      refine ⟨_, rfl, _, _, rfl, .inr (.inl ⟨e, _, _, _, false, rfl, (ha _ _ he), (hda), T.x_SameColumn, rfl, T.kit_SameColumn_OldPoint, false, rfl, iteF ?_⟩)⟩
      refine ⟨_, rfl, _, _, rfl, .inr (.inl ⟨e, _, _, _, false, rfl, (ha _ _ he), (hda), T.x_SameColumn, rfl, T.kit_SameColumn_TooMany, false, rfl, iteF ?_⟩)⟩
      refine ⟨_, rfl, _, _, rfl, .inr (.inl ⟨e, _, _, _, true, rfl, (ha _ _ he), (hda), T.x_SameColumn, rfl, T.kit_SameColumn_SameColumn, true, rfl, iteT ?_⟩)⟩
      refine ⟨_, rfl, _, rfl, e, _, dx, _, v0, rfl, ha _ _ he, ha _ _ hdx, T.x_SameColumn, T.n_SameColumn_name, lk_1, (by show 2 ≤ sizeLine; decide), fun l1 hl1 => ?_⟩
      have sb : Same Ha (upd Ha l1 (.lst [.str "column", v0])) := same_upd (Same.refl _) hl1
      have gb : upd Ha l1 (.lst [.str "column", v0]) l1 = some (.lst [.str "column", v0]) := upd_same
      revert sb gb
      generalize upd Ha l1 (.lst [.str "column", v0]) = Hb
      intro sb gb
      refine ⟨l0, l1, _, _, rfl, rfl, sb _ _ ga, gb, (by show 0 + 2 ≤ sizeLine; decide), fun l2 hl2 => ?_⟩
      have sc : Same Hb (upd Hb l2 (.lst ([] ++ [.str "column", v0]))) := same_upd (Same.refl _) hl2
      have gc : upd Hb l2 (.lst ([] ++ [.str "column", v0])) l2 = some (.lst ([] ++ [.str "column", v0])) := upd_same
      revert sc gc
      generalize upd Hb l2 (.lst ([] ++ [.str "column", v0])) = Hc
      intro sc gc
      have hc : Same H Hc := ha.trans (sb.trans sc)
      have hdc : ∀ d, some dx = some d → ∃ fs, Hc d = some (XD d fs) := fun d z => by cases z; exact ⟨_, hc _ _ hdx⟩
      refine ⟨_, rfl, _, _, rfl, .inr (.inl ⟨e, _, _, _, false, rfl, (hc _ _ he), (hdc), T.x_SameColumn, rfl, T.kit_SameColumn_SameRow, false, rfl, iteF ?_⟩)⟩
      refine ⟨_, rfl, _, rfl, e, _, rfl, ErAt.same hc ea0, fun H9 l9 s9 g9 => ?_⟩
      refine ⟨l2, l9, _, _, rfl, rfl, s9 _ _ gc, g9, (by show 2 + 0 ≤ sizeLine; decide), fun l8 hl8 => ?_⟩
      exact q _ l8 (hc.trans (s9.trans (same_upd (Same.refl _) hl8))) (by rw [upd_same]; rfl)
    | sameRow v0 =>
      have ea0 := ea
      rcases ea with ⟨z, _⟩ | ⟨_, dx, he, hdx⟩
      · cases z
      refine ⟨(by show 0 ≤ sizeLine; exact Nat.zero_le _), fun l0 hl0 => ?_⟩
      have sa : Same H (upd H l0 (.lst [])) := same_upd (Same.refl _) hl0
      have ga : upd H l0 (.lst []) l0 = some (.lst []) := upd_same
      revert sa ga
      generalize upd H l0 (.lst []) = Ha
      intro sa ga
      have ha : Same H Ha := sa
      have hda : ∀ d, some dx = some d → ∃ fs, Ha d = some (XD d fs) := fun d z => by cases z; exact ⟨_, ha _ _ hdx⟩
      refine ⟨_, rfl, _, _, rfl, .inr (.inl ⟨e, _, _, _, false, rfl, (ha _ _ he), (hda), T.x_SameRow, rfl, T.kit_SameRow_NoName, false, rfl, iteF ?_⟩)⟩
      refine ⟨_, rfl, _, _, rfl, .inr (.inl ⟨e, _, _, _, false, rfl, (ha _ _ he), (hda), T.x_SameRow, rfl, T.kit_SameRow_NoCell, false, rfl, iteF ?_⟩)⟩
      refine ⟨_, rfl, _, _, rfl, .inr (.inl ⟨e, _, _, _, false, rfl, (ha _ _ he), (hda), T.x_SameRow, rfl, T.kit_SameRow_NoSides, false, rfl, iteF ?_⟩)⟩
      refine ⟨_, rfl, _, _, rfl, .inr (.inl ⟨e, _, _, _, false, rfl, (ha _ _ he), (hda), T.x_SameRow, rfl, T.kit_SameRow_NoWindow, false, rfl, iteF ?_⟩)⟩
      refine ⟨_, rfl, _, _, rfl, .inr (.inl ⟨e, _, _, _, false, rfl, (ha _ _ he), (hda), T.x_SameRow, rfl, T.kit_SameRow_OldPoint, false, rfl, iteF ?_⟩)⟩
      refine ⟨_, rfl, _, _, rfl, .inr (.inl ⟨e, _, _, _, false, rfl, (ha _ _ he), (hda), T.x_SameRow, rfl, T.kit_SameRow_TooMany, false, rfl, iteF ?_⟩)⟩
      refine ⟨_, rfl, _, _, rfl, .inr (.inl ⟨e, _, _, _, false, rfl, (ha _ _ he), (hda), T.x_SameRow, rfl, T.kit_SameRow_SameColumn, false, rfl, iteF ?_⟩)⟩
      refine ⟨_, rfl, _, _, rfl, .inr (.inl ⟨e, _, _, _, true, rfl, (ha _ _ he), (hda), T.x_SameRow, rfl, T.kit_SameRow_SameRow, true, rfl, iteT ?_⟩)⟩
      refine ⟨_, rfl, _, rfl, e, _, dx, _, v0, rfl, ha _ _ he, ha _ _ hdx, T.x_SameRow, T.n_SameRow_name, lk_1, (by show 2 ≤ sizeLine; decide), fun l1 hl1 => ?_⟩
      have sb : Same Ha (upd Ha l1 (.lst [.str "row", v0])) := same_upd (Same.refl _) hl1
      have gb : upd Ha l1 (.lst [.str "row", v0]) l1 = some (.lst [.str "row", v0]) := upd_same
      revert sb gb
      generalize upd Ha l1 (.lst [.str "row", v0]) = Hb
      intro sb gb
      refine ⟨l0, l1, _, _, rfl, rfl, sb _ _ ga, gb, (by show 0 + 2 ≤ sizeLine; decide), fun l2 hl2 => ?_⟩
      have sc : Same Hb (upd Hb l2 (.lst ([] ++ [.str "row", v0]))) := same_upd (Same.refl _) hl2
      have gc : upd Hb l2 (.lst ([] ++ [.str "row", v0])) l2 = some (.lst ([] ++ [.str "row", v0])) := upd_same
      revert sc gc
      generalize upd Hb l2 (.lst ([] ++ [.str "row", v0])) = Hc
      intro sc gc
      have hc : Same H Hc := ha.trans (sb.trans sc)
      have hdc : ∀ d, some dx = some d → ∃ fs, Hc d = some (XD d fs) := fun d z => by cases z; exact ⟨_, hc _ _ hdx⟩
      refine ⟨_, rfl, _, rfl, e, _, rfl, ErAt.same hc ea0, fun H9 l9 s9 g9 => ?_⟩
      refine ⟨l2, l9, _, _, rfl, rfl, s9 _ _ gc, g9, (by show 2 + 0 ≤ sizeLine; decide), fun l8 hl8 => ?_⟩
      exact q _ l8 (hc.trans (s9.trans (same_upd (Same.refl _) hl8))) (by rw [upd_same]; rfl)
end
end S04
set_option maxRecDepth 100000
set_option maxHeartbeats 4000000
namespace S04
open PySem L2 XL PyProof.Rows
theorem cm_mod {x d : Int} (h : 0 < d) (h2 : d ≤ 4294967296) : -(2 ^ 64) < x % d ∧ x % d < 2 ^ 64 := by
  have a := Int.emod_nonneg x (show d ≠ 0 by omega)
  have b := Int.emod_lt_of_pos x h
  exact ⟨by omega, by omega⟩
theorem mod_in (x : Int) {d : Int} (h : 0 < d) : 0 ≤ x % d ∧ x % d < d := ⟨Int.emod_nonneg _ (by omega), Int.emod_lt_of_pos _ h⟩
def spCell (K : PySem.W.Frag) : Sp := fun vs H Q _ => ∃ (a : Addr) (ns : List Int) (k : Int), vs = [.ref a, .int k] ∧ SqL K H a (ns.map V.int) ∧ 0 ≤ k ∧ k < 2 ^ 62 ∧ ∀ c : Int, Q (.int c) H
def spMix : Sp := fun vs H Q _ => ∃ c k : Int, vs = [.int c, .int k] ∧ ∀ m : Int, 0 ≤ m → m < 2147483587 → Q (.int m) H
def abc : Str := "abcdefghijklmnopqrstuvwxyz"
theorem abc_cps : abc.cps.toList = (List.range 26).map (97 + ·) := by decide +kernel
def ltr (i : Int) : Str := ⟨#[97 + i.toNat]⟩
theorem abc_ltr {i : Int} (h0 : 0 ≤ i) (h1 : i < 26) : atI abc.cps.toList i = some (97 + i.toNat) := by
  obtain ⟨j, rfl⟩ := Int.eq_ofNat_of_zero_le h0
  have lt : j < 26 := by omega
  refine atI_nat ?_
  rw [abc_cps, List.getElem?_map, List.getElem?_range lt]
  rfl
theorem ltr_inj {i j : Int} (hi : 0 ≤ i) (hj : 0 ≤ j) (h : ltr i = ltr j) : i = j := by
  unfold ltr at h
  have := congrArg (fun s : Str => s.cps.toList) h
  simp at this
  omega
theorem isNm_ltr {i : Int} (h0 : 0 ≤ i) (h1 : i < 26) : isNm (ltr i) = true := by
  unfold isNm ltr
  have g1 : ¬ ([97 + i.toNat] < [97]) := by rw [List.cons_lt_cons_iff]; rintro (z | ⟨_, z⟩); omega; cases z
  have g2 : ¬ ([122] < [97 + i.toNat]) := by rw [List.cons_lt_cons_iff]; rintro (z | ⟨_, z⟩); omega; cases z
  show (decide (1 = 1) && (!decide ([97 + i.toNat] < [97]) && !decide ([122] < [97 + i.toNat]))) = true
  rw [decide_eq_false g1, decide_eq_false g2]
  rfl
def steps : List Int := [1, 3, 5, 7, 9, 11, 15, 17, 19, 21, 23, 25]
section
variable {P : Program} {w : World} {K : PySem.W.Frag} {mg : Str → Option Value} {base : Heap} {t : Adr}
theorem ok_law_cell (T : Txt w K mg t) : FnOk true P w K mg base (CXo P w) 1 t.f_law_cell t.d_law_cell ["_law_script", "_law_k"] (spCell K) := by
  refine T.F_law_cell.okn (k := 0) sc_law_cell (fun vs H Q E h => ?_) (fun cdv A outer s H vs Q E hr h => ?_)
  · obtain ⟨a, ns, k, rfl, _⟩ := h
    rfl
  · obtain ⟨a, ns, k, rfl, h⟩ := h
    refine ⟨_, pss_cons (ps_if (pt_cmpR op_lt (pv 1) (pe_callB call_len_seq rfl T.n_len boot_len (pa_cons (pv 0) (pa_nil))) (nomark _)) (pss_one (ps_ret (pe_ix ix_list (pv 0) (pv 1) (fun _ _ => rfl)))) (pss_nil))
      (pss_one (ps_ret (pe_op op_add (pe_op op_mul (pe_int) (pv 1)) (pe_int)))), ?_⟩
    obtain ⟨hs, k0, k1, q⟩ := h
    refine ⟨_, rfl, _, rfl, a, _, rfl, .inl hs, _, _, rfl, rfl, _, rfl, ?_⟩
    refine ite2 (fun c => ?_) (fun c => ?_)
    · have c' : k < (ns.length : Int) := by simpa using c
      obtain ⟨j, rfl⟩ := Int.eq_ofNat_of_zero_le k0
      have lt : j < ns.length := by omega
      exact ⟨_, rfl, _, rfl, a, _, _, _, rfl, rfl, hs, atI_nat (by rw [List.getElem?_map, List.getElem?_eq_getElem lt]; rfl), q _⟩
    · exact ⟨_, rfl, _, _, rfl, rfl, .inl ⟨by decide, by decide⟩, _, _, rfl, rfl, q _⟩
theorem ok_law_mixed (T : Txt w K mg t) : FnOk true P w K mg base (CXo P w) 1 t.f_law_mixed t.d_law_mixed ["_law_cell_here", "_law_k"] (spMix) := by
  refine T.F_law_mixed.okn (k := 0) sc_law_mixed (fun vs H Q E h => ?_) (fun cdv A outer s H vs Q E hr h => ?_)
  · obtain ⟨c, k, rfl, _⟩ := h
    rfl
  · obtain ⟨c, k, rfl, h⟩ := h
    refine ⟨_, pss_cons (ps_set (i := 2) sc_law_mixed.nd rfl (Or.inl rfl) (pe_op op_mod (pe_op op_add (pv 0) (pe_op op_mul (pe_int) (pv 1))) (pe_int)))
      (pss_cons (ps_set (i := 2) sc_law_mixed.nd rfl (Or.inl rfl) (pe_op op_mod (pe_op op_add (pe_op op_mul (pv 2) (pe_int)) (pv 1)) (pe_int)))
      (pss_cons (ps_set (i := 2) sc_law_mixed.nd rfl (Or.inl rfl) (pe_op op_mod (pe_op op_mul (pv 2) (pe_op op_add (pv 2) (pe_int))) (pe_int)))
      (pss_one (ps_ret (pe_op op_mod (pe_op op_mul (pv 2) (pe_op op_add (pv 2) (pe_int))) (pe_int)))))), ?_⟩
    refine ⟨_, rfl, _, rfl, _, _, rfl, rfl, .inl ⟨by decide, by decide⟩, _, _, rfl, rfl, _, _, rfl, rfl, (by show (0 : Int) < 2147483647; decide), ?_⟩
    refine ⟨_, rfl, _, _, rfl, rfl, .inr ⟨by decide, by decide⟩, _, rfl, _, _, rfl, rfl, _, _, rfl, rfl, (by show (0 : Int) < 2147483647; decide), ?_⟩
    refine ⟨_, rfl, _, rfl, _, _, rfl, rfl, _, _, rfl, rfl, .inl (cm_mod (by decide) (by decide)), _, _, rfl, rfl, (by show (0 : Int) < 2147483629; decide), ?_⟩
    refine ⟨_, rfl, _, rfl, _, _, rfl, rfl, _, _, rfl, rfl, .inl (cm_mod (by decide) (by decide)), _, _, rfl, rfl, (by show (0 : Int) < 2147483587; decide), ?_⟩
    exact h _ (mod_in _ (by decide)).1 (mod_in _ (by decide)).2
end
end S04
set_option maxRecDepth 100000
set_option maxHeartbeats 4000000
namespace S04
open PySem L2 XL PyProof.Rows
def spFilled (t : Adr) : Sp := fun vs H Q _ => ∃ c : Int, vs = [.int c, .int 12] ∧ ∀ (H' : Hp) (tp a dp do_ l : Addr) (w h : Int) (ps : List Pt) (qs : List Addr), Same H H' → H' tp = some (.tup [.ref a, .ref l]) → Pic t H' a dp do_ w h ps → H' do_ = some (.dT []) → PtsOk w h ps → H' l = some (.lst (qs.map V.ref)) → PtsL H' ps qs → H a = none → H dp = none → H do_ = none → H l = none → Q (.ref tp) H'
theorem sd3_at (m : Int) : ∃ x : Str, atI [V.str "both", V.str "left", V.str "right"] (m % 3) = some (.str x) ∧ (x = "left" ∨ x = "right" ∨ x = "both") := by
  obtain ⟨h0, h1⟩ := mod_in m (show (0 : Int) < 3 by decide)
  have : m % 3 = 0 ∨ m % 3 = 1 ∨ m % 3 = 2 := by omega
  rcases this with e | e | e <;> rw [e]
  · exact ⟨"both", rfl, .inr (.inr rfl)⟩
  · exact ⟨"left", rfl, .inl rfl⟩
  · exact ⟨"right", rfl, .inr (.inl rfl)⟩
theorem ltr7 {f : Int} {i k : Nat} (h : k < i) (hi : i < 13) : ltr ((f + 7 * (k : Int)) % 26) ≠ ltr ((f + 7 * (0 + (i : Int))) % 26) := fun e => by
  have e' := ltr_inj (mod_in _ (by decide)).1 (mod_in _ (by decide)).1 e
  omega
theorem inV_int {x : Int} {zs : List Int} : inV (.int x) (zs.map V.int) = decide (x ∈ zs) := by
  unfold inV
  rw [Bool.eq_iff_iff, List.any_eq_true, decide_eq_true_iff]
  constructor
  · rintro ⟨y, hy, e⟩
    obtain ⟨z, hz, rfl⟩ := List.mem_map.mp hy
    have : z = x := by simpa [eqV] using e
    exact this ▸ hz
  · intro h
    exact ⟨.int x, List.mem_map.mpr ⟨x, h, rfl⟩, by simp [eqV]⟩
theorem all_flat (zs : List Int) : (zs.map V.int).all flatV = true := by
  rw [List.all_eq_true]
  intro z hz
  obtain ⟨i, _, rfl⟩ := List.mem_map.mp hz
  rfl
theorem PtsOk.snoc {w h : Int} {ps : List Pt} (o : PtsOk w h ps) {p : Pt} (k : PtOk w h p) (n1 : ∀ q ∈ ps, q.nm ≠ p.nm) (n2 : p.x ∉ ps.map (·.x)) (n3 : p.y ∉ ps.map (·.y)) (l : ps.length < 12) : PtsOk w h (ps ++ [p]) := by
  refine ⟨fun q hq => ?_, ?_, ?_, ?_, by rw [List.length_append]; exact l⟩
  · rcases List.mem_append.mp hq with z | z
    · exact o.ok q z
    · rw [List.mem_singleton.mp z]; exact k
  · rw [List.map_append, List.nodup_append]
    refine ⟨o.nn, by simp, fun a ha b hb e => ?_⟩
    obtain ⟨q, hq, rfl⟩ := List.mem_map.mp ha
    simp at hb
    subst hb
    exact n1 q hq e
  · rw [List.map_append, List.nodup_append]
    refine ⟨o.nx, by simp, fun a ha b hb e => ?_⟩
    simp at hb
    subst hb
    exact n2 (e ▸ ha)
  · rw [List.map_append, List.nodup_append]
    refine ⟨o.ny, by simp, fun a ha b hb e => ?_⟩
    simp at hb
    subst hb
    exact n3 (e ▸ ha)
section
variable {P : Program} {w : World} {K : PySem.W.Frag} {mg : Str → Option Value} {base : Heap} {t : Adr}
theorem ok_law_filled (T : Txt w K mg t) : FnOk true P w K mg base (CXo P w) 4 t.f_law_filled t.d_law_filled ["_law_cell_here", "_law_most"] (spFilled t) := by
  refine T.F_law_filled.okn (k := 3) sc_law_filled (fun vs H Q E h => ?_) (fun cdv A outer s H vs Q E hr h => ?_)
  · obtain ⟨c, rfl, _⟩ := h
    rfl
  · obtain ⟨c, rfl, h⟩ := h
    refine ⟨_, pss_cons (ps_set (i := 2) sc_law_filled.nd rfl (Or.inl rfl) (pe_op op_add (pe_int) (pe_op op_mod (pe_call (ok_law_mixed T) (hr.mono (by decide)) rfl T.g_law_mixed T.F_law_mixed.kp T.b_law_mixed .nil pass_none (pa_cons (pv 0) (pa_cons (pe_int) (pa_nil)))) (pe_int))))
      (pss_cons (ps_set (i := 3) sc_law_filled.nd rfl (Or.inl rfl) (pe_op op_add (pe_int) (pe_op op_mod (pe_call (ok_law_mixed T) (hr.mono (by decide)) rfl T.g_law_mixed T.F_law_mixed.kp T.b_law_mixed .nil pass_none (pa_cons (pv 0) (pa_cons (pe_int) (pa_nil)))) (pe_int))))
      (pss_cons (ps_set (i := 4) sc_law_filled.nd rfl (Or.inl rfl) (pe_make T.k_Picture (ok_Picture_init T) (hr.mono (by decide)) rfl T.g_Picture T.b_Picture_init .nil pass_none (pa_cons (pv 2) (pa_cons (pv 3) (pa_nil)))))
      (pss_cons (ps_set (i := 5) sc_law_filled.nd rfl (Or.inl rfl) (pe_lst (pa_nil)))
      (pss_cons (ps_set (i := 6) sc_law_filled.nd rfl (Or.inl rfl) (pe_call (ok_law_mixed T) (hr.mono (by decide)) rfl T.g_law_mixed T.F_law_mixed.kp T.b_law_mixed .nil pass_none (pa_cons (pv 0) (pa_cons (pe_int) (pa_nil)))))
      (pss_cons (ps_for PassesOwn.never rfl (pi_range1 rfl T.n_range (pa_cons (pe_op op_mod (pe_call (ok_law_mixed T) (hr.mono (by decide)) rfl T.g_law_mixed T.F_law_mixed.kp T.b_law_mixed .nil pass_none (pa_cons (pv 0) (pa_cons (pe_int) (pa_nil)))) (pe_op op_add (pv 1) (pe_int))) (pa_nil))) (pg_name (i := 7) sc_law_filled.nd rfl (Or.inl rfl)) (pss_cons (ps_set (i := 8) sc_law_filled.nd rfl (Or.inl rfl) (pe_op op_add (pe_int) (pe_op op_mod (pe_op op_add (pv 6) (pe_op op_mul (pe_op op_add (pe_int) (pe_op op_mod (pe_op op_fdiv (pv 6) (pe_int)) (pe_int))) (pv 7))) (pv 2))))
      (pss_cons (ps_set (i := 9) sc_law_filled.nd rfl (Or.inl rfl) (pe_op op_add (pe_int) (pe_op op_mod (pe_op op_add (pe_op op_fdiv (pv 6) (pe_int)) (pe_op op_mul (pe_op op_add (pe_int) (pe_op op_mod (pe_op op_fdiv (pv 6) (pe_int)) (pe_int))) (pv 7))) (pv 3))))
      (pss_cons (ps_set (i := 10) sc_law_filled.nd rfl (Or.inl rfl) (pe_call (ok_law_mixed T) (hr.mono (by decide)) rfl T.g_law_mixed T.F_law_mixed.kp T.b_law_mixed .nil pass_none (pa_cons (pv 0) (pa_cons (pe_op op_add (pe_int) (pv 7)) (pa_nil)))))
      (pss_cons (ps_set (i := 11) sc_law_filled.nd rfl (Or.inl rfl) (pe_op op_add (pe_int) (pe_op op_mod (pe_op op_fdiv (pv 10) (pe_int)) (pv 3))))
      (pss_cons ((by (with_reducible refine' ps_set (i := 12) ?n5 ?i6 ?x7 ?e8 ?s9 ?f10); (case n5 => exact sc_law_filled.nd); (case i6 => rfl); (case x7 => exact Or.inl rfl); (case f10 => exact Or.inl rfl); (case e8 => ((exact pe_tup (pa_consP (pe_ix ix_str (pe_str) (pe_op op_mod (pe_op op_add (pv 6) (pe_op op_mul (pe_int) (pv 7))) (pe_int)) (fun _ _ => rfl)) (pa_consP (pv 8) (pa_consP (pv 9) (pa_consP (pe_ix ix_list (pe_lst (pa_cons (pe_str) (pa_cons (pe_str) (pa_cons (pe_str) (pa_nil))))) (pe_op op_mod (pv 10) (pe_int)) (fun _ _ => rfl)) (pa_consP (pv 11) (pa_consP (pe_op op_add (pv 11) (pe_op op_mod (pe_op op_fdiv (pv 10) (pe_int)) (pe_op op_sub (pe_op op_add (pv 3) (pe_int)) (pv 11)))) (pa_nil) rfl) rfl) rfl) rfl) rfl) rfl)))); (case s9 => rfl)))
      (pss_one (ps_if (PW.pt (pw_and (pt_cmpR op_notIn_seq (pv 8) (pe_compG rfl (blkG_of (zs := ["_law_one"]) (ys := []) (fr := []) (N0 := ["_law_cell_here", "_law_most", "_law_width", "_law_height", "_law_picture", "_law_rows", "_law_first", "_law_k", "_law_x", "_law_y", "_law_number", "_law_low", "_law_row"]) (sc0 := defScope s_law_filled) (by decide +kernel) rfl rfl rfl) (pi_list (pv 5)) (fun _ _ _ _ _ ow nd => pg_name (i := 0) nd rfl (Or.inl (ow _ (by simp))) (Or.inr (ow _ (by simp)))) (gok_name (by decide)) (fun _ _ _ _ _ => pif_nil) (fun _ _ _ _ _ => pe_ix (r := rIxT K) ix_tup (pv 0) (pe_int) (fun _ _ => rfl))) (by rfl)) (pw_and1 (pt_cmpR op_notIn_seq (pv 9) (pe_compG rfl (blkG_of (zs := ["_law_one"]) (ys := []) (fr := []) (N0 := ["_law_cell_here", "_law_most", "_law_width", "_law_height", "_law_picture", "_law_rows", "_law_first", "_law_k", "_law_x", "_law_y", "_law_number", "_law_low", "_law_row"]) (sc0 := defScope s_law_filled) (by decide +kernel) rfl rfl rfl) (pi_list (pv 5)) (fun _ _ _ _ _ ow nd => pg_name (i := 0) nd rfl (Or.inl (ow _ (by simp))) (Or.inr (ow _ (by simp)))) (gok_name (by decide)) (fun _ _ _ _ _ => pif_nil) (fun _ _ _ _ _ => pe_ix (r := rIxT K) ix_tup (pv 0) (pe_int) (fun _ _ => rfl))) (by rfl))))) (pss_cons (ps_expr (pe_meth (pv 4) T.c_Picture T.m_Picture_put (ok_Picture_put T) (hr.mono (by decide)) T.b_Picture_put .nil pass_none (pa_consP (pe_ix ix_tup (pv 12) (pe_int) (fun _ _ => rfl)) (pa_consP (pe_ix ix_tup (pv 12) (pe_int) (fun _ _ => rfl)) (pa_consP (pe_ix ix_tup (pv 12) (pe_int) (fun _ _ => rfl)) (pa_consP (pe_ix ix_tup (pv 12) (pe_int) (fun _ _ => rfl)) (pa_consP (pe_ix ix_tup (pv 12) (pe_int) (fun _ _ => rfl)) (pa_consP (pe_ix ix_tup (pv 12) (pe_int) (fun _ _ => rfl)) (pa_nil) rfl) rfl) rfl) rfl) rfl) rfl)))
      (pss_one (ps_expr (pe_bm PySem.F.plainAttrs_list PySem.F.slot_list_append PySem.F.type_list_append mt_append (pv 5) (pa_cons (pv 12) (pa_nil)))))) (pss_nil)))))))))
      (pss_one (ps_ret (pe_tup (pa_cons (pv 4) (pa_cons (pv 5) (pa_nil))))))))))), ?_⟩
    refine ⟨_, rfl, c, 900, rfl, fun m1 a1 b1 => ⟨_, _, rfl, rfl, (by show (0 : Int) < 30; decide), _, _, rfl, rfl, ?_⟩⟩
    refine ⟨_, rfl, c, 901, rfl, fun m2 a2 b2 => ⟨_, _, rfl, rfl, (by show (0 : Int) < 16; decide), _, _, rfl, rfl, ?_⟩⟩
    have wb := mod_in m1 (show (0 : Int) < 30 by decide)
    have hb := mod_in m2 (show (0 : Int) < 16 by decide)
    obtain ⟨w, ew⟩ : ∃ w, w = 1 + m1 % 30 := ⟨_, rfl⟩
    obtain ⟨ph, eh⟩ : ∃ h, h = 1 + m2 % 16 := ⟨_, rfl⟩
    dsimp only
    rw [← ew, ← eh]
    have w1 : 1 ≤ w := by omega
    have w2 : w ≤ 30 := by omega
    have h1 : 1 ≤ ph := by omega
    have h2 : ph ≤ 16 := by omega
    refine ⟨_, rfl, _, rfl, fun a dx hx hdx ne => ⟨a, dx, w, ph, rfl, upd_same, w1, w2, h1, h2, fun H5 dp do_ hdp5 hdo5 s6 pic5 hdt => ⟨rfl, ?_⟩⟩⟩
    have k5 : Same H H5 := fun b u e => s6 b u (ne_of_none e hx) (by rw [upd_ne (ne_of_none e hx), upd_ne (ne_of_none e hdx)]; exact e)
    have up : ∀ b, upd (upd H dx (.own a)) a (.ins t.C_Picture dx []) b = none → H b = none := fun b z => by
      cases e : H b with
      | none => rfl
      | some u => rw [upd_ne (ne_of_none e hx), upd_ne (ne_of_none e hdx), e] at z; cases z
    have fdp := up _ hdp5
    have fdo := up _ hdo5
    refine ⟨(by show 0 ≤ sizeLine; exact Nat.zero_le _), fun l hl5 => ?_⟩
    have fl := k5.free hl5
    have s5l : Same H5 (upd H5 l (.lst [])) := same_upd (Same.refl _) hl5
    refine ⟨_, rfl, c, 902, rfl, fun f f0 f1 => ?_⟩
    refine ⟨_, rfl, c, 903, rfl, fun m3 a3 b3 => ⟨_, rfl, _, _, rfl, rfl, _, _, rfl, rfl, (by show (0 : Int) < 12 + 1; decide), m3 % 13, rfl, ?_, ?_, ?_⟩⟩
    · have := mod_in m3 (show (0 : Int) < 13 by decide); omega
    · have := mod_in m3 (show (0 : Int) < 13 by decide); omega
    have nb := mod_in m3 (show (0 : Int) < 13 by decide)
    refine for_range (Pv := fun i σ H6 => ∃ (v7 v8 v9 v10 v11 v12 : Option V) (ps : List Pt) (qs : List Addr), σ = [some (.int c), some (.int 12), some (.int w), some (.int ph), some (.ref a), some (.ref l), some (.int f), v7, v8, v9, v10, v11, v12] ∧ Same H H6 ∧ Pic t H6 a dp do_ w ph ps ∧ H6 do_ = some (.dT []) ∧ H6 l = some (.lst (qs.map V.ref)) ∧ PtsL H6 ps qs ∧ PtsOk w ph ps ∧ ps.length ≤ i ∧ ∀ p ∈ ps, ∃ k : Nat, k < i ∧ p.nm = ltr ((f + 7 * (k : Int)) % 26)) ?_ ?_ ?_
    · exact ⟨_, _, _, _, _, _, [], [], rfl, k5.trans s5l, Pic.same s5l pic5, s5l _ _ hdt, upd_same, .nil, ⟨fun p hp => (nomatch hp), List.nodup_nil, List.nodup_nil, List.nodup_nil, Nat.zero_le _⟩, Nat.le_refl _, fun p hp => (nomatch hp)⟩
    · rintro i σ H6 hi ⟨v7, v8, v9, v10, v11, v12, ps, qs, rfl, s7, pic6, hdt6, hl6, pts6, pok6, ple, pnm⟩
      have hi' : i < 13 := by omega
      have ql := pts6.len
      refine ⟨_, rfl, _, rfl, _, _, rfl, rfl, ⟨by decide, by decide⟩, _, _, rfl, rfl, (by show (0 : Int) < 7; decide), _, _, rfl, rfl, _, rfl, _, _, rfl, rfl, .inl (by have := mod_in (f / 40) (show (0 : Int) < 7 by decide); constructor <;> omega), _, _, rfl, rfl, _, rfl, _, _, rfl, rfl, (by show 0 < w; omega), _, _, rfl, rfl, ?_⟩
      refine ⟨_, rfl, _, _, rfl, rfl, ⟨by decide, by decide⟩, _, rfl, _, _, rfl, rfl, ⟨by decide, by decide⟩, _, _, rfl, rfl, (by show (0 : Int) < 5; decide), _, _, rfl, rfl, _, rfl, _, _, rfl, rfl, .inl (by have := mod_in (f / 5000) (show (0 : Int) < 5 by decide); constructor <;> omega), _, _, rfl, rfl, _, rfl, _, _, rfl, rfl, (by show 0 < ph; omega), _, _, rfl, rfl, ?_⟩
      have bx := mod_in (f + (1 + f / 40 % 7) * (0 + (i : Int))) (show 0 < w by omega)
      have bY := mod_in (f / 300 + (1 + f / 5000 % 5) * (0 + (i : Int))) (show 0 < ph by omega)
      obtain ⟨x, ex⟩ : ∃ x, x = 1 + (f + (1 + f / 40 % 7) * (0 + (i : Int))) % w := ⟨_, rfl⟩
      obtain ⟨y, ey⟩ : ∃ y, y = 1 + (f / 300 + (1 + f / 5000 % 5) * (0 + (i : Int))) % ph := ⟨_, rfl⟩
      dsimp only
      rw [← ex, ← ey]
      refine ⟨_, rfl, _, rfl, _, _, rfl, rfl, c, _, rfl, fun nr n0 n1 => ?_⟩
      refine ⟨_, rfl, _, _, rfl, rfl, ⟨by decide, by decide⟩, _, rfl, _, _, rfl, rfl, (by show 0 < ph; omega), _, _, rfl, rfl, ?_⟩
      have bl := mod_in (nr / 3) (show 0 < ph by omega)
      obtain ⟨lo, elo⟩ : ∃ lo, lo = 1 + nr / 3 % ph := ⟨_, rfl⟩
      dsimp only
      rw [← elo]
      obtain ⟨sd, esd, hsd⟩ := sd3_at nr
      have bh := mod_in (nr / 60) (show 0 < ph + 1 - lo by omega)
      obtain ⟨hi2, ehi⟩ : ∃ h, h = lo + nr / 60 % (ph + 1 - lo) := ⟨_, rfl⟩
      refine ⟨_, rfl, _, rfl, _, _, rfl, rfl, .inl ⟨by decide, by decide⟩, _, _, rfl, rfl, _, _, rfl, rfl, (by show (0 : Int) < 26; decide), abc, _, _, rfl, rfl, (by decide +kernel), abc_ltr (mod_in _ (by decide)).1 (mod_in _ (by decide)).2, _, rfl, _, rfl, (by show 3 ≤ sizeLine; decide), fun q3 hq3 => ?_⟩
      have s8 : Same H6 (upd H6 q3 (.lst [.str "both", .str "left", .str "right"])) := same_upd (Same.refl _) hq3
      have g8 : upd H6 q3 (.lst [.str "both", .str "left", .str "right"]) q3 = some (.lst [.str "both", .str "left", .str "right"]) := upd_same
      revert s8 g8
      generalize upd H6 q3 (.lst [.str "both", .str "left", .str "right"]) = H8
      intro s8 g8
      refine ⟨_, rfl, _, _, rfl, rfl, (by show (0 : Int) < 3; decide), q3, _, _, .str sd, rfl, rfl, SqL.of g8, esd, _, rfl, _, rfl, _, rfl, _, _, rfl, rfl, ⟨by decide, by decide⟩, _, rfl, _, _, rfl, rfl, _, rfl, _, _, rfl, rfl, _, _, rfl, rfl, (by show 0 < ph + 1 - lo; omega), _, _, rfl, rfl, (by show 6 ≤ sizeLine; decide), fun r hr9 => ?_⟩
      dsimp only
      rw [← ehi]
      obtain ⟨nm, enm⟩ : ∃ nm, nm = ltr ((f + 7 * (0 + (i : Int))) % 26) := ⟨_, rfl⟩
      rw [show (⟨#[97 + ((f + 7 * (0 + (i : Int))) % 26).toNat]⟩ : Str) = nm from enm.symm]
      have isn : isNm nm = true := by rw [enm]; exact isNm_ltr (mod_in _ (by decide)).1 (mod_in _ (by decide)).2
      have s9 : Same H8 (upd H8 r (.tup [.str nm, .int x, .int y, .str sd, .int lo, .int hi2])) := same_upd (Same.refl _) hr9
      have g9 : upd H8 r (.tup [.str nm, .int x, .int y, .str sd, .int lo, .int hi2]) r = some (.tup [.str nm, .int x, .int y, .str sd, .int lo, .int hi2]) := upd_same
      revert s9 g9
      generalize upd H8 r (.tup [.str nm, .int x, .int y, .str sd, .int lo, .int hi2]) = H9
      intro s9 g9
      have s69 : Same H6 H9 := s8.trans s9
      have hl9 := s69 _ _ hl6
      have pts9 := pts6.keep (Same.tups s69)
      refine ⟨_, rfl, _, rfl, l, rfl, ⟨_, SqL.of hl9⟩, fun lx hlx => ?_⟩
      refine comp_list (SqL.of hl9) (by rw [List.length_map]; exact Nat.lt_trans (by omega : qs.length < 13) (by decide)) hlx (fun i y _ => ∃ p, ps[i]? = some p ∧ y = .int p.x) (fun _ _ _ _ _ z => z) (fun i z H2 hz s2 N hN => ?_) (fun ys HA sA elA ly fA => ?_)
      · rw [List.getElem?_map] at hz
        obtain ⟨o, ho, rfl⟩ := Option.map_eq_some_iff.mp hz
        obtain ⟨p, hpp, ep⟩ := (PtsL.keep (Same.tups s2) pts9).get ho
        exact ⟨_, rfl, o, _, 1, _, rfl, rfl, SqT.of ep, rfl, hN _ _ (Same.refl _) ⟨p, hpp, rfl⟩⟩
      have ey1 : ys = (ps.map (·.x)).map V.int := by
        rw [List.map_map]
        refine ys_eq (by rw [ly, List.length_map, ql]) fun i y p hy hp => ?_
        obtain ⟨p', h1, h2⟩ := fA i y hy
        rw [hp] at h1
        cases h1
        exact h2
      subst ey1
      refine ⟨lx, _, rfl, .inl (SqL.of elA), rfl, all_flat _, _, rfl, ?_⟩
      have pass : ∀ HB, Same HA HB → ∃ v7 v8 v9 v10 v11 v12 ps qs, [some (V.int c), some (V.int 12), some (V.int w), some (V.int ph), some (V.ref a), some (V.ref l), some (V.int f), some (V.int (0 + (i : Int))), some (.int x), some (.int y), some (.int nr), some (.int lo), some (.ref r)] = [some (V.int c), some (.int 12), some (.int w), some (.int ph), some (.ref a), some (.ref l), some (.int f), v7, v8, v9, v10, v11, v12] ∧ Same H HB ∧ Pic t HB a dp do_ w ph ps ∧ HB do_ = some (.dT []) ∧ HB l = some (.lst (qs.map V.ref)) ∧ PtsL HB ps qs ∧ PtsOk w ph ps ∧ ps.length ≤ i + 1 ∧ ∀ p ∈ ps, ∃ k : Nat, k < i + 1 ∧ p.nm = ltr ((f + 7 * (k : Int)) % 26) := fun HB sB => by
        have s6B := (s69.trans sA).trans sB
        exact ⟨_, _, _, _, _, _, ps, qs, rfl, s7.trans s6B, Pic.same s6B pic6, s6B _ _ hdt6, s6B _ _ hl6, pts6.keep (Same.tups s6B), pok6, by omega, fun p hp => let ⟨k, h1, h2⟩ := pnm p hp; ⟨k, by omega, h2⟩⟩
      refine ite2 (fun cx => ?_) (fun cx => ?_)
      · rw [if_pos rfl, inV_int] at cx
        have nx : x ∉ ps.map (·.x) := by simpa using cx
        have hlA := sA _ _ hl9
        have ptsA := pts9.keep (Same.tups sA)
        refine ⟨_, rfl, _, rfl, l, rfl, ⟨_, SqL.of hlA⟩, fun ly2 hly => ?_⟩
        refine comp_list (SqL.of hlA) (by rw [List.length_map]; exact Nat.lt_trans (by omega : qs.length < 13) (by decide)) hly (fun i y _ => ∃ p, ps[i]? = some p ∧ y = .int p.y) (fun _ _ _ _ _ z => z) (fun i z H2 hz s2 N hN => ?_) (fun ys HB sB elB ly fB => ?_)
        · rw [List.getElem?_map] at hz
          obtain ⟨o, ho, rfl⟩ := Option.map_eq_some_iff.mp hz
          obtain ⟨p, hpp, ep⟩ := (PtsL.keep (Same.tups s2) ptsA).get ho
          exact ⟨_, rfl, o, _, 2, _, rfl, rfl, SqT.of ep, rfl, hN _ _ (Same.refl _) ⟨p, hpp, rfl⟩⟩
        have ey1 : ys = (ps.map (·.y)).map V.int := by
          rw [List.map_map]
          refine ys_eq (by rw [ly, List.length_map, ql]) fun i y p hy hp => ?_
          obtain ⟨p', h1, h2⟩ := fB i y hy
          rw [hp] at h1
          cases h1
          exact h2
        subst ey1
        refine ⟨ly2, _, rfl, .inl (SqL.of elB), rfl, all_flat _, _, rfl, ?_⟩
        refine ite2 (fun cy => ?_) (fun cy => ?_)
        · rw [if_pos rfl, inV_int] at cy
          have ny : y ∉ ps.map (·.y) := by simpa using cy
          have s6B := (s69.trans sA).trans sB
          have sA9 := sA.trans sB
          have picB := Pic.same s6B pic6
          obtain ⟨dxB, hpB⟩ := picB.ins
          have gB := sA9 _ _ g9
          have nn : ∀ q ∈ ps, q.nm ≠ nm := fun q hq => by
            obtain ⟨k, hk, e⟩ := pnm q hq
            rw [e, enm]
            exact ltr7 hk hi'
          have len : ps.length < 12 := by omega
          refine ⟨_, rfl, a, dxB, _, rfl, hpB, lk_no (by decide +kernel), _, rfl, r, _, 0, _, rfl, rfl, SqT.of gB, rfl, _, rfl, r, _, 1, _, rfl, rfl, SqT.of gB, rfl, _, rfl, r, _, 2, _, rfl, rfl, SqT.of gB, rfl, _, rfl, r, _, 3, _, rfl, rfl, SqT.of gB, rfl, _, rfl, r, _, 4, _, rfl, rfl, SqT.of gB, rfl, _, rfl, r, _, 5, _, rfl, rfl, SqT.of gB, rfl, ?_⟩
          refine ⟨a, dp, do_, w, ph, ps, nm, x, y, sd, lo, hi2, .int _, rfl, picB, .inr rfl, isn, by omega, by omega, by omega, by omega, hsd, by omega, by omega, by omega, fun p hp => ⟨nn p hp, fun e => nx (e ▸ List.mem_map.mpr ⟨p, hp, rfl⟩), fun e => ny (e ▸ List.mem_map.mpr ⟨p, hp, rfl⟩)⟩, len, fun HC kC picC => ?_⟩
          obtain ⟨kvs, hk, _⟩ := picB.pl
          have ndp : ∀ b u, H b = some u → b ≠ dp := fun b u e => ne_of_none e fdp
          have hlC := kC _ _ (ne_of (s6B _ _ hl6) hk (fun z => nomatch z)) (s6B _ _ hl6)
          have gC := kC _ _ (ne_of gB hk (fun z => nomatch z)) gB
          refine ⟨_, rfl, .inl ⟨rfl, _, SqL.of hlC⟩, _, rfl, l, _, _, rfl, rfl, hlC, ?_, ?_⟩
          · rw [List.length_map]
            exact Nat.lt_trans (by omega : qs.length < 13) (by decide)
          have bt : ∀ b u, b ≠ l → HC b = some u → upd HC l (.lst (qs.map V.ref ++ [.ref r])) b = some u := fun b u nb e => by
            rw [upd_ne nb]
            exact e
          have tC : Tups HB HC := fun b xs e => kC _ _ (ne_of e hk (fun z => nomatch z)) e
          have tL : Tups HC (upd HC l (.lst (qs.map V.ref ++ [.ref r]))) := fun b xs e => bt _ _ (ne_of e hlC (fun z => nomatch z)) e
          have picL : Pic t (upd HC l (.lst (qs.map V.ref ++ [.ref r]))) a dp do_ w ph (ps ++ [⟨nm, x, y, sd, lo, hi2⟩]) :=
            ⟨let ⟨d, e⟩ := picC.ins; ⟨d, bt _ _ (ne_of e hlC (fun z => nomatch z)) e⟩, let ⟨k, e, q⟩ := picC.pl; ⟨k, bt _ _ (ne_of e hlC (fun z => nomatch z)) e, q.keep tL⟩, picC.w1, picC.w2, picC.h1, picC.h2, picC.len⟩
          refine ⟨_, _, _, _, _, _, ps ++ [⟨nm, x, y, sd, lo, hi2⟩], qs ++ [r], rfl, fun b u e => bt _ _ (ne_of_none e fl) (kC _ _ (ndp _ _ e) (s6B _ _ (s7 _ _ e))), picL, ?_, ?_, ?_, ?_, ?_, ?_⟩
          · have e := kC _ _ (ne_of (s6B _ _ hdt6) hk (fun z => nomatch z)) (s6B _ _ hdt6)
            exact bt _ _ (ne_of e hlC (fun z => nomatch z)) e
          · rw [upd_same, List.map_append]
            rfl
          · exact PtsL.snoc ((pts6.keep (Same.tups s6B)).keep (fun b xs e => tL _ _ (tC _ _ e))) (tL _ _ gC)
          · exact PtsOk.snoc pok6 ⟨isn, by show 1 ≤ x; omega, by show x ≤ w; omega, by show 1 ≤ y; omega, by show y ≤ ph; omega, hsd, by show 1 ≤ lo; omega, by show lo ≤ hi2; omega, by show hi2 ≤ ph; omega⟩ nn nx ny len
          · rw [List.length_append]
            show ps.length + 1 ≤ i + 1
            omega
          · intro p hp
            rcases List.mem_append.mp hp with z | z
            · obtain ⟨k, h1, h2⟩ := pnm p z
              exact ⟨k, by omega, h2⟩
            · rw [List.mem_singleton.mp z]
              exact ⟨i, by omega, by rw [← Int.zero_add (i : Int)]; exact enm⟩
        · exact pass HB sB
      · exact pass HA (Same.refl _)
    · rintro σ H6 ⟨v7, v8, v9, v10, v11, v12, ps, qs, rfl, s7, pic6, hdt6, hl6, pts6, pok6, ple, pnm⟩
      refine ⟨_, rfl, _, rfl, (by show 2 ≤ sizeLine; decide), fun tp htp => ?_⟩
      have s8 : Same H6 (upd H6 tp (.tup [.ref a, .ref l])) := same_upd (Same.refl _) htp
      exact h _ tp a dp do_ l w ph ps qs (s7.trans s8) upd_same (Pic.same s8 pic6) (s8 _ _ hdt6) pok6 (s8 _ _ hl6) (pts6.keep (Same.tups s8)) hx fdp fdo fl
end
end S04
set_option maxRecDepth 100000
set_option maxHeartbeats 4000000
namespace S04
open PySem L2 XL PyProof.Rows
theorem thg_at {H : Hp} {xs : List V} (all : ∀ v ∈ xs, ∃ d, Thg H v d) {k : Int} (h0 : 0 ≤ k) (h1 : k < xs.length) : ∃ v d, atI xs k = some v ∧ Thg H v d ∧ v ∈ xs := by
  obtain ⟨j, rfl⟩ := Int.eq_ofNat_of_zero_le h0
  have lt : j < xs.length := by omega
  obtain ⟨d, hd⟩ := all xs[j] (List.getElem_mem lt)
  exact ⟨xs[j], d, atI_nat (List.getElem?_eq_getElem lt), hd, List.getElem_mem lt⟩
theorem ltr_len (i : Int) : (ltr i).length ≤ 1000 := by
  show 1 ≤ 1000
  decide
theorem nm_len {s : Str} (h : isNm s = true) : s.length ≤ 1000 := by
  unfold isNm at h
  rw [Bool.and_eq_true, decide_eq_true_eq] at h
  omega
theorem way4 (m : Int) : ∃ wy : Str, atI [V.str "move", V.str "move", V.str "move", V.str "take", V.str "place", V.str "put"] (m % 6) = some (.str wy) ∧ (wy = "move" ∨ wy = "take" ∨ wy = "place" ∨ wy = "put") := by
  obtain ⟨h0, h1⟩ := mod_in m (show (0 : Int) < 6 by decide)
  have : m % 6 = 0 ∨ m % 6 = 1 ∨ m % 6 = 2 ∨ m % 6 = 3 ∨ m % 6 = 4 ∨ m % 6 = 5 := by omega
  rcases this with e | e | e | e | e | e <;> rw [e]
  · exact ⟨_, rfl, .inl rfl⟩
  · exact ⟨_, rfl, .inl rfl⟩
  · exact ⟨_, rfl, .inl rfl⟩
  · exact ⟨_, rfl, .inr (.inl rfl)⟩
  · exact ⟨_, rfl, .inr (.inr (.inl rfl))⟩
  · exact ⟨_, rfl, .inr (.inr (.inr rfl))⟩
def spDeed : Sp := fun vs H Q _ => ∃ (c k : Int) (l : Addr) (ps : List Pt) (qs : List Addr), vs = [.int c, .int k, .ref l] ∧ H l = some (.lst (qs.map V.ref)) ∧ PtsL H ps qs ∧ (∀ p ∈ ps, isNm p.nm = true) ∧
  ∀ (H' : Hp) (dl : Addr) (wy : Str) (n : V) (d : DV) (e2 e3 e4 : Int), Same H H' → H dl = none → (∀ q, n = .ref q → H q = none) → H' dl = some (.lst [.str wy, n, .int e2, .int e3, .int e4]) → Thg H' n d → (wy = "move" ∨ wy = "take" ∨ wy = "place" ∨ wy = "put") → Q (.ref dl) H'
theorem ne_nil {ps : List Pt} : (!dEq (.lst (ps.map ptD)) (.lst [])) = !ps.isEmpty := by cases ps <;> rfl
theorem rows_dv {K : PySem.W.Frag} {H : Hp} {e : Addr} (h : H e = some (.lst [])) : Dv K H 1 (.ref e) (.lst []) := .lst (SqL.of h) rfl (fun j x d e _ => by simp at e)
def spCellOf : Sp := fun vs H Q _ => ∃ (dl sz l : Addr) (wy : Str) (n : V) (e2 e3 e4 w h : Int) (ps : List Pt) (qs : List Addr), vs = [.ref dl, .ref sz, .ref l] ∧ H dl = some (.lst [.str wy, n, .int e2, .int e3, .int e4]) ∧ H sz = some (.tup [.int w, .int h]) ∧ 1 ≤ w ∧ 1 ≤ h ∧ H l = some (.lst (qs.map V.ref)) ∧ PtsL H ps qs ∧
  ∀ (H' : Hp) (tp : Addr) (x y : V) (dx dy : DV), Same H H' → H' tp = some (.tup [x, y]) → Thg H' x dx → Thg H' y dy → Q (.ref tp) H'
section
variable {P : Program} {w : World} {K : PySem.W.Frag} {mg : Str → Option Value} {base : Heap} {t : Adr}
theorem ok_law_is_whole (T : Txt w K mg t) : FnOk true P w K mg base (CXo P w) 1 t.f_law_is_whole t.d_law_is_whole ["_law_thing", "_law_low", "_law_high"] (spWT) := by
  refine T.F_law_is_whole.okn (k := 0) sc_law_is_whole (fun vs H Q E h => ?_) (fun cdv A outer s H vs Q E hr h => ?_)
  · obtain ⟨x, d, lo, hi, rfl, _⟩ := h
    rfl
  · obtain ⟨x, d, lo, hi, rfl, h⟩ := h
    refine ⟨_, pss_one (ps_ret (pe_and (pe_callB call_isin rfl T.n_isinstance boot_isinstance (pa_cons (pv 0) (pa_cons (pe_bltn (v := .ty "int") rfl T.n_int boot_int rfl) (pa_nil)))) (pe_and (pe_not (pe_callB call_isin rfl T.n_isinstance boot_isinstance (pa_cons (pv 0) (pa_cons (pe_bltn (v := .ty "bool") rfl T.n_bool boot_bool rfl) (pa_nil))))) (pe_one (pe_chain op_le op_le (pv 1) (pv 0) (pv 2)))))), ?_⟩
    obtain ⟨tx, q⟩ := h
    cases tx with
    | int i =>
      refine ⟨_, rfl, _, _, rfl, .inl ⟨_, _, true, .int i, rfl, kit_same, true, rfl, iteT ?_⟩⟩
      refine ⟨_, rfl, _, _, rfl, .inl ⟨_, _, false, .int i, rfl, (by rfl), false, rfl, true, rfl, iteT ?_⟩⟩
      refine ⟨_, rfl, _, rfl, _, _, rfl, rfl, _, rfl, ite2 (fun c => ?_) (fun c => ?_)⟩
      · refine ⟨_, rfl, _, _, rfl, rfl, ?_⟩
        change Q (.bl (decide (lo ≤ i) && decide (i ≤ hi))) H at q
        rw [c, Bool.true_and] at q
        exact q
      · change Q (.bl (decide (lo ≤ i) && decide (i ≤ hi))) H at q
        rw [Bool.eq_false_iff.mpr c, Bool.false_and] at q
        exact q
    | bl b =>
      refine ⟨_, rfl, _, _, rfl, .inl ⟨_, _, true, .bl b, rfl, (by rfl), true, rfl, iteT ?_⟩⟩
      exact ⟨_, rfl, _, _, rfl, .inl ⟨_, _, true, .bl b, rfl, kit_same, true, rfl, false, rfl, iteF q⟩⟩
    | str y => exact ⟨_, rfl, _, _, rfl, .inl ⟨_, _, false, .str y, rfl, (by rfl), false, rfl, iteF q⟩⟩
    | non => exact ⟨_, rfl, _, _, rfl, .inl ⟨_, _, false, .non, rfl, (by rfl), false, rfl, iteF q⟩⟩
    | lst hq => exact ⟨_, rfl, _, _, rfl, .inl ⟨_, _, false, .lst hq, rfl, (by rfl), false, rfl, iteF q⟩⟩
    | tup hq => exact ⟨_, rfl, _, _, rfl, .inl ⟨_, _, false, .tup hq, rfl, (by rfl), false, rfl, iteF q⟩⟩
theorem ok_law_deed (T : Txt w K mg t) : FnOk true P w K mg base (CXo P w) 2 t.f_law_deed t.d_law_deed ["_law_cell_here", "_law_k", "_law_rows"] (spDeed) := by
  refine T.F_law_deed.okn (k := 1) sc_law_deed (fun vs H Q E h => ?_) (fun cdv A outer s H vs Q E hr h => ?_)
  · obtain ⟨c, k, l, ps, qs, rfl, _⟩ := h
    rfl
  · obtain ⟨c, k, l, ps, qs, rfl, h⟩ := h
    refine ⟨_, pss_cons (ps_setcG rfl (blkG_of (zs := ["_law_j"]) (ys := ["_law_cell_here", "_law_k"]) (fr := [0, 1]) (N0 := ["_law_cell_here", "_law_k", "_law_rows", "_law_draws", "_law_name"]) (sc0 := defScope s_law_deed) (by decide +kernel) rfl rfl rfl) (pi_range1 rfl T.n_range (pa_cons (pe_int) (pa_nil))) (fun _ _ _ _ _ ow nd => pg_name (i := 0) nd rfl (Or.inl (ow _ (by simp))) (Or.inr (ow _ (by simp)))) (gok_name (by decide)) (fun _ _ _ _ _ => pif_nil) (fun _ _ _ _ _ => pe_call (ok_law_mixed T) (hr.mono (by decide)) rfl T.g_law_mixed T.F_law_mixed.kp T.b_law_mixed .nil pass_none (pa_cons (pv 1) (pa_cons (pe_op op_add (pe_op op_mul (pe_int) (pv 2)) (pv 0)) (pa_nil)))) (j := 3) rfl (Or.inl rfl))
      (pss_cons (ps_set (i := 4) sc_law_deed.nd rfl (Or.inl rfl) (pe_ix ix_str (pe_str) (pe_op op_mod (pe_op op_fdiv (pe_ix ix_list (pv 3) (pe_int) (fun _ _ => rfl)) (pe_int)) (pe_int)) (fun _ _ => rfl)))
      (pss_cons (ps_mid (ps_if (PW.pt (pw_and (pt_cmpR (op_neV (hu20_of hr)) (pv 2) (pe_lst (pa_nil)) (nomark _)) (pw_and1 (pt_cmpR op_gt (pe_op op_mod (pe_ix ix_list (pv 3) (pe_int) (fun _ _ => rfl)) (pe_int)) (pe_int) (nomark _))))) (pss_one (ps_set (i := 4) sc_law_deed.nd rfl (Or.inl rfl) (pe_ix ix_tup (pe_ix ix_list (pv 2) (pe_op op_mod (pe_op op_fdiv (pe_ix ix_list (pv 3) (pe_int) (fun _ _ => rfl)) (pe_int)) (pe_callB call_len_seq rfl T.n_len boot_len (pa_cons (pv 2) (pa_nil)))) (fun _ _ => rfl)) (pe_int) (fun _ _ => rfl)))) (pss_nil)))
      (pss_cons ((by (with_reducible refine' ps_mid ?m56); (case m56 => ((with_reducible refine' ps_if ?c23 ?a24 ?b25); (case c23 => exact pt_cmpR op_eq (pe_op op_mod (pe_ix ix_list (pv 3) (pe_int) (fun _ _ => rfl)) (pe_int)) (pe_int) (nomark _)); (case a24 => ((with_reducible refine' pss_one ?c26); (case c26 => ((with_reducible refine' ps_set (i := 4) ?n27 ?i28 ?x29 ?e30 ?s31 ?f32); (case n27 => exact sc_law_deed.nd); (case i28 => rfl); (case x29 => exact Or.inl rfl); (case f32 => exact Or.inl rfl); (case e30 => ((with_reducible refine' pe_ix (r := rIxL K) ?r33 ?l34 ?j35 ?p36); (case r33 => exact ix_list); (case p36 => exact fun _ _ => rfl); (case j35 => exact pe_op op_mod (pe_ix ix_list (pv 3) (pe_int) (fun _ _ => rfl)) (pe_int)); (case l34 => ((with_reducible refine' pe_lst ?p37); (case p37 => ((with_reducible refine' pa_cons ?e38 ?q39 rfl); (case e38 => exact pe_str); (case q39 => ((with_reducible refine' pa_cons ?e40 ?q41 rfl); (case e40 => exact pe_str); (case q41 => ((with_reducible refine' pa_cons ?e42 ?q43 rfl); (case e42 => exact pe_str); (case q43 => ((with_reducible refine' pa_cons ?e44 ?q45 rfl); (case e44 => exact pe_non); (case q45 => ((with_reducible refine' pa_cons ?e46 ?q47 rfl); (case e46 => exact pe_int); (case q47 => ((with_reducible refine' pa_cons ?e48 ?q49 rfl); (case e48 => exact pe_bl); (case q49 => ((with_reducible refine' pa_cons ?e50 ?q51 rfl); (case e50 => exact pe_lst (pa_cons (pe_str) (pa_nil))); (case q51 => ((with_reducible refine' pa_cons ?e52 ?q53 rfl); (case e52 => exact pe_tup (pa_cons (pe_str) (pa_nil))); (case q53 => ((with_reducible refine' pa_cons ?e54 ?q55 rfl); (case e54 => exact pe_str); (case q55 => ((exact pa_nil))))))))))))))))))))))))); (case s31 => rfl))))); (case b25 => ((exact pss_nil)))))))
      (pss_one ((by (with_reducible refine' ps_ret ?e11); (case e11 => ((with_reducible refine' pe_lst ?p12); (case p12 => ((with_reducible refine' pa_cons ?e13 ?q14 rfl); (case e13 => exact pe_ix ix_list (pe_lst (pa_consP (pe_str) (pa_consP (pe_str) (pa_consP (pe_str) (pa_consP (pe_str) (pa_consP (pe_str) (pa_consP (pe_str) (pa_nil) rfl) rfl) rfl) rfl) rfl) rfl)) (pe_op op_mod (pe_ix ix_list (pv 3) (pe_int) (fun _ _ => rfl)) (pe_int)) (fun _ _ => rfl)); (case q14 => ((with_reducible refine' pa_cons ?e15 ?q16 rfl); (case e15 => exact pv 4); (case q16 => ((with_reducible refine' pa_cons ?e17 ?q18 rfl); (case e17 => exact pe_ix ix_list (pv 3) (pe_int) (fun _ _ => rfl)); (case q18 => ((with_reducible refine' pa_cons ?e19 ?q20 rfl); (case e19 => exact pe_ix ix_list (pv 3) (pe_int) (fun _ _ => rfl)); (case q20 => ((with_reducible refine' pa_cons ?e21 ?q22 rfl); (case e21 => exact pe_ix ix_list (pv 3) (pe_int) (fun _ _ => rfl)); (case q22 => ((exact pa_nil))))))))))))))))))))), ?_⟩
    obtain ⟨hl, pts, nms, q⟩ := h
    have ql := pts.len
    refine ⟨6, rfl, by decide, by decide, fun l1 hl1 => ?_⟩
    refine comp_range (m := 6) (by decide) hl1 (fun i y _ => ∃ z : Int, y = .int z ∧ 0 ≤ z) (fun _ _ _ _ _ z => z) (fun i H2 hi s2 N hN => ?_) (fun ys H1 s1 el1 ly f => ?_)
    · exact ⟨_, rfl, _, rfl, _, _, rfl, rfl, .inl ⟨by decide, by decide⟩, _, rfl, _, _, rfl, rfl, c, _, rfl, fun m m0 m1 => hN _ _ (Same.refl _) ⟨m, rfl, m0⟩⟩
    obtain ⟨y0, y1, y2, y3, y4, y5, rfl⟩ : ∃ y0 y1 y2 y3 y4 y5, ys = [y0, y1, y2, y3, y4, y5] := by
      match ys, ly with
      | [a, b, c, d, e, f], _ => exact ⟨a, b, c, d, e, f, rfl⟩
    obtain ⟨d0, rfl, p0⟩ := f 0 y0 rfl
    obtain ⟨d1, rfl, p1⟩ := f 1 y1 rfl
    obtain ⟨d2, rfl, p2⟩ := f 2 y2 rfl
    obtain ⟨d3, rfl, p3⟩ := f 3 y3 rfl
    obtain ⟨d4, rfl, p4⟩ := f 4 y4 rfl
    obtain ⟨d5, rfl, p5⟩ := f 5 y5 rfl
    have hl' := s1 _ _ hl
    have pts1 := pts.keep (Same.tups s1)
    refine ⟨_, rfl, l1, _, 0, _, rfl, rfl, SqL.of el1, rfl, _, _, rfl, rfl, ⟨by decide, by decide⟩, _, _, rfl, rfl, (by show (0 : Int) < 26; decide), abc, _, _, rfl, rfl, (by decide +kernel), abc_ltr (mod_in _ (by decide)).1 (mod_in _ (by decide)).2, ?_⟩
    refine ⟨fun σ H' => ∃ (n : V) (d : DV), σ = [some (.int c), some (.int k), some (.ref l), some (.ref l1), some n] ∧ Same H1 H' ∧ Thg H' n d ∧ ∀ q, n = .ref q → H q = none, ?_, ?_⟩
    · refine ⟨_, rfl, (by show 0 ≤ sizeLine; exact Nat.zero_le _), fun e0 he0 => ?_⟩
      have s2 : Same H1 (upd H1 e0 (.lst [])) := same_upd (Same.refl _) he0
      have g2 : upd H1 e0 (.lst []) e0 = some (.lst []) := upd_same
      revert s2 g2
      generalize upd H1 e0 (.lst []) = H2
      intro s2 g2
      refine ⟨2, 1, .lst (ps.map ptD), .lst [], (pts1.keep (Same.tups s2)).dv (s2 _ _ hl'), rows_dv g2, by decide, by decide, _, rfl, ?_⟩
      have stay : ∃ (n : V) (d : DV), [some (V.int c), some (.int k), some (.ref l), some (.ref l1), some (.str (ltr (d0 / 8 % 26)))] = [some (V.int c), some (.int k), some (.ref l), some (.ref l1), some n] ∧ Same H1 H2 ∧ Thg H2 n d ∧ ∀ q, n = .ref q → H q = none := ⟨_, _, rfl, s2, .str _ (ltr_len _), fun q z => (nomatch z)⟩
      refine ite2 (fun cc => ?_) (fun cc => stay)
      rw [ne_nil] at cc
      have pos : 0 < ps.length := by
        cases ps with
        | nil => cases cc
        | cons _ _ => exact Nat.succ_pos _
      refine ⟨_, rfl, l1, _, 0, _, rfl, rfl, SqL.of (s2 _ _ el1), rfl, _, _, rfl, rfl, (by show (0 : Int) < 8; decide), _, _, rfl, rfl, _, rfl, ite2 (fun c2 => ?_) (fun c2 => stay)⟩
      have hl2 := s2 _ _ hl'
      refine ⟨_, rfl, _, rfl, l1, _, 0, _, rfl, rfl, SqL.of (s2 _ _ el1), rfl, _, _, rfl, rfl, ⟨by decide, by decide⟩, _, rfl, l, _, rfl, .inl (SqL.of hl2), _, _, rfl, rfl, (by show (0 : Int) < ((qs.map V.ref).length : Nat); rw [List.length_map]; omega), ?_⟩
      have ab := mod_in (d0 / 8) (show (0 : Int) < ((qs.map V.ref).length : Nat) by rw [List.length_map]; omega)
      obtain ⟨kk, ek⟩ : ∃ kk : Nat, d0 / 8 % ((qs.map V.ref).length : Nat) = (kk : Int) := ⟨_, (Int.toNat_of_nonneg ab.1).symm⟩
      dsimp only
      rw [ek] at ab ⊢
      rw [List.length_map] at ab
      have klt : kk < qs.length := by omega
      obtain ⟨pk, hpk, epk⟩ := (pts1.keep (Same.tups s2)).get (List.getElem?_eq_getElem klt)
      refine ⟨l, _, _, .ref qs[kk], rfl, rfl, SqL.of hl2, atI_nat (by rw [List.getElem?_map, List.getElem?_eq_getElem klt]; rfl), qs[kk], _, 0, _, rfl, rfl, SqT.of epk, rfl, ?_⟩
      exact ⟨_, _, rfl, s2, .str _ (nm_len (nms pk (List.mem_of_getElem? hpk))), fun q z => (nomatch z)⟩
    · rintro σ H2 ⟨n, d, rfl, s2, tn, fn⟩
      refine ⟨fun σ H' => ∃ (n : V) (d : DV), σ = [some (.int c), some (.int k), some (.ref l), some (.ref l1), some n] ∧ Same H1 H' ∧ Thg H' n d ∧ ∀ q, n = .ref q → H q = none, ?_, ?_⟩
      · refine ⟨_, rfl, l1, _, 0, _, rfl, rfl, SqL.of (s2 _ _ el1), rfl, _, _, rfl, rfl, (by show (0 : Int) < 24; decide), rfl, _, rfl, ite2 (fun cc => ?_) (fun cc => ⟨n, d, rfl, s2, tn, fn⟩)⟩
        refine ⟨(by show 1 ≤ sizeLine; decide), fun q3 hq3 => ?_⟩
        have s3 : Same H2 (upd H2 q3 (.lst [.str "a"])) := same_upd (Same.refl _) hq3
        have g3 : upd H2 q3 (.lst [.str "a"]) q3 = some (.lst [.str "a"]) := upd_same
        revert s3 g3
        generalize upd H2 q3 (.lst [.str "a"]) = H3
        intro s3 g3
        refine ⟨(by show 1 ≤ sizeLine; decide), fun q4 hq4 => ?_⟩
        have s4 : Same H3 (upd H3 q4 (.tup [.str "a"])) := same_upd (Same.refl _) hq4
        have g4 : upd H3 q4 (.tup [.str "a"]) q4 = some (.tup [.str "a"]) := upd_same
        revert s4 g4
        generalize upd H3 q4 (.tup [.str "a"]) = H4
        intro s4 g4
        refine ⟨(by show 9 ≤ sizeLine; decide), fun q5 hq5 => ?_⟩
        have s5 : Same H4 (upd H4 q5 (.lst [.str "", .str "A", .str "aa", .non, .int 3, .bl true, .ref q3, .ref q4, .str "0"])) := same_upd (Same.refl _) hq5
        have g5 : upd H4 q5 (.lst [.str "", .str "A", .str "aa", .non, .int 3, .bl true, .ref q3, .ref q4, .str "0"]) q5 = some (.lst [.str "", .str "A", .str "aa", .non, .int 3, .bl true, .ref q3, .ref q4, .str "0"]) := upd_same
        revert s5 g5
        generalize upd H4 q5 (.lst [.str "", .str "A", .str "aa", .non, .int 3, .bl true, .ref q3, .ref q4, .str "0"]) = H5
        intro s5 g5
        have mb := mod_in d1 (show (0 : Int) < 9 by decide)
        obtain ⟨v, dv, ev, tv, mv⟩ := thg_at (H := H5) (xs := [.str "", .str "A", .str "aa", .non, .int 3, .bl true, .ref q3, .ref q4, .str "0"]) (fun v hv => by
          simp only [List.mem_cons, List.not_mem_nil, or_false] at hv
          rcases hv with rfl | rfl | rfl | rfl | rfl | rfl | rfl | rfl | rfl
          · exact ⟨_, .str _ (by decide +kernel)⟩
          · exact ⟨_, .str _ (by decide +kernel)⟩
          · exact ⟨_, .str _ (by decide +kernel)⟩
          · exact ⟨_, .non⟩
          · exact ⟨_, .int _⟩
          · exact ⟨_, .bl _⟩
          · exact ⟨_, .lst (s5 _ _ (s4 _ _ g3)) rfl⟩
          · exact ⟨_, .tup (s5 _ _ g4) rfl⟩
          · exact ⟨_, .str _ (by decide +kernel)⟩) mb.1 mb.2
        have s25 := s3.trans (s4.trans s5)
        refine ⟨_, rfl, l1, _, 1, _, rfl, rfl, SqL.of ((s2.trans s25) _ _ el1), rfl, _, _, rfl, rfl, (by show (0 : Int) < 9; decide), q5, _, _, v, rfl, rfl, SqL.of g5, ev, ?_⟩
        refine ⟨v, dv, rfl, s2.trans s25, tv, fun q z => ?_⟩
        subst z
        simp only [List.mem_cons, List.not_mem_nil, or_false, reduceCtorEq, V.ref.injEq, false_or] at mv
        rcases mv with rfl | rfl
        · exact (s1.trans s2).free hq3
        · exact (s1.trans (s2.trans s3)).free hq4
      · rintro σ H3 ⟨n, d, rfl, s3, tn, fn⟩
        obtain ⟨wy, ewy, hwy⟩ := way4 d2
        refine ⟨(by show 6 ≤ sizeLine; decide), fun q6 hq6 => ?_⟩
        have s6 : Same H3 (upd H3 q6 (.lst [.str "move", .str "move", .str "move", .str "take", .str "place", .str "put"])) := same_upd (Same.refl _) hq6
        have g6 : upd H3 q6 (.lst [.str "move", .str "move", .str "move", .str "take", .str "place", .str "put"]) q6 = some (.lst [.str "move", .str "move", .str "move", .str "take", .str "place", .str "put"]) := upd_same
        revert s6 g6
        generalize upd H3 q6 (.lst [.str "move", .str "move", .str "move", .str "take", .str "place", .str "put"]) = H6
        intro s6 g6
        have el6 := s6 _ _ (s3 _ _ el1)
        refine ⟨_, rfl, l1, _, 2, _, rfl, rfl, SqL.of el6, rfl, _, _, rfl, rfl, (by show (0 : Int) < 6; decide), q6, _, _, .str wy, rfl, rfl, SqL.of g6, ewy, _, rfl, _, rfl, l1, _, 3, _, rfl, rfl, SqL.of el6, rfl, _, rfl, l1, _, 4, _, rfl, rfl, SqL.of el6, rfl, _, rfl, l1, _, 5, _, rfl, rfl, SqL.of el6, rfl, (by show 5 ≤ sizeLine; decide), fun dl hdl => ?_⟩
        have s7 : Same H6 (upd H6 dl (.lst [.str wy, n, .int d3, .int d4, .int d5])) := same_upd (Same.refl _) hdl
        have g7 : upd H6 dl (.lst [.str wy, n, .int d3, .int d4, .int d5]) dl = some (.lst [.str wy, n, .int d3, .int d4, .int d5]) := upd_same
        revert s7 g7
        generalize upd H6 dl (.lst [.str wy, n, .int d3, .int d4, .int d5]) = H7
        intro s7 g7
        exact q H7 dl wy n d d3 d4 d5 (s1.trans (s3.trans (s6.trans s7))) ((s1.trans (s3.trans s6)).free hdl) fn g7 (tn.same (s6.trans s7)) hwy
theorem ok_law_cell_of (T : Txt w K mg t) : FnOk true P w K mg base (CXo P w) 1 t.f_law_cell_of t.d_law_cell_of ["_law_deed_here", "_law_size", "_law_rows"] (spCellOf) := by
  refine T.F_law_cell_of.okn (k := 0) sc_law_cell_of (fun vs H Q E h => ?_) (fun cdv A outer s H vs Q E hr h => ?_)
  · obtain ⟨dl, sz, l, wy, n, e2, e3, e4, w, ht, ps, qs, rfl, _⟩ := h
    rfl
  · obtain ⟨dl, sz, l, wy, n, e2, e3, e4, w, ht, ps, qs, rfl, h⟩ := h
    refine ⟨_, pss_cons (ps_set (i := 3) sc_law_cell_of.nd rfl (Or.inl rfl) (pe_op op_add (pe_int) (pe_op op_mod (pe_op op_fdiv (pe_ix ix_list (pv 0) (pe_int) (fun _ _ => rfl)) (pe_int)) (pe_ix ix_tup (pv 1) (pe_int) (fun _ _ => rfl)))))
      (pss_cons (ps_set (i := 4) sc_law_cell_of.nd rfl (Or.inl rfl) (pe_op op_add (pe_int) (pe_op op_mod (pe_op op_fdiv (pe_ix ix_list (pv 0) (pe_int) (fun _ _ => rfl)) (pe_int)) (pe_ix ix_tup (pv 1) (pe_int) (fun _ _ => rfl)))))
      (pss_cons (ps_mid (ps_if (PW.pt (pw_and (pt_cmpR (op_neV (hu20_of hr)) (pv 2) (pe_lst (pa_nil)) (nomark _)) (pw_and1 (pt_cmpR op_eq (pe_op op_mod (pe_ix ix_list (pv 0) (pe_int) (fun _ _ => rfl)) (pe_int)) (pe_int) (nomark _))))) (pss_cons (ps_set (i := 5) sc_law_cell_of.nd rfl (Or.inl rfl) (pe_ix ix_list (pv 2) (pe_op op_mod (pe_op op_fdiv (pe_ix ix_list (pv 0) (pe_int) (fun _ _ => rfl)) (pe_int)) (pe_callB call_len_seq rfl T.n_len boot_len (pa_cons (pv 2) (pa_nil)))) (fun _ _ => rfl)))
      (pss_one (ps_asg (pe_ix ix_list (pe_lst (pa_cons (pe_tup (pa_cons (pe_ix ix_tup (pv 5) (pe_int) (fun _ _ => rfl)) (pa_cons (pv 4) (pa_nil)))) (pa_cons (pe_tup (pa_cons (pv 3) (pa_cons (pe_ix ix_tup (pv 5) (pe_int) (fun _ _ => rfl)) (pa_nil)))) (pa_cons (pe_tup (pa_cons (pe_ix ix_tup (pv 5) (pe_int) (fun _ _ => rfl)) (pa_cons (pe_ix ix_tup (pv 5) (pe_int) (fun _ _ => rfl)) (pa_nil)))) (pa_nil))))) (pe_op op_mod (pe_op op_fdiv (pe_ix ix_list (pv 0) (pe_int) (fun _ _ => rfl)) (pe_int)) (pe_int)) (fun _ _ => rfl)) (pg_tup rfl (pgs_cons (pg_name (i := 3) sc_law_cell_of.nd rfl (Or.inl rfl)) (pgs_cons (pg_name (i := 4) sc_law_cell_of.nd rfl (Or.inl rfl)) (pgs_nil))))))) (pss_nil)))
      (pss_cons ((by (with_reducible refine' ps_mid ?m116); (case m116 => ((with_reducible refine' ps_if ?c87 ?a88 ?b89); (case c87 => exact pt_cmpR op_eq (pe_op op_mod (pe_ix ix_list (pv 0) (pe_int) (fun _ _ => rfl)) (pe_int)) (pe_int) (nomark _)); (case a88 => ((with_reducible refine' pss_one ?c90); (case c90 => ((with_reducible refine' ps_set (i := 3) ?n91 ?i92 ?x93 ?e94 ?s95 ?f96); (case n91 => exact sc_law_cell_of.nd); (case i92 => rfl); (case x93 => exact Or.inl rfl); (case f96 => exact Or.inl rfl); (case e94 => ((with_reducible refine' pe_ix (r := rIxL K) ?r97 ?l98 ?j99 ?p100); (case r97 => exact ix_list); (case p100 => exact fun _ _ => rfl); (case j99 => exact pe_op op_mod (pe_op op_fdiv (pe_ix ix_list (pv 0) (pe_int) (fun _ _ => rfl)) (pe_int)) (pe_int)); (case l98 => ((with_reducible refine' pe_lst ?p101); (case p101 => ((with_reducible refine' pa_cons ?e102 ?q103 rfl); (case e102 => exact pe_int); (case q103 => ((with_reducible refine' pa_cons ?e104 ?q105 rfl); (case e104 => exact pe_op op_add (pe_ix ix_tup (pv 1) (pe_int) (fun _ _ => rfl)) (pe_int)); (case q105 => ((with_reducible refine' pa_cons ?e106 ?q107 rfl); (case e106 => exact pe_op op_sub (pe_int) (pe_ix ix_list (pv 0) (pe_int) (fun _ _ => rfl))); (case q107 => ((with_reducible refine' pa_cons ?e108 ?q109 rfl); (case e108 => exact pe_bl); (case q109 => ((with_reducible refine' pa_cons ?e110 ?q111 rfl); (case e110 => exact pe_non); (case q111 => ((with_reducible refine' pa_cons ?e112 ?q113 rfl); (case e112 => exact pe_str); (case q113 => ((with_reducible refine' pa_cons ?e114 ?q115 rfl); (case e114 => exact pe_lst (pa_cons (pe_int) (pa_nil))); (case q115 => ((exact pa_nil))))))))))))))))))))); (case s95 => rfl))))); (case b89 => ((exact pss_nil)))))))
      (pss_cons ((by (with_reducible refine' ps_mid ?m86); (case m86 => ((with_reducible refine' ps_if ?c57 ?a58 ?b59); (case c57 => exact pt_cmpR op_eq (pe_op op_mod (pe_ix ix_list (pv 0) (pe_int) (fun _ _ => rfl)) (pe_int)) (pe_int) (nomark _)); (case a58 => ((with_reducible refine' pss_one ?c60); (case c60 => ((with_reducible refine' ps_set (i := 4) ?n61 ?i62 ?x63 ?e64 ?s65 ?f66); (case n61 => exact sc_law_cell_of.nd); (case i62 => rfl); (case x63 => exact Or.inl rfl); (case f66 => exact Or.inl rfl); (case e64 => ((with_reducible refine' pe_ix (r := rIxL K) ?r67 ?l68 ?j69 ?p70); (case r67 => exact ix_list); (case p70 => exact fun _ _ => rfl); (case j69 => exact pe_op op_mod (pe_op op_fdiv (pe_ix ix_list (pv 0) (pe_int) (fun _ _ => rfl)) (pe_int)) (pe_int)); (case l68 => ((with_reducible refine' pe_lst ?p71); (case p71 => ((with_reducible refine' pa_cons ?e72 ?q73 rfl); (case e72 => exact pe_int); (case q73 => ((with_reducible refine' pa_cons ?e74 ?q75 rfl); (case e74 => exact pe_op op_add (pe_ix ix_tup (pv 1) (pe_int) (fun _ _ => rfl)) (pe_int)); (case q75 => ((with_reducible refine' pa_cons ?e76 ?q77 rfl); (case e76 => exact pe_op op_add (pe_op op_pow (pe_int) (pe_int)) (pe_ix ix_list (pv 0) (pe_int) (fun _ _ => rfl))); (case q77 => ((with_reducible refine' pa_cons ?e78 ?q79 rfl); (case e78 => exact pe_bl); (case q79 => ((with_reducible refine' pa_cons ?e80 ?q81 rfl); (case e80 => exact pe_non); (case q81 => ((with_reducible refine' pa_cons ?e82 ?q83 rfl); (case e82 => exact pe_str); (case q83 => ((with_reducible refine' pa_cons ?e84 ?q85 rfl); (case e84 => exact pe_tup (pa_cons (pe_int) (pa_nil))); (case q85 => ((exact pa_nil))))))))))))))))))))); (case s65 => rfl))))); (case b59 => ((exact pss_nil)))))))
      (pss_one (ps_ret (pe_tup (pa_cons (pv 3) (pa_cons (pv 4) (pa_nil)))))))))), ?_⟩
    obtain ⟨hd, hsz, w1, h1, hl, pts, q⟩ := h
    have ql := pts.len
    refine ⟨_, rfl, dl, _, 2, _, rfl, rfl, SqL.of hd, rfl, _, _, rfl, rfl, ⟨by decide, by decide⟩, _, rfl, sz, _, 0, _, rfl, rfl, SqT.of hsz, rfl, _, _, rfl, rfl, (by show 0 < w; omega), _, _, rfl, rfl, ?_⟩
    refine ⟨_, rfl, dl, _, 3, _, rfl, rfl, SqL.of hd, rfl, _, _, rfl, rfl, ⟨by decide, by decide⟩, _, rfl, sz, _, 1, _, rfl, rfl, SqT.of hsz, rfl, _, _, rfl, rfl, (by show 0 < ht; omega), _, _, rfl, rfl, ?_⟩
    dsimp only
    obtain ⟨x0, ex0⟩ : ∃ x0, x0 = 1 + e2 / 4 % w := ⟨_, rfl⟩
    obtain ⟨y0, ey0⟩ : ∃ y0, y0 = 1 + e3 / 4 % ht := ⟨_, rfl⟩
    rw [← ex0, ← ey0]
    refine ⟨fun σ H' => ∃ (xi yi : Int) (v5 : Option V), σ = [some (.ref dl), some (.ref sz), some (.ref l), some (.int xi), some (.int yi), v5] ∧ Same H H', ?_, ?_⟩
    · refine ⟨_, rfl, (by show 0 ≤ sizeLine; exact Nat.zero_le _), fun e0 he0 => ?_⟩
      have s2 : Same H (upd H e0 (.lst [])) := same_upd (Same.refl _) he0
      have g2 : upd H e0 (.lst []) e0 = some (.lst []) := upd_same
      revert s2 g2
      generalize upd H e0 (.lst []) = H2
      intro s2 g2
      refine ⟨2, 1, .lst (ps.map ptD), .lst [], (pts.keep (Same.tups s2)).dv (s2 _ _ hl), rows_dv g2, by decide, by decide, _, rfl, ?_⟩
      have stay : ∃ (xi yi : Int) (v5 : Option V), [some (V.ref dl), some (.ref sz), some (.ref l), some (.int x0), some (.int y0), none] = [some (V.ref dl), some (.ref sz), some (.ref l), some (.int xi), some (.int yi), v5] ∧ Same H H2 := ⟨_, _, _, rfl, s2⟩
      refine ite2 (fun cc => ?_) (fun cc => stay)
      rw [ne_nil] at cc
      have pos : 0 < ps.length := by
        cases ps with
        | nil => cases cc
        | cons _ _ => exact Nat.succ_pos _
      have hd2 := s2 _ _ hd
      have hl2 := s2 _ _ hl
      refine ⟨_, rfl, dl, _, 4, _, rfl, rfl, SqL.of hd2, rfl, _, _, rfl, rfl, (by show (0 : Int) < 5; decide), rfl, _, rfl, ite2 (fun c2 => ?_) (fun c2 => stay)⟩
      refine ⟨_, rfl, _, rfl, dl, _, 4, _, rfl, rfl, SqL.of hd2, rfl, _, _, rfl, rfl, ⟨by decide, by decide⟩, _, rfl, l, _, rfl, .inl (SqL.of hl2), _, _, rfl, rfl, (by show (0 : Int) < ((qs.map V.ref).length : Nat); rw [List.length_map]; omega), ?_⟩
      have ab := mod_in (e4 / 5) (show (0 : Int) < ((qs.map V.ref).length : Nat) by rw [List.length_map]; omega)
      obtain ⟨kk, ek⟩ : ∃ kk : Nat, e4 / 5 % ((qs.map V.ref).length : Nat) = (kk : Int) := ⟨_, (Int.toNat_of_nonneg ab.1).symm⟩
      dsimp only
      rw [ek] at ab ⊢
      rw [List.length_map] at ab
      have klt : kk < qs.length := by omega
      obtain ⟨pk, hpk, epk⟩ := (pts.keep (Same.tups s2)).get (List.getElem?_eq_getElem klt)
      refine ⟨l, _, _, .ref qs[kk], rfl, rfl, SqL.of hl2, atI_nat (by rw [List.getElem?_map, List.getElem?_eq_getElem klt]; rfl), ?_⟩
      refine ⟨_, rfl, qs[kk], _, 1, _, rfl, rfl, SqT.of epk, rfl, _, rfl, (by show 2 ≤ sizeLine; decide), fun q3 hq3 => ?_⟩
      have s3 : Same H2 (upd H2 q3 (.tup [.int pk.x, .int y0])) := same_upd (Same.refl _) hq3
      have g3 : upd H2 q3 (.tup [.int pk.x, .int y0]) q3 = some (.tup [.int pk.x, .int y0]) := upd_same
      revert s3 g3
      generalize upd H2 q3 (.tup [.int pk.x, .int y0]) = H3
      intro s3 g3
      refine ⟨_, rfl, _, rfl, qs[kk], _, 2, _, rfl, rfl, SqT.of (s3 _ _ epk), rfl, (by show 2 ≤ sizeLine; decide), fun q4 hq4 => ?_⟩
      have s4 : Same H3 (upd H3 q4 (.tup [.int x0, .int pk.y])) := same_upd (Same.refl _) hq4
      have g4 : upd H3 q4 (.tup [.int x0, .int pk.y]) q4 = some (.tup [.int x0, .int pk.y]) := upd_same
      revert s4 g4
      generalize upd H3 q4 (.tup [.int x0, .int pk.y]) = H4
      intro s4 g4
      refine ⟨_, rfl, qs[kk], _, 1, _, rfl, rfl, SqT.of (s4 _ _ (s3 _ _ epk)), rfl, _, rfl, qs[kk], _, 2, _, rfl, rfl, SqT.of (s4 _ _ (s3 _ _ epk)), rfl, (by show 2 ≤ sizeLine; decide), fun q5 hq5 => ?_⟩
      have s5 : Same H4 (upd H4 q5 (.tup [.int pk.x, .int pk.y])) := same_upd (Same.refl _) hq5
      have g5 : upd H4 q5 (.tup [.int pk.x, .int pk.y]) q5 = some (.tup [.int pk.x, .int pk.y]) := upd_same
      revert s5 g5
      generalize upd H4 q5 (.tup [.int pk.x, .int pk.y]) = H5
      intro s5 g5
      refine ⟨(by show 3 ≤ sizeLine; decide), fun q6 hq6 => ?_⟩
      have s6 : Same H5 (upd H5 q6 (.lst [.ref q3, .ref q4, .ref q5])) := same_upd (Same.refl _) hq6
      have g6 : upd H5 q6 (.lst [.ref q3, .ref q4, .ref q5]) q6 = some (.lst [.ref q3, .ref q4, .ref q5]) := upd_same
      revert s6 g6
      generalize upd H5 q6 (.lst [.ref q3, .ref q4, .ref q5]) = H6
      intro s6 g6
      have s26 := s3.trans (s4.trans (s5.trans s6))
      have at3 : ∃ (qq : Addr) (xi yi : Int), atI [V.ref q3, .ref q4, .ref q5] (e4 / 60 % 3) = some (.ref qq) ∧ H6 qq = some (.tup [.int xi, .int yi]) := by
        obtain ⟨h0, h1⟩ := mod_in (e4 / 60) (show (0 : Int) < 3 by decide)
        have : e4 / 60 % 3 = 0 ∨ e4 / 60 % 3 = 1 ∨ e4 / 60 % 3 = 2 := by omega
        rcases this with e | e | e <;> rw [e]
        · exact ⟨q3, _, _, rfl, s6 _ _ (s5 _ _ (s4 _ _ g3))⟩
        · exact ⟨q4, _, _, rfl, s6 _ _ (s5 _ _ g4)⟩
        · exact ⟨q5, _, _, rfl, s6 _ _ g5⟩
      obtain ⟨qq, xi, yi, eq, hqq⟩ := at3
      refine ⟨_, rfl, dl, _, 4, _, rfl, rfl, SqL.of (s26 _ _ hd2), rfl, _, _, rfl, rfl, ⟨by decide, by decide⟩, _, _, rfl, rfl, (by show (0 : Int) < 3; decide), q6, _, _, .ref qq, rfl, rfl, SqL.of g6, eq, qq, _, rfl, SqT.of hqq, rfl, _, _, rfl, _, _, rfl, rfl, ?_⟩
      exact ⟨xi, yi, _, rfl, s2.trans s26⟩
    · rintro σ H2 ⟨xi, yi, v5, rfl, s2⟩
      have hd2 := s2 _ _ hd
      have hsz2 := s2 _ _ hsz
      refine ⟨fun σ H' => ∃ (x : V) (dx : DV), σ = [some (.ref dl), some (.ref sz), some (.ref l), some x, some (.int yi), v5] ∧ Same H2 H' ∧ Thg H' x dx, ?_, ?_⟩
      · refine ⟨_, rfl, dl, _, 4, _, rfl, rfl, SqL.of hd2, rfl, _, _, rfl, rfl, (by show (0 : Int) < 9; decide), rfl, _, rfl, ite2 (fun cc => ?_) (fun cc => ⟨_, _, rfl, Same.refl _, .int _⟩)⟩
        refine ⟨_, rfl, sz, _, 0, _, rfl, rfl, SqT.of hsz2, rfl, _, _, rfl, rfl, _, rfl, dl, _, 3, _, rfl, rfl, SqL.of hd2, rfl, _, _, rfl, rfl, (by show 1 ≤ sizeLine; decide), fun q3 hq3 => ?_⟩
        have s3 : Same H2 (upd H2 q3 (.lst [.int 1])) := same_upd (Same.refl _) hq3
        have g3 : upd H2 q3 (.lst [.int 1]) q3 = some (.lst [.int 1]) := upd_same
        revert s3 g3
        generalize upd H2 q3 (.lst [.int 1]) = H3
        intro s3 g3
        refine ⟨(by show 7 ≤ sizeLine; decide), fun q4 hq4 => ?_⟩
        dsimp only
        have s4 : Same H3 (upd H3 q4 (.lst [.int 0, .int (w + 1), .int (0 - e3), .bl true, .non, .str "1", .ref q3])) := same_upd (Same.refl _) hq4
        have g4 : upd H3 q4 (.lst [.int 0, .int (w + 1), .int (0 - e3), .bl true, .non, .str "1", .ref q3]) q4 = some (.lst [.int 0, .int (w + 1), .int (0 - e3), .bl true, .non, .str "1", .ref q3]) := upd_same
        revert s4 g4
        generalize upd H3 q4 (.lst [.int 0, .int (w + 1), .int (0 - e3), .bl true, .non, .str "1", .ref q3]) = H4
        intro s4 g4
        have mb := mod_in (e4 / 9) (show (0 : Int) < 7 by decide)
        obtain ⟨v, dv, ev, tv, mv⟩ := thg_at (H := H4) (xs := [.int 0, .int (w + 1), .int (0 - e3), .bl true, .non, .str "1", .ref q3]) (fun v hv => by
          simp only [List.mem_cons, List.not_mem_nil, or_false] at hv
          rcases hv with rfl | rfl | rfl | rfl | rfl | rfl | rfl
          · exact ⟨_, .int _⟩
          · exact ⟨_, .int _⟩
          · exact ⟨_, .int _⟩
          · exact ⟨_, .bl _⟩
          · exact ⟨_, .non⟩
          · exact ⟨_, .str _ (by decide +kernel)⟩
          · exact ⟨_, .lst (s4 _ _ g3) rfl⟩) mb.1 mb.2
        have s24 := s3.trans s4
        refine ⟨_, rfl, dl, _, 4, _, rfl, rfl, SqL.of (s24 _ _ hd2), rfl, _, _, rfl, rfl, ⟨by decide, by decide⟩, _, _, rfl, rfl, (by show (0 : Int) < 7; decide), q4, _, _, v, rfl, rfl, SqL.of g4, ev, ?_⟩
        exact ⟨v, dv, rfl, s24, tv⟩
      · rintro σ H3 ⟨x, dx, rfl, s3, tx⟩
        have hd3 := s3 _ _ hd2
        have hsz3 := s3 _ _ hsz2
        refine ⟨fun σ H' => ∃ (y : V) (dy : DV), σ = [some (.ref dl), some (.ref sz), some (.ref l), some x, some y, v5] ∧ Same H3 H' ∧ Thg H' y dy, ?_, ?_⟩
        · refine ⟨_, rfl, dl, _, 4, _, rfl, rfl, SqL.of hd3, rfl, _, _, rfl, rfl, (by show (0 : Int) < 9; decide), rfl, _, rfl, ite2 (fun cc => ?_) (fun cc => ⟨_, _, rfl, Same.refl _, .int _⟩)⟩
          refine ⟨_, rfl, sz, _, 1, _, rfl, rfl, SqT.of hsz3, rfl, _, _, rfl, rfl, _, _, rfl, rfl, ⟨by decide, by decide, by decide⟩, _, rfl, dl, _, 3, _, rfl, rfl, SqL.of hd3, rfl, _, _, rfl, rfl, (by show 1 ≤ sizeLine; decide), fun q4 hq4 => ?_⟩
          have s4 : Same H3 (upd H3 q4 (.tup [.int 1])) := same_upd (Same.refl _) hq4
          have g4 : upd H3 q4 (.tup [.int 1]) q4 = some (.tup [.int 1]) := upd_same
          revert s4 g4
          generalize upd H3 q4 (.tup [.int 1]) = H4
          intro s4 g4
          refine ⟨(by show 7 ≤ sizeLine; decide), fun q5 hq5 => ?_⟩
          dsimp only
          have s5 : Same H4 (upd H4 q5 (.lst [.int 0, .int (ht + 1), .int (10 ^ (20 : Int).toNat + e3), .bl false, .non, .str "1", .ref q4])) := same_upd (Same.refl _) hq5
          have g5 : upd H4 q5 (.lst [.int 0, .int (ht + 1), .int (10 ^ (20 : Int).toNat + e3), .bl false, .non, .str "1", .ref q4]) q5 = some (.lst [.int 0, .int (ht + 1), .int (10 ^ (20 : Int).toNat + e3), .bl false, .non, .str "1", .ref q4]) := upd_same
          revert s5 g5
          generalize upd H4 q5 (.lst [.int 0, .int (ht + 1), .int (10 ^ (20 : Int).toNat + e3), .bl false, .non, .str "1", .ref q4]) = H5
          intro s5 g5
          have mb := mod_in (e4 / 9) (show (0 : Int) < 7 by decide)
          obtain ⟨v, dv, ev, tv, mv⟩ := thg_at (H := H5) (xs := [.int 0, .int (ht + 1), .int (10 ^ (20 : Int).toNat + e3), .bl false, .non, .str "1", .ref q4]) (fun v hv => by
            simp only [List.mem_cons, List.not_mem_nil, or_false] at hv
            rcases hv with rfl | rfl | rfl | rfl | rfl | rfl | rfl
            · exact ⟨_, .int _⟩
            · exact ⟨_, .int _⟩
            · exact ⟨_, .int _⟩
            · exact ⟨_, .bl _⟩
            · exact ⟨_, .non⟩
            · exact ⟨_, .str _ (by decide +kernel)⟩
            · exact ⟨_, .tup (s5 _ _ g4) rfl⟩) mb.1 mb.2
          have s35 := s4.trans s5
          refine ⟨_, rfl, dl, _, 4, _, rfl, rfl, SqL.of (s35 _ _ hd3), rfl, _, _, rfl, rfl, ⟨by decide, by decide⟩, _, _, rfl, rfl, (by show (0 : Int) < 7; decide), q5, _, _, v, rfl, rfl, SqL.of g5, ev, ?_⟩
          exact ⟨v, dv, rfl, s35, tv⟩
        · rintro σ H4 ⟨y, dy, rfl, s4, ty⟩
          refine ⟨_, rfl, _, rfl, (by show 2 ≤ sizeLine; decide), fun tq htq => ?_⟩
          have s5 : Same H4 (upd H4 tq (.tup [x, y])) := same_upd (Same.refl _) htq
          have g5 : upd H4 tq (.tup [x, y]) tq = some (.tup [x, y]) := upd_same
          revert s5 g5
          generalize upd H4 tq (.tup [x, y]) = H5
          intro s5 g5
          exact q H5 tq x y dx dy (s2.trans (s3.trans (s4.trans s5))) g5 (tx.same (s4.trans s5)) (ty.same s5)
end
end S04
set_option maxRecDepth 100000
set_option maxHeartbeats 4000000
namespace S04
open PySem L2 XL PyProof.Rows
def toldO : Option Er → List V
  | some er => er.told
  | none => []
def out4 (wy : Str) (pw ph : Int) (ps : List Pt) (d dx dy : DV) (n x y : V) : Option Er := if wy = "move" then outMv pw ph ps d dx dy n x y else outCN ps d n
def strD : DV → Str
  | .str s => s
  | _ => ""
def act4 (wy : Str) (ps : List Pt) (d dx dy : DV) : List Pt := if wy = "move" then ps.map (mvP (strD d) (intD dx) (intD dy)) else if wy = "take" then ps.filter (fun p => decide (p.nm ≠ strD d)) else ps
def spDue4 (t : Adr) : Sp := fun vs H Q _ => ∃ (sz l dl : Addr) (w h : Int) (ps : List Pt) (qs : List Addr) (wy : Str) (n x y : V) (d dx dy : DV) (e2 e3 e4 : Int), vs = [.ref sz, .ref l, .ref dl, x, y] ∧ H sz = some (.tup [.int w, .int h]) ∧ H l = some (.lst (qs.map V.ref)) ∧ PtsL H ps qs ∧ ps.length ≤ 12 ∧ (∀ p ∈ ps, isNm p.nm = true) ∧ H dl = some (.lst [.str wy, n, .int e2, .int e3, .int e4]) ∧ Thg H n d ∧ Thg H x dx ∧ Thg H y dy ∧
  ∀ H' m, H m = none → Same H H' → H' m = some (.lst (toldO (out4 wy w h ps d dx dy n x y))) → Q (.ref m) H'
theorem nm_in {ps : List Pt} (nms : ∀ p ∈ ps, isNm p.nm = true) {d : DV} : ((ps.map fun p => DV.str p.nm).any fun z => dEq z d) = hasN ps d := by
  have step : ∀ s : Str, ((ps.map fun p => DV.str p.nm).any fun z => dEq z (.str s)) = ps.any fun p => decide (p.nm = s) := fun s => by
    rw [List.any_map]
    congr 1
  cases d with
  | str s =>
    rw [step]
    change _ = (isNm s && ps.any fun p => decide (p.nm = s))
    cases z : (ps.any fun p => decide (p.nm = s)) with
    | false => rw [Bool.and_false]
    | true =>
      obtain ⟨p, hp, e⟩ := List.any_eq_true.mp z
      rw [← show p.nm = s by simpa using e, nms p hp]
      rfl
  | _ =>
    change _ = false
    rw [List.any_eq_false]
    intro z hz
    obtain ⟨p, _, rfl⟩ := List.mem_map.mp hz
    exact fun e => nomatch e
def spDone4 (t : Adr) : Sp := fun vs H Q _ => ∃ (a dp do_ dl : Addr) (pw ph : Int) (ps : List Pt) (wy : Str) (n x y : V) (d dx dy : DV) (e2 e3 e4 : Int), vs = [.ref a, .ref dl, x, y] ∧ Pic t H a dp do_ pw ph ps ∧ (ps.map (·.nm)).Nodup ∧ H dl = some (.lst [.str wy, n, .int e2, .int e3, .int e4]) ∧ Thg H n d ∧ Thg H x dx ∧ Thg H y dy ∧ (wy = "move" ∨ wy = "take" ∨ wy = "place") ∧
  ∀ (H' : Hp) (tp l : Addr) (rep : V), (∀ b u, b ≠ dp → H b = some u → H' b = some u) → Pic t H' a dp do_ pw ph (if (out4 wy pw ph ps d dx dy n x y).isSome then ps else act4 wy ps d dx dy) → H' tp = some (.tup [rep, .ref l]) → H' l = some (.lst (toldO (out4 wy pw ph ps d dx dy n x y))) →
    ((rep = .non ∧ ((out4 wy pw ph ps d dx dy n x y).isSome = true ∨ wy ≠ "place")) ∨ (out4 wy pw ph ps d dx dy n x y = none ∧ wy = "place" ∧ ∃ pt q, pt ∈ ps ∧ d = .str pt.nm ∧ rep = .ref q ∧ H' q = some (.tup [.int pt.x, .int pt.y]))) → Q (.ref tp) H'
theorem mv_ne : ("take" : Str) ≠ "move" := by decide +kernel
theorem pl_ne : ("place" : Str) ≠ "move" := by decide +kernel
theorem pl_ne2 : ("place" : Str) ≠ "take" := by decide +kernel
section
variable {P : Program} {w : World} {K : PySem.W.Frag} {mg : Str → Option Value} {base : Heap} {t : Adr}
theorem ok_law_due (T : Txt w K mg t) : FnOk true P w K mg base (CXo P w) 2 t.f_law_due t.d_law_due ["_law_size", "_law_rows", "_law_deed_here", "_law_x", "_law_y"] (spDue4 t) := by
  refine T.F_law_due.okn (k := 1) sc_law_due (fun vs H Q E h => ?_) (fun cdv A outer s H vs Q E hr h => ?_)
  · obtain ⟨sz, l, dl, w, ht, ps, qs, wy, n, x, y, d, dx, dy, e2, e3, e4, rfl, _⟩ := h
    rfl
  · obtain ⟨sz, l, dl, w, ht, ps, qs, wy, n, x, y, d, dx, dy, e2, e3, e4, rfl, h⟩ := h
    refine ⟨_, pss_cons (ps_if (pt_cmpR (op_notInV (hu20_of hr)) (pe_ix ix_list (pv 2) (pe_int) (fun _ _ => rfl)) (pe_compG rfl (blkG_of (zs := ["_law_row"]) (ys := []) (fr := []) (N0 := ["_law_size", "_law_rows", "_law_deed_here", "_law_x", "_law_y", "_law_at", "_law_row"]) (sc0 := defScope s_law_due) (by decide +kernel) rfl rfl rfl) (pi_list (pv 1)) (fun _ _ _ _ _ ow nd => pg_name (i := 0) nd rfl (Or.inl (ow _ (by simp))) (Or.inr (ow _ (by simp)))) (gok_name (by decide)) (fun _ _ _ _ _ => pif_nil) (fun _ _ _ _ _ => pe_ix (r := rIxT K) ix_tup (pv 0) (pe_int) (fun _ _ => rfl))) (by rfl)) (pss_one (ps_ret (pe_lst (pa_cons (pe_str) (pa_cons (pe_ix ix_list (pv 2) (pe_int) (fun _ _ => rfl)) (pa_nil)))))) (pss_nil))
      (pss_cons (ps_if (pt_cmpR op_ne (pe_ix ix_list (pv 2) (pe_int) (fun _ _ => rfl)) (pe_str) (nomark _)) (pss_one (ps_ret (pe_lst (pa_nil)))) (pss_nil))
      (pss_cons (ps_if (PW.pt (pw_or (pt_not (pt_val (pe_call (ok_law_is_whole T) (hr.mono (by decide)) rfl T.g_law_is_whole T.F_law_is_whole.kp T.b_law_is_whole .nil pass_none (pa_cons (pv 3) (pa_cons (pe_int) (pa_cons (pe_ix ix_tup (pv 0) (pe_int) (fun _ _ => rfl)) (pa_nil))))))) (pw_or1 (pt_not (pt_val (pe_call (ok_law_is_whole T) (hr.mono (by decide)) rfl T.g_law_is_whole T.F_law_is_whole.kp T.b_law_is_whole .nil pass_none (pa_cons (pv 4) (pa_cons (pe_int) (pa_cons (pe_ix ix_tup (pv 0) (pe_int) (fun _ _ => rfl)) (pa_nil)))))))))) (pss_one (ps_ret (pe_lst (pa_cons (pe_str) (pa_cons (pv 3) (pa_cons (pv 4) (pa_nil))))))) (pss_nil))
      (pss_cons (ps_for PassesOwn.never rfl (pi_list (pe_lst (pa_cons (pe_int) (pa_cons (pe_int) (pa_nil))))) (pg_name (i := 5) sc_law_due.nd rfl (Or.inl rfl)) (pss_one (ps_for PassesOwn.never rfl (pi_list (pv 1)) (pg_name (i := 6) sc_law_due.nd rfl (Or.inl rfl)) (pss_one (ps_if (PW.pt (pw_and (pt_cmpR op_eq (pe_ix ix_tup (pv 6) (pv 5) (fun _ _ => rfl)) (pe_ix ix_list (pe_lst (pa_cons (pe_int) (pa_cons (pv 3) (pa_cons (pv 4) (pa_nil))))) (pv 5) (fun _ _ => rfl)) (nomark _)) (pw_and1 (pt_cmpR op_ne (pe_ix ix_tup (pv 6) (pe_int) (fun _ _ => rfl)) (pe_ix ix_list (pv 2) (pe_int) (fun _ _ => rfl)) (nomark _))))) (pss_one (ps_ret (pe_lst (pa_cons (pe_ix ix_list (pe_lst (pa_cons (pe_str) (pa_cons (pe_str) (pa_nil)))) (pe_op op_sub (pv 5) (pe_int)) (fun _ _ => rfl)) (pa_cons (pe_ix ix_tup (pv 6) (pe_int) (fun _ _ => rfl)) (pa_nil)))))) (pss_nil))))))
      (pss_one (ps_ret (pe_lst (pa_nil))))))), ?_⟩
    obtain ⟨hsz, hl, pts, ple, nms, hd, tn, tx, ty, q⟩ := h
    have ql := pts.len
    refine ⟨_, rfl, dl, _, 1, _, rfl, rfl, SqL.of hd, rfl, _, rfl, l, rfl, ⟨_, SqL.of hl⟩, fun l1 hl1 => ?_⟩
    refine comp_list (SqL.of hl) (by rw [List.length_map]; exact Nat.lt_trans (by omega : qs.length < 13) (by decide)) hl1 (fun i y _ => ∃ p, ps[i]? = some p ∧ y = .str p.nm) (fun _ _ _ _ _ z => z) (fun i z H2 hz s2 N hN => ?_) (fun ys H1 s1 el1 ly f1 => ?_)
    · rw [List.getElem?_map] at hz
      obtain ⟨o, ho, rfl⟩ := Option.map_eq_some_iff.mp hz
      obtain ⟨p, hpp, ep⟩ := (PtsL.keep (Same.tups s2) pts).get ho
      exact ⟨_, rfl, o, _, 0, _, rfl, rfl, SqT.of ep, rfl, hN _ _ (Same.refl _) ⟨p, hpp, rfl⟩⟩
    have ey1 : ys = ps.map fun p => V.str p.nm := by
      refine ys_eq (by rw [ly, List.length_map, ql]) fun i y p hy hp => ?_
      obtain ⟨p', h1, h2⟩ := f1 i y hy
      rw [hp] at h1
      cases h1
      exact h2
    subst ey1
    have dvN : Dv K H1 1 (.ref l1) (.lst (ps.map fun p => DV.str p.nm)) := by
      refine .lst (SqL.of el1) (by rw [List.length_map, List.length_map]) fun j x d h1 h2 => ?_
      rw [List.getElem?_map] at h1 h2
      obtain ⟨p, hp, rfl⟩ := Option.map_eq_some_iff.mp h1
      rw [hp] at h2
      cases h2
      exact .str
    have hd1 := s1 _ _ hd
    refine ⟨1, 1, d, _, (tn.same s1).dv, dvN, by decide, by decide, _, rfl, ?_⟩
    rw [if_pos rfl, nm_in nms]
    cases hn : hasN ps d with
    | false =>
      refine iteT ⟨_, rfl, dl, _, 1, _, rfl, rfl, SqL.of hd1, rfl, (by show 2 ≤ sizeLine; decide), fun m hm => ?_⟩
      refine q _ m (Same.free s1 hm) (same_upd s1 hm) ?_
      have oo : out4 wy w ht ps d dx dy n x y = some (.noPoint n) := by
        unfold out4 outMv outCN
        rw [hn]
        split <;> rfl
      rw [oo]
      exact upd_same
    | true =>
      refine iteF ?_
      refine ⟨_, rfl, dl, _, 0, _, rfl, rfl, SqL.of hd1, rfl, rfl, _, rfl, ?_⟩
      by_cases mv : wy = "move"
      · subst mv
        refine ifN (by rw [decide_eq_true rfl]; rfl) ?_
        have hsz1 := s1 _ _ hsz
        obtain ⟨nm, pt, rfl, isn, hf, hpt, ept⟩ := hasN_of hn
        obtain rfl := tn.str_of
        have om : out4 "move" w ht ps (.str nm) dx dy (.str nm) x y = if wholeD dx 1 w && wholeD dy 1 ht then outCL ps nm (intD dx) (intD dy) else some (.noCell x y) := by
          unfold out4 outMv
          rw [if_pos rfl, hn]
          rfl
        refine ⟨_, rfl, _, rfl, sz, _, 0, _, rfl, rfl, SqT.of hsz1, rfl, x, dx, 1, w, rfl, tx.same s1, _, rfl, ?_⟩
        have bad : ∀ m, H1 m = none → (wholeD dx 1 w && wholeD dy 1 ht) = false → Q (.ref m) (upd H1 m (.lst [.str "cell", x, y])) := fun m hm e => by
          refine q _ m (Same.free s1 hm) (same_upd s1 hm) ?_
          rw [om, e]
          exact upd_same
        cases wx : wholeD dx 1 w with
        | false => exact iteT (iteT ⟨_, rfl, _, rfl, (by show 3 ≤ sizeLine; decide), fun m hm => bad m hm (by rw [wx]; rfl)⟩)
        | true =>
          refine iteF ⟨_, rfl, _, rfl, sz, _, 1, _, rfl, rfl, SqT.of hsz1, rfl, y, dy, 1, ht, rfl, ty.same s1, _, rfl, ?_⟩
          cases wY : wholeD dy 1 ht with
          | false => exact iteT ⟨_, rfl, _, rfl, (by show 3 ≤ sizeLine; decide), fun m hm => bad m hm (by rw [wx, wY]; rfl)⟩
          | true =>
            refine iteF ?_
            obtain ⟨xi, rfl, _, _⟩ := wholeD_of wx
            obtain ⟨yi, rfl, _, _⟩ := wholeD_of wY
            obtain rfl := tx.int_of
            obtain rfl := ty.int_of
            rw [wx, wY] at om
            change out4 _ _ _ _ _ _ _ _ _ _ = outCL ps nm xi yi at om
            refine ⟨(by show 2 ≤ sizeLine; decide), fun la hla => ?_⟩
            have s2 : Same H1 (upd H1 la (.lst [.int 1, .int 2])) := same_upd (Same.refl _) hla
            have g2 : upd H1 la (.lst [.int 1, .int 2]) la = some (.lst [.int 1, .int 2]) := upd_same
            revert s2 g2
            generalize upd H1 la (.lst [.int 1, .int 2]) = H2
            intro s2 g2
            have s02 := s1.trans s2
            refine ⟨la, rfl, ⟨_, SqL.of g2⟩, ?_⟩
            -- one round over the rows
            have colF : ps.find? (fun p => decide (p.nm ≠ nm) && decide (p.x = xi)) = none ∨ ∃ p, ps.find? (fun p => decide (p.nm ≠ nm) && decide (p.x = xi)) = some p := by
              cases ps.find? (fun p => decide (p.nm ≠ nm) && decide (p.x = xi)) with
              | none => exact .inl rfl
              | some p => exact .inr ⟨p, rfl⟩
            refine for_list (xs := [.int 1, .int 2]) (Pv := fun i σ H3 => ∃ (v5 v6 : Option V), σ = [some (.ref sz), some (.ref l), some (.ref dl), some (.int xi), some (.int yi), v5, v6] ∧ Same H2 H3 ∧ (0 < i → ps.find? (fun p => decide (p.nm ≠ nm) && decide (p.x = xi)) = none) ∧ (1 < i → ps.find? (fun p => decide (p.nm ≠ nm) && decide (p.y = yi)) = none)) ⟨_, _, rfl, Same.refl _, fun z => absurd z (Nat.lt_irrefl _), fun z => absurd z (by decide)⟩ (fun _ _ _ _ ⟨_, _, _, z, _⟩ => SqL.of (z _ _ g2)) ?_ ?_
            · rintro i v σ H3 hv ⟨v5, v6, rfl, s3, n1, n2⟩
              have hi : i < 2 := by
                have := (List.getElem?_eq_some_iff.mp hv).1
                simpa using this
              obtain ⟨av, rfl, eav⟩ : ∃ av : Int, v = .int av ∧ av = 1 + (i : Int) := by
                have : i = 0 ∨ i = 1 := by omega
                rcases this with rfl | rfl
                · exact ⟨1, (Option.some.inj hv).symm, rfl⟩
                · exact ⟨2, (Option.some.inj hv).symm, rfl⟩
              have s03 := s02.trans s3
              have hl3 := s03 _ _ hl
              refine ⟨_, rfl, l, rfl, ⟨_, SqL.of hl3⟩, ?_⟩
              refine for_list (xs := qs.map V.ref) (Pv := fun k σ H4 => ∃ (v6 : Option V), σ = [some (.ref sz), some (.ref l), some (.ref dl), some (.int xi), some (.int yi), some (.int av), v6] ∧ Same H3 H4 ∧ ∀ (j : Nat) (p' : Pt), j < k → ps[j]? = some p' → (decide (p'.nm ≠ nm) && decide ((if i = 0 then p'.x else p'.y) = if i = 0 then xi else yi)) = false) ⟨_, rfl, Same.refl _, fun j p' z => absurd z (Nat.not_lt_zero _)⟩ (fun _ _ _ _ ⟨_, _, z, _⟩ => SqL.of (z _ _ hl3)) ?_ ?_
              · rintro k v σ H4 hv ⟨v6, rfl, s4, no⟩
                rw [List.getElem?_map] at hv
                obtain ⟨o, ho, rfl⟩ := Option.map_eq_some_iff.mp hv
                have s04 := s03.trans s4
                obtain ⟨p, hpp, ep⟩ := (pts.keep (Same.tups s04)).get ho
                have ix : atI (V.str p.nm :: ptV p) av = some (.int (if i = 0 then p.x else p.y)) := by
                  have : i = 0 ∨ i = 1 := by omega
                  rcases this with rfl | rfl <;> rw [eav] <;> rfl
                have ix2 : atI [V.int 0, .int xi, .int yi] av = some (.int (if i = 0 then xi else yi)) := by
                  have : i = 0 ∨ i = 1 := by omega
                  rcases this with rfl | rfl <;> rw [eav] <;> rfl
                refine ⟨_, rfl, _, rfl, o, _, _, _, rfl, rfl, SqT.of ep, ix, _, rfl, _, rfl, (by show 3 ≤ sizeLine; decide), fun q5 hq5 => ?_⟩
                have s5 : Same H4 (upd H4 q5 (.lst [.int 0, .int xi, .int yi])) := same_upd (Same.refl _) hq5
                have g5 : upd H4 q5 (.lst [.int 0, .int xi, .int yi]) q5 = some (.lst [.int 0, .int xi, .int yi]) := upd_same
                revert s5 g5
                generalize upd H4 q5 (.lst [.int 0, .int xi, .int yi]) = H5
                intro s5 g5
                refine ⟨_, rfl, q5, _, _, _, rfl, rfl, SqL.of g5, ix2, rfl, _, rfl, ?_⟩
                have go : ∀ H6, Same H5 H6 → (decide (p.nm ≠ nm) && decide ((if i = 0 then p.x else p.y) = if i = 0 then xi else yi)) = false → ∃ (v6 : Option V), [some (V.ref sz), some (.ref l), some (.ref dl), some (.int xi), some (.int yi), some (.int av), some (.ref o)] = [some (V.ref sz), some (.ref l), some (.ref dl), some (.int xi), some (.int yi), some (.int av), v6] ∧ Same H3 H6 ∧ ∀ (j : Nat) (p' : Pt), j < k + 1 → ps[j]? = some p' → (decide (p'.nm ≠ nm) && decide ((if i = 0 then p'.x else p'.y) = if i = 0 then xi else yi)) = false := fun H6 s6 e => by
                  refine ⟨_, rfl, s4.trans (s5.trans s6), fun j p' hj hp' => ?_⟩
                  by_cases z : j = k
                  · subst z
                    rw [hpp] at hp'
                    cases hp'
                    exact e
                  · exact no j p' (by omega) hp'
                refine ite2 (fun c1 => ?_) (fun c1 => ?_)
                · have c1' : (if i = 0 then p.x else p.y) = if i = 0 then xi else yi := V.int.inj (of_decide_eq_true c1)
                  have hd5 := s5 _ _ (s04 _ _ hd)
                  refine ⟨_, rfl, o, _, 0, _, rfl, rfl, SqT.of (s5 _ _ ep), rfl, _, rfl, dl, _, 1, _, rfl, rfl, SqL.of hd5, rfl, rfl, _, rfl, ?_⟩
                  by_cases c2 : p.nm = nm
                  · refine ifN (by rw [c2, decide_eq_true rfl]; rfl) (go H5 (Same.refl _) ?_)
                    rw [show decide (p.nm ≠ nm) = false from decide_eq_false (fun z => z c2)]
                    rfl
                  · refine ifP (by rw [decide_eq_false (fun z => c2 (V.str.inj z))]; rfl) ?_
                    refine ⟨(by show 2 ≤ sizeLine; decide), fun q6 hq6 => ?_⟩
                    have s6 : Same H5 (upd H5 q6 (.lst [.str "column", .str "row"])) := same_upd (Same.refl _) hq6
                    have g6 : upd H5 q6 (.lst [.str "column", .str "row"]) q6 = some (.lst [.str "column", .str "row"]) := upd_same
                    revert s6 g6
                    generalize upd H5 q6 (.lst [.str "column", .str "row"]) = H6
                    intro s6 g6
                    have ix3 : atI [V.str "column", .str "row"] (av - 1) = some (.str (if i = 0 then "column" else "row")) := by
                      have : i = 0 ∨ i = 1 := by omega
                      rcases this with rfl | rfl <;> rw [eav] <;> rfl
                    refine ⟨_, rfl, _, _, rfl, rfl, q6, _, _, _, rfl, rfl, SqL.of g6, ix3, _, rfl, o, _, 0, _, rfl, rfl, SqT.of (s6 _ _ (s5 _ _ ep)), rfl, (by show 2 ≤ sizeLine; decide), fun m hm => ?_⟩
                    refine q _ m (Same.free (s04.trans (s5.trans s6)) hm) (same_upd (s04.trans (s5.trans s6)) hm) ?_
                    have fnd := find_at (f := fun p => decide (p.nm ≠ nm) && decide ((if i = 0 then p.x else p.y) = if i = 0 then xi else yi)) hpp (by rw [decide_eq_true c2, decide_eq_true c1']; rfl) no
                    rw [om]
                    have : i = 0 ∨ i = 1 := by omega
                    rcases this with rfl | rfl
                    · have fnd' : ps.find? (fun p => decide (p.nm ≠ nm) && decide (p.x = xi)) = some p := fnd
                      unfold outCL
                      rw [fnd']
                      exact upd_same
                    · have fnd' : ps.find? (fun p => decide (p.nm ≠ nm) && decide (p.y = yi)) = some p := fnd
                      unfold outCL
                      rw [n1 (by decide), fnd']
                      exact upd_same
                · have c1' : ¬ (if i = 0 then p.x else p.y) = if i = 0 then xi else yi := fun z => c1 (decide_eq_true (by rw [z]))
                  exact iteF (go H5 (Same.refl _) (by rw [decide_eq_false c1', Bool.and_false]))
              · rintro σ H4 ⟨v6, rfl, s4, no⟩
                have no' : ps.find? (fun p => decide (p.nm ≠ nm) && decide ((if i = 0 then p.x else p.y) = if i = 0 then xi else yi)) = none := by
                  rw [List.find?_eq_none]
                  intro p hp
                  obtain ⟨j, hj⟩ := List.getElem?_of_mem hp
                  rw [no j p (by rw [List.length_map, ql]; exact (List.getElem?_eq_some_iff.mp hj).1) hj]
                  decide
                have : i = 0 ∨ i = 1 := by omega
                rcases this with rfl | rfl
                · exact ⟨_, _, rfl, s3.trans s4, fun _ => no', fun z => absurd z (by decide)⟩
                · exact ⟨_, _, rfl, s3.trans s4, fun _ => n1 (by decide), fun _ => no'⟩
            · rintro σ H3 ⟨v5, v6, rfl, s3, n1, n2⟩
              refine ⟨(by show 0 ≤ sizeLine; exact Nat.zero_le _), fun m hm => ?_⟩
              refine q _ m (Same.free (s02.trans s3) hm) (same_upd (s02.trans s3) hm) ?_
              rw [om]
              unfold outCL
              rw [n1 (by decide), n2 (by decide)]
              exact upd_same
      · refine ifP (by rw [decide_eq_false (fun z => mv (V.str.inj z))]; rfl) ⟨(by show 0 ≤ sizeLine; exact Nat.zero_le _), fun m hm => ?_⟩
        refine q _ m (Same.free s1 hm) (same_upd s1 hm) ?_
        unfold out4
        rw [if_neg mv, outCN_yes hn]
        exact upd_same
theorem ok_law_done (T : Txt w K mg t) : FnOk true P w K mg base (CXo P w) 5 t.f_law_done t.d_law_done ["_law_picture", "_law_deed_here", "_law_x", "_law_y"] (spDone4 t) := by
  refine T.F_law_done.okn (k := 4) sc_law_done (fun vs H Q E h => ?_) (fun cdv A outer s H vs Q E hr h => ?_)
  · obtain ⟨a, dp, do_, dl, pw, ph, ps, wy, n, x, y, d, dx, dy, e2, e3, e4, rfl, _⟩ := h
    rfl
  · obtain ⟨a, dp, do_, dl, pw, ph, ps, wy, n, x, y, d, dx, dy, e2, e3, e4, rfl, h⟩ := h
    refine ⟨_, pss_cons (ps_set (i := 4) sc_law_done.nd rfl (Or.inl rfl) (pe_non))
      (pss_cons (ps_set (i := 5) sc_law_done.nd rfl (Or.inl rfl) (pe_lst (pa_nil)))
      (pss_cons (ps_try (E := (fun σ' e C' H' => ∃ (v5 : Option V) (er : Er), σ' = [some (.ref a), some (.ref dl), some x, some y, some .non, v5, none] ∧ out4 wy pw ph ps d dx dy n x y = some er ∧ C' = er.cls t ∧ RaisedE t H H' e er)) rfl T.g_RimError T.mk_RimError sc_law_done.nd (j := 6) rfl rfl rfl rfl (fun _ _ tk => pss_one (ps_if (pt_cmpR op_eq (pe_ix (r := rIxL K) ix_list (pv 1) (pe_int) (fun _ _ => rfl)) (pe_str) (nomark _)) (pss_one (ps_set (i := 4) sc_law_done.nd rfl (Or.inl rfl) (pe_meth (pv 0) T.c_Picture T.m_Picture_move (okT_Picture_move T) (hr.mono (by decide)) T.b_Picture_move .nil tk.pass (pa_cons (pe_ix (r := rIxL K) ix_list (pv 1) (pe_int) (fun _ _ => rfl)) (pa_cons (pv 2) (pa_cons (pv 3) (pa_nil))))))) (pss_one (ps_if (pt_cmpR op_eq (pe_ix (r := rIxL K) ix_list (pv 1) (pe_int) (fun _ _ => rfl)) (pe_str) (nomark _)) (pss_one (ps_set (i := 4) sc_law_done.nd rfl (Or.inl rfl) (pe_meth (pv 0) T.c_Picture T.m_Picture_take (okT_Picture_take T) (hr.mono (by decide)) T.b_Picture_take .nil tk.pass (pa_cons (pe_ix (r := rIxL K) ix_list (pv 1) (pe_int) (fun _ _ => rfl)) (pa_nil))))) (pss_one (ps_set (i := 4) sc_law_done.nd rfl (Or.inl rfl) (pe_meth (pv 0) T.c_Picture T.m_Picture_place_of (okT_Picture_place_of T) (hr.mono (by decide)) T.b_Picture_place_of .nil tk.pass (pa_cons (pe_ix (r := rIxL K) ix_list (pv 1) (pe_int) (fun _ _ => rfl)) (pa_nil))))))))) (fun _ => pss_one (ps_set (i := 5) sc_law_done.nd rfl (Or.inl rfl) (pe_call (ok_law_told T) (Room.mark hr (by decide)) rfl T.g_law_told T.F_law_told.kp T.b_law_told .nil pass_none (pa_cons (pv 6) (pa_nil))))))
      (pss_one (ps_ret (pe_tup (pa_cons (pv 4) (pa_cons (pv 5) (pa_nil)))))))), ?_⟩
    obtain ⟨pic, nd, hd, tn, tx, ty, hwy, q⟩ := h
    obtain ⟨⟨dx0, hp⟩, ⟨kvs, hk, _⟩, _⟩ := id pic
    refine ⟨(by show 0 ≤ sizeLine; exact Nat.zero_le _), fun l0 hl0 => ?_⟩
    have s1 : Same H (upd H l0 (.lst [])) := same_upd (Same.refl _) hl0
    have g1 : upd H l0 (.lst []) l0 = some (.lst []) := upd_same
    revert s1 g1
    generalize upd H l0 (.lst []) = H1
    intro s1 g1
    have pic1 := Pic.same s1 pic
    have hd1 := s1 _ _ hd
    have hk1 := s1 _ _ hk
    have fin : ∀ (H' : Hp) (rep : V), (∀ b u, b ≠ dp → H1 b = some u → H' b = some u) → Pic t H' a dp do_ pw ph (act4 wy ps d dx dy) → out4 wy pw ph ps d dx dy n x y = none → ((rep = .non ∧ wy ≠ "place") ∨ (wy = "place" ∧ ∃ pt q, pt ∈ ps ∧ d = .str pt.nm ∧ rep = .ref q ∧ H' q = some (.tup [.int pt.x, .int pt.y]))) → ∀ tp, H' tp = none → Q (.ref tp) (upd H' tp (.tup [rep, .ref l0])) := fun H' rep k pc e rp tp htp => by
      have st : Same H' (upd H' tp (.tup [rep, .ref l0])) := same_upd (Same.refl _) htp
      refine q _ tp l0 rep (fun b u nb z => st _ _ (k b u nb (s1 _ _ z))) (by rw [e]; exact Pic.same st pc) upd_same (by rw [e]; exact st _ _ (k _ _ (ne_of g1 hk1 (fun z => nomatch z)) g1)) ?_
      rcases rp with ⟨r1, r2⟩ | ⟨r1, pt, qq, h1, h2, h3, h4⟩
      · exact .inl ⟨r1, .inr r2⟩
      · exact .inr ⟨e, r1, pt, qq, h1, h2, h3, st _ _ h4⟩
    refine ⟨?_, ?_⟩
    · refine ⟨_, rfl, dl, _, 0, _, rfl, rfl, SqL.of hd1, rfl, rfl, _, rfl, ?_⟩
      by_cases mv : wy = "move"
      · subst mv
        refine ifP (decide_eq_true rfl) ⟨_, rfl, a, dx0, _, rfl, s1 _ _ hp, lk_no (by decide +kernel), _, rfl, dl, _, 1, _, rfl, rfl, SqL.of hd1, rfl, _, rfl, _, rfl, a, dp, do_, pw, ph, ps, n, x, y, d, dx, dy, rfl, pic1, nd, tn.same s1, tx.same s1, ty.same s1, fun er her e H' z => ⟨_, er, rfl, her, rfl, RaisedE.pre s1 z⟩, ?_⟩
        rintro out nm i j H' rfl rfl rfl k pc
        exact ⟨_, rfl, _, rfl, (by show 2 ≤ sizeLine; decide), fun tp htp => fin H' .non k pc out (.inl ⟨rfl, fun z => pl_ne z.symm⟩) tp htp⟩
      · refine ifN (decide_eq_false (fun z => mv (V.str.inj z))) ⟨_, rfl, dl, _, 0, _, rfl, rfl, SqL.of hd1, rfl, rfl, _, rfl, ?_⟩
        have o4 : out4 wy pw ph ps d dx dy n x y = outCN ps d n := if_neg mv
        by_cases tk : wy = "take"
        · subst tk
          refine ifP (decide_eq_true rfl) ⟨_, rfl, a, dx0, _, rfl, s1 _ _ hp, lk_no (by decide +kernel), _, rfl, dl, _, 1, _, rfl, rfl, SqL.of hd1, rfl, a, dp, do_, pw, ph, ps, n, d, rfl, pic1, tn.same s1, fun er her e H' z => ⟨_, er, rfl, o4.trans her, rfl, RaisedE.pre s1 z⟩, ?_⟩
          rintro out nm H' rfl k pc
          exact ⟨_, rfl, _, rfl, (by show 2 ≤ sizeLine; decide), fun tp htp => fin H' .non k pc (o4.trans out) (.inl ⟨rfl, fun z => pl_ne2 z.symm⟩) tp htp⟩
        · have pl : wy = "place" := by
            rcases hwy with z | z | z
            · exact absurd z mv
            · exact absurd z tk
            · exact z
          refine ifN (decide_eq_false (fun z => tk (V.str.inj z))) ⟨_, rfl, a, dx0, _, rfl, s1 _ _ hp, lk_no (by decide +kernel), _, rfl, dl, _, 1, _, rfl, rfl, SqL.of hd1, rfl, a, dp, do_, pw, ph, ps, n, d, rfl, pic1, tn.same s1, fun er her e H' z => ⟨_, er, rfl, o4.trans her, rfl, RaisedE.pre s1 z⟩, ?_⟩
          intro out pt H' qq hpt ed _ s' hq
          refine ⟨_, rfl, _, rfl, (by show 2 ≤ sizeLine; decide), fun tp htp => fin H' (.ref qq) (fun b u _ e => s' _ _ e) ?_ (o4.trans out) (.inr ⟨pl, pt, qq, hpt, ed, rfl, hq⟩) tp htp⟩
          unfold act4
          rw [if_neg mv, if_neg tk]
          exact Pic.same s' pic1
    · rintro σ' e C' H' ⟨v5, er, rfl, her, rfl, ra⟩
      refine ⟨?_, ?_, ?_⟩
      · cases er
        · exact T.mk_NoPoint
        · exact T.mk_NoCell
        · exact T.mk_SameColumn
        · exact T.mk_SameRow
      · cases er
        · exact T.mro_NoPoint
        · exact T.mro_NoCell
        · exact T.mro_SameColumn
        · exact T.mro_SameRow
      · refine ⟨_, rfl, e, er, rfl, ra.2, fun H2 l s2 hl => ?_⟩
        have s02 := ra.1.trans s2
        refine ⟨_, rfl, _, rfl, (by show 2 ≤ sizeLine; decide), fun tp htp => ?_⟩
        have st : Same H2 (upd H2 tp (.tup [.non, .ref l])) := same_upd (Same.refl _) htp
        exact q _ tp l .non (fun b u _ z => st _ _ (s02 _ _ z)) (by rw [her]; exact Pic.same (s02.trans st) pic) upd_same (by rw [her]; exact st _ _ hl) (.inl ⟨rfl, .inl (by rw [her]; rfl)⟩)
end
end S04
set_option maxRecDepth 100000
set_option maxHeartbeats 4000000
namespace S04
open PySem L2 XL PyProof.Rows
structure R4 (t : Adr) (H : Hp) (a dp do_ l : Addr) (w h : Int) (ps : List Pt) : Prop where
  pic : Pic t H a dp do_ w h ps
  dt : H do_ = some (.dT [])
  pok : PtsOk w h ps
  rl : ∃ qs : List Addr, H l = some (.lst (qs.map V.ref)) ∧ PtsL H ps qs
theorem R4.same {t : Adr} {H H' : Hp} {a dp do_ l : Addr} {w h : Int} {ps : List Pt} (s : Same H H') (r : R4 t H a dp do_ l w h ps) : R4 t H' a dp do_ l w h ps := ⟨Pic.same s r.pic, s _ _ r.dt, r.pok, let ⟨qs, e, p⟩ := r.rl; ⟨qs, s _ _ e, p.keep (Same.tups s)⟩⟩
theorem PtsL.rm {H : Hp} {ps : List Pt} {qs : List Addr} (h : PtsL H ps qs) (k : Nat) : PtsL H (ps.eraseIdx k) (qs.eraseIdx k) := by
  induction h generalizing k with
  | nil => exact .nil
  | cons h r ih => cases k with
    | zero => exact r
    | succ k => exact .cons h (ih k)
theorem PtsL.set {H : Hp} {ps : List Pt} {qs : List Addr} (h : PtsL H ps qs) (k : Nat) {p : Pt} {q : Addr} (e : H q = some (.tup (.str p.nm :: ptV p))) : PtsL H (ps.set k p) (qs.set k q) := by
  induction h generalizing k with
  | nil => exact .nil
  | cons h r ih => cases k with
    | zero => exact .cons e r
    | succ k => exact .cons h (ih k)
theorem map_rm {α β : Type} (f : α → β) : ∀ (l : List α) (k : Nat), (l.map f).eraseIdx k = (l.eraseIdx k).map f
  | [], _ => rfl
  | _ :: _, 0 => rfl
  | a :: l, k + 1 => by
    show f a :: (l.map f).eraseIdx k = f a :: (l.eraseIdx k).map f
    rw [map_rm f l k]
theorem map_st {α β : Type} (f : α → β) : ∀ (l : List α) (k : Nat) (a : α), (l.map f).set k (f a) = (l.set k a).map f
  | [], _, _ => rfl
  | _ :: _, 0, _ => rfl
  | b :: l, k + 1, a => by
    show f b :: (l.map f).set k (f a) = f b :: (l.set k a).map f
    rw [map_st f l k a]
theorem ptD_nm {p q : Pt} (h : dEq (ptD p) (ptD q) = true) : p.nm = q.nm := by
  have e := dEq_eq (ptD_pl p) (ptD_pl q) h
  unfold ptD at e
  simp only [DV.tup.injEq, List.cons.injEq, DV.str.injEq] at e
  exact e.1
theorem first_pt {ps : List Pt} (nd : (ps.map (·.nm)).Nodup) {k : Nat} {pt : Pt} (e : ps[k]? = some pt) : FirstAt (ps.map ptD) (ptD pt) k := by
  refine ⟨⟨ptD pt, by rw [List.getElem?_map, e]; rfl, dEq_refl _⟩, fun i d hi hd => ?_⟩
  rw [List.getElem?_map] at hd
  obtain ⟨p, hp, rfl⟩ := Option.map_eq_some_iff.mp hd
  cases z : dEq (ptD p) (ptD pt) with
  | false => rfl
  | true =>
    have en := ptD_nm z
    have il := (List.getElem?_eq_some_iff.mp hp).1
    have kl := (List.getElem?_eq_some_iff.mp e).1
    have := (List.getElem_inj (h₀ := by rw [List.length_map]; exact il) (h₁ := by rw [List.length_map]; exact kl) nd).mp (by
      rw [List.getElem_map, List.getElem_map]
      rw [(List.getElem?_eq_some_iff.mp hp).2, (List.getElem?_eq_some_iff.mp e).2]
      exact en)
    omega
theorem rm_pt {ps : List Pt} (nd : (ps.map (·.nm)).Nodup) {k : Nat} {pt : Pt} (e : ps[k]? = some pt) : ps.eraseIdx k = ps.filter fun p => decide (p.nm ≠ pt.nm) := by
  rw [drop_one nd e, List.eraseIdx_eq_take_drop_succ]
theorem mv_set {ps : List Pt} (nd : (ps.map (·.nm)).Nodup) {k : Nat} {pt : Pt} {x y : Int} (e : ps[k]? = some pt) : ps.map (mvP pt.nm x y) = ps.set k { pt with x := x, y := y } := by
  induction ps generalizing k with
  | nil => rfl
  | cons a ps ih =>
    rw [List.map_cons, List.nodup_cons] at nd
    cases k with
    | zero =>
      simp at e
      subst e
      rw [List.map_cons, show mvP a.nm x y a = { a with x := x, y := y } from if_pos rfl]
      show _ :: _ = _ :: ps
      congr 1
      rw [List.map_congr_left (g := id), List.map_id]
      intro p hp
      exact if_neg fun z => nd.1 (List.mem_map.mpr ⟨p, hp, z⟩)
    | succ k =>
      have e' : ps[k]? = some pt := by simpa using e
      have ne : ¬ a.nm = pt.nm := fun z => nd.1 (z ▸ List.mem_map.mpr ⟨pt, List.mem_of_getElem? e', rfl⟩)
      rw [List.map_cons, show mvP pt.nm x y a = a from if_neg ne, ih nd.2 e']
      rfl
theorem mvP_nm {nm : Str} {x y : Int} (p : Pt) : (mvP nm x y p).nm = p.nm := by
  unfold mvP
  split <;> rfl
theorem mv_ok {w h : Int} {ps : List Pt} (o : PtsOk w h ps) {nm : Str} {x y : Int} (x1 : 1 ≤ x) (x2 : x ≤ w) (y1 : 1 ≤ y) (y2 : y ≤ h) (no : ∀ p ∈ ps, p.nm ≠ nm → p.x ≠ x ∧ p.y ≠ y) : PtsOk w h (ps.map (mvP nm x y)) := by
  have pwn : ps.Pairwise fun p q => p.nm ≠ q.nm := by have := o.nn; rw [List.nodup_iff_pairwise_ne, List.pairwise_map] at this; exact this
  have pwx : ps.Pairwise fun p q => p.x ≠ q.x := by have := o.nx; rw [List.nodup_iff_pairwise_ne, List.pairwise_map] at this; exact this
  have pwy : ps.Pairwise fun p q => p.y ≠ q.y := by have := o.ny; rw [List.nodup_iff_pairwise_ne, List.pairwise_map] at this; exact this
  refine ⟨fun p hp => ?_, ?_, ?_, ?_, by rw [List.length_map]; exact o.le⟩
  · obtain ⟨p', hp', rfl⟩ := List.mem_map.mp hp
    have k := o.ok p' hp'
    unfold mvP
    split
    · exact ⟨k.nm, x1, x2, y1, y2, k.sd, k.l1, k.l2, k.l3⟩
    · exact k
  · rw [List.map_map, show ((fun p : Pt => p.nm) ∘ mvP nm x y) = fun p => p.nm from funext mvP_nm]
    exact o.nn
  · rw [List.map_map, List.nodup_iff_pairwise_ne, List.pairwise_map]
    refine (pwn.and pwx).imp_of_mem fun {p q} hp hq ⟨n1, n2⟩ => ?_
    show (mvP nm x y p).x ≠ (mvP nm x y q).x
    unfold mvP
    by_cases c : p.nm = nm
    · rw [if_pos c, if_neg (fun z => n1 (c.trans z.symm))]
      exact fun z => (no q hq (fun y => n1 (c.trans y.symm))).1 z.symm
    · rw [if_neg c]
      by_cases c2 : q.nm = nm
      · rw [if_pos c2]
        exact (no p hp c).1
      · rw [if_neg c2]
        exact n2
  · rw [List.map_map, List.nodup_iff_pairwise_ne, List.pairwise_map]
    refine (pwn.and pwy).imp_of_mem fun {p q} hp hq ⟨n1, n2⟩ => ?_
    show (mvP nm x y p).y ≠ (mvP nm x y q).y
    unfold mvP
    by_cases c : p.nm = nm
    · rw [if_pos c, if_neg (fun z => n1 (c.trans z.symm))]
      exact fun z => (no q hq (fun y => n1 (c.trans y.symm))).2 z.symm
    · rw [if_neg c]
      by_cases c2 : q.nm = nm
      · rw [if_pos c2]
        exact (no p hp c).2
      · rw [if_neg c2]
        exact n2
theorem nm_eq {s : Str} {d : DV} : dEq (.str s) d = match d with | .str z => decide (s = z) | _ => false := by
  cases d <;> rfl
def isN (d : DV) (p : Pt) : Bool := match d with | .str z => decide (p.nm = z) | _ => false
theorem nd_key {α : Type} (f : Pt → α) {ps : List Pt} (nd : (ps.map f).Nodup) {p q : Pt} (hp : p ∈ ps) (hq : q ∈ ps) (e : f p = f q) : p.nm = q.nm := by
  induction ps with
  | nil => exact (nomatch hp)
  | cons a ps ih =>
    rw [List.map_cons, List.nodup_cons] at nd
    rcases List.mem_cons.mp hp with z | z <;> rcases List.mem_cons.mp hq with z2 | z2
    · rw [z, z2]
    · exact absurd (List.mem_map.mpr ⟨q, z2, by rw [← e, z]⟩) nd.1
    · exact absurd (List.mem_map.mpr ⟨p, z, by rw [e, z2]⟩) nd.1
    · exact ih nd.2 z z2
def spAgain (t : Adr) : Sp := fun vs H Q _ => ∃ (a dp do_ l : Addr) (w h : Int) (ps : List Pt) (n : V) (d : DV), vs = [.ref a, .ref l, n] ∧ R4 t H a dp do_ l w h ps ∧ Thg H n d ∧ ∀ (H' : Hp) (ps' : List Pt), (∀ b u, b ≠ dp → b ≠ l → H b = some u → H' b = some u) → R4 t H' a dp do_ l w h ps' → Q (.bl true) H'
theorem filt_some {ps : List Pt} (o : ∀ p ∈ ps, isNm p.nm = true) {d : DV} {p : Pt} (h : p ∈ ps.filter (isN d)) : p ∈ ps ∧ d = .str p.nm ∧ hasN ps d = true := by
  obtain ⟨h1, h2⟩ := List.mem_filter.mp h
  cases d with
  | str s =>
    have e : p.nm = s := by simpa [isN] using h2
    refine ⟨h1, by rw [e], ?_⟩
    change (isNm s && ps.any fun p => decide (p.nm = s)) = true
    rw [← e, o p h1, List.any_eq_true.mpr ⟨p, h1, decide_eq_true rfl⟩]
    rfl
  | _ => cases h2
section
variable {P : Program} {w : World} {K : PySem.W.Frag} {mg : Str → Option Value} {base : Heap} {t : Adr}
theorem ok_law_again (T : Txt w K mg t) : FnOk true P w K mg base (CXo P w) 5 t.f_law_again t.d_law_again ["_law_picture", "_law_rows", "_law_name"] (spAgain t) := by
  refine T.F_law_again.okn (k := 4) sc_law_again (fun vs H Q E h => ?_) (fun cdv A outer s H vs Q E hr h => ?_)
  · obtain ⟨a, dp, do_, l, w, ht, ps, n, d, rfl, _⟩ := h
    rfl
  · obtain ⟨a, dp, do_, l, w, ht, ps, n, d, rfl, h⟩ := h
    refine ⟨_, pss_cons (ps_setcG rfl (blkG_of (zs := ["_law_row"]) (ys := ["_law_name"]) (fr := [2]) (N0 := ["_law_picture", "_law_rows", "_law_name", "_law_old", "_law_row"]) (sc0 := defScope s_law_again) (by decide +kernel) rfl rfl rfl) (pi_list (pv 1)) (fun _ _ _ _ _ ow nd => pg_name (i := 0) nd rfl (Or.inl (ow _ (by simp))) (Or.inr (ow _ (by simp)))) (gok_name (by decide)) (fun _ _ _ _ _ => pif_one (pt_cmpR (r := rEqV K) (op_eqV (hu20_of hr)) (pe_ix (r := rIxT K) ix_tup (pv 0) (pe_int) (fun _ _ => rfl)) (pv 1) (nomark _))) (fun _ _ _ _ _ => pv 0) (j := 3) rfl (Or.inl rfl))
      (pss_cons (ps_if (pt_cmpR (op_eqV (hu20_of hr)) (pv 3) (pe_lst (pa_nil)) (nomark _)) (pss_one (ps_ret (pe_bl))) (pss_nil))
      (pss_cons (ps_set (i := 4) sc_law_again.nd rfl (Or.inl rfl) (pe_ix ix_list (pv 3) (pe_int) (fun _ _ => rfl)))
      (pss_cons (ps_expr (pe_meth (pv 0) T.c_Picture T.m_Picture_take (okT_Picture_take T) (hr.mono (by decide)) T.b_Picture_take .nil pass_none (pa_cons (pv 2) (pa_nil))))
      (pss_cons (ps_if (pt_cmpR (op_neV (hu20_of hr)) (pe_meth0 (pv 0) T.c_Picture T.m_Picture_points (ok_Picture_points T) (hr.mono (by decide)) T.b_Picture_points .nil pass_none) (pe_compG rfl (blkG_of (zs := ["_law_one"]) (ys := ["_law_name"]) (fr := [2]) (N0 := ["_law_picture", "_law_rows", "_law_name", "_law_old", "_law_row"]) (sc0 := defScope s_law_again) (by decide +kernel) rfl rfl rfl) (pi_list (pv 1)) (fun _ _ _ _ _ ow nd => pg_name (i := 0) nd rfl (Or.inl (ow _ (by simp))) (Or.inr (ow _ (by simp)))) (gok_name (by decide)) (fun _ _ _ _ _ => pif_one (pt_cmpR (r := rNeV K) (op_neV (hu20_of hr)) (pe_ix (r := rIxT K) ix_tup (pv 0) (pe_int) (fun _ _ => rfl)) (pv 1) (nomark _))) (fun _ _ _ _ _ => pv 0)) (nomark _)) (pss_one (ps_ret (pe_bl))) (pss_nil))
      (pss_cons (ps_expr (pe_meth (pv 0) T.c_Picture T.m_Picture_put (ok_Picture_put T) (hr.mono (by decide)) T.b_Picture_put .nil pass_none (pa_consP (pe_ix ix_tup (pv 4) (pe_int) (fun _ _ => rfl)) (pa_consP (pe_ix ix_tup (pv 4) (pe_int) (fun _ _ => rfl)) (pa_consP (pe_ix ix_tup (pv 4) (pe_int) (fun _ _ => rfl)) (pa_consP (pe_ix ix_tup (pv 4) (pe_int) (fun _ _ => rfl)) (pa_consP (pe_ix ix_tup (pv 4) (pe_int) (fun _ _ => rfl)) (pa_consP (pe_ix ix_tup (pv 4) (pe_int) (fun _ _ => rfl)) (pa_nil) rfl) rfl) rfl) rfl) rfl) rfl)))
      (pss_cons (ps_expr (pe_bm PySem.F.plainAttrs_list PySem.F.slot_list_remove PySem.F.type_list_remove (mt_removeV (hu20_of hr)) (pv 1) (pa_cons (pv 4) (pa_nil))))
      (pss_cons (ps_expr (pe_bm PySem.F.plainAttrs_list PySem.F.slot_list_append PySem.F.type_list_append mt_append (pv 1) (pa_cons (pv 4) (pa_nil))))
      (pss_one (ps_ret (pe_bl)))))))))), ?_⟩
    obtain ⟨r, tn, q⟩ := h
    have pok := r.pok
    have nms : ∀ p ∈ ps, isNm p.nm = true := fun p hp => (pok.ok p hp).nm
    obtain ⟨qs, hl, pts⟩ := r.rl
    have ql := pts.len
    have ple := pok.le
    obtain ⟨⟨dx0, hp⟩, ⟨kvs, hk, _⟩, _⟩ := id r.pic
    have small : (qs.map V.ref).length < sizeLine := by rw [List.length_map]; exact Nat.lt_trans (by omega : qs.length < 13) (by decide)
    refine ⟨_, rfl, l, rfl, ⟨_, SqL.of hl⟩, fun l1 hl1 => ?_⟩
    refine comp_listF (SqL.of hl) small hl1 (fun i => ((ps[i]?).map (isN d)).getD false) (fun i y H => ∃ p q, ps[i]? = some p ∧ y = .ref q ∧ H q = some (.tup (.str p.nm :: ptV p))) (fun i y H H' tp ⟨p, q, e1, e2, e3⟩ => ⟨p, q, e1, e2, tp _ _ e3⟩) (fun i z H2 hz s2 N M hN hM => ?_) (fun ys H1 s1 el1 ly f1 => ?_)
    · rw [List.getElem?_map] at hz
      obtain ⟨o, ho, rfl⟩ := Option.map_eq_some_iff.mp hz
      obtain ⟨p, hpp, ep⟩ := (pts.keep (Same.tups s2)).get ho
      refine ⟨_, rfl, o, _, 0, _, rfl, rfl, SqT.of ep, rfl, _, rfl, 1, 1, .str p.nm, d, .str, (tn.same s2).dv, by decide, by decide, _, rfl, ite2 (fun c => ?_) (fun c => ?_)⟩
      · rw [nm_eq] at c
        exact ⟨_, rfl, hN _ _ (Same.refl _) (by rw [hpp]; exact c) ⟨p, o, hpp, rfl, ep⟩⟩
      · rw [nm_eq] at c
        exact hM _ (Same.refl _) (by rw [hpp]; exact Bool.eq_false_iff.mpr c)
    have fi := ix_filt (isN d) (as := ps) (p := fun i => ((ps[i]?).map (isN d)).getD false) (fun i p hp => by rw [hp]; rfl)
    rw [List.length_map, ql] at ly f1
    obtain ⟨os, eo, ptO⟩ := PtsL.pick (H := H1) (ps := ps.filter (isN d)) (ys := ys) (by rw [ly, fi.1]) (fun j y p hy hp => by
      have hj : j < ((List.range ps.length).filter fun i => ((ps[i]?).map (isN d)).getD false).length := by
        rw [← ly]
        exact (List.getElem?_eq_some_iff.mp hy).1
      obtain ⟨p', q', h1, h2, h3⟩ := f1 j y _ hy (List.getElem?_eq_getElem hj)
      rw [fi.2 j _ (List.getElem?_eq_getElem hj), hp] at h1
      cases h1
      exact ⟨q', h2, h3⟩)
    subst eo
    refine ⟨_, rfl, (by show 0 ≤ sizeLine; exact Nat.zero_le _), fun e0 he0 => ?_⟩
    have s2 : Same H1 (upd H1 e0 (.lst [])) := same_upd (Same.refl _) he0
    have g2 : upd H1 e0 (.lst []) e0 = some (.lst []) := upd_same
    revert s2 g2
    generalize upd H1 e0 (.lst []) = H2
    intro s2 g2
    have s02 := s1.trans s2
    refine ⟨2, 1, .lst ((ps.filter (isN d)).map ptD), .lst [], (ptO.keep (Same.tups s2)).dv (s2 _ _ el1), rows_dv g2, by decide, by decide, _, rfl, ?_⟩
    cases ef : ps.filter (isN d) with
    | nil => exact ifP rfl (q _ ps (fun b u _ _ e => s02 _ _ e) (r.same s02))
    | cons pt rest =>
      refine ifN rfl ?_
      rw [ef] at ptO
      obtain ⟨hpt, ed, hn⟩ := filt_some nms (show pt ∈ ps.filter (isN d) by rw [ef]; exact List.mem_cons_self)
      subst ed
      obtain rfl := tn.str_of
      cases ptO with
      | @cons _ o _ os ho ptR =>
        have ho2 := s2 _ _ ho
        refine ⟨_, rfl, l1, _, 0, .ref o, rfl, rfl, SqL.of (s2 _ _ el1), (show atI ((o :: os).map V.ref) ((0 : Nat) : Int) = some (.ref o) from atI_nat rfl), ?_⟩
        have r2 := r.same s02
        refine ⟨_, rfl, a, dx0, _, rfl, s02 _ _ hp, lk_no (by decide +kernel), _, rfl, a, dp, do_, w, ht, ps, _, _, rfl, r2.pic, tn.same s02, (fun er her => by rw [outCN_yes hn] at her; cases her), ?_⟩
        rintro _ nm H3 enm k3 pc3
        cases enm
        have hk2 := s02 _ _ hk
        have t23 : Tups H2 H3 := fun b xs e => k3 _ _ (ne_of e hk2 (fun z => nomatch z)) e
        obtain ⟨dx3, hp3⟩ := pc3.ins
        refine ⟨_, rfl, a, dx3, _, rfl, hp3, lk_no (by decide +kernel), a, dp, do_, w, ht, _, rfl, pc3, fun H4 l4 qs4 s4 hl4 pt4 => ?_⟩
        have hl2 := s02 _ _ hl
        have hl3 := k3 _ _ (ne_of hl2 hk2 (fun z => nomatch z)) hl2
        have pts4 := ((pts.keep (Same.tups s02)).keep t23).keep (Same.tups s4)
        refine ⟨_, rfl, l, rfl, ⟨_, SqL.of (s4 _ _ hl3)⟩, fun l5 hl5 => ?_⟩
        refine comp_listF (SqL.of (s4 _ _ hl3)) small hl5 (fun i => ((ps[i]?).map fun p => decide (p.nm ≠ pt.nm)).getD false) (fun i y H => ∃ p q, ps[i]? = some p ∧ y = .ref q ∧ H q = some (.tup (.str p.nm :: ptV p))) (fun i y H H' tp ⟨p, q, e1, e2, e3⟩ => ⟨p, q, e1, e2, tp _ _ e3⟩) (fun i z H5 hz s5 N M hN hM => ?_) (fun ys H5 s5 el5 ly5 f5 => ?_)
        · rw [List.getElem?_map] at hz
          obtain ⟨o, ho, rfl⟩ := Option.map_eq_some_iff.mp hz
          obtain ⟨p, hpp, ep⟩ := (pts4.keep (Same.tups s5)).get ho
          refine ⟨_, rfl, o, _, 0, _, rfl, rfl, SqT.of ep, rfl, _, rfl, 1, 1, .str p.nm, .str pt.nm, .str, .str, by decide, by decide, _, rfl, ite2 (fun c => ?_) (fun c => ?_)⟩
          · rw [nm_eq] at c
            exact ⟨_, rfl, hN _ _ (Same.refl _) (by rw [hpp]; simpa using c) ⟨p, o, hpp, rfl, ep⟩⟩
          · rw [nm_eq] at c
            exact hM _ (Same.refl _) (by rw [hpp]; simpa using c)
        have fi5 := ix_filt (fun p : Pt => decide (p.nm ≠ pt.nm)) (as := ps) (p := fun i => ((ps[i]?).map fun p => decide (p.nm ≠ pt.nm)).getD false) (fun i p hp => by rw [hp]; rfl)
        rw [List.length_map, ql] at ly5 f5
        obtain ⟨os5, eo5, ptO5⟩ := PtsL.pick (H := H5) (ps := ps.filter fun p => decide (p.nm ≠ pt.nm)) (ys := ys) (by rw [ly5, fi5.1]) (fun j y p hy hp => by
          have hj : j < ((List.range ps.length).filter fun i => ((ps[i]?).map fun p => decide (p.nm ≠ pt.nm)).getD false).length := by
            rw [← ly5]
            exact (List.getElem?_eq_some_iff.mp hy).1
          obtain ⟨p', q', h1, h2, h3⟩ := f5 j y _ hy (List.getElem?_eq_getElem hj)
          rw [fi5.2 j _ (List.getElem?_eq_getElem hj), hp] at h1
          cases h1
          exact ⟨q', h2, h3⟩)
        subst eo5
        refine ⟨2, 2, .lst ((ps.filter fun p => decide (p.nm ≠ pt.nm)).map ptD), .lst ((ps.filter fun p => decide (p.nm ≠ pt.nm)).map ptD), (pt4.keep (Same.tups s5)).dv (s5 _ _ hl4), ptO5.dv el5, by decide, by decide, _, rfl, ifN (by rw [dEq_refl]; rfl) ?_⟩
        have s35 := s4.trans s5
        have pc5 := Pic.same s35 pc3
        obtain ⟨dx5, hp5⟩ := pc5.ins
        have ho5 := s35 _ _ (t23 _ _ ho2)
        have okp := pok.ok pt hpt
        have pokF := pok.filt fun p => decide (p.nm ≠ pt.nm)
        obtain ⟨i0, hi0⟩ := List.getElem?_of_mem hpt
        have unl : ∀ p ∈ ps.filter (fun p => decide (p.nm ≠ pt.nm)), p.nm ≠ pt.nm ∧ p.x ≠ pt.x ∧ p.y ≠ pt.y := fun p hp => by
          obtain ⟨m1, m2⟩ := List.mem_filter.mp hp
          have m3 : p.nm ≠ pt.nm := by simpa using m2
          refine ⟨m3, fun z => ?_, fun z => ?_⟩
          · exact m3 (nd_key (·.x) pok.nx m1 hpt z)
          · exact m3 (nd_key (·.y) pok.ny m1 hpt z)
        have lenF : (ps.filter fun p => decide (p.nm ≠ pt.nm)).length < 12 := by
          rw [← rm_pt pok.nn hi0]
          have := List.length_eraseIdx_of_lt (List.getElem?_eq_some_iff.mp hi0).1
          have := (List.getElem?_eq_some_iff.mp hi0).1
          omega
        refine ⟨_, rfl, a, dx5, _, rfl, hp5, lk_no (by decide +kernel), _, rfl, o, _, 0, _, rfl, rfl, SqT.of ho5, rfl, _, rfl, o, _, 1, _, rfl, rfl, SqT.of ho5, rfl, _, rfl, o, _, 2, _, rfl, rfl, SqT.of ho5, rfl, _, rfl, o, _, 3, _, rfl, rfl, SqT.of ho5, rfl, _, rfl, o, _, 4, _, rfl, rfl, SqT.of ho5, rfl, _, rfl, o, _, 5, _, rfl, rfl, SqT.of ho5, rfl, ?_⟩
        refine ⟨a, dp, do_, w, ht, _, pt.nm, pt.x, pt.y, pt.sd, pt.lo, pt.hi, .int _, rfl, pc5, .inr rfl, okp.nm, okp.x1, okp.x2, okp.y1, okp.y2, okp.sd, okp.l1, okp.l2, okp.l3, unl, lenF, fun H6 k6 pc6 => ?_⟩
        obtain ⟨kv5, hk5, _⟩ := id pc5.pl
        have t56 : Tups H5 H6 := fun b xs e => k6 _ _ (ne_of e hk5 (fun z => nomatch z)) e
        have hl5' := s35 _ _ hl3
        have hl6 := k6 _ _ (ne_of hl5' hk5 (fun z => nomatch z)) hl5'
        have pts6 := (pts4.keep (Same.tups s5)).keep t56
        have ho6 := t56 _ _ ho5
        refine ⟨_, rfl, .inl ⟨rfl, _, SqL.of hl6⟩, _, rfl, l, _, _, 1, 2, ptD pt, ps.map ptD, i0, rfl, rfl, hl6, dv_pt ho6, pts6.dv hl6, by decide, by decide, first_pt pok.nn hi0, ?_⟩
        have b7 : ∀ c u, c ≠ l → H6 c = some u → upd H6 l (.lst ((qs.map V.ref).eraseIdx i0)) c = some u := fun c u nc e => by
          rw [upd_ne nc]
          exact e
        have g7 : upd H6 l (.lst ((qs.map V.ref).eraseIdx i0)) l = some (.lst ((qs.eraseIdx i0).map V.ref)) := by rw [upd_same, map_rm]
        revert b7 g7
        generalize upd H6 l (.lst ((qs.map V.ref).eraseIdx i0)) = H7
        intro b7 g7
        refine ⟨_, rfl, .inl ⟨rfl, _, SqL.of g7⟩, _, rfl, l, _, _, rfl, rfl, g7, ?_, ?_⟩
        · rw [List.length_map]
          exact Nat.lt_of_le_of_lt (List.length_eraseIdx_le _ _) (by rw [List.length_map] at small; exact small)
        have b8 : ∀ c u, c ≠ l → H6 c = some u → upd H7 l (.lst ((qs.eraseIdx i0).map V.ref ++ [.ref o])) c = some u := fun c u nc e => by
          rw [upd_ne nc]
          exact b7 _ _ nc e
        have t68 : Tups H6 (upd H7 l (.lst ((qs.eraseIdx i0).map V.ref ++ [.ref o]))) := fun c xs e => b8 _ _ (ne_of e hl6 (fun z => nomatch z)) e
        have dt6 : H6 do_ = some (.dT []) := by
          have d2 := s02 _ _ r.dt
          have d3 := k3 _ _ (ne_of d2 hk2 (fun z => nomatch z)) d2
          have d5 := s35 _ _ d3
          exact k6 _ _ (ne_of d5 hk5 (fun z => nomatch z)) d5
        refine q _ (ps.filter (fun p => decide (p.nm ≠ pt.nm)) ++ [pt]) (fun b u n1 n2 e => b8 _ _ n2 (k6 _ _ n1 (s35 _ _ (k3 _ _ n1 (s02 _ _ e))))) ⟨⟨let ⟨d, e⟩ := pc6.ins; ⟨d, b8 _ _ (ne_of e hl6 (fun z => nomatch z)) e⟩, let ⟨k, e, q⟩ := pc6.pl; ⟨k, b8 _ _ (ne_of e hl6 (fun z => nomatch z)) e, q.keep t68⟩, pc6.w1, pc6.w2, pc6.h1, pc6.h2, pc6.len⟩, b8 _ _ (ne_of dt6 hl6 (fun z => nomatch z)) dt6, PtsOk.snoc pokF okp (fun p hp => (unl p hp).1) ?_ ?_ lenF, ⟨qs.eraseIdx i0 ++ [o], by rw [upd_same, List.map_append]; rfl, ?_⟩⟩
        · intro z
          obtain ⟨p, hp, e⟩ := List.mem_map.mp z
          exact (unl p hp).2.1 e
        · intro z
          obtain ⟨p, hp, e⟩ := List.mem_map.mp z
          exact (unl p hp).2.2 e
        · rw [← rm_pt pok.nn hi0]
          exact PtsL.snoc ((pts6.rm i0).keep t68) (t68 _ _ ho6)
end
end S04
set_option maxRecDepth 100000
set_option maxHeartbeats 4000000
namespace S04
open PySem L2 XL PyProof.Rows
theorem dv_list {K : PySem.W.Frag} {H : Hp} : ∀ {vs : List V}, (∀ v ∈ vs, ∃ d, Dv K H 1 v d) → ∃ ds : List DV, ds.length = vs.length ∧ ∀ l, H l = some (.lst vs) → Dv K H 2 (.ref l) (.lst ds) := by
  intro vs all
  have : ∃ ds : List DV, ds.length = vs.length ∧ ∀ (j : Nat) (x : V) (d : DV), vs[j]? = some x → ds[j]? = some d → Dv K H 1 x d := by
    induction vs with
    | nil => exact ⟨[], rfl, fun j x d h => by simp at h⟩
    | cons v vs ih =>
      obtain ⟨ds, e, h⟩ := ih fun x hx => all x (List.mem_cons_of_mem _ hx)
      obtain ⟨d, hd⟩ := all v List.mem_cons_self
      refine ⟨d :: ds, by simp [e], fun j x y h1 h2 => ?_⟩
      cases j with
      | zero =>
        simp at h1 h2
        subst h1 h2
        exact hd
      | succ j => exact h j x y (by simpa using h1) (by simpa using h2)
  obtain ⟨ds, e, h⟩ := this
  exact ⟨ds, e, fun l hl => .lst (SqL.of hl) e.symm h⟩
theorem told_dv {K : PySem.W.Frag} {H : Hp} {n x y : V} {d dx dy : DV} {wy : Str} {w h : Int} {ps : List Pt} (tn : Thg H n d) (tx : Thg H x dx) (ty : Thg H y dy) : ∀ v ∈ toldO (out4 wy w h ps d dx dy n x y), ∃ d, Dv K H 1 v d := by
  have str : ∀ s : Str, ∃ d, Dv K H 1 (.str s) d := fun s => ⟨_, .str⟩
  have en : ∃ d, Dv K H 1 n d := ⟨_, tn.dv⟩
  have ex : ∃ d, Dv K H 1 x d := ⟨_, tx.dv⟩
  have ey : ∃ d, Dv K H 1 y d := ⟨_, ty.dv⟩
  have two : ∀ (out : Option Er), (out = none ∨ out = some (.noPoint n) ∨ out = some (.noCell x y) ∨ (∃ s, out = some (.sameColumn (.str s))) ∨ ∃ s, out = some (.sameRow (.str s))) → ∀ v ∈ toldO out, ∃ d, Dv K H 1 v d := by
    rintro out (rfl | rfl | rfl | ⟨s, rfl⟩ | ⟨s, rfl⟩) v hv
    · simp [toldO] at hv
    all_goals
      simp only [toldO, Er.told, List.mem_cons, List.not_mem_nil, or_false] at hv
    · rcases hv with rfl | rfl <;> first | exact str _ | exact en
    · rcases hv with rfl | rfl | rfl <;> first | exact str _ | exact ex | exact ey
    · rcases hv with rfl | rfl <;> exact str _
    · rcases hv with rfl | rfl <;> exact str _
  have cl : ∀ (s : Str) (i j : Int), outCL ps s i j = none ∨ outCL ps s i j = some (.noPoint n) ∨ outCL ps s i j = some (.noCell x y) ∨ (∃ s', outCL ps s i j = some (.sameColumn (.str s'))) ∨ ∃ s', outCL ps s i j = some (.sameRow (.str s')) := fun s i j => by
    unfold outCL
    cases ps.find? (fun p => decide (p.nm ≠ s) && decide (p.x = i)) with
    | some p => exact .inr (.inr (.inr (.inl ⟨p.nm, rfl⟩)))
    | none =>
      dsimp only
      cases ps.find? (fun p => decide (p.nm ≠ s) && decide (p.y = j)) with
      | some p => exact .inr (.inr (.inr (.inr ⟨p.nm, rfl⟩)))
      | none => exact .inl rfl
  refine two _ ?_
  unfold out4 outMv outCN
  split
  · cases hasN ps d with
    | false => exact .inr (.inl rfl)
    | true =>
      cases (wholeD dx 1 w && wholeD dy 1 h) with
      | false => exact .inr (.inr (.inl rfl))
      | true =>
        cases d with
        | str s => exact cl s _ _
        | _ => exact .inl rfl
  · cases hasN ps d with
    | false => exact .inr (.inl rfl)
    | true => exact .inl rfl
theorem told_ne {out : Option Er} (h : out ≠ none) : toldO out ≠ [] := by
  cases out with
  | none => exact absurd rfl h
  | some er => cases er <;> exact fun z => nomatch z
theorem out4_none {wy : Str} {w h : Int} {ps : List Pt} {d dx dy : DV} {n x y : V} (o : out4 wy w h ps d dx dy n x y = none) : hasN ps d = true ∧ (wy = "move" → ∃ nm i j, d = .str nm ∧ dx = .int i ∧ dy = .int j ∧ 1 ≤ i ∧ i ≤ w ∧ 1 ≤ j ∧ j ≤ h ∧ outCL ps nm i j = none) := by
  unfold out4 at o
  by_cases mv : wy = "move"
  · rw [if_pos mv] at o
    unfold outMv at o
    cases hn : hasN ps d with
    | false => rw [hn] at o; cases o
    | true =>
      refine ⟨rfl, fun _ => ?_⟩
      rw [hn, if_pos rfl] at o
      cases wc : (wholeD dx 1 w && wholeD dy 1 h) with
      | false => rw [wc] at o; cases o
      | true =>
        rw [wc, if_pos rfl] at o
        obtain ⟨wx, wy⟩ := Bool.and_eq_true_iff.mp wc
        obtain ⟨i, rfl, i1, i2⟩ := wholeD_of wx
        obtain ⟨j, rfl, j1, j2⟩ := wholeD_of wy
        obtain ⟨nm, pt, rfl, _⟩ := hasN_of hn
        exact ⟨nm, i, j, rfl, rfl, rfl, i1, i2, j1, j2, o⟩
  · rw [if_neg mv] at o
    cases hn : hasN ps d with
    | false => rw [outCN_no hn] at o; cases o
    | true => exact ⟨rfl, fun z => absurd z mv⟩
theorem out4_empty {wy : Str} {w h : Int} {d dx dy : DV} {n x y : V} : out4 wy w h [] d dx dy n x y = some (.noPoint n) := by
  have hn : hasN [] d = false := by
    cases d with
    | str s => change (isNm s && false) = false; exact Bool.and_false _
    | _ => rfl
  unfold out4 outMv outCN
  rw [hn]
  split <;> rfl
def spStep4 (t : Adr) : Sp := fun vs H Q _ => ∃ (a dp do_ l a' dp' do' sz dl : Addr) (w h : Int) (ps : List Pt) (wy : Str) (n : V) (d : DV) (e2 e3 e4 : Int), vs = [.ref a, .ref a', .ref sz, .ref l, .ref dl] ∧ R4 t H a dp do_ l w h ps ∧ Pic t H a' dp' do' w h [] ∧ dp ≠ dp' ∧ H sz = some (.tup [.int w, .int h]) ∧ H dl = some (.lst [.str wy, n, .int e2, .int e3, .int e4]) ∧ Thg H n d ∧ (wy = "move" ∨ wy = "take" ∨ wy = "place" ∨ wy = "put") ∧ dl ≠ l ∧ (∀ q xs, H q = some (.lst xs) → n = .ref q → q ≠ l) ∧
  ∀ (H' : Hp) (ps' : List Pt), (∀ b u, b ≠ dp → b ≠ dp' → b ≠ l → H b = some u → H' b = some u) → R4 t H' a dp do_ l w h ps' → Pic t H' a' dp' do' w h [] → Q (.bl true) H'
theorem ix_one {ps : List Pt} (nd : (ps.map (·.nm)).Nodup) {i k : Nat} {p q : Pt} (hp : ps[i]? = some p) (hq : ps[k]? = some q) (e : p.nm = q.nm) : i = k := by
  have il := (List.getElem?_eq_some_iff.mp hp).1
  have kl := (List.getElem?_eq_some_iff.mp hq).1
  exact (List.getElem_inj (h₀ := by rw [List.length_map]; exact il) (h₁ := by rw [List.length_map]; exact kl) nd).mp (by
    rw [List.getElem_map, List.getElem_map]
    rw [(List.getElem?_eq_some_iff.mp hp).2, (List.getElem?_eq_some_iff.mp hq).2]
    exact e)
theorem ixN_nat {n k : Nat} (h : k < n) : ixN n (k : Int) = some k := by
  unfold ixN
  simp
  omega
theorem seqIx_nat {n k : Nat} (h : k < n) : seqIndex? (k : Int) n = some k := by
  unfold seqIndex?
  simp
  omega
section
variable {P : Program} {w : World} {K : PySem.W.Frag} {mg : Str → Option Value} {base : Heap} {t : Adr}
theorem ok_law_step (T : Txt w K mg t) : FnOk true P w K mg base (CXo P w) 6 t.f_law_step t.d_law_step ["_law_picture", "_law_empty", "_law_size", "_law_rows", "_law_deed_here"] (spStep4 t) := by
  refine T.F_law_step.okn (k := 5) sc_law_step (fun vs H Q E h => ?_) (fun cdv A outer s H vs Q E hr h => ?_)
  · obtain ⟨a, dp, do_, l, a', dp', do', sz, dl, w, ht, ps, wy, n, d, e2, e3, e4, rfl, _⟩ := h
    rfl
  · obtain ⟨a, dp, do_, l, a', dp', do', sz, dl, w, ht, ps, wy, n, d, e2, e3, e4, rfl, h⟩ := h
    refine ⟨_, pss_cons (ps_asg (pe_call (ok_law_cell_of T) (hr.mono (by decide)) rfl T.g_law_cell_of T.F_law_cell_of.kp T.b_law_cell_of .nil pass_none (pa_cons (pv 4) (pa_cons (pv 2) (pa_cons (pv 3) (pa_nil))))) (pg_tup rfl (pgs_cons (pg_name (i := 5) sc_law_step.nd rfl (Or.inl rfl)) (pgs_cons (pg_name (i := 6) sc_law_step.nd rfl (Or.inl rfl)) (pgs_nil)))))
      (pss_cons (ps_mid (ps_if (pt_cmpR op_eq (pe_ix ix_list (pv 4) (pe_int) (fun _ _ => rfl)) (pe_str) (nomark _)) (pss_one (ps_ret (pe_call (ok_law_again T) (hr.mono (by decide)) rfl T.g_law_again T.F_law_again.kp T.b_law_again .nil pass_none (pa_cons (pv 0) (pa_cons (pv 3) (pa_cons (pe_ix ix_list (pv 4) (pe_int) (fun _ _ => rfl)) (pa_nil))))))) (pss_nil)))
      (pss_cons (ps_set (i := 7) sc_law_step.nd rfl (Or.inl rfl) (pe_call (ok_law_due T) (hr.mono (by decide)) rfl T.g_law_due T.F_law_due.kp T.b_law_due .nil pass_none (pa_cons (pv 2) (pa_cons (pv 3) (pa_cons (pv 4) (pa_cons (pv 5) (pa_cons (pv 6) (pa_nil))))))))
      (pss_cons (ps_asg (pe_call (ok_law_done T) (hr.mono (by decide)) rfl T.g_law_done T.F_law_done.kp T.b_law_done .nil pass_none (pa_cons (pv 0) (pa_cons (pv 4) (pa_cons (pv 5) (pa_cons (pv 6) (pa_nil)))))) (pg_tup rfl (pgs_cons (pg_name (i := 8) sc_law_step.nd rfl (Or.inl rfl)) (pgs_cons (pg_name (i := 9) sc_law_step.nd rfl (Or.inl rfl)) (pgs_nil)))))
      (pss_cons (ps_mid (ps_if (PW.pt (pw_or (pt_cmpR (op_neV (hu20_of hr)) (pv 9) (pv 7) (nomark _)) (pw_or1 (pt_cmpR (op_neV (hu20_of hr)) (pe_call (ok_law_done T) (hr.mono (by decide)) rfl T.g_law_done T.F_law_done.kp T.b_law_done .nil pass_none (pa_cons (pv 1) (pa_cons (pv 4) (pa_cons (pv 5) (pa_cons (pv 6) (pa_nil)))))) (pe_tup (pa_cons (pe_non) (pa_cons (pe_lst (pa_cons (pe_str) (pa_cons (pe_ix ix_list (pv 4) (pe_int) (fun _ _ => rfl)) (pa_nil)))) (pa_nil)))) (nomark _))))) (pss_one (ps_ret (pe_bl))) (pss_nil)))
      (pss_cons (ps_for PassesOwn.never rfl (pi_list (pe_callTy call_list_of rfl T.n_list boot_list (pa_cons (pv 3) (pa_nil)))) (pg_name (i := 10) sc_law_step.nd rfl (Or.inl rfl)) (pss_one (ps_mid (ps_if (PW.pt (pw_and (pt_cmpR (op_eqV (hu20_of hr)) (pe_ix ix_tup (pv 10) (pe_int) (fun _ _ => rfl)) (pe_ix ix_list (pv 4) (pe_int) (fun _ _ => rfl)) (nomark _)) (pw_and1 (pt_cmpR (op_eqV (hu20_of hr)) (pv 7) (pe_lst (pa_nil)) (nomark _))))) (pss_cons (ps_set (i := 11) sc_law_step.nd rfl (Or.inl rfl) (pe_bm PySem.F.plainAttrs_list PySem.F.slot_list_index PySem.F.type_list_index (mt_indexV (hu20_of hr)) (pv 3) (pa_cons (pv 10) (pa_nil))))
      (pss_cons (ps_mid (ps_if (pt_cmpR op_eq (pe_ix ix_list (pv 4) (pe_int) (fun _ _ => rfl)) (pe_str) (nomark _)) (pss_one (ps_ret (pe_and (pe_callB call_isin rfl T.n_isinstance boot_isinstance (pa_cons (pv 8) (pa_cons (pe_bltn (v := .ty "tuple") rfl T.n_tuple boot_tuple rfl) (pa_nil)))) (pe_one (pe_cmpR (op_eqV (hu20_of hr)) (pv 8) (pe_tup (pa_cons (pe_ix ix_tup (pv 10) (pe_int) (fun _ _ => rfl)) (pa_cons (pe_ix ix_tup (pv 10) (pe_int) (fun _ _ => rfl)) (pa_nil)))) (nomark _)))))) (pss_nil)))
      (pss_one (ps_mid (ps_if (pt_cmpR op_eq (pe_ix ix_list (pv 4) (pe_int) (fun _ _ => rfl)) (pe_str) (nomark _)) (pss_one (ps_expr (pe_bm PySem.F.plainAttrs_list PySem.F.slot_list_pop PySem.F.type_list_pop mt_popAt (pv 3) (pa_cons (pv 11) (pa_nil))))) (pss_one (ps_asg (pe_op op_catT (pe_tup (pa_cons (pe_ix ix_tup (pv 10) (pe_int) (fun _ _ => rfl)) (pa_cons (pv 5) (pa_cons (pv 6) (pa_nil))))) (pe_slice sl_tup (pv 10) (po_some (pe_int)) po_none)) (pg_sub (pv 3) (pv 11) set_list)))))))) (pss_nil)))))
      (pss_one (ps_ret (pe_cmpR op_isN (pv 8) (pe_non) (nomark _))))))))), ?_⟩
    obtain ⟨r, pe, ndp, hsz, hd, tn, hwy, ndl, nl, q⟩ := h
    have pok := r.pok
    have nms : ∀ p ∈ ps, isNm p.nm = true := fun p hp => (pok.ok p hp).nm
    obtain ⟨qs, hl, pts⟩ := r.rl
    have ple := pok.le
    refine ⟨_, rfl, _, rfl, _, rfl, dl, sz, l, wy, n, e2, e3, e4, w, ht, ps, qs, rfl, hd, hsz, r.pic.w1, r.pic.h1, hl, pts, fun H1 tp x y dx dy s1 htp tx ty => ⟨tp, _, rfl, SqT.of htp, rfl, _, _, rfl, _, _, rfl, rfl, ?_⟩⟩
    have hd1 := s1 _ _ hd
    have r1 := r.same s1
    have pe1 := Pic.same s1 pe
    refine ⟨fun σ H' => σ = [some (.ref a), some (.ref a'), some (.ref sz), some (.ref l), some (.ref dl), some x, some y, none, none, none, none, none] ∧ H1 = H' ∧ (wy = "move" ∨ wy = "take" ∨ wy = "place"), ?_, ?_⟩
    · refine ⟨_, rfl, dl, _, 0, _, rfl, rfl, SqL.of hd1, rfl, rfl, _, rfl, ?_⟩
      by_cases pt : wy = "put"
      · refine ifP (by rw [pt]; exact decide_eq_true rfl) ⟨_, rfl, _, rfl, _, rfl, dl, _, 1, _, rfl, rfl, SqL.of hd1, rfl, ?_⟩
        refine ⟨a, dp, do_, l, w, ht, ps, n, d, rfl, r1, tn.same s1, fun H2 ps' k2 r2 => q H2 ps' (fun b u n1 _ n3 e => k2 _ _ n1 n3 (s1 _ _ e)) r2 ?_⟩
        obtain ⟨kv, hk, pl⟩ := pe1.pl
        obtain ⟨kv0, hk0, _⟩ := id r1.pic.pl
        have hl1 := s1 _ _ hl
        have tp2 : Tups H1 H2 := fun b xs e => k2 _ _ (ne_of e hk0 (fun z => nomatch z)) (ne_of e hl1 (fun z => nomatch z)) e
        exact ⟨let ⟨dd, e⟩ := pe1.ins; ⟨dd, k2 _ _ (ne_of e hk0 (fun z => nomatch z)) (ne_of e hl1 (fun z => nomatch z)) e⟩, ⟨kv, k2 _ _ (Ne.symm ndp) (ne_of hk hl1 (fun z => nomatch z)) hk, pl.keep tp2⟩, pe1.w1, pe1.w2, pe1.h1, pe1.h2, pe1.len⟩
      · refine ifN (decide_eq_false (fun z => pt (V.str.inj z))) ⟨rfl, rfl, ?_⟩
        rcases hwy with z | z | z | z
        · exact .inl z
        · exact .inr (.inl z)
        · exact .inr (.inr z)
        · exact absurd z pt
    rintro σ _ ⟨rfl, rfl, hwy3⟩
    have hl1 := s1 _ _ hl
    have pts1 := pts.keep (Same.tups s1)
    refine ⟨_, rfl, _, rfl, _, rfl, _, rfl, _, rfl, sz, l, dl, w, ht, ps, qs, wy, n, x, y, d, dx, dy, e2, e3, e4, rfl, s1 _ _ hsz, hl1, pts1, ple, nms, hd1, tn.same s1, tx, ty, fun H2 m fm s2 hm => ?_⟩
    have s02 := s1.trans s2
    have r2 := r.same s02
    have pe2 := Pic.same s02 pe
    obtain ⟨kvM, hkM, _⟩ := id r2.pic.pl
    obtain ⟨kvE, hkE, _⟩ := id pe2.pl
    have hd2 := s02 _ _ hd
    refine ⟨_, rfl, _, rfl, _, rfl, _, rfl, a, dp, do_, dl, w, ht, ps, wy, n, x, y, d, dx, dy, e2, e3, e4, rfl, r2.pic, pok.nn, hd2, tn.same s02, tx.same s2, ty.same s2, hwy3, fun H3 t3 l3 rep k3 pc3 ht3 hl3 hrep => ⟨t3, _, rfl, SqT.of ht3, rfl, _, _, rfl, _, _, rfl, rfl, ?_⟩⟩
    have nb3 : ∀ (b : Addr) (u : HO), (∀ k, u ≠ HO.dK k) → H2 b = some u → H3 b = some u := fun b u nu e => k3 b u (fun z => by rw [z, hkM] at e; cases e; exact nu _ rfl) e
    have tg3 : ∀ {v : V} {dd : DV}, Thg H2 v dd → Thg H3 v dd := fun {v dd} z => by
      cases z with
      | non => exact .non
      | bl b => exact .bl b
      | int i => exact .int i
      | str s h => exact .str s h
      | lst h f => exact .lst (nb3 _ _ (by intro k z; cases z) h) f
      | tup h f => exact .tup (nb3 _ _ (by intro k z; cases z) h) f
    have tn3 := tg3 (tn.same s02)
    have tx3 := tg3 (tx.same s2)
    have ty3 := tg3 (ty.same s2)
    have hm3 := nb3 _ _ (by intro k z; cases z) hm
    have hd3 := nb3 _ _ (by intro k z; cases z) hd2
    have pe3 : Pic t H3 a' dp' do' w ht [] := by
      obtain ⟨kv, hk, pl⟩ := pe2.pl
      exact ⟨let ⟨dd, e⟩ := pe2.ins; ⟨dd, nb3 _ _ (by intro k z; cases z) e⟩, ⟨kv, k3 _ _ (Ne.symm ndp) hk, pl.keep fun b xs e => nb3 _ _ (by intro k z; cases z) e⟩, pe2.w1, pe2.w2, pe2.h1, pe2.h2, pe2.len⟩
    obtain ⟨ds, dsn, dsl⟩ := dv_list (K := K) (told_dv (wy := wy) (w := w) (h := ht) (ps := ps) tn3 tx3 ty3)
    have hl2 := s02 _ _ hl
    have hl3' := nb3 _ _ (by intro k z; cases z) hl2
    have pts3 : PtsL H3 ps qs := (pts.keep (Same.tups s02)).keep fun b xs e => nb3 _ _ (by intro k z; cases z) e
    have dt3 := nb3 _ _ (by intro k z; cases z) r2.dt
    obtain ⟨kE3, hkE3, _⟩ := id pe3.pl
    have k03 : ∀ b u, b ≠ dp → H b = some u → H3 b = some u := fun b u nb e => k3 _ _ nb (s02 _ _ e)
    refine ⟨fun σ H' => σ = [some (.ref a), some (.ref a'), some (.ref sz), some (.ref l), some (.ref dl), some x, some y, some (.ref m), some rep, some (.ref l3), none, none] ∧ (∀ b u, b ≠ dp' → H3 b = some u → H' b = some u) ∧ Pic t H' a' dp' do' w ht [], ?_, ?_⟩
    · refine ⟨_, rfl, _, rfl, 2, 2, .lst ds, .lst ds, dsl l3 hl3, dsl m hm3, by decide, by decide, _, rfl, ifN (by rw [dEq_refl]; rfl) ?_⟩
      refine ⟨_, rfl, _, rfl, _, rfl, _, rfl, a', dp', do', dl, w, ht, [], wy, n, x, y, d, dx, dy, e2, e3, e4, rfl, pe3, List.nodup_nil, hd3, tn3, tx3, ty3, hwy3, fun H4 t4 l4 rep4 k4 pc4 ht4 hl4 hrep4 => ?_⟩
      rw [out4_empty] at pc4 hl4 hrep4
      have nb4 : ∀ (b : Addr) (u : HO), (∀ k, u ≠ HO.dK k) → H3 b = some u → H4 b = some u := fun b u nu e => k4 b u (fun z => by rw [z, hkE3] at e; cases e; exact nu _ rfl) e
      obtain rfl : rep4 = .non := by
        rcases hrep4 with ⟨z, _⟩ | ⟨z, _⟩
        · exact z
        · cases z
      have hd4 := nb4 _ _ (by intro k z; cases z) hd3
      refine ⟨_, rfl, dl, _, 1, _, rfl, rfl, SqL.of hd4, rfl, (by show 2 ≤ sizeLine; decide), fun l5 hl5 => ?_⟩
      have s5 : Same H4 (upd H4 l5 (.lst [.str "point", n])) := same_upd (Same.refl _) hl5
      have g5 : upd H4 l5 (.lst [.str "point", n]) l5 = some (.lst [.str "point", n]) := upd_same
      revert s5 g5
      generalize upd H4 l5 (.lst [.str "point", n]) = H5
      intro s5 g5
      refine ⟨(by show 2 ≤ sizeLine; decide), fun t6 ht6 => ?_⟩
      have s6 : Same H5 (upd H5 t6 (.tup [.non, .ref l5])) := same_upd (Same.refl _) ht6
      have g6 : upd H5 t6 (.tup [.non, .ref l5]) t6 = some (.tup [.non, .ref l5]) := upd_same
      revert s6 g6
      generalize upd H5 t6 (.tup [.non, .ref l5]) = H6
      intro s6 g6
      have tn4 : Thg H4 n d := by
        cases tn3 with
        | non => exact .non
        | bl b => exact .bl b
        | int i => exact .int i
        | str s h => exact .str s h
        | lst h f => exact .lst (nb4 _ _ (by intro k z; cases z) h) f
        | tup h f => exact .tup (nb4 _ _ (by intro k z; cases z) h) f
      have s46 := s5.trans s6
      have dl2 : ∀ (H : Hp) (ll : Addr), Thg H n d → H ll = some (.lst [.str "point", n]) → Dv K H 2 (.ref ll) (.lst [.str "point", d]) := fun H ll tn hll => by
        refine .lst (SqL.of hll) rfl fun j v dd h1 h2 => ?_
        match j, h1, h2 with
        | 0, h1, h2 => cases h1; cases h2; exact .str
        | 1, h1, h2 => cases h1; cases h2; exact tn.dv
        | j + 2, h1, h2 => simp at h1
      have dt2 : ∀ (H : Hp) (tt ll : Addr), Thg H n d → H tt = some (.tup [.non, .ref ll]) → H ll = some (.lst [.str "point", n]) → Dv K H 3 (.ref tt) (.tup [.non, .lst [.str "point", d]]) := fun H tt ll tn htt hll => by
        refine .tup (SqT.of htt) rfl fun j v dd h1 h2 => ?_
        match j, h1, h2 with
        | 0, h1, h2 => cases h1; cases h2; exact .non
        | 1, h1, h2 => cases h1; cases h2; exact dl2 H ll tn hll
        | j + 2, h1, h2 => simp at h1
      refine ⟨3, 3, _, _, dt2 H6 t4 l4 (tn4.same s46) (s46 _ _ ht4) (s46 _ _ hl4), dt2 H6 t6 l5 (tn4.same s46) g6 (s6 _ _ g5), by decide, by decide, _, rfl, ifN (by rw [dEq_refl]; rfl) ?_⟩
      exact ⟨rfl, fun b u nb e => s46 _ _ (k4 _ _ nb e), Pic.same s46 pc4⟩
    rintro σ H4 ⟨rfl, k4, pe4⟩
    have nb4 : ∀ (b : Addr) (u : HO), (∀ k, u ≠ HO.dK k) → H3 b = some u → H4 b = some u := fun b u nu e => k4 b u (fun z => by rw [z, hkE3] at e; cases e; exact nu _ rfl) e
    have hl4 := nb4 _ _ (by intro k z; cases z) hl3'
    have pts4 : PtsL H4 ps qs := pts3.keep fun b xs e => nb4 _ _ (by intro k z; cases z) e
    have hm4 := nb4 _ _ (by intro k z; cases z) hm3
    have hd4 := nb4 _ _ (by intro k z; cases z) hd3
    have dt4 := nb4 _ _ (by intro k z; cases z) dt3
    have tg4 : ∀ {v : V} {dd : DV}, Thg H3 v dd → Thg H4 v dd := fun {v dd} z => by
      cases z with
      | non => exact .non
      | bl b => exact .bl b
      | int i => exact .int i
      | str s h => exact .str s h
      | lst h f => exact .lst (nb4 _ _ (by intro k z; cases z) h) f
      | tup h f => exact .tup (nb4 _ _ (by intro k z; cases z) h) f
    have tn4 := tg4 tn3
    have pc4 : Pic t H4 a dp do_ w ht (if (out4 wy w ht ps d dx dy n x y).isSome then ps else act4 wy ps d dx dy) := by
      obtain ⟨kv, hk, pl⟩ := pc3.pl
      exact ⟨let ⟨dd, e⟩ := pc3.ins; ⟨dd, nb4 _ _ (by intro k z; cases z) e⟩, ⟨kv, k4 _ _ ndp hk, pl.keep fun b xs e => nb4 _ _ (by intro k z; cases z) e⟩, pc3.w1, pc3.w2, pc3.h1, pc3.h2, pc3.len⟩
    have k04 : ∀ b u, b ≠ dp → b ≠ dp' → H b = some u → H4 b = some u := fun b u n1 n2 e => k4 _ _ n2 (k03 _ _ n1 e)
    have ml : m ≠ l := Ne.symm (ne_of_none hl1 fm)
    have ql := pts.len
    refine ⟨_, rfl, l, _, rfl, .inl (SqL.of hl4), fun lc hlc => ?_⟩
    have s5 : Same H4 (upd H4 lc (.lst (qs.map V.ref))) := same_upd (Same.refl _) hlc
    have g5 : upd H4 lc (.lst (qs.map V.ref)) lc = some (.lst (qs.map V.ref)) := upd_same
    revert s5 g5
    generalize upd H4 lc (.lst (qs.map V.ref)) = H5
    intro s5 g5
    have cl : lc ≠ l := Ne.symm (ne_of_none hl4 hlc)
    have hl5 := s5 _ _ hl4
    have pts5 := pts4.keep (Same.tups s5)
    have hm5 := s5 _ _ hm4
    have hd5 := s5 _ _ hd4
    have tn5 := tn4.same s5
    have pe5 := Pic.same s5 pe4
    have k05 : ∀ b u, b ≠ dp → b ≠ dp' → H b = some u → H5 b = some u := fun b u n1 n2 e => s5 _ _ (k04 _ _ n1 n2 e)
    have tx5 := (tg4 tx3).same s5
    have ty5 := (tg4 ty3).same s5
    refine ⟨lc, rfl, ⟨_, SqL.of g5⟩, ?_⟩
    cases out : out4 wy w ht ps d dx dy n x y with
    | some er =>
      obtain ⟨ds5, dsn5, dsl5⟩ := dv_list (K := K) (told_dv (wy := wy) (w := w) (h := ht) (ps := ps) tn5 tx5 ty5)
      have dm5 := dsl5 m hm5
      rw [out] at dsn5 pc4 hrep
      have dn : dEq (.lst ds5) (.lst []) = false := by
        cases ds5 with
        | nil =>
          have z : toldO (some er) = [] := by
            have : (toldO (some er)).length = 0 := by rw [← dsn5]; rfl
            exact List.length_eq_zero_iff.mp this
          exact absurd z (told_ne (fun z => nomatch z))
        | cons _ _ => rfl
      obtain rfl : rep = .non := by
        rcases hrep with ⟨z, _⟩ | ⟨z, _⟩
        · exact z
        · cases z
      refine for_list (xs := qs.map V.ref) (Pv := fun k σ H6 => ∃ v10 v11 : Option V, σ = [some (.ref a), some (.ref a'), some (.ref sz), some (.ref l), some (.ref dl), some x, some y, some (.ref m), some .non, some (.ref l3), v10, v11] ∧ Same H5 H6) ⟨_, _, rfl, Same.refl _⟩ (fun _ _ _ _ ⟨_, _, _, z⟩ => SqL.of (z _ _ g5)) ?_ ?_
      · rintro k v σ H6 hv ⟨v10, v11, rfl, s6⟩
        rw [List.getElem?_map] at hv
        obtain ⟨o, ho, rfl⟩ := Option.map_eq_some_iff.mp hv
        obtain ⟨p, hpp, ep⟩ := (pts5.keep (Same.tups s6)).get ho
        refine ⟨fun σ H' => ∃ v10 v11 : Option V, σ = [some (.ref a), some (.ref a'), some (.ref sz), some (.ref l), some (.ref dl), some x, some y, some (.ref m), some .non, some (.ref l3), v10, v11] ∧ Same H5 H', ?_, fun σ H' z => z⟩
        refine ⟨_, rfl, o, _, 0, _, rfl, rfl, SqT.of ep, rfl, _, rfl, dl, _, 1, _, rfl, rfl, SqL.of (s6 _ _ hd5), rfl, 1, 1, .str p.nm, d, .str, (tn5.same s6).dv, by decide, by decide, _, rfl, ite2 (fun c => ?_) (fun c => ?_)⟩
        · refine ⟨_, rfl, (by show 0 ≤ sizeLine; exact Nat.zero_le _), fun e0 he0 => ?_⟩
          have s7 : Same H6 (upd H6 e0 (.lst [])) := same_upd (Same.refl _) he0
          have g7 : upd H6 e0 (.lst []) e0 = some (.lst []) := upd_same
          revert s7 g7
          generalize upd H6 e0 (.lst []) = H7
          intro s7 g7
          exact ⟨2, 1, .lst ds5, .lst [], dm5.same (s6.trans s7), rows_dv g7, by decide, by decide, _, rfl, ifN dn ⟨_, _, rfl, s6.trans s7⟩⟩
        · exact iteF ⟨_, _, rfl, s6⟩
      · rintro σ H6 ⟨v10, v11, rfl, s6⟩
        refine ⟨_, rfl, rfl, ?_⟩
        exact q H6 ps (fun b u n1 n2 n3 e => s6 _ _ (k05 _ _ n1 n2 e)) ⟨Pic.same (s5.trans s6) pc4, s6 _ _ (s5 _ _ dt4), pok, ⟨qs, s6 _ _ hl5, pts5.keep (Same.tups s6)⟩⟩ (Pic.same s6 pe5)
    | none =>
      rw [out] at pc4 hrep hm5
      obtain ⟨hn, mvF⟩ := out4_none out
      obtain ⟨nm, pt, rfl, isn, hf, hpt, ept⟩ := hasN_of hn
      obtain rfl := tn.str_of
      obtain ⟨i0, hi0⟩ := List.getElem?_of_mem hpt
      have i0l : i0 < qs.length := by rw [ql]; exact (List.getElem?_eq_some_iff.mp hi0).1
      have pc5 : Pic t H5 a dp do_ w ht (act4 wy ps (.str nm) dx dy) := Pic.same s5 pc4
      have pokA : PtsOk w ht (act4 wy ps (.str nm) dx dy) := by
        unfold act4
        split
        · rename_i mv
          obtain ⟨nm', i, j, e1, rfl, rfl, i1, i2, j1, j2, oc⟩ := mvF mv
          cases e1
          exact mv_ok pok i1 i2 j1 j2 (outCL_none oc)
        · split
          · exact pok.filt _
          · exact pok
      have dt5 := s5 _ _ dt4
      have fin : ∀ (H6 : Hp), (∀ b u, b ≠ l → H5 b = some u → H6 b = some u) → (∃ qs' : List Addr, H6 l = some (.lst (qs'.map V.ref)) ∧ PtsL H6 (act4 wy ps (.str nm) dx dy) qs') → ∀ H7, Same H6 H7 → Q (.bl true) H7 := fun H6 k6 rl6 H7 s7 => by
        have t56 : Tups H5 H6 := fun b xs e => k6 _ _ (ne_of e hl5 (fun z => nomatch z)) e
        have pc6 : Pic t H6 a dp do_ w ht (act4 wy ps (.str nm) dx dy) := ⟨let ⟨dd, e⟩ := pc5.ins; ⟨dd, k6 _ _ (ne_of e hl5 (fun z => nomatch z)) e⟩, let ⟨kv, e, pl⟩ := pc5.pl; ⟨kv, k6 _ _ (ne_of e hl5 (fun z => nomatch z)) e, pl.keep t56⟩, pc5.w1, pc5.w2, pc5.h1, pc5.h2, pc5.len⟩
        have pe6 : Pic t H6 a' dp' do' w ht [] := ⟨let ⟨dd, e⟩ := pe5.ins; ⟨dd, k6 _ _ (ne_of e hl5 (fun z => nomatch z)) e⟩, let ⟨kv, e, pl⟩ := pe5.pl; ⟨kv, k6 _ _ (ne_of e hl5 (fun z => nomatch z)) e, pl.keep t56⟩, pe5.w1, pe5.w2, pe5.h1, pe5.h2, pe5.len⟩
        exact q H7 (act4 wy ps (.str nm) dx dy) (fun b u n1 n2 n3 e => s7 _ _ (k6 _ _ n3 (k05 _ _ n1 n2 e))) (R4.same s7 ⟨pc6, k6 _ _ (ne_of dt5 hl5 (fun z => nomatch z)) dt5, pokA, rl6⟩) (Pic.same s7 pe6)
      refine for_list (xs := qs.map V.ref) (Pv := fun k σ H6 => ∃ v10 v11 : Option V, σ = [some (.ref a), some (.ref a'), some (.ref sz), some (.ref l), some (.ref dl), some x, some y, some (.ref m), some rep, some (.ref l3), v10, v11] ∧ (∀ b u, b ≠ l → H5 b = some u → H6 b = some u) ∧ (k ≤ i0 → H6 l = some (.lst (qs.map V.ref))) ∧ (i0 < k → wy ≠ "place" ∧ ∃ qs' : List Addr, H6 l = some (.lst (qs'.map V.ref)) ∧ PtsL H6 (act4 wy ps (.str nm) dx dy) qs')) ⟨_, _, rfl, fun b u _ e => e, fun _ => hl5, fun z => absurd z (Nat.not_lt_zero _)⟩ (fun _ _ _ _ ⟨_, _, _, z, _⟩ => SqL.of (z _ _ cl g5)) ?_ ?_
      · rintro k v σ H6 hv ⟨v10, v11, rfl, k6, before, after⟩
        have t56 : Tups H5 H6 := fun b xs e => k6 _ _ (ne_of e hl5 (fun z => nomatch z)) e
        rw [List.getElem?_map] at hv
        obtain ⟨o, ho, rfl⟩ := Option.map_eq_some_iff.mp hv
        have pts6 := pts5.keep t56
        obtain ⟨p, hpp, ep⟩ := pts6.get ho
        have hd6 := k6 _ _ ndl hd5
        have hm6 := k6 _ _ ml hm5
        refine ⟨fun σ H' => ∃ v10 v11 : Option V, σ = [some (.ref a), some (.ref a'), some (.ref sz), some (.ref l), some (.ref dl), some x, some y, some (.ref m), some rep, some (.ref l3), v10, v11] ∧ (∀ b u, b ≠ l → H5 b = some u → H' b = some u) ∧ (k + 1 ≤ i0 → H' l = some (.lst (qs.map V.ref))) ∧ (i0 < k + 1 → wy ≠ "place" ∧ ∃ qs' : List Addr, H' l = some (.lst (qs'.map V.ref)) ∧ PtsL H' (act4 wy ps (.str nm) dx dy) qs'), ?_, fun σ H' z => z⟩
        refine ⟨_, rfl, o, _, 0, _, rfl, rfl, SqT.of ep, rfl, _, rfl, dl, _, 1, _, rfl, rfl, SqL.of hd6, rfl, 1, 1, .str p.nm, .str nm, .str, .str, by decide, by decide, _, rfl, ite2 (fun c => ?_) (fun c => ?_)⟩
        · rw [nm_eq] at c
          have c' : p.nm = nm := by simpa using c
          obtain rfl : k = i0 := ix_one pok.nn hpp hi0 (c'.trans ept.symm)
          rw [hpp] at hi0
          obtain rfl : p = pt := Option.some.inj hi0
          have hl6 := before (Nat.le_refl _)
          refine ⟨_, rfl, (by show 0 ≤ sizeLine; exact Nat.zero_le _), fun e0 he0 => ?_⟩
          have s7 : Same H6 (upd H6 e0 (.lst [])) := same_upd (Same.refl _) he0
          have g7 : upd H6 e0 (.lst []) e0 = some (.lst []) := upd_same
          revert s7 g7
          generalize upd H6 e0 (.lst []) = H7
          intro s7 g7
          refine ⟨1, 1, .lst [], .lst [], rows_dv (s7 _ _ hm6), rows_dv g7, by decide, by decide, _, rfl, ifP rfl ?_⟩
          have hl7 := s7 _ _ hl6
          have pts7 := pts6.keep (Same.tups s7)
          have ep7 := s7 _ _ ep
          have hd7 := s7 _ _ hd6
          refine ⟨_, rfl, .inl ⟨rfl, _, SqL.of hl7⟩, _, rfl, l, _, _, 1, 2, ptD p, ps.map ptD, k, rfl, rfl, hl7, dv_pt ep7, pts7.dv hl7, by decide, by decide, first_pt pok.nn hpp, ?_⟩
          refine ⟨fun σ H' => σ = [some (.ref a), some (.ref a'), some (.ref sz), some (.ref l), some (.ref dl), some x, some y, some (.ref m), some rep, some (.ref l3), some (.ref o), some (.int k)] ∧ H7 = H' ∧ wy ≠ "place", ?_, ?_⟩
          · refine ⟨_, rfl, dl, _, 0, _, rfl, rfl, SqL.of hd7, rfl, rfl, _, rfl, ?_⟩
            by_cases pl : wy = "place"
            · refine ifP (by rw [pl]; exact decide_eq_true rfl) ?_
              obtain ⟨pt', qr, hpt', ed', rfl, hqr⟩ : ∃ pt' qr, pt' ∈ ps ∧ DV.str nm = .str pt'.nm ∧ rep = .ref qr ∧ H3 qr = some (.tup [.int pt'.x, .int pt'.y]) := by
                rcases hrep with ⟨_, z | z⟩ | ⟨_, _, pt', qr, h1, h2, h3, h4⟩
                · cases z
                · exact absurd pl z
                · exact ⟨pt', qr, h1, h2, h3, h4⟩
              have ep' : pt' = p := nd_one pok.nn hpt' hpt (by have : nm = pt'.nm := DV.str.inj ed'; rw [← this, ept])
              subst ep'
              have hqr7 := s7 _ _ (t56 _ _ (s5 _ _ (nb4 _ _ (by intro k z; cases z) hqr)))
              refine ⟨_, rfl, _, _, rfl, .inl ⟨_, _, true, .tup hqr7, rfl, kit_same, true, rfl, iteT ?_⟩⟩
              refine ⟨_, rfl, _, rfl, o, _, 1, _, rfl, rfl, SqT.of ep7, rfl, _, rfl, o, _, 2, _, rfl, rfl, SqT.of ep7, rfl, (by show 2 ≤ sizeLine; decide), fun q8 hq8 => ?_⟩
              have s8 : Same H7 (upd H7 q8 (.tup [.int pt'.x, .int pt'.y])) := same_upd (Same.refl _) hq8
              have g8 : upd H7 q8 (.tup [.int pt'.x, .int pt'.y]) q8 = some (.tup [.int pt'.x, .int pt'.y]) := upd_same
              revert s8 g8
              generalize upd H7 q8 (.tup [.int pt'.x, .int pt'.y]) = H8
              intro s8 g8
              refine ⟨1, 1, _, _, dv_two (s8 _ _ hqr7), dv_two g8, by decide, by decide, ?_⟩
              rw [dEq_refl]
              refine fin H6 k6 ⟨qs, hl6, ?_⟩ H8 (s7.trans s8)
              unfold act4
              rw [if_neg (fun z => pl_ne (pl.symm.trans z)), if_neg (fun z => pl_ne2 (pl.symm.trans z))]
              exact pts6
            · exact ifN (decide_eq_false (fun z => pl (V.str.inj z))) ⟨rfl, rfl, pl⟩
          rintro σ _ ⟨rfl, rfl, npl⟩
          refine ⟨fun σ H' => ∃ v10 v11 : Option V, σ = [some (.ref a), some (.ref a'), some (.ref sz), some (.ref l), some (.ref dl), some x, some y, some (.ref m), some rep, some (.ref l3), v10, v11] ∧ (∀ b u, b ≠ l → H5 b = some u → H' b = some u) ∧ ∃ qs' : List Addr, H' l = some (.lst (qs'.map V.ref)) ∧ PtsL H' (act4 wy ps (.str nm) dx dy) qs', ?_, ?_⟩
          · refine ⟨_, rfl, dl, _, 0, _, rfl, rfl, SqL.of hd7, rfl, rfl, _, rfl, ?_⟩
            by_cases tk : wy = "take"
            · refine ifP (by rw [tk]; exact decide_eq_true rfl) ?_
              refine ⟨_, rfl, .inl ⟨rfl, _, SqL.of hl7⟩, _, rfl, l, _, k, k, _, rfl, rfl, hl7, by omega, by omega, seqIx_nat (by rw [List.length_map]; exact i0l), (by rw [List.getElem?_map, ho]; rfl), ?_⟩
              have bt : ∀ c u, c ≠ l → H7 c = some u → upd H7 l (.lst ((qs.map V.ref).eraseIdx k)) c = some u := fun c u nc e => by
                rw [upd_ne nc]
                exact e
              refine ⟨_, _, rfl, fun b u nb e => bt _ _ nb (s7 _ _ (k6 _ _ nb e)), qs.eraseIdx k, by rw [upd_same, map_rm], ?_⟩
              have ea : act4 wy ps (.str nm) dx dy = ps.eraseIdx k := by
                unfold act4
                rw [if_neg (fun z => mv_ne (tk.symm.trans z)), if_pos tk, rm_pt pok.nn hpp, ept]
                rfl
              rw [ea]
              exact (pts7.rm k).keep fun b xs e => bt _ _ (ne_of e hl7 (fun z => nomatch z)) e
            · have mv : wy = "move" := by
                rcases hwy3 with z | z | z
                · exact z
                · exact absurd z tk
                · exact absurd z npl
              obtain ⟨nm', xi, yi, e1, rfl, rfl, i1, i2, j1, j2, oc⟩ := mvF mv
              cases e1
              obtain rfl := tx3.int_of
              obtain rfl := ty3.int_of
              refine ifN (decide_eq_false (fun z => tk (V.str.inj z))) ?_
              refine ⟨_, rfl, o, _, 0, _, rfl, rfl, SqT.of ep7, rfl, _, rfl, _, rfl, (by show 3 ≤ sizeLine; decide), fun q8 hq8 => ?_⟩
              have s8 : Same H7 (upd H7 q8 (.tup [.str p.nm, .int xi, .int yi])) := same_upd (Same.refl _) hq8
              have g8 : upd H7 q8 (.tup [.str p.nm, .int xi, .int yi]) q8 = some (.tup [.str p.nm, .int xi, .int yi]) := upd_same
              revert s8 g8
              generalize upd H7 q8 (.tup [.str p.nm, .int xi, .int yi]) = H8
              intro s8 g8
              have ep8 := s8 _ _ ep7
              refine ⟨_, rfl, 3, rfl, o, _, rfl, SqT.of ep8, (fun z => absurd z.1 (by show ¬ ((3 : Nat) = 0); decide)), fun q9 hq9 => ?_⟩
              have s9 : Same H8 (upd H8 q9 (.tup [.str p.sd, .int p.lo, .int p.hi])) := same_upd (Same.refl _) hq9
              have g9 : upd H8 q9 (.tup [.str p.sd, .int p.lo, .int p.hi]) q9 = some (.tup [.str p.sd, .int p.lo, .int p.hi]) := upd_same
              refine ⟨q8, q9, _, [.str p.sd, .int p.lo, .int p.hi], rfl, rfl, SqT.of (s9 _ _ g8), SqT.of g9, (by simp), (by show 3 + 3 ≤ sizeLine; decide), (fun z => nomatch z), fun _ qA hqA => ?_⟩
              have sA := s9.trans (same_upd (o := .tup (.str p.nm :: ptV { p with x := xi, y := yi })) (Same.refl _) hqA)
              have gA : upd (upd H8 q9 (.tup [.str p.sd, .int p.lo, .int p.hi])) qA (.tup (.str p.nm :: ptV { p with x := xi, y := yi })) qA = some (.tup (.str p.nm :: ptV { p with x := xi, y := yi })) := upd_same
              have hlA := sA _ _ (s8 _ _ hl7)
              refine ⟨_, rfl, _, rfl, l, _, k, k, rfl, rfl, hlA, ixN_nat (by rw [List.length_map]; exact i0l), ?_⟩
              have s7A := s8.trans sA
              have bt : ∀ c u, c ≠ l → (upd (upd H8 q9 (.tup [.str p.sd, .int p.lo, .int p.hi])) qA (.tup (.str p.nm :: ptV { p with x := xi, y := yi }))) c = some u → upd (upd (upd H8 q9 (.tup [.str p.sd, .int p.lo, .int p.hi])) qA (.tup (.str p.nm :: ptV { p with x := xi, y := yi }))) l (.lst ((qs.map V.ref).set k (.ref qA))) c = some u := fun c u nc e => by
                rw [upd_ne nc]
                exact e
              have gl : upd (upd (upd H8 q9 (.tup [.str p.sd, .int p.lo, .int p.hi])) qA (.tup (.str p.nm :: ptV { p with x := xi, y := yi }))) l (.lst ((qs.map V.ref).set k (.ref qA))) l = some (.lst ((qs.set k qA).map V.ref)) := by rw [upd_same, map_st]
              refine ⟨_, _, rfl, fun b u nb e => bt _ _ nb (s7A _ _ (s7 _ _ (k6 _ _ nb e))), qs.set k qA, gl, ?_⟩
              have ea : act4 wy ps (.str nm) (.int xi) (.int yi) = ps.set k { p with x := xi, y := yi } := by
                unfold act4
                rw [if_pos mv, ← mv_set pok.nn hpp, ept]
                rfl
              rw [ea]
              have tA : Tups (upd (upd H8 q9 (.tup [.str p.sd, .int p.lo, .int p.hi])) qA (.tup (.str p.nm :: ptV { p with x := xi, y := yi }))) (upd (upd (upd H8 q9 (.tup [.str p.sd, .int p.lo, .int p.hi])) qA (.tup (.str p.nm :: ptV { p with x := xi, y := yi }))) l (.lst ((qs.map V.ref).set k (.ref qA)))) := fun b xs e => bt _ _ (ne_of e hlA (fun z => nomatch z)) e
              exact PtsL.set (p := { p with x := xi, y := yi }) ((pts7.keep (Same.tups s7A)).keep tA) k (tA _ _ gA)
          · rintro σ HB ⟨v10, v11, rfl, kB, rlB⟩
            exact ⟨_, _, rfl, kB, fun z => absurd z (by omega), fun _ => ⟨npl, rlB⟩⟩
        · rw [nm_eq] at c
          have c' : ¬ p.nm = nm := by simpa using c
          have nk : k ≠ i0 := fun z => by
            subst z
            rw [hpp] at hi0
            cases hi0
            exact c' ept
          exact iteF ⟨_, _, rfl, k6, fun z => before (by omega), fun z => after (by omega)⟩
      · rintro σ H6 ⟨v10, v11, rfl, k6, _, after⟩
        obtain ⟨npl, rl6⟩ := after (by rw [List.length_map]; exact i0l)
        obtain rfl : rep = .non := by
          rcases hrep with ⟨z, _⟩ | ⟨_, z, _⟩
          · exact z
          · exact absurd z npl
        refine ⟨_, rfl, rfl, ?_⟩
        exact fin H6 k6 rl6 H6 (Same.refl _)
end
end S04
set_option maxRecDepth 100000
set_option maxHeartbeats 4000000
namespace S04
open PySem L2 XL PyProof.Rows
def spLaw (K : PySem.W.Frag) : Sp := fun vs H Q _ => ∃ (a : Addr) (ns : List Int), vs = [.ref a] ∧ SqL K H a (ns.map V.int) ∧ ns.length ≤ 63 ∧ ∀ H', Q (.bl true) H'
structure I4 (t : Adr) (K : PySem.W.Frag) (H0 H : Hp) (a dp do_ l a' dp' do' sz f1 hl : Addr) (w h : Int) (ps0 ps : List Pt) (q0 q1 : List Addr) : Prop where
  same : Same H0 H
  r : R4 t H a dp do_ l w h ps
  e : Pic t H a' dp' do' w h []
  sz : H sz = some (.tup [.int w, .int h])
  f1 : H f1 = some (.lst (q1.map V.ref))
  p1 : PtsL H ps0 q1
  hl : H hl = some (.lst (q0.map V.ref))
  p0 : PtsL H ps0 q0
theorem I4.keep {t : Adr} {K : PySem.W.Frag} {H0 H H' : Hp} {a dp do_ l a' dp' do' sz f1 hl : Addr} {w h : Int} {ps0 ps : List Pt} {q0 q1 : List Addr} (s : Same H H') (i : I4 t K H0 H a dp do_ l a' dp' do' sz f1 hl w h ps0 ps q0 q1) : I4 t K H0 H' a dp do_ l a' dp' do' sz f1 hl w h ps0 ps q0 q1 :=
  ⟨i.same.trans s, i.r.same s, Pic.same s i.e, s _ _ i.sz, s _ _ i.f1, i.p1.keep (Same.tups s), s _ _ i.hl, i.p0.keep (Same.tups s)⟩
section
variable {P : Program} {w : World} {K : PySem.W.Frag} {mg : Str → Option Value} {base : Heap} {t : Adr}
theorem ok_law (T : Txt w K mg t) : FnOk true P w K mg base (CXo P w) 7 t.f_law t.d_law ["_law_script"] (spLaw K) := by
  refine T.F_law.okn (k := 6) sc_law (fun vs H Q E h => ?_) (fun cdv A outer s H vs Q E hr h => ?_)
  · obtain ⟨sc, ns, rfl, _⟩ := h
    rfl
  · obtain ⟨sc, ns, rfl, h⟩ := h
    refine ⟨_, pss_cons (ps_asg (pe_call (ok_law_filled T) (hr.mono (by decide)) rfl T.g_law_filled T.F_law_filled.kp T.b_law_filled .nil pass_none (pa_cons (pe_call (ok_law_cell T) (hr.mono (by decide)) rfl T.g_law_cell T.F_law_cell.kp T.b_law_cell .nil pass_none (pa_cons (pv 0) (pa_cons (pe_int) (pa_nil)))) (pa_cons (pe_int) (pa_nil)))) (pg_tup rfl (pgs_cons (pg_name (i := 1) sc_law.nd rfl (Or.inl rfl)) (pgs_cons (pg_name (i := 2) sc_law.nd rfl (Or.inl rfl)) (pgs_nil)))))
      (pss_cons (ps_set (i := 3) sc_law.nd rfl (Or.inl rfl) (pe_tup (pa_cons (pe_fld (pv 1) rfl) (pa_cons (pe_fld (pv 1) rfl) (pa_nil)))))
      (pss_cons (ps_set (i := 4) sc_law.nd rfl (Or.inl rfl) (pe_make T.k_Picture (ok_Picture_init T) (hr.mono (by decide)) rfl T.g_Picture T.b_Picture_init .nil pass_none (pa_cons (pe_ix ix_tup (pv 3) (pe_int) (fun _ _ => rfl)) (pa_cons (pe_ix ix_tup (pv 3) (pe_int) (fun _ _ => rfl)) (pa_nil)))))
      (pss_cons (ps_set (i := 5) sc_law.nd rfl (Or.inl rfl) (pe_meth0 (pv 1) T.c_Picture T.m_Picture_points (okF_Picture_points T) (hr.mono (by decide)) T.b_Picture_points .nil pass_none))
      (pss_cons (ps_set (i := 6) sc_law.nd rfl (Or.inl rfl) (pe_callTy call_list_of rfl T.n_list boot_list (pa_cons (pv 2) (pa_nil))))
      (pss_cons (ps_for PassesOwn.never rfl (pi_range2 rfl T.n_range (pa_cons (pe_int) (pa_cons (pe_callB (call_min2 rfl) rfl T.n_min boot_min (pa_cons (pe_callB call_len_seq rfl T.n_len boot_len (pa_cons (pv 0) (pa_nil))) (pa_cons (pe_int) (pa_nil)))) (pa_nil)))) (pg_name (i := 7) sc_law.nd rfl (Or.inl rfl)) (pss_cons (ps_set (i := 8) sc_law.nd rfl (Or.inl rfl) (pe_call (ok_law_deed T) (hr.mono (by decide)) rfl T.g_law_deed T.F_law_deed.kp T.b_law_deed .nil pass_none (pa_cons (pe_ix ix_list (pv 0) (pv 7) (fun _ _ => rfl)) (pa_cons (pv 7) (pa_cons (pv 2) (pa_nil))))))
      (pss_one (ps_if (PW.pt (pw_or (pt_not (pt_val (pe_call (ok_law_step T) (hr.mono (by decide)) rfl T.g_law_step T.F_law_step.kp T.b_law_step .nil pass_none (pa_cons (pv 1) (pa_cons (pv 4) (pa_cons (pv 3) (pa_cons (pv 2) (pa_cons (pv 8) (pa_nil))))))))) (pw_or1 (pt_cmpR (op_neV (hu20_of hr)) (pe_meth0 (pv 1) T.c_Picture T.m_Picture_points (ok_Picture_points T) (hr.mono (by decide)) T.b_Picture_points .nil pass_none) (pv 2) (nomark _))))) (pss_one (ps_ret (pe_bl))) (pss_nil)))))
      (pss_one (ps_ret (pe_and (pe_cmpR (op_eqV (hu20_of hr)) (pv 5) (pv 6) (nomark _)) (pe_and (pe_cmpR (op_eqV (hu20_of hr)) (pe_meth0 (pv 4) T.c_Picture T.m_Picture_points (ok_Picture_points T) (hr.mono (by decide)) T.b_Picture_points .nil pass_none) (pe_lst (pa_nil)) (nomark _)) (pe_one (pe_cmpR (op_eqV (hu20_of hr)) (pe_meth0 (pv 1) T.c_Picture T.m_Picture_seats (ok_Picture_seats T) (hr.mono (by decide)) T.b_Picture_seats .nil pass_none) (pe_lst (pa_nil)) (nomark _)))))))))))), ?_⟩
    obtain ⟨hs, nl, q⟩ := h
    refine ⟨_, rfl, sc, ns, 0, rfl, hs, by decide, by decide, fun c0 => ⟨c0, rfl, fun H1 tp a dp do_ l w ph ps qs s1 htp pic hdt pok hl pts fa fp fo fl => ⟨tp, _, rfl, SqT.of htp, rfl, _, _, rfl, _, _, rfl, rfl, ?_⟩⟩⟩
    obtain ⟨⟨dx, hp⟩, ⟨kv, hk, _⟩, w1, w2, h1, h2, _⟩ := id pic
    refine ⟨_, rfl, a, _, _, _, _, rfl, hp, T.c_Picture, T.n_Picture_width, lkW, _, rfl, a, _, _, _, _, rfl, hp, T.c_Picture, T.n_Picture_height, lkH, (by show 2 ≤ sizeLine; decide), fun sz hsz => ?_⟩
    have s2 : Same H1 (upd H1 sz (.tup [.int w, .int ph])) := same_upd (Same.refl _) hsz
    have g2 : upd H1 sz (.tup [.int w, .int ph]) sz = some (.tup [.int w, .int ph]) := upd_same
    revert s2 g2
    generalize upd H1 sz (.tup [.int w, .int ph]) = H2
    intro s2 g2
    refine ⟨_, rfl, sz, _, 0, _, rfl, rfl, SqT.of g2, rfl, _, rfl, sz, _, 1, _, rfl, rfl, SqT.of g2, rfl, fun a' dx' hx hdx ne => ⟨a', dx', w, ph, rfl, upd_same, w1, w2, h1, h2, fun H3 dp' do' hdp3 hdo3 s6 pe3 hdt3 => ⟨rfl, ?_⟩⟩⟩
    have s3 : Same H2 H3 := fun b u e => s6 b u (ne_of_none e hx) (by rw [upd_ne (ne_of_none e hx), upd_ne (ne_of_none e hdx)]; exact e)
    have fdp' : H2 dp' = none := by
      cases e : H2 dp' with
      | none => rfl
      | some u => rw [upd_ne (ne_of_none e hx), upd_ne (ne_of_none e hdx), e] at hdp3; cases hdp3
    have s13 := s2.trans s3
    have ndp : dp ≠ dp' := ne_of_none (s2 _ _ hk) fdp'
    have fH : H dp' = none := (s1.trans s2).free fdp'
    refine ⟨_, rfl, a, dx, _, rfl, s13 _ _ hp, lk_no (by decide +kernel), a, dp, do_, w, ph, ps, rfl, Pic.same s13 pic, fun H4 f1 q1 ff1 s4 hf1 p1 => ?_⟩
    have s14 := s13.trans s4
    have hl4 := s14 _ _ hl
    refine ⟨_, rfl, l, _, rfl, .inl (SqL.of hl4), fun hh hhh => ?_⟩
    have s5 : Same H4 (upd H4 hh (.lst (qs.map V.ref))) := same_upd (Same.refl _) hhh
    have g5 : upd H4 hh (.lst (qs.map V.ref)) hh = some (.lst (qs.map V.ref)) := upd_same
    revert s5 g5
    generalize upd H4 hh (.lst (qs.map V.ref)) = H5
    intro s5 g5
    have s15 := s14.trans s5
    have nf1 : f1 ≠ l := Ne.symm (ne_of_none (s13 _ _ hl) ff1)
    have nhh : hh ≠ l := Ne.symm (ne_of_none hl4 hhh)
    have s05 := s1.trans s15
    have i0 : I4 t K H H5 a dp do_ l a' dp' do' sz f1 hh w ph ps ps qs q1 := ⟨s05, R4.same s15 ⟨pic, hdt, pok, ⟨qs, hl, pts⟩⟩, Pic.same (s4.trans s5) pe3, (s3.trans (s4.trans s5)) _ _ g2, s5 _ _ hf1, p1.keep (Same.tups s5), g5, pts.keep (Same.tups s15)⟩
    have hs5 := s05.seq hs
    refine ⟨_, rfl, sc, _, rfl, .inl hs5, _, _, rfl, 1, _, rfl, ?_, ?_⟩
    · refine ⟨by decide, by decide, ?_, ?_⟩ <;> (repeat' split) <;> simp only [List.length_map] at * <;> omega
    refine for_range (Pv := fun i σ H6 => ∃ (v7 v8 : Option V) (ps' : List Pt), σ = [some (.ref sc), some (.ref a), some (.ref l), some (.ref sz), some (.ref a'), some (.ref f1), some (.ref hh), v7, v8] ∧ I4 t K H H6 a dp do_ l a' dp' do' sz f1 hh w ph ps ps' qs q1) ⟨_, _, ps, rfl, i0⟩ ?_ ?_
    · rintro i σ H6 hi ⟨v7, v8, ps', rfl, J⟩
      have kl : 1 + i < ns.length := by
        revert hi
        (repeat' split) <;> simp only [List.length_map] at * <;> omega
      have hsc := J.same.seq hs
      have cell : atI (ns.map V.int) (1 + (i : Int)) = some (.int ns[1 + i]) := by
        rw [show 1 + (i : Int) = ((1 + i : Nat) : Int) by omega]
        exact atI_nat (by rw [List.getElem?_map, List.getElem?_eq_getElem kl]; rfl)
      obtain ⟨qs6, hl6, pts6⟩ := J.r.rl
      refine ⟨_, rfl, _, rfl, sc, _, _, _, rfl, rfl, hsc, cell, _, rfl, _, rfl, ?_⟩
      refine ⟨_, _, l, ps', qs6, rfl, hl6, pts6, fun p hp => (J.r.pok.ok p hp).nm, fun H7 dl wy n d e2 e3 e4 s7 fdl fn hdl tn hwy => ?_⟩
      have J7 := J.keep s7
      refine ⟨_, rfl, _, rfl, _, rfl, _, rfl, _, rfl, ?_⟩
      refine ⟨a, dp, do_, l, a', dp', do', sz, dl, w, ph, ps', wy, n, d, e2, e3, e4, rfl, J7.r, J7.e, ndp, J7.sz, hdl, tn, hwy, Ne.symm (ne_of_none hl6 fdl), fun qq xs _ en => Ne.symm (ne_of_none hl6 (fn qq en)), fun H8 ps8 k8 r8 e8 => ⟨true, rfl, iteF ?_⟩⟩
      obtain ⟨kv7, hk7, _⟩ := id J7.r.pic.pl
      obtain ⟨ke7, he7, _⟩ := id J7.e.pl
      obtain ⟨qs7, hl7, _⟩ := J7.r.rl
      have tp8 : Tups H7 H8 := fun b xs e => k8 _ _ (ne_of e hk7 (fun z => nomatch z)) (ne_of e he7 (fun z => nomatch z)) (ne_of e hl7 (fun z => nomatch z)) e
      have ls8 : ∀ (b : Addr) (xs : List V), b ≠ l → H7 b = some (.lst xs) → H8 b = some (.lst xs) := fun b xs nb e => k8 _ _ (ne_of e hk7 (fun z => nomatch z)) (ne_of e he7 (fun z => nomatch z)) nb e
      have J8 : I4 t K H H8 a dp do_ l a' dp' do' sz f1 hh w ph ps ps8 qs q1 := ⟨fun b u e => k8 _ _ (ne_of_none e fp) (ne_of_none e fH) (ne_of_none e fl) (J7.same _ _ e), r8, e8, tp8 _ _ J7.sz, ls8 _ _ nf1 J7.f1, J7.p1.keep tp8, ls8 _ _ nhh J7.hl, J7.p0.keep tp8⟩
      obtain ⟨dx8, hp8⟩ := r8.pic.ins
      obtain ⟨qs8, hl8, pts8⟩ := r8.rl
      refine ⟨_, rfl, a, dx8, _, rfl, hp8, lk_no (by decide +kernel), a, dp, do_, w, ph, ps8, rfl, r8.pic, fun H9 l9 q9 s9 hl9 p9 => ?_⟩
      refine ⟨_, rfl, 2, 2, .lst (ps8.map ptD), .lst (ps8.map ptD), p9.dv hl9, (pts8.keep (Same.tups s9)).dv (s9 _ _ hl8), by decide, by decide, _, rfl, ifN (by rw [dEq_refl]; rfl) ?_⟩
      exact ⟨_, _, ps8, rfl, J8.keep s9⟩
    · rintro σ H6 ⟨v7, v8, ps', rfl, J⟩
      refine ⟨_, rfl, _, rfl, 2, 2, .lst (ps.map ptD), .lst (ps.map ptD), J.p1.dv J.f1, J.p0.dv J.hl, by decide, by decide, _, rfl, ifP (dEq_refl _) ?_⟩
      obtain ⟨dxe, hpe⟩ := J.e.ins
      refine ⟨_, rfl, a', dxe, _, rfl, hpe, lk_no (by decide +kernel), a', dp', do', w, ph, [], rfl, J.e, fun H7 l7 q7 s7 hl7 p7 => ?_⟩
      cases p7
      refine ⟨(by show 0 ≤ sizeLine; exact Nat.zero_le _), fun e0 he0 => ?_⟩
      have s8 : Same H7 (upd H7 e0 (.lst [])) := same_upd (Same.refl _) he0
      have g8 : upd H7 e0 (.lst []) e0 = some (.lst []) := upd_same
      revert s8 g8
      generalize upd H7 e0 (.lst []) = H8
      intro s8 g8
      refine ⟨1, 1, .lst [], .lst [], rows_dv (s8 _ _ hl7), rows_dv g8, by decide, by decide, _, rfl, ifP rfl ?_⟩
      have J8 := J.keep (s7.trans s8)
      obtain ⟨dx8, hp8⟩ := J8.r.pic.ins
      refine ⟨_, rfl, a, dx8, _, rfl, hp8, lk_no (by decide +kernel), a, dp, do_, w, ph, ps', [], rfl, J8.r.pic, ⟨[], J8.r.dt, rfl, List.nodup_nil, Nat.zero_le _⟩, fun l9 ss9 rs9 fr9 sl9 pm9 _ => ?_⟩
      obtain rfl := List.Perm.eq_nil pm9
      cases sl9
      have s9 : Same H8 (upd H8 l9 (.lst (([] : List Addr).map V.ref))) := same_upd (Same.refl _) fr9
      have g9 : upd H8 l9 (.lst (([] : List Addr).map V.ref)) l9 = some (.lst (([] : List Addr).map V.ref)) := upd_same
      revert s9 g9
      generalize upd H8 l9 (.lst (([] : List Addr).map V.ref)) = H9
      intro s9 g9
      refine ⟨(by show 0 ≤ sizeLine; exact Nat.zero_le _), fun e1 he1 => ?_⟩
      have sA : Same H9 (upd H9 e1 (.lst [])) := same_upd (Same.refl _) he1
      have gA : upd H9 e1 (.lst []) e1 = some (.lst []) := upd_same
      revert sA gA
      generalize upd H9 e1 (.lst []) = HA
      intro sA gA
      refine ⟨1, 1, .lst [], .lst [], rows_dv (sA _ _ g9), rows_dv gA, by decide, by decide, ?_⟩
      exact q _
end
end S04
namespace PySem.W.Fast
def tw2772700985652759731:=0
def tw355707019511440926:=0
def tw5656336871594421310:=0
def tw417731680698882830:=0
def tw11269561215702818280:=0
def tw12929719746003839775:=0
def tw9191695606973170365:=0
def tw4725489586178400823:=0
def tw12940466767141301729:=0
def tw8304344383844554045:=0
def tw12265378082517723202:=0
def tw9249662798401924706:=0
def tw15278768707632975378:=0
def tw8039204702858378987:=0
def tw16751580679123540645:=0
def tw6853667094291095278:=0
def tw6835735936352771975:=0
def tw17117009011101611273:=0
def tw4199235261193829878:=0
def tw16781606001797090045:=0
def tw3988525716275639335:=0
def tw3400706409632201688:=0
def tw542785037026040419:=0
def tw10006494108517506778:=0
def tw9882434921759796568:=0
def tw15377938461233309723:=0
def tw13965262508881483506:=0
def tw16623294212484974249:=0
def tw12737875603113019101:=0
def tw13216036045932487396:=0
def tw7178693435691925535:=0
def tw14961188508106168453:=0
def tw15127734815938728393:=0
def tw2412792469888428162:=0
def tw15981578465638479581:=0
def tw16716275906832551606:=0
def tw16697875182502984293:=0
def tw5685700473349251007:=0
def tw6260452823726244974:=0
def tw11717272011089835503:=0
def tw17153105071896997082:=0
def tw4928781869582883241:=0
def tw3135041572846577781:=0
def tw3196426263479846060:=0
def tw10906680161736496204:=0
def tw7891201548880894729:=0
def tw11056706598598169681:=0
def tw8566684757205007967:=0
def tw13665275594783089839:=0
def tw635402542438461563:=0
def tw4406116755051526877:=0
def tw12998706732648513756:=0
def tw2988764101027699886:=0
def tw9462361722144556211:=0
def tw7831050933357020279:=0
def tw12017472913925673653:=0
def tw9411222764742611560:=0
def tw12786199466087642434:=0
def tw15556068574881974295:=0
def tw4924287856131083406:=0
def tw9450133132586486869:=0
def tw18261486215137160066:=0
def tw5714422273051054848:=0
def tw8401215319750842050:=0
def tw15080655310471629658:=0
def tw10540560542528275039:=0
def tw1246668399156606953:=0
def tw9405467836093681839:=0
def tw8124715871594907761:=0
def tw12869526078737043057:=0
def tw2874278934065786813:=0
def tw804428033902064740:=0
def tw13959063009823399525:=0
def tw16335833425070747883:=0
def tw3045774671090253494:=0
def tw15661901817674600482:=0
def tw3389394746352862901:=0
def tw17741033745395744816:=0
def tw4460512313103945277:=0
def tw5201432327368974895:=0
def tw7144265505360633218:=0
def tw6089712384719102163:=0
def tw13430342834287177655:=0
def tw9043784659091704397:=0
def tw483664441445368376:=0
def tw15154607918897349420:=0
def tw18302184428187696608:=0
def tw8639073949599421931:=0
def tw8917621529853821540:=0
def tw1534154916016275008:=0
def tw5765161983962071510:=0
def tw8570924626497153929:=0
def tw9880890414280267074:=0
def tw575735752753197994:=0
def tw10827977570052197912:=0
def tw9154982105567289173:=0
def tw10035290318586599765:=0
def tw10585326102807483041:=0
def tw2131998072500973394:=0
def tw15800386329940353015:=0
def tw5622047657646576553:=0
def tw2969786538586781602:=0
def tw10460020492462813027:=0
def tw4868346418891245844:=0
def tw10075891684993541053:=0
def tw7380515847465851557:=0
def tw13496980614111801453:=0
def tw11796427614025777419:=0
def tw3070664786804151466:=0
def tw5784171726379188860:=0
def tw6949207073776961510:=0
def tw9157612963768716284:=0
def tw2505229026483683859:=0
def tw408536916153810016:=0
def tw8239165872109570300:=0
def tw16899269570902897869:=0
def tw16512981867995713260:=0
def tw6145174251779898950:=0
def tw14007268052883877024:=0
def tw7354640598497901341:=0
def tw14555025074504089912:=0
def tw1792269572135061381:=0
def tw14814525106716398005:=0
def tw8978015265354851574:=0
def tw1621474115100074201:=0
def tw8347385082242421427:=0
def tw1877214375916107382:=0
def tw3088685782850994621:=0
def tw15647844637435559505:=0
def tw12944037871207298256:=0
def tw7387929479790247077:=0
def tw3092353966907547015:=0
def tw10665880759189394702:=0
def tw5589589130241468318:=0
def tw963508346963339319:=0
def tw10467465210023698932:=0
def tw9675257659785438626:=0
def tw1920697826143614432:=0
def tw7171086444798926957:=0
def tw14618075576029859090:=0
def tw15130058751658460827:=0
def tw1265364892874113340:=0
def tw9155724971910294159:=0
def tw18011363107268130437:=0
def tw9885591026329458770:=0
def tw7887100629713382514:=0
def tw6500552984448503562:=0
def tw17312893422642904627:=0
def tw17879322710350821197:=0
def tw15110608053852921729:=0
def tw16148644534587287746:=0
def tw12536493880805697432:=0
def tw17659030924780266409:=0
def tw2495976747300863116:=0
def tw15353392721758576785:=0
def tw8407131530659843357:=0
def tw13217905926278636476:=0
def tw6748364030654441979:=0
def tw4222912068841028629:=0
def tw3561703698053752508:=0
def tw9653147132106157150:=0
def tw16422762690878402249:=0
def tw6369798277254372055:=0
def tw12043446993843347803:=0
def tw13289725277146395667:=0
def tw7572747807526858514:=0
def tw2346544457110847931:=0
def tw7356079581724040891:=0
def tw1807365525145933627:=0
def tw4542964593967741046:=0
def tw9831386265425520544:=0
def tw15475177085622590968:=0
def tw18094800304339417018:=0
def tw13641666178752121608:=0
def tw12524260293470962614:=0
def tw1563182241449652008:=0
def tw2620316442442150151:=0
def tw4071954426772928890:=0
def tw17536696262475405743:=0
def tw5273886106705579730:=0
def tw10185734055840802853:=0
def tw17887028610082080603:=0
def tw2664527685666297375:=0
def tw14014621345186572329:=0
def tw12802278655866775665:=0
def tw11439525896885757734:=0
def tw17611920754588071776:=0
def tw2586873694511860350:=0
def tw17706567981697309218:=0
def tw9627825924933701220:=0
def tw3995635934957691415:=0
def tw7013354269198331964:=0
def tw7963841547856197262:=0
def tw9174227195626028364:=0
def tw1613311684163748132:=0
def tw10932001164733718039:=0
def tw2537340450956451328:=0
def tw15654458239451093590:=0
def tw8048910309398058675:=0
def tw18108525602934408649:=0
def tw6625303163450292210:=0
def tw16877521575979383037:=0
def tw5281855422281903974:=0
def tw9327244876302310704:=0
def tw7139965142030699692:=0
def tw5329863005323799893:=0
def tw7446697521059337514:=0
def tw12326063963180289277:=0
def tw18267415376612786479:=0
def tw8482262947929058231:=0
def tw11398655691766226598:=0
def tw2935585773854684998:=0
def tw10035719015202441458:=0
def tw7604156276816919153:=0
def tw9945700843357470920:=0
def tw3495624490837698608:=0
def tw3028909165526754646:=0
def tw10486506331864208595:=0
def tw16191782910814801963:=0
def tw17490930200804147780:=0
def tw1109026358218914466:=0
def tw8847507379209817576:=0
def tw8184879101626549486:=0
def tw16515655722710538821:=0
def tw12672016481322611287:=0
def tw500712547236329852:=0
def tw6028149691134216063:=0
def tw3177195457360805528:=0
def tw700806072487441980:=0
def tw2579785417827035460:=0
def tw10251225866551667859:=0
def tw7418544832632040794:=0
def tw2532805300688393638:=0
def tw1086305423337048057:=0
def tw10628327538697379421:=0
def tw17496998766298130910:=0
def tw17493212332741468947:=0
def tw642000686269486257:=0
def tw6265035960204708901:=0
def tw1087734466774707353:=0
def tw3349144740620056194:=0
def tw8824677726812976805:=0
def tw16206975149127625839:=0
def tw18285262447269467783:=0
def tw11843024044995097662:=0
def tw8732668322372237137:=0
def tw9894448939317212110:=0
def tw4841580310961743713:=0
def tw14091348081188321871:=0
def tw4444746756546552721:=0
def tw17255779637510131355:=0
def tw13292768563568754229:=0
def tw6724538333234191710:=0
def tw5160585586176474252:=0
def tw4454692100380257132:=0
def tw2837676829590839857:=0
def tw17608483319175137902:=0
def tw18113829963047568306:=0
def tw8167693204205071451:=0
def tw9972816303555703444:=0
def tw11064958830980461683:=0
def tw5088689200065633996:=0
def tw12182591423792340327:=0
def tw8475197851198273578:=0
def tw388680023323297247:=0
def tw3049474336211480015:=0
def tw10669858182726259159:=0
def tw9694467596576892987:=0
def tw3451554155588894442:=0
def tw3046334299222639151:=0
def tw3474695893601887587:=0
def tw12313014737443873451:=0
def tw16939460636521354395:=0
def tw2832891088835684268:=0
def tw4155415210125271451:=0
def tw2945410443347527460:=0
def tw2478303821504408623:=0
def tw15479298639111823752:=0
def tw15485363572581430:=0
def tw2877173280875382497:=0
def tw4693869572489907810:=0
def tw16699794573941904169:=0
def tw2536316709549075138:=0
def tw5291706259640449451:=0
def tw1505296828316785500:=0
def tw16241444242984227561:=0
def tw2448001141800722850:=0
def tw2811654085047178945:=0
def tw4769914860661214509:=0
def tw12161988522194907774:=0
def tw15780678411130504887:=0
def tw14688599602877931291:=0
def tw7135876255762812629:=0
def tw10945684504638474797:=0
def tw12598372698609395967:=0
def tw1203110857874478158:=0
def tw10530947588244863702:=0
def tw15733502341386531324:=0
def tw8628415841678887426:=0
def tw12639847541242307067:=0
def tw7225406691928238462:=0
def tw6219711959012913707:=0
def tw7312553347056107755:=0
def tw15226440140793151598:=0
def tw3003258501775098529:=0
def tw8666489305244562757:=0
def tw4572698151930630743:=0
def tw10440321492923518815:=0
def tw10601945556926321878:=0
def tw17086183864760616993:=0
def tw1959417758529692290:=0
def tw2149967237487752323:=0
def tw6162975610193701027:=0
def tw13928079860673138148:=0
def tw4178755095910709227:=0
def tw8252676294014764728:=0
def tw15627922056437460139:=0
def tw17805216013862605800:=0
def tw15846730662228680030:=0
def tw2762269536575045354:=0
def tw1819451880557846535:=0
def tw1281310684292076622:=0
def tw9373727827347815200:=0
def tw8034508786362990902:=0
def tw16399213605192545038:=0
def tw16166875439551072935:=0
def tw4052454990326026549:=0
def tw8370399027267019777:=0
def tw18115361505103683242:=0
def tw4734528404172003683:=0
def tw1197771693986684128:=0
def tw14321583967679599813:=0
def tw7870662578034301830:=0
def tw13527754463151945009:=0
def tw13762240908592716467:=0
def tw13202050445253311606:=0
def tw3890573480410317198:=0
def tw11807601742145081243:=0
def tw1696902464121128332:=0
def tw10135912039282338933:=0
def tw2450488402336750485:=0
def tw10034389236256173766:=0
def tw9472344472192699994:=0
def tw8313686720817980726:=0
def tw13615768139102060810:=0
def tw7209454432110826159:=0
def tw10538785891726072912:=0
def tw11610244510837131958:=0
def tw15528632545322399895:=0
def tw974532295758362266:=0
def tw224867944824317290:=0
def tw14769354602268683951:=0
def tw16942290813747921271:=0
def tw10946067422463616873:=0
def tw17666963365617920938:=0
def tw13640818615094450500:=0
def tw13029136302853386134:=0
def tw8605926705603012165:=0
def tw7521719229132770425:=0
def tw2510850396917410129:=0
def tw10938575914858229987:=0
def tw10993004213800051156:=0
def tw9783596801979032573:=0
def tw10842252825712551994:=0
def tw13370698740460029655:=0
def tw2225465175091241812:=0
def tw12150629842100727667:=0
def tw3201481591706068978:=0
def tw13627580331519383477:=0
def tw11020090737834679539:=0
def tw9458630464886454600:=0
def tw12563959985960647147:=0
def tw7087474946906475439:=0
def tw5918120755649484074:=0
def tw5860419704526286041:=0
def tw13866458206348215993:=0
def tw12201135885527782487:=0
def tw6967024857473869907:=0
def tw5021002333309048725:=0
def tw154317007597852461:=0
def tw17979390256535646958:=0
def tw12787011291258429877:=0
def tw11556182547979987729:=0
def tw13124028598721670212:=0
def tw13255645678434344330:=0
def tw14849222960516141853:=0
def tw16608992913833457982:=0
def tw10099275010139377487:=0
def tw13586598564772425696:=0
def tw16241800964806975087:=0
def tw4244130951081681967:=0
def tw12499782511832059220:=0
def tw8745976428738497187:=0
def tw8661614028456570250:=0
def tw18263860501319603188:=0
def tw15223920168924452594:=0
def tw4677630358335315748:=0
def tw14677553489575456233:=0
def tw18256507224141725578:=0
def tw3389197017023632320:=0
def tw6598792560629815259:=0
def tw686303937500089434:=0
def tw9923614036195160272:=0
def tw12247685347980769320:=0
def tw7307234914495600085:=0
def tw6934322685266117317:=0
def tw4832447951328991387:=0
def tw4863396280452317251:=0
def tw2265456214085260273:=0
def tw15905255665439760364:=0
def tw7469327913334275161:=0
def tw14935941430455321314:=0
def tw11083966334573791056:=0
def tw470690335441772157:=0
def tw7824608422371040772:=0
def tw6942240266421569533:=0
def tw1020258868294678465:=0
def tw2863340036869574290:=0
def tw17017179843532597817:=0
def tw7171628109356283143:=0
def tw15025943235391737480:=0
def tw14746239769203860085:=0
def tw8604559933729110315:=0
def tw10296495466135495324:=0
def tw3505170807511024732:=0
def tw12726403481227193601:=0
def tw16587754938596480704:=0
def tw8562333521778123053:=0
def tw9804041571178527572:=0
def tw7577855491487596162:=0
def tw292389515772795216:=0
def tw8181905948659633120:=0
def tw11339587608572579789:=0
def tw18310411206743478124:=0
def tw12096030649964770827:=0
def tw13713637324329451499:=0
def tw17306603750215993785:=0
def tw7568992653802982520:=0
def tw5585562851478453624:=0
def tw16725432475100633153:=0
def tw289068822382573610:=0
def tw16461233791864100502:=0
def tw17850888154197225900:=0
def tw5145405491106674338:=0
def tw11211139510062414149:=0
def tw16399409735248802213:=0
def tw9734710345780945769:=0
def tw9385094553367060442:=0
def tw16894894326159655726:=0
def tw5995375430553454601:=0
def tw9834715642526518665:=0
def tw2603010425189111904:=0
def tw2402415376708567064:=0
def tw5756777721548181863:=0
def tw12442929174093989481:=0
def tw7326239724820344848:=0
def tw4274560699212042955:=0
def tw15593180956498359206:=0
def tw16869889004458220352:=0
def tw17385599657805927532:=0
def tw2468147891482803095:=0
def tw9096282461961906620:=0
def tw1575368239481126728:=0
def tw14427859478845531040:=0
def tw11537341204025751486:=0
def tw1457373049337488894:=0
def tw10905052303772241959:=0
def tw17418507293347745851:=0
def tw7050401463844372770:=0
def tw12843126940977625578:=0
def tw14155269135518186520:=0
def tw15185824668289009927:=0
def tw5599475634110106452:=0
def tw15498531530067049782:=0
def tw11022587880438365516:=0
def tw17014573100029921954:=0
def tw5911182186055860628:=0
def tw10487533163606000825:=0
def tw12456035022605895152:=0
def tw15547776617461058611:=0
def tw10571601785951204801:=0
def tw6664198670284615268:=0
def tw18428605185771207752:=0
def tw16757937908418741141:=0
def tw11982463852674832908:=0
def tw3772622500097279693:=0
def tw13241155993941213192:=0
def tw2781174896165342806:=0
def tw6417428932834949280:=0
def tw4413826251318083269:=0
def tw4893145288819024719:=0
def tw10008995567261969480:=0
def tw9308755952873174321:=0
def tw16798871097841408703:=0
def tw6680861092530420007:=0
def tw9006311893629582866:=0
def tw2027431873803272780:=0
def tw1019049564137993022:=0
def tw4898249203815448194:=0
def tw17006882089036301493:=0
def tw13405801921818764931:=0
def tw10413302697697532573:=0
def tw11930626152521984931:=0
def tw10462802397130189734:=0
def tw10630545154834399231:=0
def tw10199280856790498642:=0
def tw13824150621082599947:=0
def tw15408202736313555307:=0
def tw2900818258943548835:=0
def tw5748126005493713341:=0
def tw3683812896771396829:=0
def tw7782330331712294143:=0
def tw4329455689146845154:=0
def tw9129097166785240852:=0
def tw13598950929591011900:=0
def tw6554959186841809313:=0
def tw1379311240385918844:=0
def tw13010405344588174823:=0
def tw4979038017052644606:=0
def tw13093192974443109658:=0
def tw4124427129077463685:=0
def tw10426247251563145946:=0
def tw4325892256769574191:=0
def tw2713123849281214303:=0
def tw14884699792979142865:=0
def tw14444083377111714073:=0
def tw8795660729701107834:=0
def tw1989772975308308302:=0
def tw2613807958275536206:=0
def tw13418376539984268210:=0
def tw11965822363787142901:=0
def tw15179748954201778970:=0
def tw547535982519103440:=0
def tw5841175498885278832:=0
def tw14376225240273461470:=0
def tw1479677457380090696:=0
def tw4125637194101220606:=0
def tw243613684279901963:=0
def tw10741974908842371723:=0
def tw11494040236717879225:=0
def tw136348244301208851:=0
def tw1220334893078002274:=0
def tw11325183653828212022:=0
def tw14292196429507259034:=0
def tw12885408968065934993:=0
def tw8695616751777831923:=0
def tw2966294823352395717:=0
def tw17535479553728361656:=0
def tw10641162282618487383:=0
def tw14387819091273859843:=0
def tw16203593455826181906:=0
def tw13663366052759035221:=0
def tw5188818314639967508:=0
def tw6070979858701084822:=0
def tw16444827760316720379:=0
def tw9476336099459568573:=0
def tw2131067437602008140:=0
def tw12647288340838311864:=0
def tw16085024385733995621:=0
def tw2909358416196685130:=0
def tw18287247075222429377:=0
def tw2099569674826954506:=0
def tw1019443373438544831:=0
def tw4837898693109631685:=0
def tw9554505340810470338:=0
def tw821148660685839256:=0
def tw4609552175089646114:=0
def tw13969053962743400460:=0
def tw11102031818249251141:=0
def tw17572046596163449780:=0
def tw468646703351336803:=0
def tw10717363226016991563:=0
def tw1611123253702315574:=0
def tw14880310779740745558:=0
def tw3375396616288606220:=0
def tw8529064382482156137:=0
def tw15915226884337767112:=0
def tw1527176359363260716:=0
def tw15481401866159959669:=0
def tw14094619770588817589:=0
def tw17430077419236776616:=0
def tw14658395447088030210:=0
def tw8997089708722344723:=0
def tw3835530068199217223:=0
def tw4831047910030129228:=0
def tw11947985241520472015:=0
def tw17801904521696023171:=0
def tw7976272124851901383:=0
def tw8180206896023838518:=0
def tw12775591810758241566:=0
def tw844613837664199616:=0
def tw8672851902609803366:=0
def tw5956357606947930039:=0
def tw10322298170087169923:=0
def tw14263891509474385984:=0
def tw17577139503643914855:=0
def tw11329762844829184259:=0
def tw14439835911238512932:=0
def tw3546806132568761921:=0
def tw14332978720981184009:=0
def tw3585156023614302658:=0
def tw15328598623812861750:=0
def tw14481255716036503527:=0
def tw13930279399561248933:=0
def tw15785748330773908510:=0
def tw184600027543342813:=0
def tw4661830491685024320:=0
def tw13259768270917344378:=0
def tw9828896434436028631:=0
def tw10046476552575927156:=0
def tw7471201975944759105:=0
def tw10539519101874604385:=0
def tw12072648955943902128:=0
def tw962786149184682169:=0
def tw3258963250254243185:=0
def tw7600094655853085245:=0
def tw86606151937829502:=0
def tw16298811936741555745:=0
def tw12592615155427723700:=0
def tw7041401539833030272:=0
def tw17279346726227289737:=0
def tw15078774669025486151:=0
def tw4905937136157860721:=0
def tw7596994185121227726:=0
def tw5885697464185859962:=0
def tw15595630866563520192:=0
def tw8207117496747554532:=0
def tw3784178139632605184:=0
def tw598470819241360211:=0
def tw15890367423164043775:=0
def tw16807351340995647796:=0
def tw5813220720905383563:=0
def tw11579753975571916894:=0
def tw4522083941765790048:=0
def tw17456783870300825260:=0
def tw16547655503787537426:=0
def tw14385399792317074210:=0
def tw12502223804918454516:=0
def tw10113635517977026516:=0
def tw10921786048249249035:=0
def tw2780161711455588224:=0
def tw9315747085695847415:=0
def tw18307567941422591335:=0
def tw615918317888810928:=0
def tw12632948095087110467:=0
def tw2507153455948162055:=0
def tw14892099295201195782:=0
def tw14400477734043413883:=0
def tw6694544695892685281:=0
def tw6020730896598298690:=0
def tw7874588309389757123:=0
def tw14308451681851509517:=0
def tw818788714458101783:=0
def tw15597332049311771452:=0
def tw8185008243327241863:=0
def tw970844095229450000:=0
def tw3890806422063455415:=0
def tw7134007730264321568:=0
def tw3743735960125903406:=0
def tw16584629764280859895:=0
def tw11792076408726668458:=0
def tw17110674244686992915:=0
def tw2104317078306993744:=0
def tw10331962279091916180:=0
def tw17315830904848194592:=0
def tw17640232379737044459:=0
def tw4147310200882685340:=0
def tw13262724170474629984:=0
def tw9260338402590062948:=0
def tw7929524198128634321:=0
def tw5980692882033795006:=0
def tw3623688235082449379:=0
def tw13414681959257912251:=0
def tw9281699329191664260:=0
def tw17969321107824238980:=0
def tw2395234451732615636:=0
def tw12903458091200078845:=0
def tw726009475493520253:=0
def tw16189223865914074115:=0
def tw16327898952423957178:=0
def tw3925394983163767099:=0
def tw13428464351733489402:=0
def tw16020254003789548276:=0
def tw7303937888442795186:=0
def tw1529368353988723463:=0
def tw10357781404327909656:=0
def tw16248118069957337876:=0
def tw18351358923139308881:=0
def tw4378925572005115041:=0
def tw7540771770021154535:=0
def tw16879626917568584617:=0
def tw18018096036321481547:=0
def tw14645080006531199956:=0
def tw2225330379844810548:=0
def tw8356839467301901560:=0
def tw11129097057624838050:=0
def tw8139608284902614857:=0
def tw11965378114117361265:=0
def tw11426250385813882401:=0
def tw9447701229425457187:=0
def tw2471396270823007526:=0
def tw5348565041352140400:=0
def tw18316067970433148574:=0
def tw3873332839955138082:=0
def tw14382858284327763514:=0
def tw16964799222963045922:=0
def tw16091274538099289097:=0
end PySem.W.Fast
namespace S04
open PySem L2 XL
theorem walk {l : PySem.W.OpenLaw} {q : Program} {loose : List Str} {XP : (Str → Option Value) → Heap → Prop} {YP : World → Heap → Prop} {d : DefRec} {K : Params → PySem.W.Frag} (hn : l.most = some 63) (hdf : d.params.defaults = [])
    (hY : ∀ (w : World) (h : Heap), YP w h → (K w.params).In h)
    (F : ∀ (w : World) (mg : Str → Option Value) (fa : Addr) (h : Heap), (K w.params).In h → h.Ns mainGlobals mg → mg d.name = some (.ref fa) →
      ∃ fd : FuncData, (∀ (s : Shared) (u : Value), BindsTo s fd ⟨[u], []⟩ [("_law_script", u)]) ∧ ∀ base : Heap, (K w.params).In base → base.Ns mainGlobals mg → FnOk true l.prog w (K w.params) mg base (CXo l.prog w) 7 fa fd ["_law_script"] (spLaw (K w.params))) :
    PySem.W.WalkO q loose XP YP l.row.toRowW d [] (fun f vs => PySem.call f vs) :=
  L2.walk_of (q0 := true) (n := 63) (k := 7) (x := "_law_script") (CX := fun w => CXo l.prog w) (sp := fun w => spLaw (K w.params)) hn (by decide) hdf ⟨fun _ => rfl, by decide, by decide⟩ hY F (fun _ _ a ns hl _ hS => ⟨a, ns, rfl, hS, hl, fun _ => rfl⟩)
    fun w H s e s' z => by obtain ⟨_, _, _, _, _, _, _, _, _, _, _, _, _, _, q⟩ := z; exact q
theorem all_mk {l : PySem.W.OpenLaw} {w : World} {K : PySem.W.Frag} {h : Heap} {mg : Str → Option Value} {fa : Addr} (hfa : mg "law" = some (.ref fa)) (TT : ∃ t, Txt w K mg t) :
    ∃ fd : FuncData, (∀ (s : Shared) (v : Value), BindsTo s fd ⟨[v], []⟩ [("_law_script", v)]) ∧ ∀ base : Heap, K.In base → base.Ns mainGlobals mg → FnOk true l.prog w K mg base (CXo l.prog w) 7 fa fd ["_law_script"] (spLaw K) := by
  obtain ⟨t, T⟩ := TT
  have e := hfa.symm.trans T.g_law
  cases e
  refine ⟨t.d_law, fun s v => ?_, fun base _ _ => ok_law T⟩
  obtain ⟨oc, od, kV, doc, pm, an, cdv, ct, osl, e, lk, hcd⟩ := T.F_law.ex
  rw [e]
  exact .of_eq rfl
end S04
open PySem PySem.W PyProof.Rows
set_option maxRecDepth 100000 in
set_option maxHeartbeats 0 in
theorem PySem.Challenge.cw_rimnotes_k04_points_moved_and_taken_holds : PySem.Challenge.rw_rimnotes_k04_points_moved_and_taken.Holds := by
  w_on; o_law; k_head; (case hw => w_witness2)
  k_fill
  refine S04.walk (l := PySem.Challenge.rw_rimnotes_k04_points_moved_and_taken) rfl rfl (fun w h Y => PySem.W.kIn_of Y) ?F
  case F =>
    intro w mg fa h KX G hmg
    refine S04.all_mk (h := h) hmg ?TT
    refine' S04.txt_mk (w := w) KX G ?g_RimError ?g_NoSize ?g_NoName ?g_NoCell ?g_NoSides ?g_NoWindow ?g_OldPoint ?g_NoPoint ?g_TooMany ?g_SameColumn ?g_SameRow ?g_NoSide ?g_NoRow ?g_OldSeat ?g_NoSeat ?g_NoRoom ?g_NoNotes ?g_TooFull ?g_TooTall ?g_BadLine ?g_BadDrawing ?g_NoLine ?g_Picture ?a_NoCell_init ?l_NoCell_init ?c_NoCell_init ?k_NoCell_init ?i_NoCell_init ?a_NoPoint_init ?l_NoPoint_init ?c_NoPoint_init ?k_NoPoint_init ?i_NoPoint_init ?a_SameColumn_init ?l_SameColumn_init ?c_SameColumn_init ?k_SameColumn_init ?i_SameColumn_init ?a_SameRow_init ?l_SameRow_init ?c_SameRow_init ?k_SameRow_init ?i_SameRow_init ?a_is_whole ?l_is_whole ?c_is_whole ?k_is_whole ?i_is_whole ?a_is_name ?l_is_name ?c_is_name ?k_is_name ?i_is_name ?a_Picture_init ?l_Picture_init ?c_Picture_init ?k_Picture_init ?i_Picture_init ?a_Picture_put ?l_Picture_put ?c_Picture_put ?k_Picture_put ?i_Picture_put ?t_Picture_put ?a_Picture_take ?l_Picture_take ?c_Picture_take ?k_Picture_take ?i_Picture_take ?a_Picture_move ?l_Picture_move ?c_Picture_move ?k_Picture_move ?i_Picture_move ?a_Picture_points ?l_Picture_points ?c_Picture_points ?k_Picture_points ?i_Picture_points ?a_Picture_seats ?l_Picture_seats ?c_Picture_seats ?k_Picture_seats ?i_Picture_seats ?a_Picture_place_of ?l_Picture_place_of ?c_Picture_place_of ?k_Picture_place_of ?i_Picture_place_of ?a_Picture_check_name ?l_Picture_check_name ?c_Picture_check_name ?k_Picture_check_name ?i_Picture_check_name ?a_Picture_check_cell ?l_Picture_check_cell ?c_Picture_check_cell ?k_Picture_check_cell ?i_Picture_check_cell ?a_Picture_check_lines ?l_Picture_check_lines ?c_Picture_check_lines ?k_Picture_check_lines ?i_Picture_check_lines ?a_law_cell ?l_law_cell ?c_law_cell ?k_law_cell ?i_law_cell ?a_law_mixed ?l_law_mixed ?c_law_mixed ?k_law_mixed ?i_law_mixed ?a_law_told ?l_law_told ?c_law_told ?k_law_told ?i_law_told ?a_law_told_more ?l_law_told_more ?c_law_told_more ?k_law_told_more ?i_law_told_more ?a_law_filled ?l_law_filled ?c_law_filled ?k_law_filled ?i_law_filled ?a_law_deed ?l_law_deed ?c_law_deed ?k_law_deed ?i_law_deed ?a_law_cell_of ?l_law_cell_of ?c_law_cell_of ?k_law_cell_of ?i_law_cell_of ?a_law_is_whole ?l_law_is_whole ?c_law_is_whole ?k_law_is_whole ?i_law_is_whole ?a_law_due ?l_law_due ?c_law_due ?k_law_due ?i_law_due ?a_law_done ?l_law_done ?c_law_done ?k_law_done ?i_law_done ?a_law_again ?l_law_again ?c_law_again ?k_law_again ?i_law_again ?a_law_step ?l_law_step ?c_law_step ?k_law_step ?i_law_step ?a_law ?l_law ?c_law ?k_law ?i_law ?kc_RimError ?ov_RimError ?hd_RimError ?sa_RimError ?ga_RimError ?gh_RimError ?ca_RimError ?mk_RimError ?kc_NoSize ?ov_NoSize ?hd_NoSize ?sa_NoSize ?ga_NoSize ?gh_NoSize ?ca_NoSize ?mk_NoSize ?kc_NoName ?ov_NoName ?hd_NoName ?sa_NoName ?ga_NoName ?gh_NoName ?ca_NoName ?mk_NoName ?kc_NoCell ?ov_NoCell ?hd_NoCell ?sa_NoCell ?ga_NoCell ?gh_NoCell ?ca_NoCell ?mk_NoCell ?kc_NoSides ?ov_NoSides ?hd_NoSides ?sa_NoSides ?ga_NoSides ?gh_NoSides ?ca_NoSides ?mk_NoSides ?kc_NoWindow ?ov_NoWindow ?hd_NoWindow ?sa_NoWindow ?ga_NoWindow ?gh_NoWindow ?ca_NoWindow ?mk_NoWindow ?kc_OldPoint ?ov_OldPoint ?hd_OldPoint ?sa_OldPoint ?ga_OldPoint ?gh_OldPoint ?ca_OldPoint ?mk_OldPoint ?kc_NoPoint ?ov_NoPoint ?hd_NoPoint ?sa_NoPoint ?ga_NoPoint ?gh_NoPoint ?ca_NoPoint ?mk_NoPoint ?kc_TooMany ?ov_TooMany ?hd_TooMany ?sa_TooMany ?ga_TooMany ?gh_TooMany ?ca_TooMany ?mk_TooMany ?kc_SameColumn ?ov_SameColumn ?hd_SameColumn ?sa_SameColumn ?ga_SameColumn ?gh_SameColumn ?ca_SameColumn ?mk_SameColumn ?kc_SameRow ?ov_SameRow ?hd_SameRow ?sa_SameRow ?ga_SameRow ?gh_SameRow ?ca_SameRow ?mk_SameRow ?kc_NoSide ?ov_NoSide ?hd_NoSide ?sa_NoSide ?ga_NoSide ?gh_NoSide ?ca_NoSide ?mk_NoSide ?kc_NoRow ?ov_NoRow ?hd_NoRow ?sa_NoRow ?ga_NoRow ?gh_NoRow ?ca_NoRow ?mk_NoRow ?kc_OldSeat ?ov_OldSeat ?hd_OldSeat ?sa_OldSeat ?ga_OldSeat ?gh_OldSeat ?ca_OldSeat ?mk_OldSeat ?kc_NoSeat ?ov_NoSeat ?hd_NoSeat ?sa_NoSeat ?ga_NoSeat ?gh_NoSeat ?ca_NoSeat ?mk_NoSeat ?kc_NoRoom ?ov_NoRoom ?hd_NoRoom ?sa_NoRoom ?ga_NoRoom ?gh_NoRoom ?ca_NoRoom ?mk_NoRoom ?kc_NoNotes ?ov_NoNotes ?hd_NoNotes ?sa_NoNotes ?ga_NoNotes ?gh_NoNotes ?ca_NoNotes ?mk_NoNotes ?kc_TooFull ?ov_TooFull ?hd_TooFull ?sa_TooFull ?ga_TooFull ?gh_TooFull ?ca_TooFull ?mk_TooFull ?kc_TooTall ?ov_TooTall ?hd_TooTall ?sa_TooTall ?ga_TooTall ?gh_TooTall ?ca_TooTall ?mk_TooTall ?kc_BadLine ?ov_BadLine ?hd_BadLine ?sa_BadLine ?ga_BadLine ?gh_BadLine ?ca_BadLine ?mk_BadLine ?kc_BadDrawing ?ov_BadDrawing ?hd_BadDrawing ?sa_BadDrawing ?ga_BadDrawing ?gh_BadDrawing ?ca_BadDrawing ?mk_BadDrawing ?kc_NoLine ?ov_NoLine ?hd_NoLine ?sa_NoLine ?ga_NoLine ?gh_NoLine ?ca_NoLine ?mk_NoLine ?kc_Picture ?pg_Picture ?hd_Picture ?po_Picture ?sa_Picture ?mk_Picture ?ca_Picture ?mo_Picture ?cg ?ct ?n_Picture_placed ?n_Picture_height ?n_Picture_width ?n_Picture_opened ?n_NoPoint_row ?n_NoPoint_side ?n_NoPoint_name ?n_NoPoint_high ?n_NoPoint_low ?n_NoPoint_sides ?n_NoPoint_y ?n_NoPoint_x ?n_NoCell_row ?n_NoCell_side ?n_NoCell_name ?n_NoCell_high ?n_NoCell_low ?n_NoCell_sides ?n_NoCell_y ?n_NoCell_x ?n_SameColumn_row ?n_SameColumn_side ?n_SameColumn_name ?n_SameColumn_high ?n_SameColumn_low ?n_SameColumn_sides ?n_SameColumn_y ?n_SameColumn_x ?n_SameRow_row ?n_SameRow_side ?n_SameRow_name ?n_SameRow_high ?n_SameRow_low ?n_SameRow_sides ?n_SameRow_y ?n_SameRow_x ?n_ValueError ?n_bool ?n_int ?n_isinstance ?n_len ?n_list ?n_min ?n_range ?n_sorted ?n_str ?n_tuple ?kit_NoPoint_NoName ?kit_NoPoint_NoCell ?kit_NoPoint_NoSides ?kit_NoPoint_NoWindow ?kit_NoPoint_OldPoint ?kit_NoPoint_TooMany ?kit_NoPoint_SameColumn ?kit_NoPoint_SameRow ?kit_NoPoint_NoPoint ?kit_NoPoint_NoSide ?kit_NoPoint_NoRow ?kit_NoPoint_OldSeat ?kit_NoPoint_NoSeat ?kany_NoPoint ?kitv_NoPoint ?mro_NoPoint ?kit_NoCell_NoName ?kit_NoCell_NoCell ?kit_NoCell_NoSides ?kit_NoCell_NoWindow ?kit_NoCell_OldPoint ?kit_NoCell_TooMany ?kit_NoCell_SameColumn ?kit_NoCell_SameRow ?kit_NoCell_NoPoint ?kit_NoCell_NoSide ?kit_NoCell_NoRow ?kit_NoCell_OldSeat ?kit_NoCell_NoSeat ?kany_NoCell ?kitv_NoCell ?mro_NoCell ?kit_SameColumn_NoName ?kit_SameColumn_NoCell ?kit_SameColumn_NoSides ?kit_SameColumn_NoWindow ?kit_SameColumn_OldPoint ?kit_SameColumn_TooMany ?kit_SameColumn_SameColumn ?kit_SameColumn_SameRow ?kit_SameColumn_NoPoint ?kit_SameColumn_NoSide ?kit_SameColumn_NoRow ?kit_SameColumn_OldSeat ?kit_SameColumn_NoSeat ?kany_SameColumn ?kitv_SameColumn ?mro_SameColumn ?kit_SameRow_NoName ?kit_SameRow_NoCell ?kit_SameRow_NoSides ?kit_SameRow_NoWindow ?kit_SameRow_OldPoint ?kit_SameRow_TooMany ?kit_SameRow_SameColumn ?kit_SameRow_SameRow ?kit_SameRow_NoPoint ?kit_SameRow_NoSide ?kit_SameRow_NoRow ?kit_SameRow_OldSeat ?kit_SameRow_NoSeat ?kany_SameRow ?kitv_SameRow ?mro_SameRow ?v_MOST_ROWS ?v_MOST_COLUMNS ?v_MOST_POINTS ?g_MIRRORED_SIDES ?l_MIRRORED_SIDES ?ns_MIRRORED_SIDES
    (case g_RimError => k_is)
    (case g_NoSize => k_is)
    (case g_NoName => k_is)
    (case g_NoCell => k_is)
    (case g_NoSides => k_is)
    (case g_NoWindow => k_is)
    (case g_OldPoint => k_is)
    (case g_NoPoint => k_is)
    (case g_TooMany => k_is)
    (case g_SameColumn => k_is)
    (case g_SameRow => k_is)
    (case g_NoSide => k_is)
    (case g_NoRow => k_is)
    (case g_OldSeat => k_is)
    (case g_NoSeat => k_is)
    (case g_NoRoom => k_is)
    (case g_NoNotes => k_is)
    (case g_TooFull => k_is)
    (case g_TooTall => k_is)
    (case g_BadLine => k_is)
    (case g_BadDrawing => k_is)
    (case g_NoLine => k_is)
    (case g_Picture => k_is)
    (case a_NoCell_init => k_is)
    (case l_NoCell_init => k_is)
    (case c_NoCell_init => k_is)
    (case k_NoCell_init => k_is)
    (case i_NoCell_init => k_is)
    (case a_NoPoint_init => k_is)
    (case l_NoPoint_init => k_is)
    (case c_NoPoint_init => k_is)
    (case k_NoPoint_init => k_is)
    (case i_NoPoint_init => k_is)
    (case a_SameColumn_init => k_is)
    (case l_SameColumn_init => k_is)
    (case c_SameColumn_init => k_is)
    (case k_SameColumn_init => k_is)
    (case i_SameColumn_init => k_is)
    (case a_SameRow_init => k_is)
    (case l_SameRow_init => k_is)
    (case c_SameRow_init => k_is)
    (case k_SameRow_init => k_is)
    (case i_SameRow_init => k_is)
    (case a_is_whole => k_is)
    (case l_is_whole => k_is)
    (case c_is_whole => k_is)
    (case k_is_whole => k_is)
    (case i_is_whole => k_is)
    (case a_is_name => k_is)
    (case l_is_name => k_is)
    (case c_is_name => k_is)
    (case k_is_name => k_is)
    (case i_is_name => k_is)
    (case a_Picture_init => k_is)
    (case l_Picture_init => k_is)
    (case c_Picture_init => k_is)
    (case k_Picture_init => k_is)
    (case i_Picture_init => k_is)
    (case a_Picture_put => k_is)
    (case l_Picture_put => k_is)
    (case c_Picture_put => k_is)
    (case k_Picture_put => k_is)
    (case i_Picture_put => k_is)
    (case t_Picture_put => k_is)
    (case a_Picture_take => k_is)
    (case l_Picture_take => k_is)
    (case c_Picture_take => k_is)
    (case k_Picture_take => k_is)
    (case i_Picture_take => k_is)
    (case a_Picture_move => k_is)
    (case l_Picture_move => k_is)
    (case c_Picture_move => k_is)
    (case k_Picture_move => k_is)
    (case i_Picture_move => k_is)
    (case a_Picture_points => k_is)
    (case l_Picture_points => k_is)
    (case c_Picture_points => k_is)
    (case k_Picture_points => k_is)
    (case i_Picture_points => k_is)
    (case a_Picture_seats => k_is)
    (case l_Picture_seats => k_is)
    (case c_Picture_seats => k_is)
    (case k_Picture_seats => k_is)
    (case i_Picture_seats => k_is)
    (case a_Picture_place_of => k_is)
    (case l_Picture_place_of => k_is)
    (case c_Picture_place_of => k_is)
    (case k_Picture_place_of => k_is)
    (case i_Picture_place_of => k_is)
    (case a_Picture_check_name => k_is)
    (case l_Picture_check_name => k_is)
    (case c_Picture_check_name => k_is)
    (case k_Picture_check_name => k_is)
    (case i_Picture_check_name => k_is)
    (case a_Picture_check_cell => k_is)
    (case l_Picture_check_cell => k_is)
    (case c_Picture_check_cell => k_is)
    (case k_Picture_check_cell => k_is)
    (case i_Picture_check_cell => k_is)
    (case a_Picture_check_lines => k_is)
    (case l_Picture_check_lines => k_is)
    (case c_Picture_check_lines => k_is)
    (case k_Picture_check_lines => k_is)
    (case i_Picture_check_lines => k_is)
    (case a_law_cell => k_is)
    (case l_law_cell => k_is)
    (case c_law_cell => k_is)
    (case k_law_cell => k_is)
    (case i_law_cell => k_is)
    (case a_law_mixed => k_is)
    (case l_law_mixed => k_is)
    (case c_law_mixed => k_is)
    (case k_law_mixed => k_is)
    (case i_law_mixed => k_is)
    (case a_law_told => k_is)
    (case l_law_told => k_is)
    (case c_law_told => k_is)
    (case k_law_told => k_is)
    (case i_law_told => k_is)
    (case a_law_told_more => k_is)
    (case l_law_told_more => k_is)
    (case c_law_told_more => k_is)
    (case k_law_told_more => k_is)
    (case i_law_told_more => k_is)
    (case a_law_filled => k_is)
    (case l_law_filled => k_is)
    (case c_law_filled => k_is)
    (case k_law_filled => k_is)
    (case i_law_filled => k_is)
    (case a_law_deed => k_is)
    (case l_law_deed => k_is)
    (case c_law_deed => k_is)
    (case k_law_deed => k_is)
    (case i_law_deed => k_is)
    (case a_law_cell_of => k_is)
    (case l_law_cell_of => k_is)
    (case c_law_cell_of => k_is)
    (case k_law_cell_of => k_is)
    (case i_law_cell_of => k_is)
    (case a_law_is_whole => k_is)
    (case l_law_is_whole => k_is)
    (case c_law_is_whole => k_is)
    (case k_law_is_whole => k_is)
    (case i_law_is_whole => k_is)
    (case a_law_due => k_is)
    (case l_law_due => k_is)
    (case c_law_due => k_is)
    (case k_law_due => k_is)
    (case i_law_due => k_is)
    (case a_law_done => k_is)
    (case l_law_done => k_is)
    (case c_law_done => k_is)
    (case k_law_done => k_is)
    (case i_law_done => k_is)
    (case a_law_again => k_is)
    (case l_law_again => k_is)
    (case c_law_again => k_is)
    (case k_law_again => k_is)
    (case i_law_again => k_is)
    (case a_law_step => k_is)
    (case l_law_step => k_is)
    (case c_law_step => k_is)
    (case k_law_step => k_is)
    (case i_law_step => k_is)
    (case a_law => k_is)
    (case l_law => k_is)
    (case c_law => k_is)
    (case k_law => k_is)
    (case i_law => k_is)
    (case kc_RimError => k_is)
    (case ov_RimError => kernel_rfl)
    (case hd_RimError => k_is)
    (case sa_RimError => k_is)
    (case ga_RimError => k_is)
    (case gh_RimError => k_is)
    (case ca_RimError => k_is)
    (case mk_RimError => first | k_is | kernel_rfl)
    (case kc_NoSize => k_is)
    (case ov_NoSize => kernel_rfl)
    (case hd_NoSize => k_is)
    (case sa_NoSize => k_is)
    (case ga_NoSize => k_is)
    (case gh_NoSize => k_is)
    (case ca_NoSize => k_is)
    (case mk_NoSize => first | k_is | kernel_rfl)
    (case kc_NoName => k_is)
    (case ov_NoName => kernel_rfl)
    (case hd_NoName => k_is)
    (case sa_NoName => k_is)
    (case ga_NoName => k_is)
    (case gh_NoName => k_is)
    (case ca_NoName => k_is)
    (case mk_NoName => first | k_is | kernel_rfl)
    (case kc_NoCell => k_is)
    (case ov_NoCell => kernel_rfl)
    (case hd_NoCell => k_is)
    (case sa_NoCell => k_is)
    (case ga_NoCell => k_is)
    (case gh_NoCell => k_is)
    (case ca_NoCell => k_is)
    (case mk_NoCell => first | k_is | kernel_rfl)
    (case kc_NoSides => k_is)
    (case ov_NoSides => kernel_rfl)
    (case hd_NoSides => k_is)
    (case sa_NoSides => k_is)
    (case ga_NoSides => k_is)
    (case gh_NoSides => k_is)
    (case ca_NoSides => k_is)
    (case mk_NoSides => first | k_is | kernel_rfl)
    (case kc_NoWindow => k_is)
    (case ov_NoWindow => kernel_rfl)
    (case hd_NoWindow => k_is)
    (case sa_NoWindow => k_is)
    (case ga_NoWindow => k_is)
    (case gh_NoWindow => k_is)
    (case ca_NoWindow => k_is)
    (case mk_NoWindow => first | k_is | kernel_rfl)
    (case kc_OldPoint => k_is)
    (case ov_OldPoint => kernel_rfl)
    (case hd_OldPoint => k_is)
    (case sa_OldPoint => k_is)
    (case ga_OldPoint => k_is)
    (case gh_OldPoint => k_is)
    (case ca_OldPoint => k_is)
    (case mk_OldPoint => first | k_is | kernel_rfl)
    (case kc_NoPoint => k_is)
    (case ov_NoPoint => kernel_rfl)
    (case hd_NoPoint => k_is)
    (case sa_NoPoint => k_is)
    (case ga_NoPoint => k_is)
    (case gh_NoPoint => k_is)
    (case ca_NoPoint => k_is)
    (case mk_NoPoint => first | k_is | kernel_rfl)
    (case kc_TooMany => k_is)
    (case ov_TooMany => kernel_rfl)
    (case hd_TooMany => k_is)
    (case sa_TooMany => k_is)
    (case ga_TooMany => k_is)
    (case gh_TooMany => k_is)
    (case ca_TooMany => k_is)
    (case mk_TooMany => first | k_is | kernel_rfl)
    (case kc_SameColumn => k_is)
    (case ov_SameColumn => kernel_rfl)
    (case hd_SameColumn => k_is)
    (case sa_SameColumn => k_is)
    (case ga_SameColumn => k_is)
    (case gh_SameColumn => k_is)
    (case ca_SameColumn => k_is)
    (case mk_SameColumn => first | k_is | kernel_rfl)
    (case kc_SameRow => k_is)
    (case ov_SameRow => kernel_rfl)
    (case hd_SameRow => k_is)
    (case sa_SameRow => k_is)
    (case ga_SameRow => k_is)
    (case gh_SameRow => k_is)
    (case ca_SameRow => k_is)
    (case mk_SameRow => first | k_is | kernel_rfl)
    (case kc_NoSide => k_is)
    (case ov_NoSide => kernel_rfl)
    (case hd_NoSide => k_is)
    (case sa_NoSide => k_is)
    (case ga_NoSide => k_is)
    (case gh_NoSide => k_is)
    (case ca_NoSide => k_is)
    (case mk_NoSide => first | k_is | kernel_rfl)
    (case kc_NoRow => k_is)
    (case ov_NoRow => kernel_rfl)
    (case hd_NoRow => k_is)
    (case sa_NoRow => k_is)
    (case ga_NoRow => k_is)
    (case gh_NoRow => k_is)
    (case ca_NoRow => k_is)
    (case mk_NoRow => first | k_is | kernel_rfl)
    (case kc_OldSeat => k_is)
    (case ov_OldSeat => kernel_rfl)
    (case hd_OldSeat => k_is)
    (case sa_OldSeat => k_is)
    (case ga_OldSeat => k_is)
    (case gh_OldSeat => k_is)
    (case ca_OldSeat => k_is)
    (case mk_OldSeat => first | k_is | kernel_rfl)
    (case kc_NoSeat => k_is)
    (case ov_NoSeat => kernel_rfl)
    (case hd_NoSeat => k_is)
    (case sa_NoSeat => k_is)
    (case ga_NoSeat => k_is)
    (case gh_NoSeat => k_is)
    (case ca_NoSeat => k_is)
    (case mk_NoSeat => first | k_is | kernel_rfl)
    (case kc_NoRoom => k_is)
    (case ov_NoRoom => kernel_rfl)
    (case hd_NoRoom => k_is)
    (case sa_NoRoom => k_is)
    (case ga_NoRoom => k_is)
    (case gh_NoRoom => k_is)
    (case ca_NoRoom => k_is)
    (case mk_NoRoom => first | k_is | kernel_rfl)
    (case kc_NoNotes => k_is)
    (case ov_NoNotes => kernel_rfl)
    (case hd_NoNotes => k_is)
    (case sa_NoNotes => k_is)
    (case ga_NoNotes => k_is)
    (case gh_NoNotes => k_is)
    (case ca_NoNotes => k_is)
    (case mk_NoNotes => first | k_is | kernel_rfl)
    (case kc_TooFull => k_is)
    (case ov_TooFull => kernel_rfl)
    (case hd_TooFull => k_is)
    (case sa_TooFull => k_is)
    (case ga_TooFull => k_is)
    (case gh_TooFull => k_is)
    (case ca_TooFull => k_is)
    (case mk_TooFull => first | k_is | kernel_rfl)
    (case kc_TooTall => k_is)
    (case ov_TooTall => kernel_rfl)
    (case hd_TooTall => k_is)
    (case sa_TooTall => k_is)
    (case ga_TooTall => k_is)
    (case gh_TooTall => k_is)
    (case ca_TooTall => k_is)
    (case mk_TooTall => first | k_is | kernel_rfl)
    (case kc_BadLine => k_is)
    (case ov_BadLine => kernel_rfl)
    (case hd_BadLine => k_is)
    (case sa_BadLine => k_is)
    (case ga_BadLine => k_is)
    (case gh_BadLine => k_is)
    (case ca_BadLine => k_is)
    (case mk_BadLine => first | k_is | kernel_rfl)
    (case kc_BadDrawing => k_is)
    (case ov_BadDrawing => kernel_rfl)
    (case hd_BadDrawing => k_is)
    (case sa_BadDrawing => k_is)
    (case ga_BadDrawing => k_is)
    (case gh_BadDrawing => k_is)
    (case ca_BadDrawing => k_is)
    (case mk_BadDrawing => first | k_is | kernel_rfl)
    (case kc_NoLine => k_is)
    (case ov_NoLine => kernel_rfl)
    (case hd_NoLine => k_is)
    (case sa_NoLine => k_is)
    (case ga_NoLine => k_is)
    (case gh_NoLine => k_is)
    (case ca_NoLine => k_is)
    (case mk_NoLine => first | k_is | kernel_rfl)
    (case kc_Picture => k_is)
    (case pg_Picture => k_is)
    (case hd_Picture => k_is)
    (case po_Picture => k_is)
    (case sa_Picture => k_is)
    (case mk_Picture => first | k_is | kernel_rfl)
    (case ca_Picture => k_is)
    (case mo_Picture => k_is)
    (case cg => k_is)
    (case ct => k_is)
    (case n_Picture_placed => k_is)
    (case n_Picture_height => k_is)
    (case n_Picture_width => k_is)
    (case n_Picture_opened => k_is)
    (case n_NoPoint_row => k_is)
    (case n_NoPoint_side => k_is)
    (case n_NoPoint_name => k_is)
    (case n_NoPoint_high => k_is)
    (case n_NoPoint_low => k_is)
    (case n_NoPoint_sides => k_is)
    (case n_NoPoint_y => k_is)
    (case n_NoPoint_x => k_is)
    (case n_NoCell_row => k_is)
    (case n_NoCell_side => k_is)
    (case n_NoCell_name => k_is)
    (case n_NoCell_high => k_is)
    (case n_NoCell_low => k_is)
    (case n_NoCell_sides => k_is)
    (case n_NoCell_y => k_is)
    (case n_NoCell_x => k_is)
    (case n_SameColumn_row => k_is)
    (case n_SameColumn_side => k_is)
    (case n_SameColumn_name => k_is)
    (case n_SameColumn_high => k_is)
    (case n_SameColumn_low => k_is)
    (case n_SameColumn_sides => k_is)
    (case n_SameColumn_y => k_is)
    (case n_SameColumn_x => k_is)
    (case n_SameRow_row => k_is)
    (case n_SameRow_side => k_is)
    (case n_SameRow_name => k_is)
    (case n_SameRow_high => k_is)
    (case n_SameRow_low => k_is)
    (case n_SameRow_sides => k_is)
    (case n_SameRow_y => k_is)
    (case n_SameRow_x => k_is)
    (case n_ValueError => k_is)
    (case n_bool => k_is)
    (case n_int => k_is)
    (case n_isinstance => k_is)
    (case n_len => k_is)
    (case n_list => k_is)
    (case n_min => k_is)
    (case n_range => k_is)
    (case n_sorted => k_is)
    (case n_str => k_is)
    (case n_tuple => k_is)
    (case kit_NoPoint_NoName => kernel_rfl)
    (case kit_NoPoint_NoCell => kernel_rfl)
    (case kit_NoPoint_NoSides => kernel_rfl)
    (case kit_NoPoint_NoWindow => kernel_rfl)
    (case kit_NoPoint_OldPoint => kernel_rfl)
    (case kit_NoPoint_TooMany => kernel_rfl)
    (case kit_NoPoint_SameColumn => kernel_rfl)
    (case kit_NoPoint_SameRow => kernel_rfl)
    (case kit_NoPoint_NoPoint => kernel_rfl)
    (case kit_NoPoint_NoSide => kernel_rfl)
    (case kit_NoPoint_NoRow => kernel_rfl)
    (case kit_NoPoint_OldSeat => kernel_rfl)
    (case kit_NoPoint_NoSeat => kernel_rfl)
    (case kany_NoPoint => kernel_rfl)
    (case kitv_NoPoint => kernel_rfl)
    (case mro_NoPoint => k_is)
    (case kit_NoCell_NoName => kernel_rfl)
    (case kit_NoCell_NoCell => kernel_rfl)
    (case kit_NoCell_NoSides => kernel_rfl)
    (case kit_NoCell_NoWindow => kernel_rfl)
    (case kit_NoCell_OldPoint => kernel_rfl)
    (case kit_NoCell_TooMany => kernel_rfl)
    (case kit_NoCell_SameColumn => kernel_rfl)
    (case kit_NoCell_SameRow => kernel_rfl)
    (case kit_NoCell_NoPoint => kernel_rfl)
    (case kit_NoCell_NoSide => kernel_rfl)
    (case kit_NoCell_NoRow => kernel_rfl)
    (case kit_NoCell_OldSeat => kernel_rfl)
    (case kit_NoCell_NoSeat => kernel_rfl)
    (case kany_NoCell => kernel_rfl)
    (case kitv_NoCell => kernel_rfl)
    (case mro_NoCell => k_is)
    (case kit_SameColumn_NoName => kernel_rfl)
    (case kit_SameColumn_NoCell => kernel_rfl)
    (case kit_SameColumn_NoSides => kernel_rfl)
    (case kit_SameColumn_NoWindow => kernel_rfl)
    (case kit_SameColumn_OldPoint => kernel_rfl)
    (case kit_SameColumn_TooMany => kernel_rfl)
    (case kit_SameColumn_SameColumn => kernel_rfl)
    (case kit_SameColumn_SameRow => kernel_rfl)
    (case kit_SameColumn_NoPoint => kernel_rfl)
    (case kit_SameColumn_NoSide => kernel_rfl)
    (case kit_SameColumn_NoRow => kernel_rfl)
    (case kit_SameColumn_OldSeat => kernel_rfl)
    (case kit_SameColumn_NoSeat => kernel_rfl)
    (case kany_SameColumn => kernel_rfl)
    (case kitv_SameColumn => kernel_rfl)
    (case mro_SameColumn => k_is)
    (case kit_SameRow_NoName => kernel_rfl)
    (case kit_SameRow_NoCell => kernel_rfl)
    (case kit_SameRow_NoSides => kernel_rfl)
    (case kit_SameRow_NoWindow => kernel_rfl)
    (case kit_SameRow_OldPoint => kernel_rfl)
    (case kit_SameRow_TooMany => kernel_rfl)
    (case kit_SameRow_SameColumn => kernel_rfl)
    (case kit_SameRow_SameRow => kernel_rfl)
    (case kit_SameRow_NoPoint => kernel_rfl)
    (case kit_SameRow_NoSide => kernel_rfl)
    (case kit_SameRow_NoRow => kernel_rfl)
    (case kit_SameRow_OldSeat => kernel_rfl)
    (case kit_SameRow_NoSeat => kernel_rfl)
    (case kany_SameRow => kernel_rfl)
    (case kitv_SameRow => kernel_rfl)
    (case mro_SameRow => k_is)
    (case v_MOST_ROWS => k_is)
    (case v_MOST_COLUMNS => k_is)
    (case v_MOST_POINTS => k_is)
    (case g_MIRRORED_SIDES => k_is)
    (case l_MIRRORED_SIDES => first | k_is | kernel_rfl)
    (case ns_MIRRORED_SIDES => kernel_rfl)
