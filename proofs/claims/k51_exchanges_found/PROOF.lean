import PyProof.Rows.All
import Wide.All
import OpenK.AllK
import Wide.FinOn
import Lean
import PyProof.EqAt
import PyProof.EqKinds
import PyProof.TupleCall
import PyProof.StationsW
import PyProof.ExcClass2
import PyProof.RulesAs
import PyProof.ExcBaseAll.ValueError
import OpenK.KDescr
import OpenK.KWalk
import PyProof.ExcAttrAll.ValueError
import PyProof.Comp
import PyProof.ListRange
import PyProof.DictItems
import KE.KPairComp
import KE.KDictOf
import PyProof.AttrMissHeap
import PyProof.Rows.Range3
import KE.KRevIter
import PyProof.ZipIter
import OpenK.KEqL
import PyProof.AutoListH
import PyProof.EnumMake
import PyProof.WalksEnum
import PyProof.NeKinds
import PyProof.MaxThree
import KE.KSortTup
import PyProof.StrLawsIn
import PyProof.DictValues
import PyProof.DictIter
import PyProof.Draws
import PyProof.DictWalks
import PyProof.ListNew
import PyProof.ListStr
import PySem.Challenge.RW_rimnotes_k51_exchanges_found
set_option Elab.async false
set_option linter.all false
set_option maxRecDepth 100000
set_option maxHeartbeats 4000000
set_option maxRecDepth 100000
namespace L2
open PySem PySem.Spec PyProof.Rows
variable {q0 : Bool}
abbrev Key := Sum Int Str
def keyIs : Key → Value → Bool
  | .inl k, v => Value.isInt k v
  | .inr x, v => Value.isStrOf x v
def keyH (w : World) : Key → Int
  | .inl k => hashInt k
  | .inr x => hashStr w x
theorem keyIs_shape : ∀ {k : Key} {v : Value}, keyIs k v = true → (∃ i t, k = Sum.inl i ∧ v = Value.int i t) ∨ (∃ x t, k = Sum.inr x ∧ v = Value.str x t)
  | .inl i, v, h => by
    obtain ⟨t, e⟩ := Value.isInt_shape (k := i) (v := v) h
    exact .inl ⟨i, t, rfl, e⟩
  | .inr x, v, h => by
    obtain ⟨t, e⟩ := Value.isStrOf_shape (x := x) (v := v) h
    exact .inr ⟨x, t, rfl, e⟩
theorem keyIs_int (i : Int) (t : Tok) : keyIs (.inl i) (.int i t) = true := by simp [keyIs, Value.isInt]
theorem keyIs_str (x : Str) (t : Tok) : keyIs (.inr x) (.str x t) = true := by simp [keyIs, Value.isStrOf]
theorem key_ll (a b : Int) : decide ((Sum.inl a : Key) = Sum.inl b) = (a == b) := by
  by_cases e : a = b
  · subst e; simp
  · have h : ¬ (Sum.inl a : Key) = Sum.inl b := fun q => e (Sum.inl.inj q)
    rw [decide_eq_false h]
    exact (beq_eq_false_iff_ne.mpr e).symm
theorem key_rr (a b : Str) : decide ((Sum.inr a : Key) = Sum.inr b) = decide (a = b) := by
  by_cases e : a = b
  · subst e; simp
  · have h : ¬ (Sum.inr a : Key) = Sum.inr b := fun q => e (Sum.inr.inj q)
    rw [decide_eq_false h, decide_eq_false e]
theorem key_lr (a : Int) (b : Str) : decide ((Sum.inl a : Key) = Sum.inr b) = false := decide_eq_false (fun q => nomatch q)
theorem key_rl (a : Str) (b : Int) : decide ((Sum.inr a : Key) = Sum.inl b) = false := decide_eq_false (fun q => nomatch q)
def mixKind (prog : Program) (w : World) : PySem.KeyKind prog w Key where
  is := keyIs
  hash := keyH w
  inj := fun v a b ha hb => by
    rcases keyIs_shape ha with ⟨i, t, rfl, rfl⟩ | ⟨x, t, rfl, rfl⟩
    · rcases keyIs_shape hb with ⟨j, u, rfl, e⟩ | ⟨y, u, rfl, e⟩
      · injection e with e1 _; rw [e1]
      · exact nomatch e
    · rcases keyIs_shape hb with ⟨j, u, rfl, e⟩ | ⟨y, u, rfl, e⟩
      · exact nomatch e
      · injection e with e1 _; rw [e1]
  byValue := fun k v h => by
    rcases keyIs_shape h with ⟨i, t, rfl, rfl⟩ | ⟨x, t, rfl, rfl⟩ <;> rfl
  pyHash := fun hv h => by
    rcases keyIs_shape hv with ⟨i, t, rfl, rfl⟩ | ⟨x, t, rfl, rfl⟩
    · exact wpAny_pyHash_int h
    · exact wpAny_pyHash_str h
  eqBool := fun hu hv h => by
    rcases keyIs_shape hu with ⟨i, t, rfl, rfl⟩ | ⟨x, t, rfl, rfl⟩
    · rcases keyIs_shape hv with ⟨j, u, rfl, rfl⟩ | ⟨y, u, rfl, rfl⟩
      · rw [key_ll] at h; exact wpAny_eqBool_int h
      · rw [key_lr] at h; exact SeqAt.EqAt.int_str i t y u _ _ _ _ h
    · rcases keyIs_shape hv with ⟨j, u, rfl, rfl⟩ | ⟨y, u, rfl, rfl⟩
      · rw [key_rl] at h; exact SeqAt.EqAt.str_int x t j u _ _ _ _ h
      · rw [key_rr] at h; exact wpAny_eqBool_str h
  «strs» := fun k x t v h => by
    rcases keyIs_shape h with ⟨i, u, rfl, e⟩ | ⟨y, u, rfl, e⟩
    · exact nomatch e
    · injection e with e1 _
      subst e1
      cases v <;> rfl
theorem mixKind_int (prog : Program) (w : World) (i : Int) (t : Tok) : (mixKind prog w).is (.inl i) (.int i t) = true := keyIs_int i t
theorem mixKind_str (prog : Program) (w : World) (x : Str) (t : Tok) : (mixKind prog w).is (.inr x) (.str x t) = true := keyIs_str x t
end L2
namespace L2
open PySem PySem.Spec PyProof.Rows
variable {q0 : Bool}
inductive V where
  | non | bl (b : Bool) | int (i : Int) | str (x : Str) | byt (b : Array UInt8) | flt (b : UInt64) | ref (a : Addr) | ty (n : String)
  deriving DecidableEq
def RelV : V → Value → Prop
  | .non, u => u = Value.none
  | .bl b, u => u = Value.bool b
  | .int i, u => ∃ t, u = Value.int i t
  | .str x, u => ∃ t, u = Value.str x t
  | .byt b, u => ∃ t, u = Value.bytes b t
  | .flt b, u => ∃ t, u = Value.float b t
  | .ref a, u => u = Value.ref a
  | .ty n, u => u = Value.type n
abbrev Vals : List V → List Value → Prop := Paired RelV
theorem Vals.length {xs : List V} {us : List Value} (r : Vals xs us) : xs.length = us.length := Paired.length r
theorem Vals.get : ∀ {xs : List V} {us : List Value} {i : Nat} {x : V}, Vals xs us → xs[i]? = some x → ∃ u, us[i]? = some u ∧ RelV x u
  | _, _, _, _, .nil, e => by simp at e
  | _, _, 0, _, .cons r _, e => by simp at e; subst e; exact ⟨_, rfl, r⟩
  | _, _, i + 1, x, .cons _ t, e => by
    obtain ⟨u, h1, h2⟩ := Vals.get (i := i) (x := x) t (by simpa using e)
    exact ⟨u, by simpa using h1, h2⟩
theorem Vals.set {x : V} {u : Value} (r : RelV x u) : ∀ {xs : List V} {us : List Value} (i : Nat), Vals xs us → Vals (xs.set i x) (us.set i u)
  | _, _, _, .nil => .nil
  | _, _, 0, .cons _ t => .cons r t
  | _, _, i + 1, .cons q t => .cons q (Vals.set r i t)
theorem Vals.append : ∀ {xs ys : List V} {us ws : List Value}, Vals xs us → Vals ys ws → Vals (xs ++ ys) (us ++ ws)
  | _, _, _, _, .nil, s => s
  | _, _, _, _, .cons r t, s => .cons r (Vals.append t s)
theorem Vals.take : ∀ {xs : List V} {us : List Value} (n : Nat), Vals xs us → Vals (xs.take n) (us.take n)
  | _, _, 0, _ => .nil
  | _, _, _ + 1, .nil => .nil
  | _, _, n + 1, .cons r t => .cons r (Vals.take n t)
theorem Vals.drop : ∀ {xs : List V} {us : List Value} (n : Nat), Vals xs us → Vals (xs.drop n) (us.drop n)
  | _, _, 0, r => r
  | _, _, _ + 1, .nil => .nil
  | _, _, n + 1, .cons _ t => Vals.drop n t
def RelO : Option V → Option Value → Prop
  | some v, some u => RelV v u
  | none, none => True
  | _, _ => False
def KV {κ : Type} : List (κ × V) → List (κ × Value) → Prop := Paired fun (p : κ × V) (q : κ × Value) => p.1 = q.1 ∧ RelV p.2 q.2
def kV : Key → V
  | .inl i => .int i
  | .inr x => .str x
inductive HO where
  /-- a list -/
  | lst (xs : List V)
  /-- a tuple (never changes) -/
  | tup (xs : List V)
  /-- a dict whose keys are ints and texts; one whose keys are tuples of ints and texts (the empty one is both) -/
  | dK (kvs : List (Key × V)) | dT (kvs : List (List Key × V))
  /-- a set of ints: its members, its size -/
  | set (S : Int → Bool) (n : Nat)
  /-- an instance of the class at C, its dict at dx, its attributes -/
  | ins (C dx : Addr) (fs : List (Str × V))
  /-- the dict of the instance at x -/
  | own (x : Addr)
  /-- the dict of an exception -/
  | xd (fs : List (Str × V))
  /-- a bound method, f of x -/
  | met (f x : Addr)
  /-- a range object lo, lo + 1, .. below hi -/
  | rng (lo hi : Int)
  /-- a thing that is known to the object (the script; a dict while a loop walks it): read, never written while it is so -/
  | frz (o : Obj) (u : HO)
  /-- a code object's table -/
  | tbl (ps : Array Value)
  /-- any other thing, by what is true of its one object (a def of one's own: SetO a S n := HO.ext fun h => ..) -/
  | ext (φ : Heap → Prop)
abbrev Hp := Addr → Option HO
def upd (H : Hp) (a : Addr) (o : HO) : Hp := fun b => if b = a then some o else H b
theorem upd_same {H : Hp} {a : Addr} {o : HO} : upd H a o a = some o := by unfold upd; rw [if_pos rfl]
theorem upd_ne {H : Hp} {a b : Addr} {o : HO} (h : b ≠ a) : upd H a o b = H b := by unfold upd; rw [if_neg h]
theorem upd_upd {H : Hp} {a : Addr} {o u : HO} : upd (upd H a o) a u = upd H a u := by
  funext b; unfold upd; split <;> rfl
theorem ne_of {H : Hp} {a b : Addr} {o u : HO} (h : H a = some o) (h' : H b = some u) (d : o ≠ u) : a ≠ b := by
  intro e; subst e; rw [h] at h'; exact d (Option.some.inj h')
theorem ne_of_none {H : Hp} {a b : Addr} {o : HO} (h : H a = some o) (h' : H b = none) : a ≠ b := by
  intro e; subst e; rw [h] at h'; cases h'
section
variable (P : Program) (w : World)
def ObjOk (H : Hp) (h : Heap) (a : Addr) : HO → Prop
  | .lst xs => xs.length ≤ sizeLine ∧ ∃ (its : List Value) (n : Nat), Vals xs its ∧ h.get? a = some { cls := .type "list", data := .seq its.toArray n }
  | .tup xs => xs.length ≤ sizeLine ∧ ∃ its : List Value, Vals xs its ∧ IsTup h a its.toArray
  | .dK kvs => kvs.length ≤ sizeLine ∧ (a == sysModules) = false ∧ ∃ vs, KV kvs vs ∧ h.DictOf (mixKind P w) a vs
  | .dT kvs => kvs.length ≤ sizeLine ∧ (a == sysModules) = false ∧ ∃ xs : List (List Key × Addr × Value),
      Paired (fun (p : List Key × V) (q : List Key × Addr × Value) => p.1 = q.1 ∧ H q.2.1 = some (.tup (p.1.map kV)) ∧ RelV p.2 q.2.2) kvs xs ∧
      ∃ o es ep, h.get? a = some o ∧ o.ExactDict ∧ o.data = .dict es ep ∧ es.toList = xs.map (entryOfKey (tupleKind (mixKind P w))) ∧ (xs.map (·.1)).Nodup
  | .set S n => h.SetOf (intKind P w) a S n
  | .ins C dx fs => H dx = some (.own a) ∧ fs.length ≤ 1000 ∧ dx ≠ a ∧ h.get? a = some (PySem.W.instObj C dx) ∧
      ∃ mA, h.Ns1 dx mA ∧ (∀ f, RelO (fs.lookup f) (mA f)) ∧ PySem.Within mA (fs.map (·.1))
  | .own _ => ∃ o, h.get? a = some o
  | .xd fs => ∃ mA, h.Ns1 a mA ∧ ∀ f, RelO (fs.lookup f) (mA f)
  | .rng lo hi => ∃ t u v, h.get? a = some { cls := .type "range", data := .fields #[.int lo t, .int hi u, .int 1 v] }
  | .frz o u => h.get? a = some o ∧ ObjOk H h a u
  | .tbl ps => h.get? a = some { cls := .none, data := .fields ps }
  | .met f x => h.get? a = some (PySem.W.methodObj (.ref f) (.ref x))
  | .ext φ => φ h ∧ (∃ o, h.get? a = some o) ∧ ∀ h1 h2 : Heap, φ h1 → (∀ o, h1.get? a = some o → h2.get? a = some o) → φ h2
def HOk (H : Hp) (h : Heap) : Prop := ∀ a o, H a = some o → ObjOk P w H h a o
end
section
variable {P : Program} {w : World} {H H' : Hp} {h h' : Heap} {a : Addr} {o : HO}
theorem ObjOk.lt (x : ObjOk P w H h a o) : a < h.objs.size := by
  cases o with
  | lst xs => obtain ⟨_, _, _, _, e⟩ := x; exact Heap.lt_size e
  | tup xs => obtain ⟨_, _, _, p⟩ := x; exact p.lt
  | dK kvs => obtain ⟨_, _, _, _, o, _, _, e, _⟩ := x; exact Heap.lt_size e
  | dT kvs => obtain ⟨_, _, _, _, o, _, _, e, _⟩ := x; exact Heap.lt_size e
  | set S n => obtain ⟨o, _, _, _, e, _⟩ := x; exact Heap.lt_size e
  | ins C dx fs => obtain ⟨_, _, _, e, _⟩ := x; exact Heap.lt_size e
  | own y => obtain ⟨_, e⟩ := x; exact Heap.lt_size e
  | xd fs => obtain ⟨_, ⟨_, _, _, e, _⟩, _⟩ := x; exact Heap.lt_size e
  | rng lo hi => obtain ⟨_, _, _, e⟩ := x; exact Heap.lt_size e
  | frz ob u => obtain ⟨e, _⟩ := x; exact Heap.lt_size e
  | tbl ps => exact Heap.lt_size (show h.get? a = some _ from x)
  | met f y => exact Heap.lt_size (show h.get? a = some _ from x)
  | ext φ => obtain ⟨_, ⟨_, e⟩, _⟩ := x; exact Heap.lt_size e
theorem Paired.mapP {α β : Type} {F G : α → β → Prop} : ∀ {l₁ : List α} {l₂ : List β}, Paired F l₁ l₂ → (∀ a b, F a b → G a b) → Paired G l₁ l₂
  | _, _, .nil, _ => .nil
  | _, _, .cons r t, f => .cons (f _ _ r) (Paired.mapP t f)
theorem ObjOk.stay (x : ObjOk P w H h a o) (k : ∀ b u, (b = a ∨ H b = some (.own a)) → h.get? b = some u → h'.get? b = some u)
    (ho : ∀ b, H b = some (.own a) → H' b = some (.own a)) (ht : ∀ b xs, H b = some (.tup xs) → H' b = some (.tup xs)) : ObjOk P w H' h' a o := by
  induction o with
  | lst xs => obtain ⟨z, its, n, r, e⟩ := x; exact ⟨z, its, n, r, k _ _ (.inl rfl) e⟩
  | tup xs => obtain ⟨z, its, r, ob, e, c⟩ := x; exact ⟨z, its, r, ob, k _ _ (.inl rfl) e, c⟩
  | dK kvs => obtain ⟨z, y, vs, r, ob, es, ep, e, c⟩ := x; exact ⟨z, y, vs, r, ob, es, ep, k _ _ (.inl rfl) e, c⟩
  | dT kvs =>
    obtain ⟨z, y, xs, r, ob, es, ep, e, c⟩ := x
    exact ⟨z, y, xs, Paired.mapP r fun p q z => ⟨z.1, ht _ _ z.2.1, z.2.2⟩, ob, es, ep, k _ _ (.inl rfl) e, c⟩
  | set S n => obtain ⟨ob, es, ep, t, e, c⟩ := x; exact ⟨ob, es, ep, t, k _ _ (.inl rfl) e, c⟩
  | ins C dx fs =>
    obtain ⟨d, z, ne, e, mA, ⟨od, es, ep, e2, c⟩, r⟩ := x
    exact ⟨ho _ d, z, ne, k _ _ (.inl rfl) e, mA, ⟨od, es, ep, k _ _ (.inr d) e2, c⟩, r⟩
  | own y => obtain ⟨ob, e⟩ := x; exact ⟨ob, k _ _ (.inl rfl) e⟩
  | xd fs => obtain ⟨mA, ⟨od, es, ep, e, c⟩, r⟩ := x; exact ⟨mA, ⟨od, es, ep, k _ _ (.inl rfl) e, c⟩, r⟩
  | rng lo hi => obtain ⟨t, u, v, e⟩ := x; exact ⟨t, u, v, k _ _ (.inl rfl) e⟩
  | frz ob u ih => obtain ⟨e, q⟩ := x; exact ⟨k _ _ (.inl rfl) e, ih q⟩
  | tbl ps =>
    have e : h.get? a = some { cls := .none, data := .fields ps } := x
    show h'.get? a = some { cls := .none, data := .fields ps }
    exact k a _ (.inl rfl) e
  | met f y =>
    have e : h.get? a = some (PySem.W.methodObj (.ref f) (.ref y)) := x
    show h'.get? a = some (PySem.W.methodObj (.ref f) (.ref y))
    exact k a _ (.inl rfl) e
  | ext φ => obtain ⟨p, ⟨o, e⟩, st⟩ := x; exact ⟨st _ _ p fun o q => k _ _ (.inl rfl) q, ⟨o, k _ _ (.inl rfl) e⟩, st⟩
theorem HOk.lt (x : HOk P w H h) (e : H a = some o) : a < h.objs.size := (x a o e).lt
theorem HOk.fresh (x : HOk P w H h) (e : h.objs.size ≤ a) : H a = none := by
  cases q : H a with
  | none => rfl
  | some u => exact absurd (Nat.lt_of_lt_of_le (x.lt q) e) (Nat.lt_irrefl _)
theorem HOk.kept (x : HOk P w H h) (k : ∀ b u, h.get? b = some u → h'.get? b = some u) : HOk P w H h' := fun a o e =>
  (x a o e).stay (fun b u _ q => k b u q) (fun _ q => q) fun _ _ q => q
theorem HOk.laid (x : HOk P w H h) (k : ∀ b u, h.get? b = some u → h'.get? b = some u) (hp : h.objs.size ≤ a) (new : ObjOk P w (upd H a o) h' a o) : HOk P w (upd H a o) h' := fun b u e => by
  have hn := x.fresh hp
  by_cases hb : b = a
  · subst hb; rw [upd_same] at e; cases e; exact new
  · rw [upd_ne hb] at e
    exact (x b u e).stay (fun c v _ q => k c v q) (fun c q => by rw [upd_ne (ne_of_none q hn)]; exact q) fun c xs q => by rw [upd_ne (ne_of_none q hn)]; exact q
end
def Rd (H : Hp) (a : Addr) (u : HO) : Prop := H a = some u ∨ ∃ o, H a = some (.frz o u)
theorem Rd.ok {P : Program} {w : World} {H : Hp} {h : Heap} {a : Addr} {u : HO} (r : Rd H a u) (x : HOk P w H h) : ObjOk P w H h a u := by
  rcases r with r | ⟨o, r⟩
  · exact x a u r
  · obtain ⟨_, q⟩ := x a _ r
    exact q
def Mut : Option HO → Prop
  | some (.lst _) => True
  | some (.dK _) => True
  | some (.dT _) => True
  | some (.set _ _) => True
  | some (.ins _ _ _) => True
  | some (.ext _) => True
  | _ => False
section
variable {P : Program} {w : World} {H : Hp} {h h' : Heap} {x e : Addr} {o' : HO}
theorem HOk.write (ok : HOk P w H h) (mu : Mut (H x)) (he : e = x ∨ H e = some (.own x)) (k : ∀ b u, b ≠ e → h.get? b = some u → h'.get? b = some u) (heo : ∃ u, h'.get? e = some u)
    (new : ObjOk P w (upd H x o') h' x o') : HOk P w (upd H x o') h' := fun b u q => by
  have nown : ∀ c y, H c = some (.own y) → c ≠ x := fun c y r z => by subst z; rw [r] at mu; exact mu
  have ntup : ∀ c xs, H c = some (.tup xs) → c ≠ x := fun c xs r z => by subst z; rw [r] at mu; exact mu
  by_cases hb : b = x
  · subst hb; rw [upd_same] at q; cases q; exact new
  · rw [upd_ne hb] at q
    by_cases hbe : b = e
    · have q' : H b = some (.own x) := by
        rcases he with z | z
        · exact absurd (hbe.trans z) hb
        · rw [hbe]; exact z
      rw [q] at q'; cases q'
      obtain ⟨v, hv⟩ := heo
      exact ⟨v, by rw [hbe]; exact hv⟩
    · refine (ok b u q).stay (fun c v hc r => k c v ?_ r) (fun c r => by rw [upd_ne (nown c b r)]; exact r) fun c xs r => by rw [upd_ne (ntup c xs r)]; exact r
      rcases hc with rfl | hc
      · exact hbe
      · rintro rfl
        rcases he with z | z
        · exact nown c b hc z
        · rw [hc] at z; cases z; exact hb rfl
end
structure Un (fs ex : List Addr) (H H' : Hp) (h h' : Heap) : Prop where
  keep : ∀ b o, h.get? b = some o → H b = none → b ∉ fs → b ∉ ex → h'.get? b = some o
  slot : ∀ b o, h.get? b = some o → H b = none → b ∈ fs → b ∉ ex → ∃ sl, h'.get? b = some { o with slots := sl }
  free : ∀ b o, h.get? b = some o → H b = none → b ∉ ex → H' b = none
  there : ∀ b o, h.get? b = some o → b ∉ ex → ∃ o', h'.get? b = some o'
  tups : ∀ b xs, H b = some (.tup xs) → H' b = some (.tup xs)
  frzs : ∀ b o u, H b = some (.frz o u) → H' b = some (.frz o u)
  tbls : ∀ b ps, H b = some (.tbl ps) → ∃ more, H' b = some (.tbl (ps ++ more))
section
variable {fs fs' ex ex' : List Addr} {H H1 H2 : Hp} {h h1 h2 h' : Heap} {a x e : Addr} {o : HO}
theorem Un.any (u : Un fs ex H H1 h h1) {b : Addr} {ob : Obj} (q : h.get? b = some ob) (n : H b = none) (hx : b ∉ ex) : ∃ sl, h1.get? b = some { ob with slots := sl } := by
  by_cases hb : b ∈ fs
  · exact u.slot b ob q n hb hx
  · exact ⟨ob.slots, u.keep b ob q n hb hx⟩
theorem Un.kept (k : ∀ b u, h.get? b = some u → h'.get? b = some u) : Un fs ex H H h h' :=
  ⟨fun b ob q _ _ _ => k b ob q, fun b ob q _ _ _ => ⟨ob.slots, k b ob q⟩, fun _ _ _ n _ => n, fun b ob q _ => ⟨ob, k b ob q⟩, fun _ _ q => q, fun _ _ _ q => q, fun _ ps q => ⟨#[], by rw [q]; simp⟩⟩
theorem Un.refl : Un fs ex H H h h := Un.kept fun _ _ q => q
theorem Un.laid (k : ∀ b u, h.get? b = some u → h'.get? b = some u) (hp : h.objs.size ≤ a) (hn : H a = none) : Un fs ex H (upd H a o) h h' where
  keep := fun b u q _ _ _ => k b u q
  slot := fun b u q _ _ _ => ⟨u.slots, k b u q⟩
  free := fun b u q n _ => by rw [upd_ne (Nat.ne_of_lt (Nat.lt_of_lt_of_le (Heap.lt_size q) hp))]; exact n
  there := fun b u q _ => ⟨u, k b u q⟩
  tups := fun b xs q => by rw [upd_ne (ne_of_none q hn)]; exact q
  frzs := fun b u xs q => by rw [upd_ne (ne_of_none q hn)]; exact q
  tbls := fun b ps q => ⟨#[], by rw [upd_ne (ne_of_none q hn), q]; simp⟩
theorem Un.write (mu : Mut (H x)) (he : e = x ∨ H e = some (.own x)) (k : ∀ b u, b ≠ e → h.get? b = some u → h'.get? b = some u) (heo : ∃ u, h'.get? e = some u) : Un fs ex H (upd H x o) h h' := by
  have hx : ∀ b, H b = none → b ≠ x := fun b n z => by subst z; rw [n] at mu; exact mu
  have hb : ∀ b, H b = none → b ≠ e := fun b n z => by
    subst z
    rcases he with r | r
    · exact hx b n r
    · rw [n] at r; cases r
  have hm : ∀ b u, H b = some u → ¬ Mut (some u) → b ≠ x := fun b u q nm z => by subst z; rw [q] at mu; exact nm mu
  refine ⟨fun b u q n _ _ => k b u (hb b n) q, fun b u q n _ _ => ⟨u.slots, k b u (hb b n) q⟩, fun b u q n _ => by rw [upd_ne (hx b n)]; exact n, fun b u q _ => ?_,
    fun b xs q => by rw [upd_ne (hm b _ q fun z => z)]; exact q, fun b u xs q => by rw [upd_ne (hm b _ q fun z => z)]; exact q, fun b ps q => ⟨#[], by rw [upd_ne (hm b _ q fun z => z), q]; simp⟩⟩
  by_cases hbe : b = e
  · subst hbe; exact heo
  · exact ⟨u, k b u hbe q⟩
end
def trk (h : Heap) (H : Hp) : List Addr := (List.range h.objs.size).filter fun a => (H a).isSome
def hidT (h : Heap) (H : Hp) : Heap := PySem.W.hideAll h (trk h H)
theorem hidT_size (h : Heap) (H : Hp) : (hidT h H).objs.size = h.objs.size := PySem.W.hideAll_size _ _
theorem hidT_get {h : Heap} {H : Hp} {b : Addr} {o : Obj} (e : h.get? b = some o) (n : H b = none) : (hidT h H).get? b = some o :=
  PySem.W.hideAll_get _ e fun hm => by
    have q : (H b).isSome = true := (List.mem_filter.mp hm).2
    rw [n] at q; simp at q
theorem of_hidT {h : Heap} {H : Hp} {b : Addr} {o : Obj} (e : (hidT h H).get? b = some o) : h.get? b = some o ∧ H b = none := by
  have e' : h.get? b = some o := PySem.W.of_hideAll (trk h H) e
  refine ⟨e', ?_⟩
  cases q : H b with
  | none => rfl
  | some x =>
    have hm : b ∈ trk h H := List.mem_filter.mpr ⟨List.mem_range.mpr (Heap.lt_size e'), by simp [q]⟩
    have z : (hidT h H).get? b = none := PySem.W.hideAll_none (trk h H) hm
    rw [z] at e; cases e
def allNews (g h : Heap) (L : Addr) : List (Addr × Obj) := (List.range h.objs.size).filterMap fun a => if a = L ∨ (g.get? a).isSome = true then none else (h.get? a).map fun o => (a, o)
def rest (g h : Heap) (L d : Addr) : List (Addr × Obj) := (allNews g h L).filter fun p => decide (p.1 ≠ d)
end L2
namespace L2
open PySem PySem.Spec PyProof.Rows
variable {q0 : Bool}
structure Mod (K : PySem.W.Frag) (mg : Str → Option Value) (base : Heap) : Prop where
  kin : K.In base
  glob : base.Ns mainGlobals mg
  blt : ∃ mb, base.Ns builtinsNs mb ∧ ∀ x : Str, x ≠ "__name__" → mb x = bootBuiltins x
  nolimit : base.NoLimit
structure Cx where
  prog : Program
  w : World
  K : PySem.W.Frag
  mg : Str → Option Value
  base : Heap
  A : Around
  N : List Str
  s₀ : Shared
  H₀ : Hp
  env : Env
  outer : List Env
  stack : List Env
  ex : List Addr
  fn : Str → Bool
  calm : Bool
  pn : List (Addr × Obj)
  xe : Value → Shared → Prop
def frs (l : List Env) : List Addr := l.filterMap (·.frame)
abbrev Cx.fs (X : Cx) : List Addr := frs X.outer
def Vis (sc : Scope) (x : Str) : Prop := sc.names.lookup x = some .local ∨ sc.names.lookup x = some .cell ∨ sc.names.lookup x = some .free
def Loc (sc : Scope) (x : Str) : Prop := sc.names.lookup x = some .local ∨ sc.names.lookup x = some .cell
def Look (env : Env) (h : Heap) (m : Str → Option Value) (x : Str) (u : Value) : Prop :=
  (env.kindOf x = some .local ∧ m x = some u) ∨ ((env.kindOf x = some .cell ∨ env.kindOf x = some .free) ∧ ∃ c, env.cells.lookup x = some c ∧ h.IsCell c (some u))
structure Cx.Ok (X : Cx) : Prop where
  mod : Mod X.K X.mg X.base
  kind : X.env.scope.kind = .function
  glob : X.env.globals = mainGlobals
  blt : X.env.builtins = builtinsNs
  above : X.s₀.heap.objs.size ≤ X.env.locals
  inj : ∀ x y c, X.env.cells.lookup x = some c → X.env.cells.lookup y = some c → x = y
  has : ∀ x, (X.env.kindOf x = some .cell ∨ X.env.kindOf x = some .free) → ∃ c, X.env.cells.lookup x = some c
  cab : ∀ x c, X.fn x = true → X.env.cells.lookup x = some c → X.s₀.heap.objs.size ≤ c
  hd : X.calm = true → X.A.handled = none
  frames : X.A.frames = some X.stack
  stk : X.stack = X.outer ∨ (X.stack = X.env :: X.outer ∧ X.env.frame = some X.env.locals)
  exf : ∀ b ∈ X.ex, b ≠ X.env.locals ∧ ∀ x c, X.env.cells.lookup x = some c → c ≠ b
  bs : ∀ b o, X.base.get? b = some o → X.s₀.heap.get? b = some o ∧ X.H₀ b = none
  bsz : X.base.objs.size ≤ X.s₀.heap.objs.size
  noex : ∀ b o, X.base.get? b = some o → b ∉ X.ex
  exfs : ∀ b ∈ X.ex, b ∉ X.fs
  funs : X.s₀.heap.FunFrames X.base X.outer
  frf : ∀ b ∈ X.fs, X.H₀ b = none
structure Inv (X : Cx) (pins : List (Addr × Obj)) (σ : List (Option V)) (H : Hp) (s : Shared) : Prop where
  ok : X.Ok
  os : s.os = X.s₀.os
  bare : AllBare s.gens
  base : Un X.fs X.ex X.H₀ H X.s₀.heap s.heap
  loc : ∃ m, s.heap.Ns X.env.locals m ∧ ∀ (i : Nat) (x : Str) (v : V), X.N[i]? = some x → σ[i]? = some (some v) → Vis X.env.scope x → ∃ u, RelV v u ∧ Look X.env s.heap m x u
  cell : ∀ x c, X.env.cells.lookup x = some c → ∃ v, s.heap.IsCell c v
  free : H X.env.locals = none
  freeC : ∀ x c, X.env.cells.lookup x = some c → H c = none
  pin : ∀ p ∈ X.pn ++ pins, s.heap.get? p.1 = some p.2 ∧ H p.1 = none ∧ p.1 ≠ X.env.locals ∧ p.1 ∉ X.fs ∧ ∀ v, p.2.data ≠ .cell v
  hok : HOk X.prog X.w H s.heap
  len : σ.length = X.N.length
section
variable {X : Cx} {pins : List (Addr × Obj)} {σ : List (Option V)} {H H' : Hp} {s : Shared} {h' : Heap}
theorem Cx.Ok.nofr (ok : X.Ok) {b : Addr} {o : Obj} (e : X.base.get? b = some o) : b ∉ X.fs := fun hb => by
  have := (ok.funs.mem hb).1
  rw [e] at this; cases this
theorem Inv.bs (I : Inv X pins σ H s) : ∀ b o, X.base.get? b = some o → s.heap.get? b = some o ∧ H b = none := fun b o e =>
  ⟨I.base.keep b o (I.ok.bs b o e).1 (I.ok.bs b o e).2 (I.ok.nofr e) (I.ok.noex b o e), I.base.free b o (I.ok.bs b o e).1 (I.ok.bs b o e).2 (I.ok.noex b o e)⟩
theorem Inv.bk (I : Inv X pins σ H s) : ∀ b o, X.base.get? b = some o → s.heap.get? b = some o := fun b o e => (I.bs b o e).1
theorem Inv.mod (I : Inv X pins σ H s) : Mod X.K X.mg X.base := I.ok.mod
theorem Inv.kIn (I : Inv X pins σ H s) : X.K.In s.heap := I.ok.mod.kin.keeps I.bk
theorem Inv.fr (I : Inv X pins σ H s) : ∃ m, Fr X.base X.env.locals s.heap m :=
  let ⟨m, hn, _⟩ := I.loc
  ⟨m, hn, I.bk, Nat.le_trans I.ok.bsz I.ok.above⟩
theorem Inv.lt (I : Inv X pins σ H s) : X.env.locals < s.heap.objs.size := let ⟨_, hn, _⟩ := I.loc; hn.lt
theorem Inv.sz (I : Inv X pins σ H s) : X.s₀.heap.objs.size ≤ s.heap.objs.size := Nat.le_trans I.ok.above (Nat.le_of_lt I.lt)
theorem Inv.nofs (I : Inv X pins σ H s) {a : Addr} (h : s.heap.objs.size ≤ a) : a ∉ X.fs := fun hb => by
  obtain ⟨_, o, ho, _⟩ := I.ok.funs.mem hb
  exact absurd (Nat.lt_of_lt_of_le (Heap.lt_size ho) (Nat.le_trans I.sz h)) (Nat.lt_irrefl _)
theorem Inv.cne (I : Inv X pins σ H s) : ∀ x c, X.env.cells.lookup x = some c → c ≠ X.env.locals := fun x c e z => by
  obtain ⟨v, o, ho, hd⟩ := I.cell x c e
  obtain ⟨m, ⟨o', es, ep, ho', hd', _⟩, _⟩ := I.loc
  rw [z, ho'] at ho; cases ho; rw [hd'] at hd; cases hd
theorem Inv.funs (I : Inv X pins σ H s) : s.heap.FunFrames X.base X.outer := by
  have all : ∀ (l : List Env), (∀ b ∈ frs l, b ∈ X.fs) → X.s₀.heap.FunFrames X.base l → s.heap.FunFrames X.base l := by
    intro l
    induction l with
    | nil => intro _ _; trivial
    | cons env r ih =>
      intro hs hl
      obtain ⟨hk, ⟨L, o, hf, hn, ho, hd⟩, hr⟩ := hl
      have hL : L ∈ X.fs := hs L (by unfold frs; rw [List.filterMap_cons, hf]; exact List.mem_cons_self)
      obtain ⟨sl, e⟩ := I.base.slot L o ho (I.ok.frf L hL) hL fun z => I.ok.exfs L z hL
      exact ⟨hk, ⟨L, _, hf, hn, e, hd⟩, ih (fun b hb => hs b (by unfold frs; rw [List.filterMap_cons, hf]; exact List.mem_cons_of_mem _ hb)) hr⟩
  exact all X.outer (fun _ hb => hb) I.ok.funs
theorem Inv.stack (I : Inv X pins σ H s) : s.heap.FunFrames X.base X.stack := by
  rcases I.ok.stk with e | ⟨e, hf⟩
  · rw [e]; exact I.funs
  · rw [e]
    obtain ⟨m, hn, _⟩ := I.loc
    refine .cons (by rw [I.ok.kind]; decide) hf hn ?_ I.funs
    exact Heap.get?_none_of_le (Nat.le_trans I.ok.bsz I.ok.above)
theorem Inv.stkSub (I : Inv X pins σ H s) : ∀ b ∈ frs X.stack, b ∈ X.env.locals :: X.fs := fun b hb => by
  rcases I.ok.stk with e | ⟨e, hf⟩
  · rw [e] at hb; exact List.mem_cons_of_mem _ hb
  · rw [e] at hb
    unfold frs at hb
    rw [List.filterMap_cons, hf] at hb
    exact hb
theorem Inv.stkFree (I : Inv X pins σ H s) : ∀ b ∈ frs X.stack, H b = none := fun b hb => by
  rcases List.mem_cons.mp (I.stkSub b hb) with e | hb
  · rw [e]; exact I.free
  · obtain ⟨_, o, ho, _⟩ := I.ok.funs.mem hb
    exact I.base.free b o ho (I.ok.frf b hb) fun z => I.ok.exfs b z hb
theorem Inv.step {g' : Array GenState} {t' : Nat} {d' : Drawn} {ch : List Addr} (I : Inv X pins σ H s)
    (hch : ∀ b ∈ ch, (b ∈ X.ex ∨ X.s₀.heap.objs.size ≤ b) ∧ b ≠ X.env.locals ∧ (∀ x c, X.env.cells.lookup x = some c → c ≠ b) ∧ ∀ p ∈ X.pn ++ pins, p.1 ≠ b)
    (keep : ∀ b o, b ≠ X.env.locals → b ∉ X.fs → b ∉ ch → s.heap.get? b = some o → H b = none → h'.get? b = some o)
    (slot : ∀ b o, b ≠ X.env.locals → b ∈ X.fs → b ∉ ch → s.heap.get? b = some o → H b = none → ∃ sl, h'.get? b = some { o with slots := sl }) (free : ∀ b o, b ∉ ch → s.heap.get? b = some o → H b = none → H' b = none)
    (there : ∀ b o, b ∉ ch → s.heap.get? b = some o → ∃ o', h'.get? b = some o')
    (tups : ∀ b xs, H b = some (.tup xs) → H' b = some (.tup xs)) (frzs : ∀ b o u, H b = some (.frz o u) → H' b = some (.frz o u)) (tbls : ∀ b ps, H b = some (.tbl ps) → ∃ more, H' b = some (.tbl (ps ++ more)))
    (ns : ∀ m, s.heap.Ns X.env.locals m → h'.Ns X.env.locals m) (hok : HOk X.prog X.w H' h') (hg : AllBare g') :
    Inv X pins σ H' { s with heap := h', gens := g', drawn := d', toks := t' } := by
  have neL : ∀ b o, X.s₀.heap.get? b = some o → b ≠ X.env.locals := fun b o e => Nat.ne_of_lt (Nat.lt_of_lt_of_le (Heap.lt_size e) I.ok.above)
  have neC : ∀ b o, X.s₀.heap.get? b = some o → b ∉ X.ex → b ∉ ch := fun b o e hx hb => by
    rcases (hch b hb).1 with z | z
    · exact hx z
    · exact absurd (Nat.lt_of_lt_of_le (Heap.lt_size e) z) (Nat.lt_irrefl _)
  have cellK : ∀ x c, X.env.cells.lookup x = some c → ∀ v, s.heap.IsCell c v → h'.IsCell c v := fun x c e v ⟨o, ho, hd⟩ => by
    have nch : c ∉ ch := fun z => (hch c z).2.2.1 x c e rfl
    by_cases hc : c ∈ X.fs
    · obtain ⟨sl, q⟩ := slot c o (I.cne x c e) hc nch ho (I.freeC x c e)
      exact ⟨_, q, hd⟩
    · exact ⟨o, keep c o (I.cne x c e) hc nch ho (I.freeC x c e), hd⟩
  refine ⟨I.ok, I.os, hg, ⟨fun b o e n hb hx => ?_, fun b o e n hb hx => ?_, fun b o e n hx => ?_, fun b o e hx => ?_, fun b xs e => tups b xs (I.base.tups b xs e), fun b o xs e => frzs b o xs (I.base.frzs b o xs e), fun b ps e => ?_⟩, ?_, fun x c e => ?_, ?_, fun x c e => ?_, fun p hp => ?_, hok, I.len⟩
  · exact keep b o (neL b o e) hb (neC b o e hx) (I.base.keep b o e n hb hx) (I.base.free b o e n hx)
  · obtain ⟨sl, e1⟩ := I.base.slot b o e n hb hx
    obtain ⟨sl', e2⟩ := slot b _ (neL b o e) hb (neC b o e hx) e1 (I.base.free b o e n hx)
    exact ⟨sl', e2⟩
  · obtain ⟨o', e1⟩ := I.base.there b o e hx
    exact free b o' (neC b o e hx) e1 (I.base.free b o e n hx)
  · obtain ⟨o', e1⟩ := I.base.there b o e hx
    exact there b o' (neC b o e hx) e1
  · obtain ⟨m1, e1⟩ := I.base.tbls b ps e
    obtain ⟨m2, e2⟩ := tbls b _ e1
    exact ⟨m1 ++ m2, by rw [e2, Array.append_assoc]⟩
  · obtain ⟨m, hn, hl⟩ := I.loc
    refine ⟨m, ns m hn, fun i x v e1 e2 e3 => ?_⟩
    obtain ⟨u, r, l⟩ := hl i x v e1 e2 e3
    refine ⟨u, r, ?_⟩
    rcases l with l | ⟨k, c, e, z⟩
    · exact .inl l
    · exact .inr ⟨k, c, e, cellK x c e _ z⟩
  · obtain ⟨v, z⟩ := I.cell x c e
    exact ⟨v, cellK x c e v z⟩
  · obtain ⟨m, ⟨o, _, _, ho, _⟩, _⟩ := I.loc
    exact free _ o (fun z => (hch _ z).2.1 rfl) ho I.free
  · obtain ⟨v, o, ho, hd⟩ := I.cell x c e
    exact free c o (fun z => (hch c z).2.2.1 x c e rfl) ho (I.freeC x c e)
  · obtain ⟨e, n, ne, nf, d⟩ := I.pin p hp
    have nch : p.1 ∉ ch := fun z => (hch p.1 z).2.2.2 p hp rfl
    exact ⟨keep p.1 p.2 ne nf nch e n, free p.1 p.2 nch e n, ne, nf, d⟩
theorem Inv.un {t' : Nat} (I : Inv X pins σ H s) (u : Un X.fs [] H H' s.heap h') (hok : HOk X.prog X.w H' h') : Inv X pins σ H' { s with heap := h', toks := t' } := by
  obtain ⟨m, ⟨o, es, ep, ho, r⟩, _⟩ := id I.loc
  obtain ⟨sl, hL⟩ := u.any ho I.free (by simp)
  exact I.step (g' := s.gens) (d' := s.drawn) (ch := []) (fun _ z => nomatch z) (fun b o _ hb _ e n => u.keep b o e n hb (by simp)) (fun b o _ hb _ e n => u.slot b o e n hb (by simp)) (fun b o _ e n => u.free b o e n (by simp)) (fun b o _ e => u.there b o e (by simp)) u.tups u.frzs u.tbls (fun m' hm => by
    obtain ⟨o', es', ep', ho', r'⟩ := hm
    rw [ho] at ho'; cases ho'
    exact ⟨_, es', ep', hL, r'⟩) hok I.bare
theorem Inv.call {g' : Array GenState} {t' : Nat} {d' : Drawn} {ch : List Addr} (I : Inv X pins σ H s) (u : Un (frs X.stack) ch H H' s.heap h') (hok : HOk X.prog X.w H' h') (hg : AllBare g')
    (hch : ∀ b ∈ ch, (b ∈ X.ex ∨ X.s₀.heap.objs.size ≤ b) ∧ b ≠ X.env.locals ∧ (∀ x c, X.env.cells.lookup x = some c → c ≠ b) ∧ ∀ p ∈ X.pn ++ pins, p.1 ≠ b) :
    Inv X pins σ H' { s with heap := h', gens := g', drawn := d', toks := t' } := by
  obtain ⟨m, ⟨o, es, ep, ho, r⟩, _⟩ := id I.loc
  obtain ⟨sl, hL⟩ := u.any ho I.free fun z => (hch _ z).2.1 rfl
  exact I.step (ch := ch) hch (fun b o hL hb hc e n => u.keep b o e n (fun z => (List.mem_cons.mp (I.stkSub b z)).elim hL hb) hc) (fun b o _ _ hc e n => u.any e n hc) (fun b o hc e n => u.free b o e n hc) (fun b o hc e => u.there b o e hc) u.tups u.frzs u.tbls (fun m' hm => by
    obtain ⟨o', es', ep', ho', r'⟩ := hm
    rw [ho] at ho'; cases ho'
    exact ⟨_, es', ep', hL, r'⟩) hok hg
theorem Inv.turned {t' : Nat} {it : Addr} (I : Inv X pins σ H s) (k : ∀ b o, b ≠ it → s.heap.get? b = some o → h'.get? b = some o) (hn : H it = none) (hL : it ≠ X.env.locals)
    (h1 : it ∈ X.ex ∨ X.s₀.heap.objs.size ≤ it) (h2 : ∀ x c, X.env.cells.lookup x = some c → c ≠ it) (h3 : ∀ p ∈ X.pn ++ pins, p.1 ≠ it) : Inv X pins σ H { s with heap := h', toks := t' } := by
  have nit : ∀ b u, H b = some u → b ≠ it := fun b u e z => by rw [z, hn] at e; cases e
  refine I.step (g' := s.gens) (d' := s.drawn) (ch := [it]) (fun b hb => ?_) (fun b o _ _ hc e _ => k b o (fun z => hc (by simp [z])) e) (fun b o _ _ hc e _ => ⟨o.slots, k b o (fun z => hc (by simp [z])) e⟩) (fun _ _ _ _ n => n)
    (fun b o hc e => ⟨o, k b o (fun z => hc (by simp [z])) e⟩) (fun _ _ e => e) (fun _ _ _ e => e) (fun b ps e => ⟨#[], by rw [e]; simp⟩) (fun m hm => ?_) (fun b u e => ?_) I.bare
  · have e : b = it := by simpa using hb
    subst e
    exact ⟨h1, hL, h2, h3⟩
  · obtain ⟨o, es, ep, ho, r⟩ := hm
    exact ⟨o, es, ep, k _ o (Ne.symm hL) ho, r⟩
  · refine (I.hok b u e).stay (fun c v hc q => k c v ?_ q) (fun _ q => q) fun _ _ q => q
    rcases hc with z | z
    · rw [z]; exact nit b u e
    · exact nit c _ z
theorem Inv.tok (I : Inv X pins σ H s) (t : Nat) : Inv X pins σ H { s with toks := t } := I.un (h' := s.heap) (t' := t) Un.refl I.hok
theorem Inv.kept {t' : Nat} (I : Inv X pins σ H s) (k : ∀ b u, s.heap.get? b = some u → h'.get? b = some u) : Inv X pins σ H { s with heap := h', toks := t' } := I.un (Un.kept k) (I.hok.kept k)
theorem Inv.laid {a : Addr} {o : HO} {t' : Nat} (I : Inv X pins σ H s) (k : ∀ b u, s.heap.get? b = some u → h'.get? b = some u) (hp : s.heap.objs.size ≤ a) (new : ObjOk X.prog X.w (upd H a o) h' a o) :
    Inv X pins σ (upd H a o) { s with heap := h', toks := t' } := I.un (Un.laid k hp (I.hok.fresh hp)) (I.hok.laid k hp new)
theorem Inv.write {x e : Addr} {o : HO} {t' : Nat} (I : Inv X pins σ H s) (mu : Mut (H x)) (he : e = x ∨ H e = some (.own x)) (k : ∀ b u, b ≠ e → s.heap.get? b = some u → h'.get? b = some u) (heo : ∃ u, h'.get? e = some u)
    (new : ObjOk X.prog X.w (upd H x o) h' x o) : Inv X pins σ (upd H x o) { s with heap := h', toks := t' } := I.un (Un.write mu he k heo) (I.hok.write mu he k heo new)
theorem Inv.weak {σ' : List (Option V)} (I : Inv X pins σ H s) (hl : σ'.length = σ.length) (w : ∀ (i : Nat) v, σ'[i]? = some (some v) → σ[i]? = some (some v)) : Inv X pins σ' H s :=
  ⟨I.ok, I.os, I.bare, I.base, let ⟨m, hn, hl'⟩ := I.loc; ⟨m, hn, fun i x v e1 e2 e3 => hl' i x v e1 (w i v e2) e3⟩, I.cell, I.free, I.freeC, I.pin, I.hok, hl.trans I.len⟩
theorem Inv.pins_of {pins' : List (Addr × Obj)} (I : Inv X pins σ H s) (h : ∀ p ∈ pins', s.heap.get? p.1 = some p.2 ∧ H p.1 = none ∧ p.1 ≠ X.env.locals ∧ p.1 ∉ X.fs ∧ ∀ v, p.2.data ≠ .cell v) : Inv X pins' σ H s :=
  ⟨I.ok, I.os, I.bare, I.base, I.loc, I.cell, I.free, I.freeC, fun p hp => (List.mem_append.mp hp).elim (fun z => I.pin p (List.mem_append_left _ z)) (h p), I.hok, I.len⟩
theorem nodup_ix {N : List Str} (hN : N.Nodup) {i j : Nat} {x : Str} (a : N[i]? = some x) (b : N[j]? = some x) : i = j := by
  obtain ⟨h1, e1⟩ := List.getElem?_eq_some_iff.mp a
  obtain ⟨h2, e2⟩ := List.getElem?_eq_some_iff.mp b
  exact (List.getElem_inj hN).mp (e1.trans e2.symm)
theorem store_ok2 {M : Model} {A : Around} {E : Value → Shared → Prop} {i : Nat} {x : Str} {v : V} {u : Value} {Q : Unit → Shared → Prop} (I : Inv X pins σ H s) (hN : X.N.Nodup) (hi : X.N[i]? = some x) (hx : Loc X.env.scope x) (r : RelV v u)
    (h : ∀ s', Inv X pins (σ.set i (some v)) H s' → (∃ a, Heap.SameBut a s.heap s'.heap ∧ (a = X.env.locals ∨ X.env.cells.lookup x = some a)) → Q () s') (hf : X.fn x = true ∨ X.env.scope.names.lookup x = some .local := by first | exact .inl rfl | exact .inr rfl | assumption) : wpAny M A (storeName X.env x u) Q E s := by
  obtain ⟨m, hn, hl⟩ := id I.loc
  have hcls : (X.env.scope.kind == .class || (X.env.scope.kind == .module && X.env.locals != X.env.globals)) = false := by rw [I.ok.kind]; rfl
  have hiσ : i < σ.length := by rw [I.len]; exact (List.getElem?_eq_some_iff.mp hi).1
  have cne := I.cne
  have tracked : ∀ {a : Addr} {h' : Heap}, (∃ o, s.heap.get? a = some o ∧ H a = none) → Heap.SameBut a s.heap h' → HOk X.prog X.w H h' := fun {a h'} ha hs b ob e => by
    obtain ⟨_, _, hfree⟩ := ha
    refine (I.hok b ob e).stay (fun c w' hc q => (hs.2 c ?_).trans q) (fun _ q => q) fun _ _ q => q
    rintro rfl
    rcases hc with rfl | hc
    · rw [hfree] at e; cases e
    · rw [hfree] at hc; cases hc
  rcases hx with hk | hk
  · refine wpAny_storeName_local hk hn (fun h' hn' hs => ?_) hcls
    obtain ⟨oL, _, _, hoL, _⟩ := id hn
    refine h _ ⟨I.ok, I.os, I.bare, ⟨fun b o e n hb hx => ?_, fun b o e n hb hx => ?_, I.base.free, fun b o e hx => ?_, I.base.tups, I.base.frzs, I.base.tbls⟩, ⟨_, hn', fun j y v' e1 e2 e3 => ?_⟩, fun y c e => ?_, I.free, I.freeC, fun p hp => ?_, tracked ⟨oL, hoL, I.free⟩ hs, by simpa using I.len⟩ ⟨_, hs, .inl rfl⟩
    · exact (hs.2 b (Nat.ne_of_lt (Nat.lt_of_lt_of_le (Heap.lt_size e) I.ok.above))).trans (I.base.keep b o e n hb hx)
    · obtain ⟨sl, e1⟩ := I.base.slot b o e n hb hx
      exact ⟨sl, (hs.2 b (Nat.ne_of_lt (Nat.lt_of_lt_of_le (Heap.lt_size e) I.ok.above))).trans e1⟩
    · obtain ⟨o', e1⟩ := I.base.there b o e hx
      exact ⟨o', (hs.2 b (Nat.ne_of_lt (Nat.lt_of_lt_of_le (Heap.lt_size e) I.ok.above))).trans e1⟩
    · by_cases hj : j = i
      · subst hj
        rw [hi] at e1; cases e1
        rw [List.getElem?_set_self hiσ] at e2
        cases e2
        exact ⟨u, r, .inl ⟨hk, by simp⟩⟩
      · rw [List.getElem?_set_ne (Ne.symm hj)] at e2
        obtain ⟨u', r', q⟩ := hl j y v' e1 e2 e3
        refine ⟨u', r', ?_⟩
        rcases q with ⟨k, e⟩ | ⟨k, c, e, z⟩
        · refine .inl ⟨k, ?_⟩
          have : y ≠ x := fun e => hj (nodup_ix hN e1 (e ▸ hi))
          simp [this, e]
        · exact .inr ⟨k, c, e, z.sameBut hs (cne y c e)⟩
    · obtain ⟨w', z⟩ := I.cell y c e
      exact ⟨w', z.sameBut hs (cne y c e)⟩
    · obtain ⟨e, n, ne, nf, d⟩ := I.pin p hp
      exact ⟨(hs.2 p.1 ne).trans e, n, ne, nf, d⟩
  · have hfn : X.fn x = true := by
      rcases hf with z | z
      · exact z
      · rw [z] at hk; cases hk
    obtain ⟨c, hc⟩ := I.ok.has x (.inl hk)
    obtain ⟨w', z⟩ := I.cell x c hc
    refine wpAny_storeName_cell I.ok.kind hk hc z (fun h' hc' hs => ?_)
    obtain ⟨oc, hoc, hocd⟩ := id z
    refine h { s with heap := h' } ⟨I.ok, I.os, I.bare, ⟨fun b o e n hb hx => ?_, fun b o e n hb hx => ?_, I.base.free, fun b o e hx => ?_, I.base.tups, I.base.frzs, I.base.tbls⟩, ⟨m, hn.sameBut hs (Ne.symm (cne x c hc)), fun j y v' e1 e2 e3 => ?_⟩, fun y c' e => ?_, I.free, I.freeC, fun p hp => ?_, tracked ⟨oc, hoc, I.freeC x c hc⟩ hs, by simpa using I.len⟩ ⟨c, hs, .inr hc⟩
    · exact (hs.2 b (Nat.ne_of_lt (Nat.lt_of_lt_of_le (Heap.lt_size e) (I.ok.cab x c hfn hc)))).trans (I.base.keep b o e n hb hx)
    · obtain ⟨sl, e1⟩ := I.base.slot b o e n hb hx
      exact ⟨sl, (hs.2 b (Nat.ne_of_lt (Nat.lt_of_lt_of_le (Heap.lt_size e) (I.ok.cab x c hfn hc)))).trans e1⟩
    · obtain ⟨o', e1⟩ := I.base.there b o e hx
      exact ⟨o', (hs.2 b (Nat.ne_of_lt (Nat.lt_of_lt_of_le (Heap.lt_size e) (I.ok.cab x c hfn hc)))).trans e1⟩
    · by_cases hj : j = i
      · subst hj
        rw [hi] at e1; cases e1
        rw [List.getElem?_set_self hiσ] at e2
        cases e2
        exact ⟨u, r, .inr ⟨.inl hk, c, hc, hc'⟩⟩
      · rw [List.getElem?_set_ne (Ne.symm hj)] at e2
        obtain ⟨u', r', q⟩ := hl j y v' e1 e2 e3
        refine ⟨u', r', ?_⟩
        rcases q with q | ⟨k, c', e, z'⟩
        · exact .inl q
        · refine .inr ⟨k, c', e, z'.sameBut hs ?_⟩
          rintro rfl
          exact hj (nodup_ix hN e1 (I.ok.inj _ _ _ e hc ▸ hi))
    · by_cases hcc : c' = c
      · subst hcc; exact ⟨_, hc'⟩
      · obtain ⟨w2, z2⟩ := I.cell y c' e
        exact ⟨w2, z2.sameBut hs hcc⟩
    · obtain ⟨e, n, ne, nf, d⟩ := I.pin p hp
      refine ⟨(hs.2 p.1 ?_).trans e, n, ne, nf, d⟩
      intro q
      rw [q, hoc] at e
      have q' : oc = p.2 := Option.some.inj e
      exact d w' (by rw [← q']; exact hocd)
theorem store_ok {M : Model} {A : Around} {E : Value → Shared → Prop} {i : Nat} {x : Str} {v : V} {u : Value} {Q : Unit → Shared → Prop} (I : Inv X pins σ H s) (hN : X.N.Nodup) (hi : X.N[i]? = some x) (hx : Loc X.env.scope x) (r : RelV v u)
    (h : ∀ s', Inv X pins (σ.set i (some v)) H s' → Q () s') (hf : X.fn x = true ∨ X.env.scope.names.lookup x = some .local := by first | exact .inl rfl | exact .inr rfl | assumption) : wpAny M A (storeName X.env x u) Q E s :=
  store_ok2 I hN hi hx r (fun s' I' _ => h s' I') hf
theorem Inv.call' {s' : Shared} {ch : List Addr} (I : Inv X pins σ H s) (ho : s'.os = s.os) (u : Un (frs X.stack) ch H H' s.heap s'.heap) (hok : HOk X.prog X.w H' s'.heap) (hg : AllBare s'.gens)
    (hch : ∀ b ∈ ch, (b ∈ X.ex ∨ X.s₀.heap.objs.size ≤ b) ∧ b ≠ X.env.locals ∧ (∀ x c, X.env.cells.lookup x = some c → c ≠ b) ∧ ∀ p ∈ X.pn ++ pins, p.1 ≠ b) : Inv X pins σ H' s' := by
  obtain ⟨h', g', d', t', o'⟩ := s'
  have e : o' = s.os := ho
  subst e
  exact I.call (g' := g') (t' := t') (d' := d') u hok hg hch
end
abbrev XK := Addr → Addr → Hp → Prop
abbrev St := List (Option V)
abbrev VK := V → Hp → Prop
abbrev TE := St → Hp → VK → Prop
abbrev TT := St → Hp → (Bool → Hp → Prop) → Prop
abbrev TA := St → Hp → (List V → Hp → Prop) → Prop
structure Ends where
  nx : St → Hp → Prop
  rt : VK
  bk : St → Hp → Prop := fun _ _ => False
  ct : St → Hp → Prop := fun _ _ => False
abbrev TS := Ends → St → Hp → Prop
def EP (X : Cx) (pins : List (Addr × Obj)) (σ : St) (Q : VK) (u : Value) (s' : Shared) : Prop := ∃ v H', Inv X pins σ H' s' ∧ RelV v u ∧ Q v H'
def TP (X : Cx) (pins : List (Addr × Obj)) (σ : St) (Q : Bool → Hp → Prop) (b : Bool) (s' : Shared) : Prop := ∃ H', Inv X pins σ H' s' ∧ Q b H'
def AP (X : Cx) (pins : List (Addr × Obj)) (σ : St) (Q : List V → Hp → Prop) (us : List Value) (s' : Shared) : Prop := ∃ vs H', Inv X pins σ H' s' ∧ Vals vs us ∧ Q vs H'
def SP (X : Cx) (pins : List (Addr × Obj)) (D : Ends) (f : Flow) (s' : Shared) : Prop :=
  match f with
  | .next => ∃ σ' H', Inv X pins σ' H' s' ∧ D.nx σ' H'
  | .brk => ∃ σ' H', Inv X pins σ' H' s' ∧ D.bk σ' H'
  | .cont => ∃ σ' H', Inv X pins σ' H' s' ∧ D.ct σ' H'
  | .ret u => ∃ v σ' H', Inv X pins σ' H' s' ∧ RelV v u ∧ D.rt v H'
def PE (X : Cx) (e : Expr) (t : TE) : Prop :=
  ∀ (pins : List (Addr × Obj)) (s : Shared) (σ : St) (H : Hp) (Q : VK), Inv X pins σ H s → t σ H Q → wpAny (model X.prog X.w) X.A (eval e X.env) (EP X pins σ Q) X.xe s
def PT (X : Cx) (e : Expr) (t : TT) : Prop :=
  ∀ (pins : List (Addr × Obj)) (s : Shared) (σ : St) (H : Hp) (Q : Bool → Hp → Prop), Inv X pins σ H s → t σ H Q → wpAny (model X.prog X.w) X.A (isTrue e X.env (eval e X.env)) (TP X pins σ Q) X.xe s
def PW (X : Cx) (e : Expr) (t : TT) : Prop :=
  ∀ (whole : Sem Value) (pins : List (Addr × Obj)) (s : Shared) (σ : St) (H : Hp) (Q : Bool → Hp → Prop), Inv X pins σ H s → t σ H Q → wpAny (model X.prog X.w) X.A (isTrue e X.env whole) (TP X pins σ Q) X.xe s
theorem PW.pt {X : Cx} {e : Expr} {t : TT} (h : PW X e t) : PT X e t := h _
def PA (X : Cx) (es : List Expr) (t : TA) : Prop :=
  ∀ (pos : Pos) (pins : List (Addr × Obj)) (s : Shared) (σ : St) (H : Hp) (Q : List V → Hp → Prop), Inv X pins σ H s → t σ H Q → wpAny (model X.prog X.w) X.A (spliced (backTo pos (starEach es X.env))) (AP X pins σ Q) X.xe s
def PS (X : Cx) (st : Stmt) (t : TS) : Prop :=
  ∀ (pins : List (Addr × Obj)) (s : Shared) (σ : St) (H : Hp) (D : Ends), Inv X pins σ H s → t D σ H → wpAny (model X.prog X.w) X.A (exec st X.env) (SP X pins D) X.xe s
def PSs (X : Cx) (st : List Stmt) (t : TS) : Prop :=
  ∀ (pins : List (Addr × Obj)) (s : Shared) (σ : St) (H : Hp) (D : Ends), Inv X pins σ H s → t D σ H → wpAny (model X.prog X.w) X.A (execs st X.env) (SP X pins D) X.xe s
theorem thn {α : Type} {t : Sem α} {Q Q' : α → Shared → Prop} {M : Model} {A : Around} {E : Value → Shared → Prop} {s : Shared} (h : wpAny M A t Q E s) (hQ : ∀ a s, Q a s → Q' a s) : wpAny M A t Q' E s := wpAny_mono h hQ fun _ _ x => x
end L2
namespace L2
open PySem PySem.Spec PyProof.Rows
variable {q0 : Bool}
section
variable {X : Cx}
def tVar (i : Nat) : TE := fun σ H Q => ∃ v, σ[i]? = some (some v) ∧ Q v H
def tC (v : V) : TE := fun _ H Q => Q v H
theorem pe_var {i : Nat} {x : Str} {pos : Pos} (hN : X.N[i]? = some x) (hv : Vis X.env.scope x) (hd : (x == ("__debug__" : Str)) = false := by decide) (hcd : (x == ("__classdict__" : Str)) = false := by decide) : PE X (.Name x pos) (tVar i) := by
  intro pins s σ H Q I h
  obtain ⟨v, e, h⟩ := h
  obtain ⟨m, hn, hl⟩ := I.loc
  obtain ⟨u, r, l⟩ := hl i x v hN e hv
  have fin : EP X pins σ Q u s := ⟨v, H, I, r, h⟩
  rcases l with ⟨hk, hm⟩ | ⟨hk, c, hc, hcell⟩
  · exact wpAny_Name (wpAny_loadName_local I.ok.kind hk hn hm fin) hd
  · rcases hk with hk | hk
    · exact wpAny_Name (wpAny_loadName_cell I.ok.kind hk hc hcell fin) hd
    · exact wpAny_Name (wpAny_loadName_free I.ok.kind hk hc hcell fin hcd) hd
theorem pe_int {i j pos} : PE X (.Constant (.int i) j pos) (tC (.int i)) := fun _ _ _ H _ I h => wpAny_Constant_int ⟨.int i, H, I.tok _, ⟨_, rfl⟩, h⟩
theorem pe_bl {b j pos} : PE X (.Constant (.bool b) j pos) (tC (.bl b)) := fun _ _ _ H _ I h => Constant_bool ⟨.bl b, H, I, rfl, h⟩
theorem pe_non {j pos} : PE X (.Constant .none j pos) (tC .non) := fun _ _ _ H _ I h => Constant_none ⟨.non, H, I, rfl, h⟩
theorem pe_str {x j pos} : PE X (.Constant (.str x) j pos) (tC (.str x)) := fun _ _ _ H _ I h => Calls.Constant_str ⟨.str x, H, I.tok _, ⟨_, rfl⟩, h⟩
def Gl (X : Cx) (x : Str) : Prop := X.env.kindOf x = some .globalImplicit
theorem ld_glob {E : Value → Shared → Prop} {pins : List (Addr × Obj)} {s : Shared} {σ : St} {H : Hp} {x : Str} {u : Value} {pos : Pos} {Q : Value → Shared → Prop} (I : Inv X pins σ H s) (hg : Gl X x) (hm : X.mg x = some u) (h : Q u s)
    (hd : (x == ("__debug__" : Str)) = false := by decide) : wpAny (model X.prog X.w) X.A (eval (.Name x pos) X.env) Q E s :=
  Calls.Name_function_global I.ok.kind hg (Calls.loadGlobal_global (by rw [I.ok.glob]; exact I.mod.glob.keeps I.bk) hm h) hd
theorem ld_blt {E : Value → Shared → Prop} {pins : List (Addr × Obj)} {s : Shared} {σ : St} {H : Hp} {x : Str} {u : Value} {pos : Pos} {Q : Value → Shared → Prop} (I : Inv X pins σ H s) (hg : Gl X x) (hm : X.mg x = none) (hv : bootBuiltins x = some u) (h : Q u s)
    (hn : x ≠ "__name__" := by decide) (hd : (x == ("__debug__" : Str)) = false := by decide) : wpAny (model X.prog X.w) X.A (eval (.Name x pos) X.env) Q E s := by
  obtain ⟨mb, h1, h2⟩ := I.mod.blt
  exact Calls.Name_function_global I.ok.kind hg (Calls.loadGlobal_builtin (by rw [I.ok.glob]; exact I.mod.glob.keeps I.bk) hm (by rw [I.ok.blt]; exact h1.keeps I.bk) ((h2 x hn).trans hv) h) hd
theorem pe_glob {x : Str} {v : V} {u : Value} {pos : Pos} (hg : Gl X x) (hm : X.mg x = some u) (r : RelV v u) (hd : (x == ("__debug__" : Str)) = false := by decide) : PE X (.Name x pos) (tC v) :=
  fun _ _ _ H _ I h => ld_glob I hg hm ⟨v, H, I, r, h⟩ hd
theorem pe_bltn {x : Str} {v : V} {u : Value} {pos : Pos} (hg : Gl X x) (hm : X.mg x = none) (hv : bootBuiltins x = some u) (r : RelV v u) (hn : x ≠ "__name__" := by decide) (hd : (x == ("__debug__" : Str)) = false := by decide) : PE X (.Name x pos) (tC v) :=
  fun _ _ _ H _ I h => ld_blt I hg hm hv ⟨v, H, I, r, h⟩ hn hd
variable {a b : Expr} {ta tb : TE} {pos : Pos}
def PC (X : Cx) (op : CmpOp) (a b : Expr) (t : TE) : Prop :=
  ∀ (pins : List (Addr × Obj)) (s : Shared) (σ : St) (H : Hp) (Q : VK), Inv X pins σ H s → t σ H Q →
    wpAny (model X.prog X.w) X.A (eval a X.env) (fun v s₁ => wpAny (model X.prog X.w) X.A (eval b X.env) (fun u s₂ => wpAny (model X.prog X.w) X.A (compareOp op v u) (EP X pins σ Q) X.xe s₂) X.xe s₁) X.xe s
theorem nobehind (b : Expr) {op : CmpOp} (h : op ≠ .In) (h2 : op ≠ .NotIn) : behindInMarks op b = false := by
  have e1 : (op == CmpOp.In) = false := by cases op <;> first | rfl | exact absurd rfl h
  have e2 : (op == CmpOp.NotIn) = false := by cases op <;> first | rfl | exact absurd rfl h2
  cases b <;> simp [behindInMarks, e1, e2]
def tB (t : TE) : TT := fun σ H Q => t σ H fun x H1 => ∃ c, x = .bl c ∧ Q c H1
theorem pe_cmp {op : CmpOp} {t : TE} (h : PC X op a b t) (h1 : behindInMarks op b = false := by first | exact nobehind _ (by decide) (by decide) | rfl) : PE X (.Compare a [op] [b] pos) t := fun pins s σ H Q I hw => wpAny_Compare1 (h pins s σ H Q I hw) h1
theorem pt_cmp {op : CmpOp} {t : TE} (h : PC X op a b t) (h1 : behindInMarks op b = false := by first | exact nobehind _ (by decide) (by decide) | rfl) : PT X (.Compare a [op] [b] pos) (tB t) := by
  intro pins s σ H Q I hw
  refine wpAny_isTrue_Compare1 (thn (h pins s σ H _ I hw) fun v s1 h1 => thn h1 fun u s2 h2 => thn h2 fun c s3 ⟨x, H1, I1, r1, q1⟩ => ?_) h1
  obtain ⟨d, rfl, q⟩ := q1
  cases r1
  exact wpAny_truthy_bool ⟨H1, I1, q⟩
theorem pt_val {e : Expr} {t : TE} (h : PE X e t) (he : ∀ whole, isTrue e X.env whole = (do let v ← whole; standAt e.pos; holding [v] (truthy v)) := by intro _; rfl) : PT X e (tB t) := by
  intro pins s σ H Q I hw
  refine isTrue_plain (thn (h pins s σ H _ I hw) fun v s1 ⟨x, H1, I1, r1, q1⟩ => ?_) (he _)
  obtain ⟨d, rfl, q⟩ := q1
  cases r1
  exact wpAny_truthy_bool ⟨H1, I1, q⟩
variable {tA tB' : TT} {rest : List Expr}
def tAnd (t u : TT) : TT := fun σ H Q => t σ H fun c H1 => if c = true then u σ H1 Q else Q false H1
def tOr (t u : TT) : TT := fun σ H Q => t σ H fun c H1 => if c = true then Q true H1 else u σ H1 Q
def tNot (t : TT) : TT := fun σ H Q => t σ H fun c H1 => Q (!c) H1
theorem pw_and1 (ha : PT X a tA) : PW X (.BoolOp .And [a] pos) tA := by
  intro wh pins s σ H Q I h
  refine isTrue_and (thn (ha pins s σ H Q I h) fun c s1 e => ?_)
  cases c with
  | true => exact isTrue_and_nil e
  | false => exact e
theorem pw_or1 (ha : PT X a tA) : PW X (.BoolOp .Or [a] pos) tA := by
  intro wh pins s σ H Q I h
  refine isTrue_or (thn (ha pins s σ H Q I h) fun c s1 e => ?_)
  cases c with
  | false => exact isTrue_or_nil e
  | true => exact e
theorem pw_and (ha : PT X a tA) (hb : PW X (.BoolOp .And (b :: rest) pos) tB') : PW X (.BoolOp .And (a :: b :: rest) pos) (tAnd tA tB') := by
  intro wh pins s σ H Q I h
  refine isTrue_and (thn (ha pins s σ H _ I h) fun c s1 ⟨H1, I1, q1⟩ => ?_)
  cases c with
  | true => exact hb wh pins s1 σ H1 Q I1 q1
  | false => exact ⟨H1, I1, q1⟩
theorem pw_or (ha : PT X a tA) (hb : PW X (.BoolOp .Or (b :: rest) pos) tB') : PW X (.BoolOp .Or (a :: b :: rest) pos) (tOr tA tB') := by
  intro wh pins s σ H Q I h
  refine isTrue_or (thn (ha pins s σ H _ I h) fun c s1 ⟨H1, I1, q1⟩ => ?_)
  cases c with
  | true => exact ⟨H1, I1, q1⟩
  | false => exact hb wh pins s1 σ H1 Q I1 q1
theorem pt_not (ha : PT X a tA) : PT X (.UnaryOp .Not a pos) (tNot tA) := by
  intro pins s σ H Q I h
  exact isTrue_not (ha pins s σ H (fun c H1 => Q (!c) H1) I h)
def tAndV (ta tb : TE) : TE := fun σ H Q => ta σ H fun x H1 => ∃ c, x = .bl c ∧ if c = true then tb σ H1 Q else Q (.bl false) H1
def tNotV (ta : TE) : TE := fun σ H Q => ta σ H fun x H1 => ∃ c, x = .bl c ∧ Q (.bl (!c)) H1
theorem pe_one {op} {t : TE} (h : PE X a t) : PE X (.BoolOp op [a] pos) t := fun pins s σ H Q I hw => BoolOp_one (h pins s σ H Q I hw)
theorem pe_and (ha : PE X a ta) (hb : PE X (.BoolOp .And (b :: rest) pos) tb) : PE X (.BoolOp .And (a :: b :: rest) pos) (tAndV ta tb) := by
  intro pins s σ H Q I h
  refine BoolOp_and (thn (ha pins s σ H _ I h) fun v s1 ⟨x, H1, I1, r1, q1⟩ => ?_)
  obtain ⟨c, rfl, q1⟩ := q1
  cases r1
  refine wpAny_truthy_bool ?_
  cases c with
  | true => exact hb pins s1 σ H1 Q I1 q1
  | false => exact ⟨.bl false, H1, I1, rfl, q1⟩
theorem pe_not (ha : PE X a ta) : PE X (.UnaryOp .Not a pos) (tNotV ta) := by
  intro pins s σ H Q I h
  refine UnaryOp_ (thn (ha pins s σ H _ I h) fun v s1 ⟨x, H1, I1, r1, q1⟩ => ?_)
  obtain ⟨c, rfl, q1⟩ := q1
  cases r1
  exact not_of (wpAny_truthy_bool ⟨.bl (!c), H1, I1, rfl, q1⟩)
def tIf (t : TT) (ta tb : TE) : TE := fun σ H Q => t σ H fun c H1 => if c = true then ta σ H1 Q else tb σ H1 Q
theorem pe_ifExp {c : Expr} (hc : PT X c tA) (ha : PE X a ta) (hb : PE X b tb) : PE X (.IfExp c a b pos) (tIf tA ta tb) := by
  intro pins s σ H Q I h
  refine wpAny_IfExp (thn (hc pins s σ H _ I h) fun d s1 ⟨H1, I1, q1⟩ => ?_)
  cases d with
  | true => exact ha pins s1 σ H1 Q I1 q1
  | false => exact hb pins s1 σ H1 Q I1 q1
end
end L2
namespace L2
open PySem PySem.Spec PyProof.Rows
variable {q0 : Bool}
def SqL (K : PySem.W.Frag) (H : Hp) (a : Addr) (xs : List V) : Prop :=
  Rd H a (.lst xs) ∨
    ∃ (o : Obj) (its : Array Value) (n : Nat), K.lookup a = some o ∧ o.cls = .type "list" ∧ o.dict = none ∧ o.data = .seq its n ∧ its.size ≤ sizeLine ∧ Vals xs its.toList
def SqT (K : PySem.W.Frag) (H : Hp) (a : Addr) (xs : List V) : Prop :=
  Rd H a (.tup xs) ∨
    ∃ (o : Obj) (its : Array Value) (n : Nat), K.lookup a = some o ∧ o.cls = .type "tuple" ∧ o.data = .seq its n ∧ its.size ≤ sizeLine ∧ Vals xs its.toList
def absV : Value → Option V
  | .none => some .non
  | .bool b => some (.bl b)
  | .int i _ => some (.int i)
  | .str x _ => some (.str x)
  | .bytes b _ => some (.byt b)
  | .float b _ => some (.flt b)
  | .ref a => some (.ref a)
  | .type n => some (.ty n)
  | _ => none
theorem RelV.abs {x : V} {u : Value} (r : RelV x u) : absV u = some x := by
  cases x with
  | non => cases r; rfl
  | bl _ => cases r; rfl
  | int _ => obtain ⟨t, rfl⟩ := r; rfl
  | str _ => obtain ⟨t, rfl⟩ := r; rfl
  | byt _ => obtain ⟨t, rfl⟩ := r; rfl
  | flt _ => obtain ⟨t, rfl⟩ := r; rfl
  | ref _ => cases r; rfl
  | ty _ => cases r; rfl
theorem RelV.inj {x y : V} {u : Value} (r : RelV x u) (q : RelV y u) : x = y := Option.some.inj (r.abs.symm.trans q.abs)
theorem Vals.inj : ∀ {xs ys : List V} {us : List Value}, Vals xs us → Vals ys us → xs = ys
  | _, _, _, .nil, .nil => rfl
  | _, _, _, .cons r t, .cons r' t' => by rw [r.inj r', Vals.inj t t']
section
variable {X : Cx} {pins : List (Addr × Obj)} {σ : St} {H : Hp} {s : Shared} {a : Addr} {xs ys : List V}
theorem SqL.of {K : PySem.W.Frag} (h : H a = some (.lst xs)) : SqL K H a xs := .inl (.inl h)
theorem SqT.of {K : PySem.W.Frag} (h : H a = some (.tup xs)) : SqT K H a xs := .inl (.inl h)
theorem Inv.list (I : Inv X pins σ H s) (h : SqL X.K H a xs) : ∃ its : List Value, Vals xs its ∧ PlainL s.heap a its.toArray ∧ xs.length ≤ sizeLine := by
  rcases h with h | ⟨o, its, n, hk, hc, hd, hs, hz, r⟩
  · obtain ⟨z, its, n, r, e⟩ := h.ok I.hok
    exact ⟨its, r, ⟨_, n, e, rfl, rfl, rfl⟩, z⟩
  · refine ⟨its.toList, r, ⟨o, n, I.kIn a o hk, hc, hd, by simpa using hs⟩, ?_⟩
    have e := r.length
    simp only [Array.length_toList] at e
    omega
theorem Inv.tuple (I : Inv X pins σ H s) (h : SqT X.K H a xs) : ∃ its : List Value, Vals xs its ∧ IsTup s.heap a its.toArray ∧ xs.length ≤ sizeLine := by
  rcases h with h | ⟨o, its, n, hk, hc, hs, hz, r⟩
  · obtain ⟨z, its, r, p⟩ := h.ok I.hok
    exact ⟨its, r, p, z⟩
  · refine ⟨its.toList, r, ⟨o, I.kIn a o hk, hc, n, by simpa using hs⟩, ?_⟩
    have e := r.length
    simp only [Array.length_toList] at e
    omega
theorem Inv.list_inj (I : Inv X pins σ H s) (h : SqL X.K H a xs) (h' : SqL X.K H a ys) : xs = ys := by
  obtain ⟨its, r, ⟨o, n, e, _, _, d⟩, _⟩ := I.list h
  obtain ⟨its', r', ⟨o', n', e', _, _, d'⟩, _⟩ := I.list h'
  rw [e] at e'; cases e'
  rw [d] at d'
  injection d' with d1 _
  have : its = its' := by simpa using congrArg Array.toList d1
  subst this
  exact r.inj r'
theorem Inv.tuple_inj (I : Inv X pins σ H s) (h : SqT X.K H a xs) (h' : SqT X.K H a ys) : xs = ys := by
  obtain ⟨its, r, ⟨o, e, _, n, d⟩, _⟩ := I.tuple h
  obtain ⟨its', r', ⟨o', e', _, n', d'⟩, _⟩ := I.tuple h'
  rw [e] at e'; cases e'
  rw [d] at d'
  injection d' with d1 _
  have : its = its' := by simpa using congrArg Array.toList d1
  subst this
  exact r.inj r'
end
abbrev Cx.wish (X : Cx) (E : Value → Shared → Prop) : Cx := { X with xe := E }
abbrev Cx.nox (X : Cx) : Cx := X.wish fun _ _ => False
theorem Cx.Ok.wish {X : Cx} (ok : X.Ok) (E : Value → Shared → Prop) : (X.wish E).Ok :=
  ⟨ok.mod, ok.kind, ok.glob, ok.blt, ok.above, ok.inj, ok.has, ok.cab, ok.hd, ok.frames, ok.stk, ok.exf, ok.bs, ok.bsz, ok.noex, ok.exfs, ok.funs, ok.frf⟩
theorem Cx.Ok.unwish {X : Cx} {E : Value → Shared → Prop} (ok : (X.wish E).Ok) : X.Ok :=
  ⟨ok.mod, ok.kind, ok.glob, ok.blt, ok.above, ok.inj, ok.has, ok.cab, ok.hd, ok.frames, ok.stk, ok.exf, ok.bs, ok.bsz, ok.noex, ok.exfs, ok.funs, ok.frf⟩
section
variable {X : Cx} {pins : List (Addr × Obj)} {σ : St} {H : Hp} {s : Shared} {E : Value → Shared → Prop}
theorem Inv.wish (I : Inv X pins σ H s) (E : Value → Shared → Prop) : Inv (X.wish E) pins σ H s := ⟨I.ok.wish E, I.os, I.bare, I.base, I.loc, I.cell, I.free, I.freeC, I.pin, I.hok, I.len⟩
theorem Inv.unwish (I : Inv (X.wish E) pins σ H s) : Inv X pins σ H s := ⟨I.ok.unwish, I.os, I.bare, I.base, I.loc, I.cell, I.free, I.freeC, I.pin, I.hok, I.len⟩
theorem SP.unwish {D : Ends} {f : Flow} {s' : Shared} (h : SP (X.wish E) pins D f s') : SP X pins D f s' := by
  cases f with
  | next => obtain ⟨σ', H', I, q⟩ := h; exact ⟨σ', H', I.unwish, q⟩
  | brk => obtain ⟨σ', H', I, q⟩ := h; exact ⟨σ', H', I.unwish, q⟩
  | cont => obtain ⟨σ', H', I, q⟩ := h; exact ⟨σ', H', I.unwish, q⟩
  | ret u => obtain ⟨v, σ', H', I, r, q⟩ := h; exact ⟨v, σ', H', I.unwish, r, q⟩
theorem PSs.nox {st : List Stmt} {t : TS} (h : PSs X.nox st t) : PSs X st t := fun pins s σ H D I hw =>
  wpAny_mono (h pins s σ H D (I.wish _) hw) (fun _ _ q => q.unwish) fun _ _ z => False.elim z
end
section
variable {X : Cx} {st : Stmt} {rest : List Stmt} {t u : TS} {e : Expr} {te : TE} {pos : Pos}
def tNext : TS := fun D σ H => D.nx σ H
def tSeq (t u : TS) : TS := fun D σ H => t { D with nx := u D } σ H
theorem pss_nil : PSs X [] tNext := fun _ _ σ H _ I h => wpAny_execs_nil ⟨σ, H, I, h⟩
theorem pss_cons (h1 : PS X st t) (h2 : PSs X rest u) : PSs X (st :: rest) (tSeq t u) := by
  intro pins s σ H D I h
  refine wpAny_execs_cons (thn (h1 pins s σ H { D with nx := u D } I h) fun f s1 q => ?_)
  cases f with
  | next =>
    obtain ⟨σ', H', I', q⟩ := q
    exact h2 pins s1 σ' H' D I' q
  | ret v => exact q
  | brk => exact q
  | cont => exact q
theorem pss_one (h1 : PS X st t) : PSs X [st] t := by
  intro pins s σ H D I h
  refine wpAny_execs_cons (thn (h1 pins s σ H D I h) fun f s1 q => ?_)
  cases f with
  | next => exact wpAny_execs_nil q
  | ret v => exact q
  | brk => exact q
  | cont => exact q
theorem Inv.quiet {pins : List (Addr × Obj)} {σ : St} {H : Hp} {s : Shared} (I : Inv X pins σ H s) : interactive X.env = false := by simp [interactive, I.ok.kind]
def tDrop (te : TE) : TS := fun D σ H => te σ H fun _ H1 => D.nx σ H1
theorem ps_expr (he : PE X e te) (hs : swapsWith e none pos.line X.env = pure false := by rfl) : PS X (.Expr e pos) (tDrop te) := by
  intro pins s σ H D I h
  exact wpAny_Expr_any (thn (he pins s σ H _ I h) fun v s1 ⟨x, H1, I1, r1, q1⟩ => ⟨σ, H1, I1, q1⟩) I.quiet hs
def tRet (te : TE) : TS := fun D σ H => te σ H D.rt
theorem ps_ret (he : PE X e te) : PS X (.Return (some e) pos) (tRet te) := by
  intro pins s σ H D I h
  exact wpAny_Return_some (thn (he pins s σ H _ I h) fun v s1 ⟨x, H1, I1, r1, q1⟩ => ⟨x, σ, H1, I1, r1, q1⟩)
def tIfS (c : TT) (t u : TS) : TS := fun D σ H => c σ H fun b H1 => if b = true then t D σ H1 else u D σ H1
theorem ps_if {c : Expr} {a b : List Stmt} {tc : TT} (hc : PT X c tc) (ha : PSs X a t) (hb : PSs X b u) : PS X (.If c a b pos) (tIfS tc t u) := by
  intro pins s σ H D I h
  refine wpAny_If (thn (hc pins s σ H _ I h) fun d s1 ⟨H1, I1, q1⟩ => ?_)
  cases d with
  | true => exact ha pins s1 σ H1 D I1 q1
  | false => exact hb pins s1 σ H1 D I1 q1
def tNever : TS := fun _ _ _ => False
theorem ps_never : PS X st tNever := fun _ _ _ _ _ _ h => h.elim
end
abbrev TG := V → St → Hp → (St → Hp → Prop) → Prop
abbrev TGs := List V → St → Hp → (St → Hp → Prop) → Prop
def PG (X : Cx) (target : Expr) (t : TG) : Prop :=
  ∀ (pins : List (Addr × Obj)) (s : Shared) (σ : St) (H : Hp) (v : V) (u : Value) (Q : St → Hp → Prop), Inv X pins σ H s → RelV v u → t v σ H Q →
    wpAny (model X.prog X.w) X.A (assign target X.env u) (fun _ s' => ∃ σ' H', Inv X pins σ' H' s' ∧ Q σ' H') X.xe s
def PGs (X : Cx) (ts : List Expr) (t : TGs) : Prop :=
  ∀ (pins : List (Addr × Obj)) (s : Shared) (σ : St) (H : Hp) (vs : List V) (us : List Value) (Q : St → Hp → Prop), Inv X pins σ H s → Vals vs us → t vs σ H Q →
    wpAny (model X.prog X.w) X.A (assignInOrder ((assignEach ts X.env).map (·.2)) us) (fun _ s' => ∃ σ' H', Inv X pins σ' H' s' ∧ Q σ' H') X.xe s
abbrev TSet := V → V → V → Hp → (Hp → Prop) → Prop
def PSet (X : Cx) (t : TSet) : Prop :=
  ∀ (pins : List (Addr × Obj)) (s : Shared) (σ : St) (H : Hp) (o i v : V) (ov iv u : Value) (Q : Hp → Prop), Inv X pins σ H s → RelV o ov → RelV i iv → RelV v u → t o i v H Q →
    wpAny (model X.prog X.w) X.A (setItem ov iv u) (fun _ s' => ∃ H', Inv X pins σ H' s' ∧ Q H') X.xe s
section
variable {X : Cx} {pos : Pos}
def gName (i : Nat) : TG := fun v σ H Q => Q (σ.set i (some v)) H
theorem pg_name {i : Nat} {x : Str} (hN : X.N.Nodup) (hi : X.N[i]? = some x) (hx : Loc X.env.scope x) (hf : X.fn x = true ∨ X.env.scope.names.lookup x = some .local := by first | exact .inl rfl | exact .inr rfl | assumption) : PG X (.Name x pos) (gName i) := by
  intro pins s σ H v u Q I r h
  exact wpAny_assign_Name (store_ok I hN hi hx r (fun s' I' => ⟨_, H, I', h⟩) hf)
def gNil : TGs := fun vs σ H Q => vs = [] ∧ Q σ H
def gCons (t : TG) (u : TGs) : TGs := fun vs σ H Q => ∃ v r, vs = v :: r ∧ t v σ H fun σ' H' => u r σ' H' Q
theorem pgs_nil : PGs X [] gNil := by
  intro pins s σ H vs us Q I r h
  obtain ⟨e, h⟩ := h
  subst e
  cases r
  exact assignInOrder_nil ⟨σ, H, I, h⟩
theorem pgs_cons {e : Expr} {es : List Expr} {t : TG} {u : TGs} (h1 : PG X e t) (h2 : PGs X es u)
    (hs : (assignEach (e :: es) X.env).map (·.2) = assign e X.env :: (assignEach es X.env).map (·.2) := by rfl) : PGs X (e :: es) (gCons t u) := by
  intro pins s σ H vs us Q I r h
  obtain ⟨v, vr, e1, h⟩ := h
  subst e1
  cases r with
  | cons r rr =>
    rw [hs]
    refine assignInOrder_cons (thn (h1 pins s σ H _ _ _ I r h) fun _ s1 ⟨σ1, H1, I1, q1⟩ => ?_)
    exact h2 pins s1 σ1 H1 _ _ Q I1 rr q1
def gTup (K : PySem.W.Frag) (n : Nat) (t : TGs) : TG := fun v σ H Q => ∃ a xs, v = .ref a ∧ SqT K H a xs ∧ xs.length = n ∧ t xs σ H Q
theorem pg_tup {es : List Expr} {k : Nat} {t : TGs} {n : Nat} (hc : X.calm = true) (h : PGs X es t)
    (hn : (assignEach es X.env).length = n := by rfl) (hst : (assignEach es X.env).findIdx? (·.1) = none := by rfl) : PG X (.Tuple es k pos) (gTup X.K n t) := by
  intro pins s σ H v u Q I r hw
  obtain ⟨a, xs, e1, hq, hl, hw⟩ := hw
  subst e1
  cases r
  obtain ⟨its, rv, ht, hz⟩ := I.tuple hq
  refine assign_Tuple_tuple (I.ok.hd hc) ht (by simp [hn, ← hl, rv.length]) hst fun h' hx => ?_
  have I1 : Inv X pins σ H { s with heap := h' } := I.kept (t' := s.toks) fun b o e => hx b o (Nat.ne_of_lt (Heap.lt_size e)) e
  exact h pins _ σ H xs _ Q I1 (by simpa using rv) hw
def gSub (to ti : TE) (t : TSet) : TG := fun v σ H Q => to σ H fun o H1 => ti σ H1 fun i H2 => t o i v H2 fun H3 => Q σ H3
theorem pg_sub {o i : Expr} {to ti : TE} {t : TSet} (ho : PE X o to) (hi : PE X i ti) (hs : PSet X t)
    (ha : ∀ v, assign (.Subscript o i pos) X.env v = (do
      let ov ← holding [v] (eval o X.env)
      let iv ← holding [v, ov] (eval i X.env)
      standAt pos
      holding [v, ov, iv] (setItem ov iv v)
      release [v, ov, iv] []) := by intro _; rfl) : PG X (.Subscript o i pos) (gSub to ti t) := by
  intro pins s σ H v u Q I r h
  rw [ha]
  refine wpAny_bind (wpAny_holding (thn (ho pins s σ H _ I h) fun ov s1 ⟨x, H1, I1, r1, q1⟩ => ?_))
  refine wpAny_bind (wpAny_holding (thn (hi pins s1 σ H1 _ I1 q1) fun iv s2 ⟨y, H2, I2, r2, q2⟩ => ?_))
  refine wpAny_bind (wpAny_standAt (wpAny_bind (wpAny_holding (thn (hs pins s2 σ H2 x y v ov iv u _ I2 r1 r2 r q2) fun _ s3 ⟨H3, I3, q3⟩ => ?_))))
  exact wpAny_release ⟨σ, H3, I3, q3⟩
def tAsg (te : TE) (g : TG) : TS := fun D σ H => te σ H fun x H1 => g x σ H1 D.nx
theorem ps_asg {tg e : Expr} {te : TE} {g : TG} (he : PE X e te) (hg : PG X tg g) (hs : swapsWithSole [tg] e pos.line X.env = pure false := by rfl) (hw : swappedStores [tg] e X.env = pure none := by rfl)
    (h1 : (assignEach [tg] X.env).map (·.2) = [assign tg X.env] := by rfl) : PS X (.Assign [tg] e pos) (tAsg te g) := by
  intro pins s σ H D I h
  refine wpAny_Assign_stores (thn (he pins s σ H _ I h) fun v s1 ⟨x, H1, I1, r1, q1⟩ => ?_) hs hw
  rw [h1]
  exact thn (hg pins s1 σ H1 x v _ I1 r1 q1) fun _ s2 q => q
theorem ps_set {i : Nat} {x : Str} {e : Expr} {te : TE} {pos' : Pos} (hN : X.N.Nodup) (hi : X.N[i]? = some x) (hx : Loc X.env.scope x) (he : PE X e te) (hs : swapsWith e (some (.Name x pos')) pos.line X.env = pure false := by rfl) (hf : X.fn x = true ∨ X.env.scope.names.lookup x = some .local := by first | exact .inl rfl | exact .inr rfl | assumption) :
    PS X (.Assign [.Name x pos'] e pos) (tAsg te (gName i)) := by
  intro pins s σ H D I h
  refine wpAny_Assign_Name (thn (he pins s σ H _ I h) fun v s1 ⟨y, H1, I1, r1, q1⟩ => ?_) hs
  exact store_ok I1 hN hi hx r1 (fun s2 I2 => ⟨_, H1, I2, q1⟩) hf
def tPar (i j : Nat) (ta : TA) : TS := fun D σ H => ta σ H fun vs H1 => ∃ v w, vs = [v, w] ∧ D.nx ((σ.set i (some v)).set j (some w)) H1
theorem ps_par {i j : Nat} {x y : Str} {a b : Expr} {ta : TA} {px py pt : Pos} {kt k2 pt2} (hc : X.calm = true) (hN : X.N.Nodup) (hi : X.N[i]? = some x) (hj : X.N[j]? = some y) (hij : i ≠ j)
    (hx : X.env.scope.names.lookup x = some .local) (hy : X.env.scope.names.lookup y = some .local) (ha : PA X [a, b] ta)
    (hw : swappedStores [.Tuple [.Name x px, .Name y py] kt pt] (.Tuple [a, b] k2 pt2) X.env = pure (some [x, y]))
    (hs : swapsWithSole [.Tuple [.Name x px, .Name y py] kt pt] (.Tuple [a, b] k2 pt2) pos.line X.env = pure false := by rfl) :
    PS X (.Assign [.Tuple [.Name x px, .Name y py] kt pt] (.Tuple [a, b] k2 pt2) pos) (tPar i j ta) := by
  intro pins s σ H D I h
  rw [exec_Assign_arm]
  refine wpAny_bind (wpAny_standAt ?_)
  rw [hs]
  refine wpAny_bind (wpAny_pure ?_)
  rw [if_neg (by decide)]
  refine wpAny_bind (Tuple_ (thn (ha _ pins s σ H _ I h) fun us s1 ⟨vs, H1, I1, r1, q1⟩ => ?_))
  obtain ⟨v, w, e1, q1⟩ := q1
  subst e1
  obtain ⟨u1, u2, rfl, rv, rw'⟩ : ∃ u1 u2, us = [u1, u2] ∧ RelV v u1 ∧ RelV w u2 := by
    cases r1 with
    | cons p q =>
      cases q with
      | cons p' q' =>
        cases q'
        exact ⟨_, _, rfl, p, p'⟩
  refine wpAny_newObj_type ?_ (by show 2 ≤ sizeLine; decide)
  have I2 : Inv X pins σ H1 { s1 with heap := s1.heap.push { cls := .type "tuple", data := .seq [u1, u2].toArray } } := I1.kept (t' := s1.toks) fun b o e => Heap.get?_push_of_some _ e
  rw [hw]
  refine wpAny_bind (wpAny_pure ?_)
  show wpAny (model X.prog X.w) X.A (do rule "assign.swapped-stores"; let items ← unpackItems (.ref s1.heap.objs.size) 2 none; assignInOrder [fun v => bindName X.env y v, fun v => bindName X.env x v] items.reverse; pure Flow.next) _ _ _
  refine wpAny_bind (wpAny_rule (wpAny_bind (unpackItems_tuple (items := #[u1, u2]) (I.ok.hd hc) (IsTup.new s1.heap _) fun h' hx' => ?_)))
  have I3 := I2.kept (h' := h') (t' := s1.toks) fun b o e => hx' b o (Nat.ne_of_lt (Heap.lt_size e)) e
  show wpAny _ _ (assignInOrder [fun v => bindName X.env y v, fun v => bindName X.env x v] [u2, u1] >>= fun _ => pure Flow.next) _ _ _
  refine wpAny_bind (assignInOrder_cons (wpAny_bindName (store_ok I3 hN hj (.inl hy) rw' (fun s2 I4 => ?_) (.inr hy))))
  refine assignInOrder_cons (wpAny_bindName (store_ok I4 hN hi (.inl hx) rv (fun s3 I5 => assignInOrder_nil (wpAny_pure ?_)) (.inr hx)))
  rw [List.set_comm _ _ (Ne.symm hij)] at I5
  exact ⟨_, H1, I5, q1⟩
end
section
variable {X : Cx} {pos : Pos}
def tWhile (c : TT) (tb : TS) : TS := fun D σ H => ∃ W : Nat → St → Hp → Prop, (∃ m, W m σ H) ∧ ∀ m σ H, W m σ H →
  c σ H fun b H1 => if b = true then ∃ N : St → Hp → Prop, (∀ σ' H', N σ' H' → ∃ m', m' < m ∧ W m' σ' H') ∧ tb { D with nx := N, ct := N, bk := D.nx } σ H1 else D.nx σ H1
theorem ps_while {c : Expr} {body : List Stmt} {tc : TT} {tb : TS} (hp : PassesOwn (model X.prog X.w) X.A X.env X.xe) (hc : PT X c tc) (hb : PSs X body tb) : PS X (.While c body [] pos) (tWhile tc tb) := by
  intro pins s σ H D I h
  obtain ⟨W, ⟨m0, w0⟩, turn⟩ := h
  refine wpAny_While (codeAny_whileLoop (fun n s' => ∃ σ' H', Inv X pins σ' H' s' ∧ W n σ' H') ?_ m0 ⟨σ, H, I, w0⟩)
  rintro n s1 ⟨σ1, H1, I1, w1⟩
  refine wpAny_passesOwn hp (thn (hc pins s1 σ1 H1 _ I1 (turn n σ1 H1 w1)) fun b s2 ⟨H2, I2, q2⟩ => ?_)
  cases b with
  | true =>
    obtain ⟨N, hN, q2⟩ := q2
    rw [if_pos rfl]
    refine wpAny_passesOwn hp (thn (hb pins s2 σ1 H2 _ I2 q2) fun f s3 q3 => ?_)
    cases f with
    | next =>
      obtain ⟨σ3, H3, I3, n3⟩ := q3
      obtain ⟨m', hm, w3⟩ := hN σ3 H3 n3
      exact ⟨m', hm, σ3, H3, I3, w3⟩
    | cont =>
      obtain ⟨σ3, H3, I3, n3⟩ := q3
      obtain ⟨m', hm, w3⟩ := hN σ3 H3 n3
      exact ⟨m', hm, σ3, H3, I3, w3⟩
    | brk => exact q3
    | ret v => exact q3
  | false =>
    rw [if_neg Bool.false_ne_true]
    exact wpAny_execs_nil ⟨σ1, H2, I2, q2⟩
end
structure It where
  go : Nat → Hp → Prop
  yld : Nat → Hp → V → Hp → Prop
  stop : Nat → Hp → Prop
def FpOk (X : Cx) (pins : List (Addr × Obj)) (H : Hp) (b : Addr) : Prop :=
  H b = none ∧ b ≠ X.env.locals ∧ b ∉ X.fs ∧ (b ∈ X.ex ∨ X.s₀.heap.objs.size ≤ b) ∧ (∀ x c, X.env.cells.lookup x = some c → c ≠ b) ∧ ∀ p ∈ X.pn ++ pins, p.1 ≠ b
theorem Inv.fpOk {X : Cx} {pins : List (Addr × Obj)} {σ : St} {H H' : Hp} {s : Shared} {b : Addr} (I : Inv X pins σ H s) (hb : s.heap.objs.size ≤ b) (hn : H' b = none) : FpOk X pins H' b := by
  refine ⟨hn, Nat.ne_of_gt (Nat.lt_of_lt_of_le I.lt hb), I.nofs hb, .inr (Nat.le_trans I.sz hb), fun x c e z => ?_, fun p hp z => ?_⟩
  · obtain ⟨v, q⟩ := I.cell x c e
    exact absurd (Nat.lt_of_lt_of_le q.lt (by rw [z]; exact hb)) (Nat.lt_irrefl _)
  · exact absurd (Nat.lt_of_lt_of_le (Heap.lt_size (I.pin p hp).1) (by rw [z]; exact hb)) (Nat.lt_irrefl _)
structure Turn (P : Program) (w : World) (K : PySem.W.Frag) (tg : Expr) (J : It) (fp : List Addr) (it : Addr) (tn : Nat → Heap → Prop) : Prop where
  mem : it ∈ fp
  obj : ∀ i h, tn i h → ∀ b ∈ fp, ∃ o, h.get? b = some o ∧ ∀ v, o.data ≠ .cell v
  keep : ∀ i h h', tn i h → (∀ b ∈ fp, ∀ o, h.get? b = some o → h'.get? b = some o) → tn i h'
  item : ∀ (X : Cx), X.prog = P → X.w = w → X.K = K → X.calm = true → ∀ (i : Nat) (pins : List (Addr × Obj)) (s : Shared) (σ : St) (H : Hp) (E : Value → Shared → Prop), Inv X pins σ H s → (∀ b ∈ fp, FpOk X pins H b) → tn i s.heap → J.go i H →
    wpAny (model P w) X.A (pyNext (.ref it)) (fun r s1 => ∃ u, r = some u ∧
      wpAny (model P w) X.A (letOwnedTupleGo tg (.ref it) u) (fun _ s2 => ∃ x H', Inv X pins σ H' s2 ∧ RelV x u ∧ J.yld i H x H' ∧ tn (i + 1) s2.heap ∧ ∀ b ∈ fp, H' b = none) E s1) E s
  done : ∀ (X : Cx), X.prog = P → X.w = w → X.K = K → X.calm = true → ∀ (i : Nat) (pins : List (Addr × Obj)) (s : Shared) (σ : St) (H : Hp) (E : Value → Shared → Prop), Inv X pins σ H s → (∀ b ∈ fp, FpOk X pins H b) → tn i s.heap → J.stop i H →
    wpAny (model P w) X.A (pyNext (.ref it)) (fun r s1 => r = none ∧ Inv X pins σ H s1) E s
  self : ∀ (A : Around) (i : Nat) (s : Shared) (Q : Value → Shared → Prop) (E : Value → Shared → Prop), tn i s.heap → Q (.ref it) s → wpAny (model P w) A (pyIter (.ref it)) Q E s
abbrev TI := St → Hp → (It → Hp → Prop) → Prop
def PIE (X : Cx) (pins : List (Addr × Obj)) (σ : St) (tg : Expr) (R : It → Hp → Prop) (itv : Value) (s2 : Shared) : Prop :=
  ∃ (it : Addr) (fp : List Addr) (tn : Nat → Heap → Prop) (J : It) (H' : Hp), itv = .ref it ∧ Inv X pins σ H' s2 ∧ Turn X.prog X.w X.K tg J fp it tn ∧ tn 0 s2.heap ∧ (∀ b ∈ fp, FpOk X pins H' b) ∧ R J H'
def PI (X : Cx) (tg iter : Expr) (wi : TI) : Prop :=
  ∀ (pins : List (Addr × Obj)) (s : Shared) (σ : St) (H : Hp) (R : It → Hp → Prop), Inv X pins σ H s → wi σ H R →
    wpAny (model X.prog X.w) X.A (eval iter X.env) (fun v s1 => wpAny (model X.prog X.w) X.A (pyIter v) (PIE X pins σ tg R) X.xe s1) X.xe s
theorem go_of {M : Model} {A : Around} {E : Value → Shared → Prop} {s : Shared} {tg : Expr} {it : Addr} {u : Value} {o : Obj} {n : String} {vs : Array Value} {Q : Unit → Shared → Prop} (ho : s.heap.get? it = some o) (hc : o.cls = .type n) (hd : o.data = .fields vs)
    (hn : ["enumerate", "zip", "dict_itemiterator", "dict_reverseitemiterator", "odict_iterator", "itertools.zip_longest", "itertools.pairwise"].contains n = false) (hQ : Q () s) : wpAny M A (letOwnedTupleGo tg (.ref it) u) Q E s := by
  unfold letOwnedTupleGo
  cases tg <;> first
    | exact wpAny_pure hQ
    | (cases u <;> first
        | exact wpAny_pure hQ
        | (refine wpAny_bind (wpAny_load ho ?_)
           rw [hc, hd]
           show wpAny M A (if (["enumerate", "zip", "dict_itemiterator", "dict_reverseitemiterator", "odict_iterator", "itertools.zip_longest", "itertools.pairwise"].contains n && vs[0]? == some (rawInt _)) = true then _ else _) Q E s
           rw [if_neg (by intro h; rw [hn, Bool.false_and] at h; cases h)]
           exact wpAny_pure hQ))
def Itl (K : PySem.W.Frag) (a : Addr) : It :=
  ⟨fun i H => ∃ xs x, SqL K H a xs ∧ xs[i]? = some x, fun i H x H' => H' = H ∧ ∀ xs, SqL K H a xs → xs[i]? = some x, fun i H => ∃ xs, SqL K H a xs ∧ xs.length ≤ i⟩
def Itr (lo : Int) (n : Nat) : It := ⟨fun i _ => i < n, fun i H x H' => H' = H ∧ x = .int (lo + i), fun i _ => n ≤ i⟩
theorem turn_list {P : Program} {w : World} {K : PySem.W.Frag} {tg : Expr} (a it : Addr) : Turn P w K tg (Itl K a) [it] it (fun i h => h.IsListIter it a i) where
  mem := by simp
  obj := fun i h st b hb => by
    have e : b = it := by simpa using hb
    subst e
    obtain ⟨o, e, c, d⟩ := st
    exact ⟨o, e, fun v z => by rw [d] at z; cases z⟩
  keep := fun i h h' st k => st.at fun o e => k it (by simp) o e
  item := by
    intro X hP hw hK hc i pins s σ H E I hf st hg
    subst hP hw hK
    obtain ⟨xs, x, hq, hx⟩ := hg
    obtain ⟨its, rv, p, hz⟩ := I.list hq
    obtain ⟨u, hu, ru⟩ := rv.get hx
    obtain ⟨f0, f1, f2, f3, f4, f5⟩ := hf it (by simp)
    refine wpAny_pyNext_list_item st p.isList (x := u) (by simpa using hu) fun h' st' sb => ?_
    have I1 : Inv X pins σ H { s with heap := h' } := I.turned (t' := s.toks) (fun b o hb e => (sb.2 b hb).trans e) f0 f1 f3 f4 f5
    obtain ⟨o, e, c, d⟩ := id st'
    exact ⟨u, rfl, go_of (s := { s with heap := h' }) e c d (by decide) ⟨x, H, I1, ru, ⟨rfl, fun ys hy => by rw [I.list_inj hy hq]; exact hx⟩, st', fun b hb => (hf b hb).1⟩⟩
  done := by
    intro X hP hw hK hc i pins s σ H E I hf st hg
    subst hP hw hK
    obtain ⟨xs, hq, hx⟩ := hg
    obtain ⟨its, rv, p, hz⟩ := I.list hq
    obtain ⟨f0, f1, f2, f3, f4, f5⟩ := hf it (by simp)
    have hl := rv.length
    exact wpAny_pyNext_list_end (I.ok.hd hc) st p.isList (by simp; omega) fun h' eb => ⟨rfl, I.turned (t' := s.toks) (fun b o hb e => eb b o hb e) f0 f1 f3 f4 f5⟩
  self := fun _ _ _ _ _ st h => wpAny_pyIter_listiter st h
theorem turn_range {P : Program} {w : World} {K : PySem.W.Frag} {tg : Expr} (it : Addr) (lo : Int) (n : Nat) : Turn P w K tg (Itr lo n) [it] it (fun i h => IsRangeIter h it (lo + (i : Nat) * 1) ((n : Int) - (i : Nat)) 1) where
  mem := by simp
  obj := fun i h st b hb => by
    have e : b = it := by simpa using hb
    subst e
    exact ⟨_, st, fun v z => by
      have z' : Data.fields _ = Data.cell v := z
      cases z'⟩
  keep := fun i h h' st k => k it (by simp) _ st
  item := by
    intro X hP hw hK hc i pins s σ H E I hf st hg
    subst hP hw hK
    obtain ⟨f0, f1, f2, f3, f4, f5⟩ := hf it (by simp)
    have W := Walks.range (prog := X.prog) (w := X.w) (I.ok.hd hc) it lo 1 n
    refine W.item i s _ _ hg st fun v h' tk hv st' kk => ?_
    obtain ⟨t, rfl⟩ := hv
    have I1 : Inv X pins σ H { s with heap := h', toks := tk } := I.turned (fun b o hb e => kk b o (by simpa using hb) e) f0 f1 f3 f4 f5
    refine ⟨_, rfl, go_of (s := { s with heap := h', toks := tk }) (n := "range_iterator") st' rfl rfl (by decide) ⟨.int (lo + i), H, I1, ⟨t, ?_⟩, ⟨rfl, rfl⟩, st', fun b hb => (hf b hb).1⟩⟩
    rw [Int.mul_one]
  done := by
    intro X hP hw hK hc i pins s σ H E I hf st hg
    subst hP hw hK
    obtain ⟨f0, f1, f2, f3, f4, f5⟩ := hf it (by simp)
    exact wpAny_pyNext_range_end (I.ok.hd hc) st (by have : n ≤ i := hg; omega) fun h' eb => ⟨rfl, I.turned (t' := s.toks) (fun b o hb e => eb b o hb e) f0 f1 f3 f4 f5⟩
  self := fun _ _ _ _ _ st h => wpAny_pyIter_rangeiter st h
end L2
namespace L2
open PySem PySem.Spec PyProof.Rows
variable {q0 : Bool}
section
variable {X : Cx} {tg : Expr}
def iList (K : PySem.W.Frag) (tl : TE) : TI := fun σ H R => tl σ H fun x H1 => ∃ a, x = .ref a ∧ (∃ xs, SqL K H1 a xs) ∧ R (Itl K a) H1
theorem pi_list {l : Expr} {tl : TE} (hl : PE X l tl) : PI X tg l (iList X.K tl) := by
  intro pins s σ H R I h
  refine thn (hl pins s σ H _ I h) fun v s1 ⟨x, H1, I1, r1, q1⟩ => ?_
  obtain ⟨a, e, ⟨xs, hq⟩, q⟩ := q1
  subst e
  cases r1
  obtain ⟨its, rv, p, hz⟩ := I1.list hq
  refine wpAny_pyIter_list p.isList ?_
  refine ⟨s1.heap.objs.size, [s1.heap.objs.size], _, _, H1, rfl, I1.kept (t' := s1.toks) fun b o e => Heap.get?_push_of_some _ e, turn_list a _, ⟨_, Heap.get?_push_size _ rfl, rfl, rfl⟩, fun b hb => ?_, q⟩
  have e : b = s1.heap.objs.size := by simpa using hb
  subst e
  exact I1.fpOk (Nat.le_refl _) (I1.hok.fresh (Nat.le_refl _))
theorem range_it {pins : List (Addr × Obj)} {σ : St} {H : Hp} {s : Shared} {R : It → Hp → Prop} {E : Value → Shared → Prop} {lo hi : Int} {t u v : Tok} {tk : Nat} (I : Inv X pins σ H s) (h1 : -(2 ^ 62) ≤ lo) (h2 : lo < 2 ^ 62) (h3 : -(2 ^ 62) ≤ hi) (h4 : hi < 2 ^ 62)
    (q : R (Itr lo (hi - lo).toNat) H) : wpAny (model X.prog X.w) X.A (pyIter (.ref s.heap.objs.size)) (PIE X pins σ tg R) E { s with heap := s.heap.push { cls := .type "range", data := .fields #[.int lo t, .int hi u, .int 1 v] }, toks := tk } := by
  refine wpAny_pyIter_range (IsRange.new ..) (small_one h1 h2 h3 h4) ?_
  have I1 : Inv X pins σ H { s with heap := s.heap.push { cls := .type "range", data := .fields #[.int lo t, .int hi u, .int 1 v] }, toks := tk } := I.kept fun b o e => Heap.get?_push_of_some _ e
  refine ⟨(s.heap.push { cls := .type "range", data := .fields #[.int lo t, .int hi u, .int 1 v] }).objs.size, [(s.heap.push { cls := .type "range", data := .fields #[.int lo t, .int hi u, .int 1 v] }).objs.size], _, _, H, rfl,
    I1.kept (t' := tk) fun b o e => Heap.get?_push_of_some _ e, turn_range _ lo (hi - lo).toNat, ?_, fun b hb => ?_, q⟩
  · have e1 : lo + ((0 : Nat) : Int) * 1 = lo := by simp
    have e2 : (((hi - lo).toNat : Nat) : Int) - ((0 : Nat) : Int) = Builtin.Range.rangeSize lo hi 1 := by rw [rangeSize_one]; split <;> omega
    show IsRangeIter _ _ (lo + ((0 : Nat) : Int) * 1) ((((hi - lo).toNat : Nat) : Int) - ((0 : Nat) : Int)) 1
    rw [e1, e2]
    exact Heap.get?_push_size _ rfl
  · have e : b = (s.heap.push { cls := .type "range", data := .fields #[.int lo t, .int hi u, .int 1 v] }).objs.size := by simpa using hb
    subst e
    exact I1.fpOk (Nat.le_refl _) (I1.hok.fresh (Nat.le_refl _))
def iRng1 (ta : TA) : TI := fun σ H R => ta σ H fun vs H1 => ∃ j : Int, vs = [.int j] ∧ -(2 ^ 62) ≤ j ∧ j < 2 ^ 62 ∧ R (Itr 0 j.toNat) H1
def iRng2 (ta : TA) : TI := fun σ H R => ta σ H fun vs H1 => ∃ i j : Int, vs = [.int i, .int j] ∧ (-(2 ^ 62) ≤ i ∧ i < 2 ^ 62 ∧ -(2 ^ 62) ≤ j ∧ j < 2 ^ 62) ∧ R (Itr i (j - i).toNat) H1
theorem pi_range1 {a : Expr} {ta : TA} {p pos : Pos} (hg : Gl X "range") (hm : X.mg "range" = none) (ha : PA X [a] ta) (hs : starEach [a] X.env = [(false, eval a X.env)] := by rfl) : PI X tg (.Call (.Name "range" p) [a] [] pos) (iRng1 ta) := by
  intro pins s σ H R I h
  refine Call_ (ld_blt I hg hm boot_range (PyProof.Rows.callWith_type1 (thn (ha pos pins s σ H _ I h) fun us s1 ⟨vs, H1, I1, r1, q1⟩ => ?_) hs rfl))
  obtain ⟨j, e, q1, q2, q⟩ := q1
  subst e
  cases r1 with
  | cons r rr =>
    cases rr
    obtain ⟨t, rfl⟩ := r
    exact call_range_1 (range_it I1 (by omega) (by omega) q1 q2 (by simpa using q))
theorem pi_range2 {a b : Expr} {ta : TA} {p pos : Pos} (hg : Gl X "range") (hm : X.mg "range" = none) (ha : PA X [a, b] ta) (hs : starEach [a, b] X.env = [(false, eval a X.env), (false, eval b X.env)] := by rfl) (hs2 : starEach [b] X.env = [(false, eval b X.env)] := by rfl) :
    PI X tg (.Call (.Name "range" p) [a, b] [] pos) (iRng2 ta) := by
  intro pins s σ H R I h
  refine Call_ (ld_blt I hg hm boot_range (PyProof.Rows.callWith_type1 (thn (ha pos pins s σ H _ I h) fun us s1 ⟨vs, H1, I1, r1, q1⟩ => ?_) (by rw [hs, hs2]) (by rw [hs2]; rfl)))
  obtain ⟨i, j, e, ⟨q1, q2, q3, q4⟩, q⟩ := q1
  subst e
  cases r1 with
  | cons r rr =>
    cases rr with
    | cons r' rr =>
      cases rr
      obtain ⟨t, rfl⟩ := r
      obtain ⟨t', rfl⟩ := r'
      exact call_range_2 (range_it I1 q1 q2 q3 q4 q)
def tFor (wi : TI) (g : TG) (tb : TS) : TS := fun D σ H => wi σ H fun J H1 => ∃ W : Nat → Nat → St → Hp → Prop, (∃ m, W 0 m σ H1) ∧ ∀ i m σ H, W i m σ H →
  (J.stop i H ∧ D.nx σ H) ∨ (J.go i H ∧ ∃ N : St → Hp → Prop, (∀ σ' H', N σ' H' → ∃ m', m' < m ∧ W (i + 1) m' σ' H') ∧ ∀ x H', J.yld i H x H' → g x σ H' fun σ2 H2 => tb { D with nx := N, ct := N, bk := D.nx } σ2 H2)
def pinsAt (fp : List Addr) (h : Heap) : List (Addr × Obj) := fp.filterMap fun b => (h.get? b).map fun o => (b, o)
theorem mem_pinsAt {fp : List Addr} {h : Heap} {b : Addr} {o : Obj} (hb : b ∈ fp) (e : h.get? b = some o) : (b, o) ∈ pinsAt fp h := List.mem_filterMap.mpr ⟨b, hb, by rw [e]; rfl⟩
theorem of_pinsAt {fp : List Addr} {h : Heap} {p : Addr × Obj} (hp : p ∈ pinsAt fp h) : p.1 ∈ fp ∧ h.get? p.1 = some p.2 := by
  obtain ⟨b, hb, e⟩ := List.mem_filterMap.mp hp
  cases q : h.get? b with
  | none => rw [q] at e; cases e
  | some o =>
    rw [q] at e
    have e' : (b, o) = p := Option.some.inj e
    subst e'
    exact ⟨hb, q⟩
theorem Inv.pinned {pins : List (Addr × Obj)} {σ : St} {H : Hp} {s : Shared} {fp : List Addr} (I : Inv X pins σ H s) (hf : ∀ b ∈ fp, FpOk X pins H b) (ho : ∀ b ∈ fp, ∃ o, s.heap.get? b = some o ∧ ∀ v, o.data ≠ .cell v) : Inv X (pins ++ pinsAt fp s.heap) σ H s :=
  I.pins_of fun p hp => (List.mem_append.mp hp).elim (fun z => I.pin p (List.mem_append_right _ z)) fun z => by
    obtain ⟨hb, e⟩ := of_pinsAt z
    obtain ⟨f0, f1, f2, _⟩ := hf p.1 hb
    obtain ⟨o, e', d⟩ := ho p.1 hb
    rw [e] at e'; cases e'
    exact ⟨e, f0, f1, f2, d⟩
theorem Inv.unpinned {pins pl : List (Addr × Obj)} {σ : St} {H : Hp} {s : Shared} (I : Inv X (pins ++ pl) σ H s) : Inv X pins σ H s := I.pins_of fun p hp => I.pin p (List.mem_append_right _ (List.mem_append_left _ hp))
theorem ps_for {iter : Expr} {body : List Stmt} {wi : TI} {g : TG} {tb : TS} {pos : Pos} (hp : PassesOwn (model X.prog X.w) X.A X.env X.xe) (hc : X.calm = true) (hi : PI X tg iter wi) (hg : PG X tg g) (hb : PSs X body tb)
    (hs : ∀ x, foldedSetIterable iter X.env x = pure x := by intro _; rfl) : PS X (.For tg iter body [] pos) (tFor wi g tb) := by
  intro pins s σ H D I h
  refine wpAny_For (thn (hi pins s σ H _ I h) fun v s1 h1 => thn h1 fun itv s2 h2 => ?_) hs
  obtain ⟨it, fp, tn, J, H2, e, I2, T, st2, f2, W, ⟨m0, w0⟩, turn⟩ := h2
  subst e
  -- what stays true of the iterator's objects through the loop
  have stat : ∀ {H' : Hp}, (∀ b ∈ fp, H' b = none) → ∀ b ∈ fp, FpOk X pins H' b := fun hn b hb => ⟨hn b hb, (f2 b hb).2⟩
  refine codeAny_forLoop_any (fun n s' => ∃ i σ' H', Inv X pins σ' H' s' ∧ tn i s'.heap ∧ (∀ b ∈ fp, H' b = none) ∧ W i n σ' H') ?_ m0 ⟨0, σ, H2, I2, st2, fun b hb => (f2 b hb).1, w0⟩
  rintro n s3 ⟨i, σ3, H3, I3, st3, fr3, w3⟩
  rcases turn i n σ3 H3 w3 with ⟨stop, qn⟩ | ⟨go, N, hN, step⟩
  · refine wpAny_passesOwn hp (thn (T.done X rfl rfl rfl hc i pins s3 σ3 H3 X.xe I3 (stat fr3) st3 stop) fun r s4 ⟨hr, I4⟩ => ?_)
    subst hr
    exact wpAny_execs_nil ⟨σ3, H3, I4, qn⟩
  · refine wpAny_passesOwn hp (thn (T.item X rfl rfl rfl hc i pins s3 σ3 H3 X.xe I3 (stat fr3) st3 go) fun r s4 ⟨u, hr, h4⟩ => ?_)
    subst hr
    refine wpAny_passesOwn hp (thn h4 fun _ s5 ⟨x, H5, I5, r5, y5, st5, fr5⟩ => ?_)
    have I5' := I5.pinned (stat fr5) (T.obj _ _ st5)
    refine wpAny_passesOwn hp (thn (hg _ s5 σ3 H5 x u _ I5' r5 (step x H5 y5)) fun _ s6 ⟨σ6, H6, I6, q6⟩ => ?_)
    refine wpAny_passesOwn hp (thn (hb _ s6 σ6 H6 _ I6 q6) fun f s7 q7 => ?_)
    have again : ∀ {σ7 : St} {H7 : Hp}, Inv X (pins ++ pinsAt fp s5.heap) σ7 H7 s7 → N σ7 H7 → ∃ m, m < n ∧ ∃ i σ' H', Inv X pins σ' H' s7 ∧ tn i s7.heap ∧ (∀ b ∈ fp, H' b = none) ∧ W i m σ' H' := fun {σ7 H7} I7 n7 => by
      obtain ⟨m', hm, w7⟩ := hN σ7 H7 n7
      refine ⟨m', hm, i + 1, σ7, H7, I7.unpinned, T.keep _ _ _ st5 fun b hb o e => (I7.pin (b, o) (List.mem_append_right _ (List.mem_append_right _ (mem_pinsAt hb e)))).1, fun b hb => ?_, w7⟩
      obtain ⟨o, e, d⟩ := T.obj _ _ st5 b hb
      exact (I7.pin (b, o) (List.mem_append_right _ (List.mem_append_right _ (mem_pinsAt hb e)))).2.1
    cases f with
    | next => obtain ⟨σ7, H7, I7, n7⟩ := q7; exact again I7 n7
    | cont => obtain ⟨σ7, H7, I7, n7⟩ := q7; exact again I7 n7
    | brk => obtain ⟨σ7, H7, I7, q7⟩ := q7; exact ⟨σ7, H7, I7.unpinned, q7⟩
    | ret v => obtain ⟨x7, σ7, H7, I7, r7, q7⟩ := q7; exact ⟨x7, σ7, H7, I7.unpinned, r7, q7⟩
end
theorem for_list {K : PySem.W.Frag} {a : Addr} {xs : List V} {g : TG} {tb : TS} {D : Ends} {σ : St} {H : Hp} (Pv : Nat → St → Hp → Prop) (h0 : Pv 0 σ H) (hl : ∀ i σ H, i ≤ xs.length → Pv i σ H → SqL K H a xs)
    (hs : ∀ i x σ H, xs[i]? = some x → Pv i σ H → g x σ H fun σ2 H2 => tb { D with nx := Pv (i + 1), ct := Pv (i + 1), bk := D.nx } σ2 H2) (hd : ∀ σ H, Pv xs.length σ H → D.nx σ H) :
    ∃ W : Nat → Nat → St → Hp → Prop, (∃ m, W 0 m σ H) ∧ ∀ i m σ H, W i m σ H →
      ((Itl K a).stop i H ∧ D.nx σ H) ∨ ((Itl K a).go i H ∧ ∃ N : St → Hp → Prop, (∀ σ' H', N σ' H' → ∃ m', m' < m ∧ W (i + 1) m' σ' H') ∧ ∀ x H', (Itl K a).yld i H x H' → g x σ H' fun σ2 H2 => tb { D with nx := N, ct := N, bk := D.nx } σ2 H2) := by
  refine ⟨fun i m σ H => m = xs.length - i ∧ i ≤ xs.length ∧ Pv i σ H, ⟨xs.length, by simp, Nat.zero_le _, h0⟩, ?_⟩
  rintro i m σ H ⟨rfl, hi, p⟩
  have q := hl i σ H hi p
  by_cases hlt : i < xs.length
  · refine .inr ⟨⟨xs, xs[i], q, by simp [hlt]⟩, Pv (i + 1), fun σ' H' p' => ⟨xs.length - (i + 1), by omega, rfl, hlt, p'⟩, fun x H' y => ?_⟩
    obtain ⟨e, y⟩ := y
    subst e
    exact hs i x σ _ (y xs q) p
  · have e : i = xs.length := by omega
    subst e
    exact .inl ⟨⟨xs, q, Nat.le_refl _⟩, hd σ H p⟩
theorem for_range {lo : Int} {n : Nat} {g : TG} {tb : TS} {D : Ends} {σ : St} {H : Hp} (Pv : Nat → St → Hp → Prop) (h0 : Pv 0 σ H)
    (hs : ∀ i σ H, i < n → Pv i σ H → g (.int (lo + i)) σ H fun σ2 H2 => tb { D with nx := Pv (i + 1), ct := Pv (i + 1), bk := D.nx } σ2 H2) (hd : ∀ σ H, Pv n σ H → D.nx σ H) :
    ∃ W : Nat → Nat → St → Hp → Prop, (∃ m, W 0 m σ H) ∧ ∀ i m σ H, W i m σ H →
      ((Itr lo n).stop i H ∧ D.nx σ H) ∨ ((Itr lo n).go i H ∧ ∃ N : St → Hp → Prop, (∀ σ' H', N σ' H' → ∃ m', m' < m ∧ W (i + 1) m' σ' H') ∧ ∀ x H', (Itr lo n).yld i H x H' → g x σ H' fun σ2 H2 => tb { D with nx := N, ct := N, bk := D.nx } σ2 H2) := by
  refine ⟨fun i m σ H => m = n - i ∧ i ≤ n ∧ Pv i σ H, ⟨n, by simp, Nat.zero_le _, h0⟩, ?_⟩
  rintro i m σ H ⟨rfl, hi, p⟩
  by_cases hlt : i < n
  · refine .inr ⟨hlt, Pv (i + 1), fun σ' H' p' => ⟨n - (i + 1), by omega, rfl, hlt, p'⟩, fun x H' y => ?_⟩
    obtain ⟨e, y⟩ := y
    subst e y
    exact hs i σ _ hlt p
  · have e : i = n := by omega
    subst e
    exact .inl ⟨Nat.le_refl _, hd σ H p⟩
end L2
namespace L2
open PySem PySem.Spec PyProof.Rows
variable {q0 : Bool}
abbrev R2 := V → V → Hp → VK → Prop
def OpR (X : Cx) (f : Value → Value → Sem Value) (r : R2) : Prop :=
  ∀ (pins : List (Addr × Obj)) (s : Shared) (σ : St) (H : Hp) (x y : V) (v u : Value) (Q : VK), Inv X pins σ H s → RelV x v → RelV y u → r x y H Q →
    wpAny (model X.prog X.w) X.A (f v u) (EP X pins σ Q) X.xe s
def UnR (X : Cx) (f : Value → Sem Value) (r : V → Hp → VK → Prop) : Prop :=
  ∀ (pins : List (Addr × Obj)) (s : Shared) (σ : St) (H : Hp) (x : V) (v : Value) (Q : VK), Inv X pins σ H s → RelV x v → r x H Q →
    wpAny (model X.prog X.w) X.A (f v) (EP X pins σ Q) X.xe s
def CallR (X : Cx) (f : Value) (r : List V → Hp → VK → Prop) : Prop :=
  ∀ (pins : List (Addr × Obj)) (s : Shared) (σ : St) (H : Hp) (xs : List V) (us : List Value) (Q : VK), Inv X pins σ H s → Vals xs us → r xs H Q →
    wpAny (model X.prog X.w) X.A (call f us) (EP X pins σ Q) X.xe s
def tOp (r : R2) (ta tb : TE) : TE := fun σ H Q => ta σ H fun x H1 => tb σ H1 fun y H2 => r x y H2 Q
def tUn (r : V → Hp → VK → Prop) (ta : TE) : TE := fun σ H Q => ta σ H fun x H1 => r x H1 Q
def rI (C : Int → Int → Prop) (g : Int → Int → V) : R2 := fun x y H Q => ∃ i j, x = .int i ∧ y = .int j ∧ C i j ∧ Q (g i j) H
def rI0 (g : Int → Int → V) : R2 := fun x y H Q => ∃ i j, x = .int i ∧ y = .int j ∧ Q (g i j) H
def rU (g : Int → V) : V → Hp → VK → Prop := fun x H Q => ∃ i, x = .int i ∧ Q (g i) H
section
variable {X : Cx} {a b c : Expr} {ta tb tc : TE} {pos : Pos}
theorem binT (ha : PE X a ta) (hb : PE X b tb) {pins : List (Addr × Obj)} {s : Shared} {σ : St} {H : Hp} {R : V → V → Hp → Prop} (I : Inv X pins σ H s)
    (h : ta σ H fun x H1 => tb σ H1 fun y H2 => R x y H2) {Q : Value → Shared → Prop} {f : Value → Value → Sem Value}
    (hf : ∀ v u s2 x y H2, Inv X pins σ H2 s2 → RelV x v → RelV y u → R x y H2 → wpAny (model X.prog X.w) X.A (f v u) Q X.xe s2) :
    wpAny (model X.prog X.w) X.A (eval a X.env) (fun v s₁ => wpAny (model X.prog X.w) X.A (eval b X.env) (fun u s₂ => wpAny (model X.prog X.w) X.A (f v u) Q X.xe s₂) X.xe s₁) X.xe s := by
  refine thn (ha pins s σ H _ I h) fun v s1 ⟨x, H1, I1, r1, q1⟩ => ?_
  refine thn (hb pins s1 σ H1 _ I1 q1) fun u s2 ⟨y, H2, I2, r2, q2⟩ => ?_
  exact hf v u s2 x y H2 I2 r1 r2 q2
theorem pe_op {op : Operator} {r : R2} (ho : OpR X (binaryOp op) r) (ha : PE X a ta) (hb : PE X b tb) : PE X (.BinOp a op b pos) (tOp r ta tb) := by
  intro pins s σ H Q I h
  exact wpAny_BinOp (binT ha hb I h fun v u s2 x y H2 I2 rx ry q => ho pins s2 σ H2 x y v u Q I2 rx ry q)
theorem pe_un {op : UnaryOp} {r : V → Hp → VK → Prop} (ho : UnR X (unaryOp op) r) (ha : PE X a ta) : PE X (.UnaryOp op a pos) (tUn r ta) := by
  intro pins s σ H Q I h
  exact UnaryOp_ (thn (ha pins s σ H _ I h) fun v s1 ⟨x, H1, I1, r1, q1⟩ => ho pins s1 σ H1 x v Q I1 r1 q1)
theorem opI {f : Value → Value → Sem Value} {C : Int → Int → Prop} {g : Int → Int → Int}
    (rule : ∀ (i j : Int) (t u : Tok) (s : Shared) (Q : Value → Shared → Prop) (E : Value → Shared → Prop), C i j → Q (.int (g i j) s.toks) { s with toks := s.toks + 1 } → wpAny (model X.prog X.w) X.A (f (.int i t) (.int j u)) Q E s) :
    OpR X f (rI C fun i j => .int (g i j)) := by
  intro pins s σ H x y v u Q I rx ry h
  obtain ⟨i, j, rfl, rfl, hc, q⟩ := h
  obtain ⟨t, rfl⟩ := rx
  obtain ⟨t', rfl⟩ := ry
  exact rule i j t t' s _ _ hc ⟨.int (g i j), H, I.tok _, ⟨_, rfl⟩, q⟩
theorem opI0 {f : Value → Value → Sem Value} {g : Int → Int → Int}
    (rule : ∀ (i j : Int) (t u : Tok) (s : Shared) (Q : Value → Shared → Prop) (E : Value → Shared → Prop), Q (.int (g i j) s.toks) { s with toks := s.toks + 1 } → wpAny (model X.prog X.w) X.A (f (.int i t) (.int j u)) Q E s) :
    OpR X f (rI0 fun i j => .int (g i j)) := by
  intro pins s σ H x y v u Q I rx ry h
  obtain ⟨i, j, rfl, rfl, q⟩ := h
  obtain ⟨t, rfl⟩ := rx
  obtain ⟨t', rfl⟩ := ry
  exact rule i j t t' s _ _ ⟨.int (g i j), H, I.tok _, ⟨_, rfl⟩, q⟩
theorem opB0 {f : Value → Value → Sem Value} {g : Int → Int → Bool}
    (rule : ∀ (i j : Int) (t u : Tok) (s : Shared) (Q : Value → Shared → Prop) (E : Value → Shared → Prop), Q (.bool (g i j)) s → wpAny (model X.prog X.w) X.A (f (.int i t) (.int j u)) Q E s) :
    OpR X f (rI0 fun i j => .bl (g i j)) := by
  intro pins s σ H x y v u Q I rx ry h
  obtain ⟨i, j, rfl, rfl, q⟩ := h
  obtain ⟨t, rfl⟩ := rx
  obtain ⟨t', rfl⟩ := ry
  exact rule i j t t' s _ _ ⟨.bl (g i j), H, I, rfl, q⟩
def CDiv (i j : Int) : Prop := 0 < j ∧ j < 1073741824
def CPow (i j : Int) : Prop := 0 ≤ j ∧ j ≤ 1000000 ∧ i.natAbs < 2 ^ 64
def CMul (i j : Int) : Prop := (-(2 ^ 64) < i ∧ i < 2 ^ 64) ∨ (-(2 ^ 64) < j ∧ j < 2 ^ 64)
theorem CMul.ok {i j : Int} (h : CMul i j) : IntMulOk i j := by
  rcases h with ⟨h1, h2⟩ | ⟨h1, h2⟩
  · exact .of_left (intBits_le_64 h1 h2)
  · exact .of_right (intBits_le_64 h1 h2)
theorem two_pow_nn (k : Nat) : (0 : Int) ≤ 2 ^ k := by
  rw [two_pow_cast]
  exact Int.natCast_nonneg _
theorem op_add : OpR X (binaryOp .Add) (rI0 fun i j => .int (i + j)) := opI0 fun _ _ _ _ _ _ _ q => add_int q
theorem op_sub : OpR X (binaryOp .Sub) (rI0 fun i j => .int (i - j)) := opI0 fun _ _ _ _ _ _ _ q => sub_int q
theorem op_mul : OpR X (binaryOp .Mult) (rI CMul fun i j => .int (i * j)) := opI fun _ _ _ _ _ _ _ hc q => mul_int q hc.ok
theorem op_fdiv : OpR X (binaryOp .FloorDiv) (rI CDiv fun i j => .int (i / j)) := opI fun i j _ _ _ _ _ hc q => by
  have h1 : (0 : Int) < j := hc.1
  have h2 : j < 1073741824 := hc.2
  exact floordiv_int (by omega) (by rw [Int.fdiv_eq_ediv_of_nonneg i (by omega)]; exact q) (.inl (PyProof.noPylong_small (by omega)))
theorem op_mod : OpR X (binaryOp .Mod) (rI (fun _ j => 0 < j) fun i j => .int (i % j)) := opI fun i j _ _ _ _ _ hc q => by
  have h1 : (0 : Int) < j := hc
  exact mod_int' (by omega) (by rw [Int.fmod_eq_emod_of_nonneg i (by omega)]; exact q)
theorem op_pow : OpR X (binaryOp .Pow) (rI CPow fun i j => .int (i ^ j.toNat)) := opI fun _ _ _ _ _ _ _ hc q => pow_int_small hc.1 hc.2.1 hc.2.2 q
theorem op_shr : OpR X (binaryOp .RShift) (rI (fun _ j => 0 ≤ j) fun i j => .int (i / 2 ^ j.toNat)) := opI fun i j _ _ _ _ _ hc q =>
  rshift_int hc (by rw [Int.fdiv_eq_ediv_of_nonneg i (two_pow_nn _)]; exact q)
theorem op_and : OpR X (binaryOp .BitAnd) (rI0 fun i j => .int (Builtin.bitAnd i j)) := opI0 fun _ _ _ _ _ _ _ q => and_int q
theorem unI {f : Value → Sem Value} {g : Int → Int}
    (rule : ∀ (i : Int) (t : Tok) (s : Shared) (Q : Value → Shared → Prop) (E : Value → Shared → Prop), Q (.int (g i) s.toks) { s with toks := s.toks + 1 } → wpAny (model X.prog X.w) X.A (f (.int i t)) Q E s) :
    UnR X f (rU fun i => .int (g i)) := by
  intro pins s σ H x v Q I rx h
  obtain ⟨i, rfl, q⟩ := h
  obtain ⟨t, rfl⟩ := rx
  exact rule i t s _ _ ⟨.int (g i), H, I.tok _, ⟨_, rfl⟩, q⟩
theorem un_neg : UnR X (unaryOp .USub) (rU fun i => .int (-i)) := unI fun _ _ _ _ _ q => neg_int q
end
def scal : V → V → Bool
  | .non, .non => true | .non, .int _ => true | .int _, .non => true | .non, .bl _ => true | .bl _, .non => true | .non, .str _ => true | .str _, .non => true
  | .int _, .int _ => true | .bl _, .bl _ => true | .str _, .str _ => true | .byt _, .byt _ => true
  | .int _, .str _ => true | .str _, .int _ => true | .bl _, .str _ => true | .str _, .bl _ => true
  | _, _ => false
def rEq : R2 := fun x y H Q => scal x y = true ∧ Q (.bl (decide (x = y))) H
def rNe : R2 := fun x y H Q => scal x y = true ∧ Q (.bl (!decide (x = y))) H
theorem dec_int {i j : Int} : decide (V.int i = V.int j) = (i == j) := by
  rw [Bool.eq_iff_iff]
  simp
theorem dec_bl {i j : Bool} : decide (V.bl i = V.bl j) = (i == j) := by
  rw [Bool.eq_iff_iff]
  simp
theorem dec_str {i j : Str} : decide (V.str i = V.str j) = (i == j) := by
  rw [Bool.eq_iff_iff]
  simp
theorem dec_byt {i j : Array UInt8} : decide (V.byt i = V.byt j) = (i.toList == j.toList) := by
  rw [Bool.eq_iff_iff]
  cases i
  cases j
  simp
section
variable {X : Cx} {a b c : Expr} {ta tb tc : TE} {pos : Pos}
theorem fin_bl {pins : List (Addr × Obj)} {σ : St} {H : Hp} {s : Shared} {Q : VK} {k k' : Bool} (I : Inv X pins σ H s) (q : Q (.bl k) H) (e : k = k') : EP X pins σ Q (.bool k') s := by
  subst e
  exact ⟨.bl k, H, I, rfl, q⟩
theorem op_eq : OpR X (compareOp .Eq) rEq := by
  intro pins s σ H x y v u Q I rx ry h
  obtain ⟨hs, q⟩ := h
  cases x with
  | non =>
    cases rx
    cases y with
    | non => cases ry; exact PySem.EqNone.eq_none_none (fin_bl I q (by simp))
    | bl j => cases ry; exact PySem.EqNone.eq_none_bool (fin_bl I q (by simp))
    | int j => obtain ⟨t', rfl⟩ := ry; exact PySem.EqNone.eq_none_int (fin_bl I q (by simp))
    | str j => obtain ⟨t', rfl⟩ := ry; exact PySem.EqNone.eq_none_str (fin_bl I q (by simp))
    | _ => exact absurd (show false = true from hs) Bool.false_ne_true
  | bl i =>
    cases rx
    cases y with
    | non => cases ry; exact PySem.EqNone.eq_bool_none (fin_bl I q (by simp))
    | bl j => cases ry; exact eq_bool (fin_bl I q dec_bl)
    | str j => obtain ⟨t', rfl⟩ := ry; exact PySem.EqMixed.eq_bool_str (fin_bl I q (by simp))
    | _ => exact absurd (show false = true from hs) Bool.false_ne_true
  | int i =>
    obtain ⟨t, rfl⟩ := rx
    cases y with
    | non => cases ry; exact PySem.EqNone.eq_int_none (fin_bl I q (by simp))
    | int j => obtain ⟨t', rfl⟩ := ry; exact eq_int (fin_bl I q dec_int)
    | str j => obtain ⟨t', rfl⟩ := ry; exact PySem.EqMixed.eq_int_str (fin_bl I q (by simp))
    | _ => exact absurd (show false = true from hs) Bool.false_ne_true
  | str i =>
    obtain ⟨t, rfl⟩ := rx
    cases y with
    | non => cases ry; exact PySem.EqNone.eq_str_none (fin_bl I q (by simp))
    | bl j => cases ry; exact PySem.EqMixed.eq_str_bool (fin_bl I q (by simp))
    | int j => obtain ⟨t', rfl⟩ := ry; exact PySem.EqMixed.eq_str_int (fin_bl I q (by simp))
    | str j => obtain ⟨t', rfl⟩ := ry; exact eq_str (fin_bl I q dec_str)
    | _ => exact absurd (show false = true from hs) Bool.false_ne_true
  | byt i =>
    obtain ⟨t, rfl⟩ := rx
    cases y with
    | byt j => obtain ⟨t', rfl⟩ := ry; exact PySem.W.eq_bytes (fin_bl I q dec_byt)
    | _ => exact absurd (show false = true from hs) Bool.false_ne_true
  | _ => cases y <;> exact absurd (show false = true from hs) Bool.false_ne_true
theorem op_ne : OpR X (compareOp .NotEq) rNe := by
  intro pins s σ H x y v u Q I rx ry h
  obtain ⟨hs, q⟩ := h
  cases x with
  | non =>
    cases rx
    cases y with
    | non => cases ry; exact PySem.EqNone.ne_none_none (fin_bl I q (by simp))
    | bl j => cases ry; exact PySem.EqNone.ne_none_bool (fin_bl I q (by simp))
    | int j => obtain ⟨t', rfl⟩ := ry; exact PySem.EqNone.ne_none_int (fin_bl I q (by simp))
    | str j => obtain ⟨t', rfl⟩ := ry; exact PySem.EqNone.ne_none_str (fin_bl I q (by simp))
    | _ => exact absurd (show false = true from hs) Bool.false_ne_true
  | bl i =>
    cases rx
    cases y with
    | non => cases ry; exact PySem.EqNone.ne_bool_none (fin_bl I q (by simp))
    | bl j => cases ry; exact ne_bool (fin_bl I q (congrArg not dec_bl))
    | str j => obtain ⟨t', rfl⟩ := ry; exact PySem.EqMixed.ne_bool_str (fin_bl I q (by simp))
    | _ => exact absurd (show false = true from hs) Bool.false_ne_true
  | int i =>
    obtain ⟨t, rfl⟩ := rx
    cases y with
    | non => cases ry; exact PySem.EqNone.ne_int_none (fin_bl I q (by simp))
    | int j => obtain ⟨t', rfl⟩ := ry; exact ne_int (fin_bl I q (congrArg not dec_int))
    | str j => obtain ⟨t', rfl⟩ := ry; exact PySem.EqMixed.ne_int_str (fin_bl I q (by simp))
    | _ => exact absurd (show false = true from hs) Bool.false_ne_true
  | str i =>
    obtain ⟨t, rfl⟩ := rx
    cases y with
    | non => cases ry; exact PySem.EqNone.ne_str_none (fin_bl I q (by simp))
    | bl j => cases ry; exact PySem.EqMixed.ne_str_bool (fin_bl I q (by simp))
    | int j => obtain ⟨t', rfl⟩ := ry; exact PySem.EqMixed.ne_str_int (fin_bl I q (by simp))
    | str j => obtain ⟨t', rfl⟩ := ry; exact ne_str (fin_bl I q (congrArg not dec_str))
    | _ => exact absurd (show false = true from hs) Bool.false_ne_true
  | byt i =>
    obtain ⟨t, rfl⟩ := rx
    cases y with
    | byt j => obtain ⟨t', rfl⟩ := ry; exact PySem.W.ne_bytes (fin_bl I q (congrArg not dec_byt))
    | _ => exact absurd (show false = true from hs) Bool.false_ne_true
  | _ => cases y <;> exact absurd (show false = true from hs) Bool.false_ne_true
theorem op_lt : OpR X (compareOp .Lt) (rI0 fun i j => .bl (decide (i < j))) := opB0 fun _ _ _ _ _ _ _ q => lt_int q
theorem op_le : OpR X (compareOp .LtE) (rI0 fun i j => .bl (decide (i ≤ j))) := opB0 fun _ _ _ _ _ _ _ q => le_int q
theorem op_gt : OpR X (compareOp .Gt) (rI0 fun i j => .bl (decide (j < i))) := opB0 fun _ _ _ _ _ _ _ q => gt_int q
theorem op_ge : OpR X (compareOp .GtE) (rI0 fun i j => .bl (decide (j ≤ i))) := opB0 fun _ _ _ _ _ _ _ q => ge_int q
theorem op_isN : OpR X (compareOp .Is) (fun x y H Q => y = .non ∧ Q (.bl (decide (x = .non))) H) := by
  intro pins s σ H x y v u Q I rx ry h
  obtain ⟨rfl, q⟩ := h
  cases ry
  refine is_none_gen (fin_bl I q ?_)
  cases x <;> first
    | (cases rx; rfl)
    | (obtain ⟨t, rfl⟩ := rx; rfl)
theorem op_notN : OpR X (compareOp .IsNot) (fun x y H Q => y = .non ∧ Q (.bl (!decide (x = .non))) H) := by
  intro pins s σ H x y v u Q I rx ry h
  obtain ⟨rfl, q⟩ := h
  cases ry
  refine isnot_none_gen (fin_bl I q ?_)
  cases x <;> first
    | (cases rx; rfl)
    | (obtain ⟨t, rfl⟩ := rx; rfl)
def isObj : HO → Bool
  | .lst _ => true
  | .ins _ _ _ => true
  | _ => false
theorem nomark (b : Expr) {op : CmpOp} (h : op ≠ .In := by decide) (h2 : op ≠ .NotIn := by decide) : behindInMarks op b = false := by
  have e1 : (op == CmpOp.In) = false := by cases op <;> first | rfl | exact absurd rfl h
  have e2 : (op == CmpOp.NotIn) = false := by cases op <;> first | rfl | exact absurd rfl h2
  cases b <;> simp [behindInMarks, e1, e2]
theorem pe_cmpR {op : CmpOp} {r : R2} (ho : OpR X (compareOp op) r) (ha : PE X a ta) (hb : PE X b tb) (hm : behindInMarks op b = false) : PE X (.Compare a [op] [b] pos) (tOp r ta tb) := by
  intro pins s σ H Q I h
  exact wpAny_Compare1 (binT ha hb I h fun v u s2 x y H2 I2 rx ry q => ho pins s2 σ H2 x y v u Q I2 rx ry q) hm
def tTest (t : TE) : TT := fun σ H Q => t σ H fun x H' => ∃ k, x = .bl k ∧ Q k H'
theorem pt_cmpR {op : CmpOp} {r : R2} (ho : OpR X (compareOp op) r) (ha : PE X a ta) (hb : PE X b tb) (hm : behindInMarks op b = false) : PT X (.Compare a [op] [b] pos) (tTest (tOp r ta tb)) := by
  intro pins s σ H Q I h
  refine wpAny_isTrue_Compare1 (thn (ha pins s σ H _ I h) fun v s1 ⟨x, H1, I1, r1, q1⟩ => thn (hb pins s1 σ H1 _ I1 q1) fun u s2 ⟨y, H2, I2, r2, q2⟩ =>
    thn (ho pins s2 σ H2 x y v u _ I2 r1 r2 q2) fun c s3 ⟨z, H3, I3, r3, k, e, q3⟩ => ?_) hm
  subst e
  cases r3
  exact wpAny_truthy_bool ⟨H3, I3, q3⟩
def tChain (r r' : R2) (ta tb tc : TE) : TE := fun σ H Q => ta σ H fun x H1 => tb σ H1 fun y H2 => r x y H2 fun z H3 => ∃ k, z = .bl k ∧
  (if k = true then tc σ H3 fun w' H4 => r' y w' H4 Q else Q (.bl false) H3)
theorem pe_chain {op op' : CmpOp} {r r' : R2} (ho : OpR X (compareOp op) r) (ho' : OpR X (compareOp op') r') (ha : PE X a ta) (hb : PE X b tb) (hc : PE X c tc)
    (hm : lastMarks [op, op'] [b, c] = false := by with_unfolding_all rfl) : PE X (.Compare a [op, op'] [b, c] pos) (tChain r r' ta tb tc) := by
  intro pins s σ H Q I h
  refine Compare_chain (thn (ha pins s σ H _ I h) fun v s1 ⟨x, H1, I1, r1, q1⟩ => chain_link (thn (hb pins s1 σ H1 _ I1 q1) fun u s2 ⟨y, H2, I2, r2, q2⟩ =>
    thn (ho pins s2 σ H2 x y v u _ I2 r1 r2 q2) fun d s3 ⟨z, H3, I3, r3, k, e, q3⟩ => ?_)) hm
  subst e
  cases r3
  refine wpAny_truthy_bool ?_
  cases k with
  | false => exact ite_ff ⟨.bl false, H3, I3, rfl, q3⟩
  | true => exact ite_tt (chain_last (thn (hc pins s3 σ H3 _ I3 q3) fun w' s4 ⟨z', H4, I4, r4, q4⟩ => ho' pins s4 σ H4 y z' u w' Q I4 r2 r4 q4))
theorem line63 : (sizeLine : Nat) < 2 ^ 63 := by rw [sizeLine_eq]; decide
theorem vals1 {x : V} {us : List Value} (r : Vals [x] us) : ∃ u, us = [u] ∧ RelV x u := by
  cases r with
  | cons r1 r2 => cases r2; exact ⟨_, rfl, r1⟩
theorem vals2 {x y : V} {us : List Value} (r : Vals [x, y] us) : ∃ u w', us = [u, w'] ∧ RelV x u ∧ RelV y w' := by
  cases r with
  | cons r1 r2 =>
    cases r2 with
    | cons r3 r4 => cases r4; exact ⟨_, _, rfl, r1, r3⟩
theorem call_abs : CallR X (.builtin "abs") (fun xs H Q => ∃ i, xs = [.int i] ∧ Q (.int (if i < 0 then -i else i)) H) := by
  intro pins s σ H xs us Q I r h
  obtain ⟨i, rfl, q⟩ := h
  obtain ⟨u, rfl, t, rfl⟩ := vals1 r
  exact call_abs_int fun u tk => ⟨.int (if i < 0 then -i else i), H, I.tok _, ⟨_, rfl⟩, q⟩
theorem call_max2 (hc : X.calm = true) : CallR X (.builtin "max") (fun xs H Q => ∃ i j, xs = [.int i, .int j] ∧ Q (.int (if j > i then j else i)) H) := by
  intro pins s σ H xs us Q I r h
  obtain ⟨i, j, rfl, q⟩ := h
  obtain ⟨u, w', rfl, ⟨t, rfl⟩, ⟨t', rfl⟩⟩ := vals2 r
  refine max_two_ints (I.ok.hd hc) fun h' tk k => ⟨_, H, I.kept k, ?_, q⟩
  by_cases hj : j > i
  · rw [if_pos hj, if_pos hj]; exact ⟨_, rfl⟩
  · rw [if_neg hj, if_neg hj]; exact ⟨_, rfl⟩
theorem call_min2 (hc : X.calm = true) : CallR X (.builtin "min") (fun xs H Q => ∃ i j, xs = [.int i, .int j] ∧ Q (.int (if j < i then j else i)) H) := by
  intro pins s σ H xs us Q I r h
  obtain ⟨i, j, rfl, q⟩ := h
  obtain ⟨u, w', rfl, ⟨t, rfl⟩, ⟨t', rfl⟩⟩ := vals2 r
  refine min_two_ints (I.ok.hd hc) fun h' tk k => ⟨_, H, I.kept k, ?_, q⟩
  by_cases hj : j < i
  · rw [if_pos hj, if_pos hj]; exact ⟨_, rfl⟩
  · rw [if_neg hj, if_neg hj]; exact ⟨_, rfl⟩
theorem call_int1 : CallR X (.type "int") (fun xs H Q => (∃ i, xs = [.int i] ∧ Q (.int i) H) ∨ ∃ k, xs = [.bl k] ∧ Q (.int (if k then 1 else 0)) H) := by
  intro pins s σ H xs us Q I r h
  rcases h with ⟨i, rfl, q⟩ | ⟨k, rfl, q⟩
  · obtain ⟨u, rfl, t, rfl⟩ := vals1 r
    exact call_int_int ⟨.int i, H, I, ⟨_, rfl⟩, q⟩
  · obtain ⟨u, rfl, r1⟩ := vals1 r
    cases r1
    exact call_int_bool ⟨.int (if k then 1 else 0), H, I.tok _, ⟨_, rfl⟩, q⟩
end
end L2
namespace L2
open PySem PySem.Spec PyProof.Rows
variable {q0 : Bool}
structure ObjM (h : Heap) (x dx C : Addr) (mA : Str → Option Value) : Prop where
  obj : h.get? x = some (PySem.W.instObj C dx)
  ns : h.Ns1 dx mA
  ne : dx ≠ x
theorem lookIn_ns {h : Heap} {dx : Addr} {mA : Str → Option Value} (n : h.Ns1 dx mA) : ∃ od, h.get? dx = some od ∧ ∀ name, PySem.W.lookIn name od = some (mA name) := by
  obtain ⟨o, es, ep, ho, hd, hk, _, hm⟩ := n
  refine ⟨o, ho, fun name => ?_⟩
  have e := hm name
  unfold nsFind findBy at e
  rw [← Array.find?_toList] at e
  unfold PySem.W.lookIn
  rw [hd]
  dsimp only
  split
  · rename_i y q
    rw [q] at e
    exact congrArg some e
  · rename_i q
    rw [q] at e
    have a : es.toList.any (·.refKey) = false := by
      rw [List.any_eq_false]
      intro y hy
      obtain ⟨z, t, hkey⟩ := hk y (Array.mem_toList_iff.mp hy)
      simp [DictEntry.refKey, hkey]
    have a' : ¬ es.toList.any (·.refKey) = true := by rw [a]; exact Bool.false_ne_true
    rw [if_neg a']
    exact congrArg some e
theorem ObjM.look {h : Heap} {x dx C : Addr} {mA : Str → Option Value} (I : ObjM h x dx C mA) : ∃ od, PySem.W.InstAt h x (PySem.W.instObj C dx) C (some od) ∧ ∀ name, PySem.W.lookIn name od = some (mA name) :=
  let ⟨od, ho, hl⟩ := lookIn_ns I.ns
  ⟨od, ⟨I.obj, rfl, rfl, ho⟩, hl⟩
section
variable {prog : Program} {w : World} {A : Around} {E : Value → Shared → Prop} {s : Shared} {K : PySem.W.Frag} {x dx C f : Addr} {mA : Str → Option Value} {name : Str} {v : Value}
theorem get_map {expr : Bool} {Q : Value → Shared → Prop} (X : K.In s.heap) (I : ObjM s.heap x dx C mA) (hg : PySem.W.plainGet K C name = true) (hh : PySem.W.hasDictIn K C = true)
    (ha : PySem.W.findIn K (.ref C) name = some none) (hv : mA name = some v) (hv' : PySem.W.handedIn v = true) (h : Q v { s with toks := s.toks + 1 }) :
    wpAny (model prog w) A (getAttr (.ref x) name expr) Q E s := by
  obtain ⟨od, J, hl⟩ := I.look
  exact PySem.W.get_value X J (PySem.W.plainGet_of hg).1 (PySem.W.findObj_own hh ha rfl (by rw [hl, hv])) hv' h
theorem get_meth {pl : Sem Bool} {Q : Value × List Value → Shared → Prop} (X : K.In s.heap) (I : ObjM s.heap x dx C mA) (hg : PySem.W.plainGet K C name = true)
    (hf : PySem.W.findIn K (.ref C) name = some (some (.ref f))) (ht : PySem.W.isFn K (.ref f) = true) (hv : mA name = none) (h : Q (.ref f, [.ref x]) s) :
    wpAny (model prog w) A (getMethod (.ref x) name pl) Q E s := by
  obtain ⟨od, J, hl⟩ := I.look
  exact PySem.W.method_fn X J (PySem.W.plainGet_of hg).1 (PySem.W.plainGet_of hg).2 hf (beq_iff_eq.mp ht) (by show (PySem.W.lookIn name od).map (·.isSome) = some false; rw [hl, hv]; rfl) h
theorem set_map {ns : List Str} {Q : Unit → Shared → Prop} (X : K.In s.heap) (I : ObjM s.heap x dx C mA)
    (hs : PySem.W.findIn K (.ref C) "__setattr__" = some (some (.builtin "object.__setattr__"))) (hp : PySem.W.plainOver K C = true) (ht : PySem.W.takerIn K C name = some none) (hh : PySem.W.hasDictIn K C = true)
    (hw : PySem.Within mA ns) (hsz : ns.length ≤ sizeLine)
    (h : ∀ h', ObjM h' x dx C (fun y => if y = name then some v else mA y) → Heap.SameBut dx s.heap h' → Q () { s with heap := h', toks := s.toks + 2 }) :
    wpAny (model prog w) A (setAttr (.ref x) name v) Q E s := by
  obtain ⟨od, J, hl⟩ := I.look
  refine PySem.W.set_plain X J hs (PySem.W.osa_open (s := { s with toks := s.toks + 1 }) (r := none) X J hp ht fun b => ?_)
  obtain ⟨cd, hc, hd'⟩ := PySem.W.any_some hh
  have hx : s.heap.get? x = some ⟨.ref C, some dx, .plain, #[]⟩ := I.obj
  refine wpAny_bind (wpAny_pure (wpAny_bind (wpAny_bind (wpAny_loadPart hx (wpAny_bind (PySem.W.Looks.here (s := { s with toks := s.toks + 1 }) (PySem.W.looks_clsIn X hc) ?_))))))
  rw [hd']
  refine wpAny_pure (a := some dx) (wpAny_bind (wpAny_pure (wpAny_bind ?_)))
  refine wpAny_nsSet1 (s := { s with toks := s.toks + 1 }) I.ns fun h' hn2 hs2 => ?_
  obtain ⟨oD, esD, epD, hoD, hdD, hcD⟩ := hn2.count (PySem.Within.cons name v hw)
  refine wpAny_bind (wpAny_lookBehind hoD (by rw [hdD]; exact pastItsLine_dict (Nat.le_trans hcD (by rw [List.length_cons]; omega))) ?_)
  exact wpAny_pure (h _ ⟨(hs2.2 _ (Ne.symm I.ne)).trans I.obj, hn2, I.ne⟩ hs2)
theorem make_map {R : Result → Shared → Prop} {vs : List Value} {kw : List (Str × Value)} (X : K.In s.heap) (hm : PySem.W.makesIn K C = true)
    (hi : PySem.W.findIn K (.ref C) "__init__" = some (some (.ref f))) (hf : PySem.W.typeIn K (.ref f) = some (.type "function"))
    (h : codeAny (model prog w) (A.under (.builtin "type.__call__" ⟨.ref C :: vs, kw⟩)) (.call (.ref f) ⟨.ref (s.heap.objs.size + 1) :: vs, kw⟩) (PySem.W.InitBack (s.heap.objs.size + 1) R)
      { s with heap := (s.heap.push PySem.W.emptyDict).push (PySem.W.instObj C s.heap.objs.size) }) :
    codeAny (model prog w) A (.call (.ref C) ⟨vs, kw⟩) R s := by
  obtain ⟨hh, g, d, t, os⟩ := s
  exact PySem.W.make_core (PySem.W.makes_of X hm) (PySem.W.looks_findIn X hi) (fun self => PySem.W.bind_fn X self hf) (.inl rfl) h
end
def putF (f : Str) (v : V) : List (Str × V) → List (Str × V)
  | [] => [(f, v)]
  | (g, x) :: r => if g = f then (g, v) :: r else (g, x) :: putF f v r
theorem lookup_putF (f g : Str) (v : V) : ∀ fs : List (Str × V), (putF f v fs).lookup g = if g = f then some v else fs.lookup g
  | [] => by
    show List.lookup g [(f, v)] = _
    by_cases h : g = f
    · have hb : (g == f) = true := beq_iff_eq.mpr h
      simp only [List.lookup, hb, if_pos h]
    · have hb : (g == f) = false := beq_eq_false_iff_ne.mpr h
      simp only [List.lookup, hb, if_neg h]
  | (k, x) :: r => by
    have ih := lookup_putF f g v r
    rw [show putF f v ((k, x) :: r) = (if k = f then (k, v) :: r else (k, x) :: putF f v r) from rfl]
    by_cases hk : k = f
    · rw [if_pos hk]
      by_cases h : g = k
      · have hb : (g == k) = true := beq_iff_eq.mpr h
        simp only [List.lookup, hb, if_pos (h.trans hk)]
      · have hb : (g == k) = false := beq_eq_false_iff_ne.mpr h
        simp only [List.lookup, hb, if_neg (fun e : g = f => h (e.trans hk.symm))]
    · rw [if_neg hk]
      by_cases h : g = k
      · have hb : (g == k) = true := beq_iff_eq.mpr h
        simp only [List.lookup, hb, if_neg (fun e : g = f => hk (h.symm.trans e))]
      · have hb : (g == k) = false := beq_eq_false_iff_ne.mpr h
        simp only [List.lookup, hb]
        exact ih
theorem keys_putF (f : Str) (v : V) : ∀ fs : List (Str × V), f ∈ (putF f v fs).map (·.1) ∧ ∀ g, g ∈ fs.map (·.1) → g ∈ (putF f v fs).map (·.1)
  | [] => ⟨by simp [putF], fun g h => by simp at h⟩
  | (k, x) :: r => by
    obtain ⟨i1, i2⟩ := keys_putF f v r
    rw [show putF f v ((k, x) :: r) = (if k = f then (k, v) :: r else (k, x) :: putF f v r) from rfl]
    by_cases hk : k = f
    · rw [if_pos hk]
      subst hk
      exact ⟨by simp, fun g h => by simpa using h⟩
    · rw [if_neg hk]
      refine ⟨?_, fun g h => ?_⟩
      · rw [List.map_cons]
        exact List.mem_cons_of_mem _ i1
      · rw [List.map_cons] at h ⊢
        rcases List.mem_cons.mp h with e | e
        · exact List.mem_cons.mpr (.inl e)
        · exact List.mem_cons_of_mem _ (i2 g e)
theorem length_putF (f : Str) (v : V) : ∀ fs : List (Str × V), (putF f v fs).length ≤ fs.length + 1
  | [] => by simp [putF]
  | (k, x) :: r => by
    have ih := length_putF f v r
    rw [show putF f v ((k, x) :: r) = (if k = f then (k, v) :: r else (k, x) :: putF f v r) from rfl]
    by_cases hk : k = f
    · rw [if_pos hk, List.length_cons, List.length_cons]; omega
    · rw [if_neg hk, List.length_cons, List.length_cons]; omega
theorem RelO.some_of {v : V} {o : Option Value} (r : RelO (some v) o) : ∃ u, o = some u ∧ RelV v u := by
  cases o with
  | none => exact (show False from r).elim
  | some u => exact ⟨u, rfl, r⟩
theorem RelO.none_of {o : Option Value} (r : RelO none o) : o = none := by
  cases o with
  | none => rfl
  | some u => exact (show False from r).elim
theorem handed_of {v : V} {u : Value} (r : RelV v u) : PySem.W.handedIn u = true := by
  cases v with
  | non => cases (show u = Value.none from r); rfl
  | bl b => cases (show u = Value.bool b from r); rfl
  | int i => obtain ⟨t, e⟩ := (show ∃ t, u = Value.int i t from r); cases e; rfl
  | str x => obtain ⟨t, e⟩ := (show ∃ t, u = Value.str x t from r); cases e; rfl
  | byt b => obtain ⟨t, e⟩ := (show ∃ t, u = Value.bytes b t from r); cases e; rfl
  | flt b => obtain ⟨t, e⟩ := (show ∃ t, u = Value.float b t from r); cases e; rfl
  | ref a => cases (show u = Value.ref a from r); rfl
  | ty n => cases (show u = Value.type n from r); rfl
section
variable {P : Program} {w : World} {H H' : Hp} {h h' : Heap} {a C dx : Addr} {fs fs' : List (Str × V)}
theorem ins_get (hok : HOk P w H h) (e : H a = some (.ins C dx fs)) : ∃ mA, ObjM h a dx C mA ∧ (∀ f, RelO (fs.lookup f) (mA f)) ∧ PySem.Within mA (fs.map (·.1)) ∧ fs.length ≤ 1000 ∧ H dx = some (.own a) := by
  obtain ⟨d, z, ne, ob, mA, n, r, q⟩ := (show ObjOk P w H h a (.ins C dx fs) from hok a _ e)
  exact ⟨mA, ⟨ob, n, ne⟩, r, q, z, d⟩
end
structure Cls (K : PySem.W.Frag) (C : Addr) : Prop where
  pg : PySem.W.plainGet K C Str.empty = true
  hd : PySem.W.hasDictIn K C = true
  po : PySem.W.plainOver K C = true
  sa : PySem.W.findIn K (.ref C) "__setattr__" = some (some (.builtin "object.__setattr__"))
theorem Cls.get {K : PySem.W.Frag} {C : Addr} (c : Cls K C) (f : Str) : PySem.W.plainGet K C f = true := c.pg
def NoAttr (K : PySem.W.Frag) (C : Addr) (f : Str) : Prop := PySem.W.findIn K (.ref C) f = some none
theorem NoAttr.taker {K : PySem.W.Frag} {C : Addr} {f : Str} (n : NoAttr K C f) : PySem.W.takerIn K C f = some none := by
  unfold PySem.W.takerIn
  rw [show PySem.W.findIn K (.ref C) f = some none from n]
  rfl
structure Meth (K : PySem.W.Frag) (C : Addr) (m : Str) (f : Addr) : Prop where
  at_ : PySem.W.findIn K (.ref C) m = some (some (.ref f))
  fn : PySem.W.isFn K (.ref f) = true
  kp : PySem.W.keepIn K (.ref f) = true
section
variable {X : Cx} {pins : List (Addr × Obj)} {σ : St} {H : Hp} {s : Shared} {a C dx : Addr} {fs : List (Str × V)} {f : Str} {v : V} {A : Around} {E : Value → Shared → Prop}
theorem getattr_ok {b : Bool} {Q : Value → Shared → Prop} (I : Inv X pins σ H s) (e : H a = some (.ins C dx fs)) (c : Cls X.K C) (n : NoAttr X.K C f) (l : fs.lookup f = some v)
    (h : ∀ u s', Inv X pins σ H s' → RelV v u → Q u s') : wpAny (model X.prog X.w) A (getAttr (.ref a) f b) Q E s := by
  obtain ⟨mA, O, r, _, _, _⟩ := ins_get I.hok e
  obtain ⟨u, hu, ru⟩ := RelO.some_of (v := v) (o := mA f) (by rw [← l]; exact r f)
  exact get_map I.kIn O (c.get f) c.hd n hu (handed_of ru) (h u _ (I.tok _) ru)
theorem getmeth_ok {m : Str} {g : Addr} {pl : Sem Bool} {Q : Value × List Value → Shared → Prop} (I : Inv X pins σ H s) (e : H a = some (.ins C dx fs)) (c : Cls X.K C) (k : Meth X.K C m g) (l : fs.lookup m = none)
    (h : Q (.ref g, [.ref a]) s) : wpAny (model X.prog X.w) A (getMethod (.ref a) m pl) Q E s := by
  obtain ⟨mA, O, r, _, _, _⟩ := ins_get I.hok e
  have hn : mA m = none := RelO.none_of (by rw [← l]; exact r m)
  exact get_meth I.kIn O (c.get m) k.at_ k.fn hn h
theorem setattr_ok {y : V} {u : Value} {Q : Unit → Shared → Prop} (I : Inv X pins σ H s) (e : H a = some (.ins C dx fs)) (c : Cls X.K C) (n : NoAttr X.K C f) (hl : fs.length < 1000) (ry : RelV y u)
    (h : ∀ s', Inv X pins σ (upd H a (.ins C dx (putF f y fs))) s' → Q () s') : wpAny (model X.prog X.w) A (setAttr (.ref a) f u) Q E s := by
  obtain ⟨mA, O, r, wi, _, ho⟩ := ins_get I.hok e
  have hz : (fs.map (·.1)).length ≤ sizeLine := by rw [List.length_map, sizeLine_eq]; omega
  refine set_map I.kIn O c.sa c.po n.taker c.hd wi hz fun h' O' sb => h _ ?_
  have hd : ∃ o, h'.get? dx = some o := let ⟨o, _, _, e', _⟩ := O'.ns; ⟨o, e'⟩
  refine I.write (x := a) (e := dx) (by rw [e]; exact True.intro) (.inr ho) (fun b q hb z => (sb.2 b hb).trans z) hd ?_
  refine ⟨by rw [upd_ne O.ne]; exact ho, ?_, O.ne, O'.obj, _, O'.ns, fun g => ?_, fun g hg => ?_⟩
  · have := length_putF f y fs; omega
  · show RelO ((putF f y fs).lookup g) (if g = f then some u else mA g)
    rw [lookup_putF]
    by_cases q : g = f
    · rw [if_pos q, if_pos q]; exact ry
    · rw [if_neg q, if_neg q]; exact r g
  · by_cases q : g = f
    · rw [q]; exact (keys_putF f y fs).1
    · refine (keys_putF f y fs).2 g (wi g fun z => hg ?_)
      show (if g = f then some u else mA g) = none
      rw [if_neg q]; exact z
theorem Inv.made (I : Inv X pins σ H s) : Inv X pins σ (upd (upd H s.heap.objs.size (.own (s.heap.objs.size + 1))) (s.heap.objs.size + 1) (.ins C s.heap.objs.size []))
    { s with heap := (s.heap.push PySem.W.emptyDict).push (PySem.W.instObj C s.heap.objs.size) } := by
  have e1 : (s.heap.push PySem.W.emptyDict).get? s.heap.objs.size = some PySem.W.emptyDict := Heap.get?_push_size s.heap rfl
  have e2 : ((s.heap.push PySem.W.emptyDict).push (PySem.W.instObj C s.heap.objs.size)).get? (s.heap.objs.size + 1) = some (PySem.W.instObj C s.heap.objs.size) := by
    have := Heap.get?_push_size (s.heap.push PySem.W.emptyDict) (o := PySem.W.instObj C s.heap.objs.size) rfl
    rwa [Heap.size_push] at this
  have e3 : (s.heap.push PySem.W.emptyDict).Ns s.heap.objs.size (fun _ => none) := ⟨PySem.W.emptyDict, #[], _, e1, rfl, (fun e he => absurd he (by simp)), fun _ => rfl⟩
  have I1 := I.laid (a := s.heap.objs.size) (o := .own (s.heap.objs.size + 1)) (h' := s.heap.push PySem.W.emptyDict) (t' := s.toks) (fun b u q => Heap.get?_push_of_some _ q) (Nat.le_refl _) ⟨_, e1⟩
  refine I1.laid (a := s.heap.objs.size + 1) (o := .ins C s.heap.objs.size []) (t' := s.toks) (fun b u q => Heap.get?_push_of_some _ q) (Nat.le_of_eq (Heap.size_push _ _)) ?_
  have ne : s.heap.objs.size ≠ s.heap.objs.size + 1 := Nat.ne_of_lt (Nat.lt_succ_self _)
  refine ⟨by rw [upd_ne ne, upd_same], Nat.zero_le _, ne, e2, fun _ => none, (Heap.Ns1.of_empty e3).at fun o q => Heap.get?_push_of_some _ q, fun _ => True.intro, fun y hy => absurd rfl hy⟩
theorem attr_of {prog : Program} {w : World} {env : Env} {e : Expr} {f : Str} {pos : Pos} {s : Shared} {Q : Value → Shared → Prop} (hb : attributeBase e f env (eval e env) = eval e env)
    (h : wpAny (model prog w) A (eval e env) (fun o s₁ => wpAny (model prog w) A (getAttr o f true) Q E s₁) E s) : wpAny (model prog w) A (eval (.Attribute e f pos) env) Q E s :=
  Attribute_any_ h (by rw [arm_eval_Attribute, hb])
end
def tFld (K : PySem.W.Frag) (ta : TE) (f : Str) : TE := fun σ H Q => ta σ H fun x H1 => ∃ a C dx fs v, x = .ref a ∧ H1 a = some (.ins C dx fs) ∧ Cls K C ∧ NoAttr K C f ∧ fs.lookup f = some v ∧ Q v H1
def sFld (K : PySem.W.Frag) (ta tv : TE) (f : Str) : TS := fun D σ H => tv σ H fun y H1 => ta σ H1 fun x H2 => ∃ a C dx fs, x = .ref a ∧ H2 a = some (.ins C dx fs) ∧ Cls K C ∧ NoAttr K C f ∧ fs.length < 1000 ∧
  D.nx σ (upd H2 a (.ins C dx (putF f y fs)))
section
variable {X : Cx} {o e value : Expr} {f : Str} {pos pos' tpos : Pos} {ta tv : TE}
theorem pe_fld (he : PE X e ta) (hb : attributeBase e f X.env (eval e X.env) = eval e X.env) : PE X (.Attribute e f pos) (tFld X.K ta f) := by
  intro pins s σ H Q I h
  refine attr_of hb (thn (he pins s σ H _ I h) fun u s1 ⟨x, H1, I1, rx, a, C, dx, fs, v, ex, ea, c, n, l, q⟩ => ?_)
  subst ex
  obtain rfl : u = Value.ref a := rx
  exact getattr_ok I1 ea c n l fun u' s2 I2 ru => ⟨v, H1, I2, ru, q⟩
theorem ps_fld (ha : PE X o ta) (hv : PE X value tv) (hs : swapsWith value (some (.Attribute o f pos')) pos.line X.env = pure false) : PS X (.Assign [.Attribute o f pos'] value pos) (sFld X.K ta tv f) := by
  intro pins s σ H D I h
  refine plainObj_wpAny_Assign_Attribute (thn (hv pins s σ H _ I h) fun u s1 ⟨y, H1, I1, ry, q⟩ => thn (ha pins s1 σ H1 _ I1 q) fun ov s2 ⟨x, H2, I2, rx, a, C, dx, fs, ex, ea, c, n, l, q2⟩ => ?_) hs
  subst ex
  obtain rfl : ov = Value.ref a := rx
  exact setattr_ok I2 ea c n l ry fun s3 I3 => ⟨σ, _, I3, q2⟩
end
section
variable {X : Cx} {pins : List (Addr × Obj)} {σ : St} {H : Hp} {s : Shared} {A : Around} {E : Value → Shared → Prop} {Q : Value → Shared → Prop} {c : Value} {b : Bool}
inductive TyOf (K : PySem.W.Frag) (H : Hp) : V → Value → Prop where
  | non : TyOf K H .non (.type "NoneType")
  | bl (x : Bool) : TyOf K H (.bl x) (.type "bool")
  | int (i : Int) : TyOf K H (.int i) (.type "int")
  | str (x : Str) : TyOf K H (.str x) (.type "str")
  | flt (x : UInt64) : TyOf K H (.flt x) (.type "float")
  | lst {a : Addr} {xs : List V} (e : H a = some (.lst xs)) : TyOf K H (.ref a) (.type "list")
  | frz {a : Addr} {o : Obj} {xs : List V} (e : H a = some (.frz o (.lst xs))) : TyOf K H (.ref a) (.type "list")
  | tup {a : Addr} {xs : List V} (e : H a = some (.tup xs)) : TyOf K H (.ref a) (.type "tuple")
  | dK {a : Addr} {kvs : List (Key × V)} (e : H a = some (.dK kvs)) : TyOf K H (.ref a) (.type "dict")
  | dT {a : Addr} {kvs : List (List Key × V)} (e : H a = some (.dT kvs)) : TyOf K H (.ref a) (.type "dict")
  | ins {a C dx : Addr} {fs : List (Str × V)} (e : H a = some (.ins C dx fs)) (cl : Cls K C) (ha : PySem.W.findIn K (.ref C) "__class__" = some (some (.builtin "object.__class__")))
      (hn : PySem.W.specialIn K (.builtin "object.__class__") "__get__" = some (some (.builtin "getset_descriptor.__get__"))) (htk : PySem.W.takesIn K (.builtin "object.__class__") = some true)
      (hm : PySem.W.mroIn K C (.type "object") = some true) : TyOf K H (.ref a) (.ref C)
theorem isinst_ok {x : V} {u t : Value} (I : Inv X pins σ H s) (rx : RelV x u) (ty : TyOf X.K H x t) (e : PySem.W.kitOne X.K t c = some b) (h : ∀ tk, Q (.bool b) { s with toks := tk }) :
    wpAny (model X.prog X.w) A (call (.builtin "isinstance") [u, c]) Q E s := by
  cases ty with
  | non => cases (show u = Value.none from rx); exact PySem.W.kia_one PySem.W.kitx_none I.kIn True.intro e (fun z => nomatch z) h
  | bl y => cases (show u = Value.bool y from rx); exact PySem.W.kia_one PySem.W.kitx_bool I.kIn True.intro e (fun z => nomatch z) h
  | int i => obtain ⟨t, q⟩ := (show ∃ t, u = Value.int i t from rx); cases q; exact PySem.W.kia_one PySem.W.kitx_int I.kIn True.intro e (fun z => nomatch z) h
  | str y => obtain ⟨t, q⟩ := (show ∃ t, u = Value.str y t from rx); cases q; exact PySem.W.kia_one PySem.W.kitx_str I.kIn True.intro e (fun z => nomatch z) h
  | flt y => obtain ⟨t, q⟩ := (show ∃ t, u = Value.float y t from rx); cases q; exact PySem.W.kia_one PySem.W.kitx_float I.kIn True.intro e (fun z => nomatch z) h
  | @lst a xs ea =>
    cases (show u = Value.ref a from rx)
    obtain ⟨_, _, n, _, h1⟩ := (show ObjOk X.prog X.w H s.heap a (.lst xs) from I.hok a _ ea)
    exact PySem.W.kia_one PySem.W.kitx_list I.kIn ⟨_, h1, rfl⟩ e (fun z => nomatch z) h
  | @frz a ob xs ea =>
    cases (show u = Value.ref a from rx)
    obtain ⟨_, _, _, n, _, h1⟩ := (show ObjOk X.prog X.w H s.heap a (.frz ob (.lst xs)) from I.hok a _ ea)
    exact PySem.W.kia_one PySem.W.kitx_list I.kIn ⟨_, h1, rfl⟩ e (fun z => nomatch z) h
  | @tup a xs ea =>
    cases (show u = Value.ref a from rx)
    obtain ⟨_, _, _, p⟩ := (show ObjOk X.prog X.w H s.heap a (.tup xs) from I.hok a _ ea)
    obtain ⟨o, h1, h2, _⟩ := p
    exact PySem.W.kia_one PySem.W.kitx_tuple I.kIn ⟨o, h1, h2⟩ e (fun z => nomatch z) h
  | @dK a kvs ea =>
    cases (show u = Value.ref a from rx)
    obtain ⟨_, _, vs, _, p⟩ := (show ObjOk X.prog X.w H s.heap a (.dK kvs) from I.hok a _ ea)
    obtain ⟨o, es, ep, h1, h2, _⟩ := p
    exact PySem.W.kia_one PySem.W.kitx_dict I.kIn ⟨o, h1, h2.1⟩ e (fun z => nomatch z) h
  | @dT a kvs ea =>
    cases (show u = Value.ref a from rx)
    obtain ⟨_, _, xs, _, o, es, ep, h1, h2, _⟩ := (show ObjOk X.prog X.w H s.heap a (.dT kvs) from I.hok a _ ea)
    exact PySem.W.kia_one PySem.W.kitx_dict I.kIn ⟨o, h1, h2.1⟩ e (fun z => nomatch z) h
  | @ins a C dx fs ea cl ha hn htk hm =>
    cases (show u = Value.ref a from rx)
    obtain ⟨mA, O, _⟩ := ins_get I.hok ea
    obtain ⟨od, J, _⟩ := O.look
    exact PySem.W.kia_one (PySem.W.kitx_own (cl.get _) cl.hd ha hn htk hm) I.kIn J e (fun z => nomatch z) h
end
end L2
namespace L2
open PySem PySem.Spec PyProof.Rows
variable {q0 : Bool}
structure Room (q0 : Bool) (k : Nat) (A : Around) : Prop where
  hd : q0 = true → A.handled = none
  dp : A.depth + 3 * k + 5 < recursionLimit
  un : A.units + 16 * k + 200 < cLine
theorem Room.mono {j k : Nat} {A : Around} (r : Room q0 k A) (h : j ≤ k) : Room q0 j A := ⟨r.hd, by have := r.dp; omega, by have := r.un; omega⟩
theorem Room.deeper {k : Nat} {A : Around} (r : Room q0 (k + 1) A) (env : Env) : Room q0 k (A.deeper env) :=
  ⟨r.hd, by have := r.dp; show A.depth + 1 + 3 * k + 5 < _; omega, by have := r.un; show A.units + 3 + 16 * k + 200 < _; omega⟩
theorem make_depth {A : Around} {C : Addr} {us : List Value} {kw : List (Str × Value)} : (A.under (.builtin "type.__call__" ⟨.ref C :: us, kw⟩)).depth = A.depth + 1 := by
  first | rfl | simp [Around.under, Code.weight, Code.isCreation, Code.isGuard, Code.isCaller, Code.frames, Code.isFrame, guardIds]
theorem make_units {A : Around} {C : Addr} {us : List Value} {kw : List (Str × Value)} : (A.under (.builtin "type.__call__" ⟨.ref C :: us, kw⟩)).units = A.units + 1 := by
  first | rfl | simp [Around.under, Code.cUnits, Code.frames, Code.isFrame]
theorem Room.make {k : Nat} {A : Around} (r : Room q0 (k + 1) A) (C : Addr) (us : List Value) (kw : List (Str × Value)) : Room q0 k (A.under (.builtin "type.__call__" ⟨.ref C :: us, kw⟩)) :=
  ⟨r.hd, by have := r.dp; rw [make_depth]; omega, by have := r.un; rw [make_units]; omega⟩
theorem Room.depth {k : Nat} {A : Around} (r : Room q0 k A) : A.depth < recursionLimit := by have := r.dp; omega
theorem Room.units {k : Nat} {A : Around} (r : Room q0 k A) : A.units + 64 < cLine := by have := r.un; omega
def tNil : TA := fun _ H Q => Q [] H
def tCons (ta : TE) (tr : TA) : TA := fun σ H Q => ta σ H fun x H1 => tr σ H1 fun xs H2 => Q (x :: xs) H2
section
variable {X : Cx} {e : Expr} {es : List Expr} {te : TE} {t : TA} {pos : Pos}
theorem pa_nil : PA X [] tNil := fun _ _ _ _ H Q I h => Calls.spliced_nil ⟨[], H, I, .nil, h⟩
theorem pa_cons (ha : PE X e te) (hr : PA X es t) (hs : starEach (e :: es) X.env = (false, eval e X.env) :: starEach es X.env := by rfl) : PA X (e :: es) (tCons te t) := by
  intro pos pins s σ H Q I h
  rw [hs]
  show wpAny _ _ (spliced ((false, eval e X.env) :: backTo pos (starEach es X.env))) _ _ s
  refine Calls.spliced_cons (thn (ha pins s σ H _ I h) fun u s1 ⟨x, H1, I1, r1, q1⟩ => ?_)
  exact thn (hr pos pins s1 σ H1 _ I1 q1) fun us s2 ⟨xs, H2, I2, r2, q2⟩ => ⟨x :: xs, H2, I2, .cons r1 r2, q2⟩
def tTup (t : TA) : TE := fun σ H Q => t σ H fun xs H1 => xs.length ≤ sizeLine ∧ ∀ p, H1 p = none → Q (.ref p) (upd H1 p (.tup xs))
def tLst (t : TA) : TE := fun σ H Q => t σ H fun xs H1 => xs.length ≤ sizeLine ∧ ∀ p, H1 p = none → Q (.ref p) (upd H1 p (.lst xs))
theorem pe_tup {x1} (h : PA X es t) : PE X (.Tuple es x1 pos) (tTup t) := by
  intro pins s σ H Q I hq
  refine wpAny_Tuple_spliced (thn (h pos pins s σ H _ I hq) fun us s1 ⟨xs, H1, I1, r, z, q⟩ => ⟨by rw [← r.length]; exact z, ?_⟩)
  have hf : H1 s1.heap.objs.size = none := I1.hok.fresh (Nat.le_refl _)
  refine ⟨.ref s1.heap.objs.size, upd H1 s1.heap.objs.size (.tup xs), I1.laid (t' := s1.toks) (fun b u e => Heap.get?_push_of_some _ e) (Nat.le_refl _) ?_, rfl, q _ hf⟩
  exact ⟨z, us, r, ⟨_, Heap.get?_push_size _ rfl, rfl, _, rfl⟩⟩
theorem pe_lst (h : PA X es t) : PE X (.List es pos) (tLst t) := by
  intro pins s σ H Q I hq
  refine wpAny_List_spliced (thn (h pos pins s σ H _ I hq) fun us s1 ⟨xs, H1, I1, r, z, q⟩ => ⟨by rw [← r.length]; exact z, ?_⟩)
  have hf : H1 s1.heap.objs.size = none := I1.hok.fresh (Nat.le_refl _)
  refine ⟨.ref s1.heap.objs.size, upd H1 s1.heap.objs.size (.lst xs), I1.laid (t' := s1.toks) (fun b u e => Heap.get?_push_of_some _ e) (Nat.le_refl _) ?_, rfl, q _ hf⟩
  exact ⟨z, us, 0, r, Heap.get?_push_size _ rfl⟩
end
abbrev Sp := List V → Hp → VK → XK → Prop
abbrev CXT := List Env → Hp → Shared → XK → Value → Shared → Prop
structure Env0 (P : Program) (w : World) (K : PySem.W.Frag) (mg : Str → Option Value) (base : Heap) (A : Around) (outer : List Env) (s : Shared) (H : Hp) : Prop where
  frames : A.frames = some outer
  mod : Mod K mg base
  bs : ∀ b o, base.get? b = some o → s.heap.get? b = some o ∧ H b = none
  bsz : base.objs.size ≤ s.heap.objs.size
  funs : s.heap.FunFrames base outer
  frf : ∀ b ∈ frs outer, H b = none
  hok : HOk P w H s.heap
  bare : AllBare s.gens
def CE (outer : List Env) (P : Program) (w : World) (H : Hp) (s : Shared) (Q : VK) (u : Value) (s' : Shared) : Prop :=
  ∃ v H', s'.os = s.os ∧ AllBare s'.gens ∧ Un (frs outer) [] H H' s.heap s'.heap ∧ HOk P w H' s'.heap ∧ RelV v u ∧ Q v H'
def CR (CX : CXT) (outer : List Env) (P : Program) (w : World) (H : Hp) (s : Shared) (Q : VK) (E : XK) (r : Result) (s' : Shared) : Prop :=
  match r with
  | .ok (.ret u) => CE outer P w H s Q u s'
  | .ok _ => False
  | .error e => CX outer H s E e s'
structure FnOk (q0 : Bool) (P : Program) (w : World) (K : PySem.W.Frag) (mg : Str → Option Value) (base : Heap) (CX : CXT) (k : Nat) (f : Addr) (fd : FuncData) (ps : List Str) (sp : Sp) : Prop where
  len : ∀ vs H Q E, sp vs H Q E → vs.length = ps.length
  run : ∀ (A : Around) (outer : List Env) (s : Shared) (H : Hp) (args : Args) (us : List Value) (vs : List V) (Q : VK) (E : XK), Room q0 k A → Env0 P w K mg base A outer s H → BindsTo s fd args (ps.zip us) → Vals vs us → sp vs H Q E →
    codeAny (model P w) A (.call (.ref f) args) (CR CX outer P w H s Q E) s
theorem Env0.make {P : Program} {w : World} {K : PySem.W.Frag} {mg : Str → Option Value} {base : Heap} {A : Around} {outer : List Env} {s : Shared} {H : Hp} (e : Env0 P w K mg base A outer s H) (C : Addr) (us : List Value) (kw : List (Str × Value)) :
    Env0 P w K mg base (A.under (.builtin "type.__call__" ⟨.ref C :: us, kw⟩)) outer s H := ⟨by first | exact e.frames | (simpa [Around.under, Code.envs, Code.isFrame, pushEnvs] using e.frames), e.mod, e.bs, e.bsz, e.funs, e.frf, e.hok, e.bare⟩
section
variable {X : Cx} {pins : List (Addr × Obj)} {σ : St} {H : Hp} {s s' : Shared}
theorem Inv.env0 (I : Inv X pins σ H s) : Env0 X.prog X.w X.K X.mg X.base X.A X.stack s H :=
  ⟨I.ok.frames, I.ok.mod, I.bs, Nat.le_trans I.ok.bsz I.sz, I.stack, I.stkFree, I.hok, I.bare⟩
theorem Inv.after {Q : VK} {u : Value} (I : Inv X pins σ H s) (h : CE X.stack X.prog X.w H s Q u s') : EP X pins σ Q u s' := by
  obtain ⟨v, H', os, bare, un, hok, r, q⟩ := h
  obtain ⟨hh, g, d, t, os'⟩ := s'
  obtain rfl : os' = s.os := os
  exact ⟨v, H', I.call (h' := hh) (g' := g) (d' := d) (t' := t) (ch := []) un hok bare (fun b z => absurd z (by simp)), r, q⟩
end
def tCall (sp : Sp) (dvs : List V) (E : St → XK) (t : TA) : TE := fun σ H Q => t σ H fun vs H1 => sp (vs ++ dvs) H1 Q (E σ)
def tMeth (C : Addr) (m : Str) (sp : Sp) (dvs : List V) (E : St → XK) (ta : TE) (t : TA) : TE := fun σ H Q => ta σ H fun x H1 => ∃ a dx fs, x = .ref a ∧ H1 a = some (.ins C dx fs) ∧ fs.lookup m = none ∧
  t σ H1 fun vs H2 => sp (x :: (vs ++ dvs)) H2 Q (E σ)
def tMake (C : Addr) (sp : Sp) (dvs : List V) (E : St → XK) (t : TA) : TE := fun σ H Q => t σ H fun vs H1 => ∀ x dx, H1 x = none → H1 dx = none → dx ≠ x →
  sp (.ref x :: (vs ++ dvs)) (upd (upd H1 dx (.own x)) x (.ins C dx [])) (fun v H2 => v = .non ∧ Q (.ref x) H2) (E σ)
def Binds (K : PySem.W.Frag) (fd : FuncData) (ps : List Str) (ds : List Value) : Prop :=
  ∀ (s : Shared) (us : List Value), K.In s.heap → (us ++ ds).length = ps.length → BindsTo s fd ⟨us, []⟩ (ps.zip (us ++ ds))
theorem Binds.all {K : PySem.W.Frag} {fd : FuncData} {ps : List Str} (h : ∀ us : List Value, us.length = ps.length → bindArgs fd ⟨us, []⟩ = pure (ps.zip us)) : Binds K fd ps [] := fun s us _ hl => by
  rw [List.append_nil] at hl ⊢
  exact .of_eq (h us hl)
def Passes (CX : CXT) (X : Cx) (E : St → XK) : Prop := ∀ (pins : List (Addr × Obj)) (σ : St) (H : Hp) (s : Shared) (e : Value) (s' : Shared), Inv X pins σ H s → CX X.stack H s (E σ) e s' → X.xe e s'
section
variable {X : Cx} {CX : CXT} {k : Nat} {f C : Addr} {fd : FuncData} {ps : List Str} {sp : Sp} {dvs : List V} {ds : List Value} {E : St → XK} {x m : Str} {p pos apos : Pos} {e o : Expr} {es : List Expr} {ta : TE} {t : TA}
theorem run_fn {pins : List (Addr × Obj)} {σ : St} {H : Hp} {s : Shared} {Q : VK} {us : List Value} {vs : List V} (F : FnOk q0 X.prog X.w X.K X.mg X.base CX k f fd ps sp) (hr : Room q0 k X.A) (hb : Binds X.K fd ps ds) (hd : Vals dvs ds) (hx : Passes CX X E)
    (I : Inv X pins σ H s) (r : Vals vs us) (h : sp (vs ++ dvs) H Q (E σ)) : wpAny (model X.prog X.w) X.A (call (.ref f) us) (EP X pins σ Q) X.xe s := by
  have r2 : Vals (vs ++ dvs) (us ++ ds) := r.append hd
  have hl : (us ++ ds).length = ps.length := by rw [← r2.length]; exact F.len _ _ _ _ h
  refine wpAny_call (codeAny_mono (F.run X.A X.stack s H ⟨us, []⟩ (us ++ ds) (vs ++ dvs) Q (E σ) hr I.env0 (hb s us I.kIn hl) r2 h) fun r s' hq => ?_)
  cases r with
  | error e => exact hx pins σ H s e s' I hq
  | ok fl =>
    cases fl with
    | ret u => exact I.after hq
    | next => exact False.elim hq
    | brk => exact False.elim hq
    | cont => exact False.elim hq
theorem pe_call (F : FnOk q0 X.prog X.w X.K X.mg X.base CX k f fd ps sp) (hr : Room q0 k X.A) (hg : Gl X x) (hm : X.mg x = some (.ref f)) (hk : PySem.W.keepIn X.K (.ref f) = true) (hb : Binds X.K fd ps ds) (hd : Vals dvs ds) (hx : Passes CX X E)
    (ha : PA X (e :: es) t) (hdb : (x == ("__debug__" : Str)) = false := by decide) (he : starEach (e :: es) X.env = (false, eval e X.env) :: starEach es X.env := by rfl) (hpl : (backTo pos (starEach es X.env)).any (·.1) = false := by rfl) :
    PE X (.Call (.Name x p) (e :: es) [] pos) (tCall sp dvs E t) := by
  intro pins s σ H Q I h
  refine wpAny_Call_Name_kw (ld_glob I hg hm ?_ hdb)
  refine PySem.W.callWith_K (h₀ := X.base) I.ok.mod.kin hk (thn (ha pos pins s σ H _ I h) fun us s1 ⟨vs, H1, I1, r, q⟩ => ⟨I1.kIn, ?_⟩) he hpl
  exact run_fn F hr hb hd hx I1 r q
theorem pe_meth {pl : Sem Bool} (he : PE X o ta) (c : Cls X.K C) (hm : Meth X.K C m f) (F : FnOk q0 X.prog X.w X.K X.mg X.base CX k f fd ps sp) (hr : Room q0 k X.A) (hb : Binds X.K fd ps ds) (hd : Vals dvs ds) (hx : Passes CX X E) (ha : PA X (e :: es) t)
    (hst : starEach (e :: es) X.env = (false, eval e X.env) :: starEach es X.env := by rfl) (hpl : (backTo pos (starEach es X.env)).any (·.1) = false := by rfl)
    (ht : eval (.Call (.Attribute o m apos) (e :: es) [] pos) X.env = (do
      let ov ← eval o X.env
      standAt apos.atName
      let (f, first) ← holding [ov] (getMethod ov m pl)
      callWith pos f first (backTo pos (starEach (e :: es) X.env)) (backToKw pos (keywordEach [] X.env))) := by rfl) :
    PE X (.Call (.Attribute o m apos) (e :: es) [] pos) (tMeth C m sp dvs E ta t) := by
  intro pins s σ H Q I h
  refine PySem.W.methodCall_KW (pl := pl) (thn (he pins s σ H _ I h) fun u s1 ⟨x, H1, I1, rx, a, dx, fs, ex, ea, l, q⟩ => ?_) ht
  subst ex
  obtain rfl : u = Value.ref a := rx
  refine getmeth_ok I1 ea c hm l ?_
  refine PySem.W.callWith_K (first := [.ref a]) (h₀ := X.base) I.ok.mod.kin hm.kp (thn (ha pos pins s1 σ H1 _ I1 q) fun us s2 ⟨vs, H2, I2, r, q2⟩ => ⟨I2.kIn, ?_⟩) hst hpl
  exact run_fn (us := .ref a :: us) (vs := .ref a :: vs) F hr hb hd hx I2 (.cons rfl r) q2
theorem pe_meth0 {pl : Sem Bool} (he : PE X o ta) (c : Cls X.K C) (hm : Meth X.K C m f) (F : FnOk q0 X.prog X.w X.K X.mg X.base CX k f fd ps sp) (hr : Room q0 k X.A) (hb : Binds X.K fd ps ds) (hd : Vals dvs ds) (hx : Passes CX X E)
    (ht : eval (.Call (.Attribute o m apos) [] [] pos) X.env = (do
      let ov ← eval o X.env
      standAt apos.atName
      let (f, first) ← holding [ov] (getMethod ov m pl)
      callWith pos f first (backTo pos (starEach [] X.env)) (backToKw pos (keywordEach [] X.env))) := by rfl) :
    PE X (.Call (.Attribute o m apos) [] [] pos) (tMeth C m sp dvs E ta tNil) := by
  intro pins s σ H Q I h
  refine PySem.W.methodCall_KW (pl := pl) (thn (he pins s σ H _ I h) fun u s1 ⟨x, H1, I1, rx, a, dx, fs, ex, ea, l, q⟩ => ?_) ht
  subst ex
  obtain rfl : u = Value.ref a := rx
  refine getmeth_ok I1 ea c hm l ?_
  exact PySem.W.callWith_K0 (first := [.ref a]) I1.kIn hm.kp (run_fn (us := [.ref a]) (vs := [.ref a]) F hr hb hd hx I1 (.cons rfl .nil) q)
structure Mk (K : PySem.W.Frag) (C f : Addr) : Prop where
  makes : PySem.W.makesIn K C = true
  init : PySem.W.findIn K (.ref C) "__init__" = some (some (.ref f))
  fn : PySem.W.isFn K (.ref f) = true
  kp : PySem.W.keepIn K (.ref C) = true
theorem run_make {pins : List (Addr × Obj)} {σ : St} {H : Hp} {s : Shared} {Q : VK} {us : List Value} {vs : List V} (M : Mk X.K C f) (F : FnOk q0 X.prog X.w X.K X.mg X.base CX k f fd ps sp) (hr : Room q0 (k + 1) X.A) (hb : Binds X.K fd ps ds) (hd : Vals dvs ds)
    (hx : Passes CX X E) (I : Inv X pins σ H s) (r : Vals vs us)
    (h : ∀ x dx, H x = none → H dx = none → dx ≠ x → sp (.ref x :: (vs ++ dvs)) (upd (upd H dx (.own x)) x (.ins C dx [])) (fun v H2 => v = .non ∧ Q (.ref x) H2) (E σ)) :
    wpAny (model X.prog X.w) X.A (call (.ref C) us) (EP X pins σ Q) X.xe s := by
  have hq := h (s.heap.objs.size + 1) s.heap.objs.size (I.hok.fresh (Nat.le_succ _)) (I.hok.fresh (Nat.le_refl _)) (Nat.ne_of_lt (Nat.lt_succ_self _))
  have I2 := Inv.made (C := C) I
  have r2 : Vals (V.ref (s.heap.objs.size + 1) :: (vs ++ dvs)) (Value.ref (s.heap.objs.size + 1) :: (us ++ ds)) := .cons rfl (r.append hd)
  have hl : (Value.ref (s.heap.objs.size + 1) :: us ++ ds).length = ps.length := by
    have e := r2.length
    rw [F.len _ _ _ _ hq] at e
    exact e.symm
  refine wpAny_call (make_map (f := f) I.kIn M.makes M.init (beq_iff_eq.mp M.fn) (codeAny_mono (F.run _ X.stack _ _ ⟨Value.ref (s.heap.objs.size + 1) :: us, []⟩ (Value.ref (s.heap.objs.size + 1) :: (us ++ ds)) _ _ (E σ) (hr.make C us [])
    (I2.env0.make C us []) (hb _ (Value.ref (s.heap.objs.size + 1) :: us) I2.kIn hl) r2 hq) fun r s' hq' => ?_))
  cases r with
  | error e => exact hx pins σ _ _ e s' I2 hq'
  | ok fl =>
    cases fl with
    | ret u =>
      obtain ⟨v, H', I3, rv, ev, q3⟩ := I2.after hq'
      subst ev
      exact ⟨rv, ⟨V.ref (s.heap.objs.size + 1), H', I3, rfl, q3⟩⟩
    | next => exact False.elim hq'
    | brk => exact False.elim hq'
    | cont => exact False.elim hq'
theorem pe_make (M : Mk X.K C f) (F : FnOk q0 X.prog X.w X.K X.mg X.base CX k f fd ps sp) (hr : Room q0 (k + 1) X.A) (hg : Gl X x) (hm : X.mg x = some (.ref C)) (hb : Binds X.K fd ps ds) (hd : Vals dvs ds) (hx : Passes CX X E)
    (ha : PA X (e :: es) t) (hdb : (x == ("__debug__" : Str)) = false := by decide) (he : starEach (e :: es) X.env = (false, eval e X.env) :: starEach es X.env := by rfl) (hpl : (backTo pos (starEach es X.env)).any (·.1) = false := by rfl) :
    PE X (.Call (.Name x p) (e :: es) [] pos) (tMake C sp dvs E t) := by
  intro pins s σ H Q I h
  refine wpAny_Call_Name_kw (ld_glob I hg hm ?_ hdb)
  refine PySem.W.callWith_K (h₀ := X.base) I.ok.mod.kin M.kp (thn (ha pos pins s σ H _ I h) fun us s1 ⟨vs, H1, I1, r, q⟩ => ⟨I1.kIn, ?_⟩) he hpl
  exact run_make M F hr hb hd hx I1 r q
end
section
variable {X : Cx} {CX : CXT} {k : Nat} {f C : Addr} {fd : FuncData} {ps ks : List Str} {sp : Sp} {E : St → XK} {x m : Str} {p pos apos kpos : Pos} {e o : Expr} {es : List Expr} {kws : List Keyword} {te ta : TE} {t tk : TA} {nm : Option Str}
variable {g : List Value → List Value → List Value} {gV : List V → List V → List V}
end
structure FnScope (N P : List Str) (sc : Scope) : Prop where
  kind : sc.kind = .function
  co : sc.isCoroutine = false
  gen : sc.isGenerator = false
  nd : N.Nodup
  pre : N.take P.length = P
  par : ∀ x ∈ P, sc.names.lookup x = some .local ∨ sc.names.lookup x = some .cell
  nofree : ∀ y ∈ sc.names, y.2 ≠ .free
theorem bindL_out {kindOf : Str → Option NameKind} {x : Str} : ∀ {binds : List (Str × Value)} {m : Str → Option Value}, (∀ v, (x, v) ∉ binds) → bindL kindOf binds m x = m x
  | [], _, _ => rfl
  | (n, v) :: r, m, h => by
    unfold bindL
    rw [bindL_out fun w hw => h w (List.mem_cons_of_mem _ hw)]
    split
    · have : x ≠ n := by rintro rfl; exact h v List.mem_cons_self
      simp [this]
    · rfl
theorem bindC_out {kindOf : Str → Option NameKind} {x : Str} : ∀ {binds : List (Str × Value)} {m : Str → Option Value}, (∀ v, (x, v) ∉ binds) → bindC kindOf binds m x = m x
  | [], _, _ => rfl
  | (n, v) :: r, m, h => by
    unfold bindC
    rw [bindC_out fun w hw => h w (List.mem_cons_of_mem _ hw)]
    split
    · rfl
    · have : x ≠ n := by rintro rfl; exact h v List.mem_cons_self
      simp [this]
theorem bindL_get {kindOf : Str → Option NameKind} {x : Str} {v : Value} : ∀ {P : List Str} {vs : List Value} {i : Nat} {m : Str → Option Value}, P.Nodup → P[i]? = some x → vs[i]? = some v → kindOf x = some .local →
    bindL kindOf (P.zip vs) m x = some v
  | [], _, _, _, _, h, _, _ => by simp at h
  | _ :: _, [], _, _, _, _, h, _ => by simp at h
  | p :: P, w :: vs, 0, m, nd, h1, h2, hk => by
    simp at h1 h2; subst h1; subst h2
    show bindL kindOf ((p, w) :: P.zip vs) m p = _
    unfold bindL
    rw [bindL_out fun v hv => (List.nodup_cons.mp nd).1 (List.of_mem_zip hv).1, if_pos hk]
    simp
  | p :: P, w :: vs, i + 1, m, nd, h1, h2, hk => by
    show bindL kindOf ((p, w) :: P.zip vs) m x = _
    unfold bindL
    exact bindL_get (i := i) (List.nodup_cons.mp nd).2 (by simpa using h1) (by simpa using h2) hk
theorem bindC_get {kindOf : Str → Option NameKind} {x : Str} {v : Value} : ∀ {P : List Str} {vs : List Value} {i : Nat} {m : Str → Option Value}, P.Nodup → P[i]? = some x → vs[i]? = some v → kindOf x ≠ some .local →
    bindC kindOf (P.zip vs) m x = some v
  | [], _, _, _, _, h, _, _ => by simp at h
  | _ :: _, [], _, _, _, _, h, _ => by simp at h
  | p :: P, w :: vs, 0, m, nd, h1, h2, hk => by
    simp at h1 h2; subst h1; subst h2
    show bindC kindOf ((p, w) :: P.zip vs) m p = _
    unfold bindC
    rw [bindC_out fun v hv => (List.nodup_cons.mp nd).1 (List.of_mem_zip hv).1, if_neg hk]
    simp
  | p :: P, w :: vs, i + 1, m, nd, h1, h2, hk => by
    show bindC kindOf ((p, w) :: P.zip vs) m x = _
    unfold bindC
    exact bindC_get (i := i) (List.nodup_cons.mp nd).2 (by simpa using h1) (by simpa using h2) hk
def start (N : List Str) (vs : List V) : St := vs.map some ++ List.replicate (N.length - vs.length) none
def cxOf (q0 : Bool) (CX : CXT) (P : Program) (w : World) (K : PySem.W.Frag) (mg : Str → Option Value) (base : Heap) (N : List Str) (qual : Str) (scope : Scope) (f : Addr) (cd : Value) (A : Around) (outer : List Env) (s : Shared) (H : Hp) (E : XK) : Cx where
  prog := P
  w := w
  K := K
  mg := mg
  base := base
  A := A.deeper (envOfC qual scope s.heap.objs.size f cd)
  N := N
  s₀ := s
  H₀ := H
  env := envOfC qual scope s.heap.objs.size f cd
  outer := outer
  stack := envOfC qual scope s.heap.objs.size f cd :: outer
  ex := []
  calm := q0
  fn := fun _ => true
  pn := []
  xe := fun e s' => wpAny (model P w) (A.deeper (envOfC qual scope s.heap.objs.size f cd)) (leaving (envOfC qual scope s.heap.objs.size f cd) e) (fun _ s'' => CX outer H s E e s'') (fun e' s'' => CX outer H s E e' s'') s'
theorem cell_has {sc : Scope} {n : Nat} {x : Str} (h : sc.names.lookup x = some .cell) : ∃ c, (cellsFrom n sc.names []).lookup x = some c := by
  have q := PySem.W.cellsFrom_some sc.names n [] (.inl h)
  exact Option.isSome_iff_exists.mp q
theorem inv_start {CX : CXT} {P : Program} {w : World} {K : PySem.W.Frag} {mg : Str → Option Value} {base : Heap} {N ps : List Str} {qual : Str} {scope : Scope} {f : Addr} {cd : Value} {A : Around} {outer : List Env} {s s1 : Shared} {H : Hp} {E : XK} {us : List Value} {vs : List V}
    (S : FnScope N ps scope) (hd : q0 = true → A.handled = none) (e0 : Env0 P w K mg base A outer s H) (hl : vs.length = ps.length) (r : Vals vs us)
    (x : InCallC s s.heap.objs.size (bindL (envOfC qual scope s.heap.objs.size f cd).kindOf (ps.zip us) fun _ => none) (cellsFrom (s.heap.objs.size + 1) scope.names []) (bindC (envOfC qual scope s.heap.objs.size f cd).kindOf (ps.zip us) fun _ => none) s1) :
    Inv (cxOf q0 CX P w K mg base N qual scope f cd A outer s H E) [] (start N vs) H s1 := by
  have hpl : ps.length ≤ N.length := by have := congrArg List.length S.pre; rw [List.length_take] at this; omega
  obtain ⟨h1, tk, rfl, hk⟩ := x.done
  have noA : ∀ b : Addr, b ∉ (cxOf q0 CX P w K mg base N qual scope f cd A outer s H E).ex := fun b z => absurd (show b ∈ ([] : List Addr) from z) (by simp)
  refine ⟨⟨e0.mod, S.kind, rfl, rfl, Nat.le_refl _, fun y z c h1 h2 => ?_, fun y hy => ?_, fun y c _ h => ?_, hd, Around.frames_deeper e0.frames, .inr ⟨rfl, rfl⟩, fun b z => absurd z (noA b), e0.bs, e0.bsz, fun b _ _ => noA b, fun b z => absurd z (noA b), e0.funs, e0.frf⟩,
    rfl, e0.bare, Un.kept hk, ⟨_, x.toInCall.ns, fun i y v h1 h2 h3 => ?_⟩, fun y c h => ⟨_, x.cell y c h⟩, e0.hok.fresh (Nat.le_refl _), fun y c h => ?_, fun p hp => absurd (show p ∈ ([] : List (Addr × Obj)) from hp) (by simp), e0.hok.kept hk, ?_⟩
  · exact name_of_addr x.apart (PySem.mem_of_lookup h1) (PySem.mem_of_lookup h2)
  · have hy : scope.names.lookup y = some .cell ∨ scope.names.lookup y = some .free := hy
    rcases hy with hy | hy
    · exact cell_has hy
    · exact absurd rfl (S.nofree _ (PySem.mem_of_lookup hy))
  · exact Nat.le_of_lt (x.above y c (PySem.mem_of_lookup h))
  · have hi : i < vs.length := by
      unfold start at h2
      by_cases hi : i < vs.length
      · exact hi
      · rw [List.getElem?_append_right (by simpa using hi)] at h2
        rw [List.getElem?_replicate] at h2
        split at h2 <;> cases h2
    have ha : vs[i]? = some v := by
      unfold start at h2
      rw [List.getElem?_append_left (by simpa using hi), List.getElem?_map] at h2
      cases e : vs[i]? with
      | none => rw [e] at h2; cases h2
      | some a => rw [e] at h2; cases h2; rfl
    obtain ⟨u, hu, rv⟩ := r.get ha
    have hp : ps[i]? = some y := by
      rw [← S.pre, List.getElem?_take_of_lt (by omega)]; exact h1
    have ndP : ps.Nodup := by rw [← S.pre]; exact S.nd.sublist (List.take_sublist _ _)
    refine ⟨u, rv, ?_⟩
    rcases S.par y (List.mem_of_getElem? hp) with k | k
    · exact .inl ⟨k, bindL_get ndP hp hu k⟩
    · obtain ⟨c, e⟩ := cell_has (n := s.heap.objs.size + 1) k
      refine .inr ⟨.inl k, c, e, ?_⟩
      have q := x.cell y c e
      rw [bindC_get ndP hp hu (by show scope.names.lookup y ≠ _; rw [k]; decide)] at q
      exact q
  · exact e0.hok.fresh (Nat.le_of_lt (x.above y c (PySem.mem_of_lookup h)))
  · unfold start
    show _ = N.length
    rw [List.length_append, List.length_map, List.length_replicate]
    omega
theorem fn_of {CX : CXT} {P : Program} {w : World} {K : PySem.W.Frag} {mg : Str → Option Value} {base : Heap} {k : Nat} {f : Addr} {name qual : Str} {params : Arguments} {body : List Stmt} {scope : Scope} {dV kV doc pm cdv ct oc : Value} {an od : Option Addr}
    {osl : Array (Option Value)} {N ps : List Str} {sp : Sp} (lk : K.lookup f = some ⟨oc, od, .func (PySem.W.fnOf name qual params body scope dV kV doc pm an cdv ct), osl⟩) (hcd : PySem.W.codeIn K cdv qual = true) (S : FnScope N ps scope)
    (len : ∀ vs H Q E, sp vs H Q E → vs.length = ps.length)
    (hbody : ∀ (A : Around) (outer : List Env) (s : Shared) (H : Hp) (vs : List V) (Q : VK) (E : XK), Room q0 k (A.deeper (envOfC qual scope s.heap.objs.size f cdv)) → sp vs H Q E →
      ∃ t, PSs (cxOf q0 CX P w K mg base N qual scope f cdv A outer s H E) body t ∧ t { nx := fun _ H' => Q .non H', rt := Q } (start N vs) H) :
    FnOk q0 P w K mg base CX (k + 1) f (PySem.W.fnOf name qual params body scope dV kV doc pm an cdv ct) ps sp := by
  refine ⟨len, fun A outer s H args us vs Q E hr e0 hb r hsp => ?_⟩
  have hl := len _ _ _ _ hsp
  have KX : K.In s.heap := e0.mod.kin.keeps fun b o e => (e0.bs b o e).1
  have lim : s.heap.NoLimit := e0.mod.nolimit.keeps fun b o e => (e0.bs b o e).1
  have hkind : ∀ y ∈ ps.zip us, scope.names.lookup y.1 = some .local ∨ (scope.names.lookup y.1 = some .cell ∧ ((cellsFrom (s.heap.objs.size + 1) scope.names []).lookup y.1).isSome = true) := fun ⟨n, v⟩ hy => by
    rcases S.par n (List.of_mem_zip hy).1 with q | q
    · exact .inl q
    · exact .inr ⟨q, PySem.W.cellsFrom_some _ _ _ (.inl q)⟩
  refine codeAny_call_function hr.depth (KX _ _ lk) rfl S.co S.gen rfl (PySem.W.codeRec_of KX hcd) (hb _ _ _ _ ?_)
  refine wpAny_newFunctionEnv_cells S.kind hkind fun env he s1 x => ?_
  subst he
  refine ⟨lim.keeps x.toInCall.keep, codeAny_func ?_⟩
  obtain ⟨t, ht, hq⟩ := hbody A outer s H vs Q E (hr.deeper _) hsp
  have I : Inv (cxOf q0 CX P w K mg base N qual scope f cdv A outer s H E) [] (start N vs) H s1 := inv_start S hr.hd e0 hl r x
  refine wpAny_mono (ht [] s1 (start N vs) H _ I hq) (fun fl s' hs => ?_) fun e s' hs => hs
  have fin : ∀ {σ' : St} {H' : Hp} {v : V} {u : Value}, Inv (cxOf q0 CX P w K mg base N qual scope f cdv A outer s H E) [] σ' H' s' → RelV v u → Q v H' → CE outer P w H s Q u s' :=
    fun {σ' H' v u} J rv q => ⟨v, H', J.os, J.bare, J.base, J.hok, rv, q⟩
  cases fl with
  | ret u =>
    obtain ⟨v, σ', H', J, rv, q⟩ := hs
    exact fin J rv q
  | next =>
    obtain ⟨σ', H', J, q⟩ := hs
    exact fin (v := V.non) (u := Value.none) J rfl q
  | brk =>
    obtain ⟨_, _, _, q⟩ := hs
    exact False.elim q
  | cont =>
    obtain ⟨_, _, _, q⟩ := hs
    exact False.elim q
end L2
namespace L2
open PySem PySem.Spec PyProof.Rows
variable {q0 : Bool}
section
variable {X : Cx} {x : Str} {p pos : Pos} {e : Expr} {es : List Expr} {t : TA} {id T : String} {r : List V → Hp → VK → Prop}
def tCB (r : List V → Hp → VK → Prop) (t : TA) : TE := fun σ H Q => t σ H fun vs H1 => r vs H1 Q
theorem pe_callB (hc : CallR X (.builtin id) r) (hg : Gl X x) (hm : X.mg x = none) (hv : bootBuiltins x = some (.builtin id)) (ha : PA X (e :: es) t) (hn : x ≠ "__name__" := by decide) (hdb : (x == ("__debug__" : Str)) = false := by decide)
    (he : starEach (e :: es) X.env = (false, eval e X.env) :: starEach es X.env := by rfl) (hpl : (backTo pos (starEach es X.env)).any (·.1) = false := by rfl) : PE X (.Call (.Name x p) (e :: es) [] pos) (tCB r t) := by
  intro pins s σ H Q I h
  refine wpAny_Call_Name_kw (ld_blt I hg hm hv ?_ hn hdb)
  exact PyProof.Rows.callWith_builtin1 (thn (ha pos pins s σ H _ I h) fun us s1 ⟨vs, H1, I1, r1, q1⟩ => hc pins s1 σ H1 vs us Q I1 r1 q1) he hpl
theorem pe_callTy (hc : CallR X (.type T) r) (hg : Gl X x) (hm : X.mg x = none) (hv : bootBuiltins x = some (.type T)) (ha : PA X (e :: es) t) (hn : x ≠ "__name__" := by decide) (hdb : (x == ("__debug__" : Str)) = false := by decide)
    (he : starEach (e :: es) X.env = (false, eval e X.env) :: starEach es X.env := by rfl) (hpl : (backTo pos (starEach es X.env)).any (·.1) = false := by rfl) : PE X (.Call (.Name x p) (e :: es) [] pos) (tCB r t) := by
  intro pins s σ H Q I h
  refine wpAny_Call_Name_kw (ld_blt I hg hm hv ?_ hn hdb)
  exact PyProof.Rows.callWith_type1 (thn (ha pos pins s σ H _ I h) fun us s1 ⟨vs, H1, I1, r1, q1⟩ => hc pins s1 σ H1 vs us Q I1 r1 q1) he hpl
end
end L2
namespace HT
open PySem PyProof.Rows
section
open PySem.SeqAt
open PySem.AutoSeq1 (wpAny_loadPart')
open PySem.MeetsSeq PySem.MeetsSeq2 PySem.MeetsSeq3
end
section
variable {prog : Program} {w : World} {A : Around} {E : Value → Shared → Prop} {s : Shared}
theorem cat_tup {t b : Addr} {vs ws : List Value} {Q : Value → Shared → Prop} (ht : IsTup s.heap t vs.toArray) (hb : IsTup s.heap b ws.toArray) (hv : vs ≠ [])
    (h1 : ws = [] → Q (.ref t) s) (h2 : ws ≠ [] → Q (.ref s.heap.objs.size) { s with heap := s.heap.push { cls := .type "tuple", data := .seq (vs ++ ws).toArray } })
    (hsz : vs.length + ws.length ≤ sizeLine) : wpAny (model prog w) A (binaryOp .Add (.ref t) (.ref b)) Q E s := by
  obtain ⟨⟨cls, dd, data, sl⟩, ho, hc, n, hd⟩ := id ht
  obtain ⟨⟨cls2, dd2, data2, sl2⟩, ho2, hc2, n2, hd2⟩ := id hb
  simp only at hc hd hc2 hd2
  subst hc hd hc2 hd2
  have e : vs.toArray ++ ws.toArray = (vs ++ ws).toArray := by simp
  by_cases hw : ws = []
  · exact concat_meets ⟨_, ho, rfl⟩ ⟨_, ho2, rfl⟩ noFill_tuple_add seq_tuple_add PySem.F.slot_tuple_add PySem.F.entry_tuple_add (PySem.F.args_tuple_add_2 _ _)
      (tuple_addW1 t b vs.toArray ws.toArray n n2 dd dd2 sl sl2 (by simpa using hv) (by simp [hw])) ⟨ho, ho2, h1 hw⟩
  · refine concat_meets ⟨_, ho, rfl⟩ ⟨_, ho2, rfl⟩ noFill_tuple_add seq_tuple_add PySem.F.slot_tuple_add PySem.F.entry_tuple_add (PySem.F.args_tuple_add_2 _ _)
      (tuple_addW2 t b vs.toArray ws.toArray n n2 dd dd2 sl sl2 (by simpa using hv) (by simpa using hw) (by rw [List.size_toArray, List.size_toArray]; exact hsz)) ⟨ho, ho2, ?_⟩
    rw [e]
    exact h2 hw
def sIx (n d : Nat) : Option Int → Nat
  | none => d
  | some v => if v < 0 then (v + (n : Int)).toNat else min v.toNat n
theorem sIx_none (n d : Nat) : sIx n d none = d := rfl
theorem sIx_nat (n d k : Nat) : sIx n d (some (k : Int)) = min k n := by
  show (if (k : Int) < 0 then ((k : Int) + (n : Int)).toNat else min (k : Int).toNat n) = min k n
  rw [if_neg (by omega), Int.toNat_natCast]
theorem sIx_le (n d : Nat) (hd : d ≤ n) (o : Option Int) : sIx n d o ≤ n := by
  cases o with
  | none => exact hd
  | some v =>
    show (if v < 0 then (v + (n : Int)).toNat else min v.toNat n) ≤ n
    by_cases hv : v < 0
    · rw [if_pos hv]; omega
    · rw [if_neg hv]; exact Nat.min_le_right _ _
theorem clip_eq (v : Int) (n d : Nat) : (if v < 0 then max (v + (n : Int)) 0 else min v (n : Int)) = ((sIx n d (some v) : Nat) : Int) := by
  show (if v < 0 then max (v + (n : Int)) 0 else min v (n : Int)) = (((if v < 0 then (v + (n : Int)).toNat else min v.toNat n) : Nat) : Int)
  by_cases hv : v < 0
  · simp only [if_pos hv]; omega
  · simp only [if_neg hv]; omega
theorem adjust_gen (lo hi : Option Int) (n : Nat) : Builtin.Slice.sliceAdjust lo hi 1 (n : Int) = (((sIx n 0 lo : Nat) : Int), ((sIx n n hi : Nat) : Int)) := by
  have h1 : ¬ ((1 : Int) < 0) := by omega
  unfold Builtin.Slice.sliceAdjust
  simp only [h1, if_false]
  refine Prod.ext ?_ ?_
  · cases lo with
    | none => rfl
    | some v => exact clip_eq v n 0
  · cases hi with
    | none => rfl
    | some v => exact clip_eq v n n
theorem places_gen (i j : Nat) : Builtin.Slice.slicePlaces (i : Int) (j : Int) 1 = j - i := by
  unfold Builtin.Slice.slicePlaces
  have h1 : (1 : Int) > 0 := by omega
  simp only [h1, if_true, Int.ediv_one]
  split <;> omega
theorem slicePart_ {v : Value} {o : Option Int} {Q : Option Int → Shared → Prop} (p : IsPart v o) (h : Q o s) : wpAny (model prog w) A (Builtin.Slice.slicePartIndex v) Q E s := by
  cases p with
  | none => exact slicePart_none h
  | int i t => exact slicePart_int h
theorem sliceApplied_gen {sl : Addr} {vl vu : Value} {lo hi : Option Int} {n : Nat} {Q : Int × Int × Nat → Shared → Prop} (hs : s.heap.IsSliceOf sl vl vu .none) (pl : IsPart vl lo) (pu : IsPart vu hi)
    (h : Q (((sIx n 0 lo : Nat) : Int), 1, sIx n n hi - sIx n 0 lo) s) : wpAny (model prog w) A (Builtin.Slice.sliceApplied (.ref sl) (pure (n : Int))) Q E s := by
  obtain ⟨os, hos, hcs, hds⟩ := id hs
  unfold Builtin.Slice.sliceApplied Builtin.Slice.sliceFields
  refine wpAny_bind (wpAny_bind (wpAny_field hos hds (x := vl) rfl (wpAny_bind (wpAny_field hos hds (x := vu) rfl (wpAny_bind (wpAny_field hos hds (x := .none) rfl (wpAny_pure ?_)))))))
  refine wpAny_bind (slicePart_none ?_)
  show wpAny _ _ (if ((1 : Int) == 0) = true then _ else _) _ _ s
  rw [if_neg (by decide)]
  refine wpAny_bind (slicePart_ pl (wpAny_bind (slicePart_ pu (wpAny_bind (wpAny_pure ?_)))))
  show wpAny _ _ (match Builtin.Slice.sliceAdjust lo hi 1 (n : Int) with | (lo, hi) => pure (lo, (1 : Int), Builtin.Slice.slicePlaces lo hi 1)) _ _ s
  rw [adjust_gen lo hi n]
  show wpAny _ _ (pure (((sIx n 0 lo : Nat) : Int), (1 : Int), Builtin.Slice.slicePlaces ((sIx n 0 lo : Nat) : Int) ((sIx n n hi : Nat) : Int) 1)) _ _ s
  rw [places_gen]
  exact wpAny_pure h
theorem pick_gen (xs : Array Value) (i k : Nat) : ((List.range k).filterMap fun (m : Nat) => xs[((i : Int) + (m : Int) * 1).toNat]?).toArray = ((xs.toList.drop i).take k).toArray := by
  have e : (fun (m : Nat) => xs[((i : Int) + (m : Int) * 1).toNat]?) = fun m => xs[i + m]? := by
    funext m
    have : ((i : Int) + (m : Int) * 1).toNat = i + m := by omega
    rw [this]
  rw [e]
  have := pick_run xs i k
  rw [List.filterMap_map] at this
  have e2 : ((fun x => xs[x]?) ∘ fun x => i + x) = fun m => xs[i + m]? := rfl
  rw [e2] at this
  rw [this]
theorem getItem_tuple_cut {t sl : Addr} {items : Array Value} {vl vu : Value} {lo hi : Option Int} {Q : Value → Shared → Prop} (ht : IsTup s.heap t items) (hs : s.heap.IsSliceOf sl vl vu .none) (pl : IsPart vl lo) (pu : IsPart vu hi)
    (hw : ¬ (sIx items.size 0 lo = 0 ∧ sIx items.size items.size hi = items.size))
    (h : Q (.ref s.heap.objs.size) { s with heap := s.heap.push { cls := .type "tuple", data := .seq ((items.toList.drop (sIx items.size 0 lo)).take (sIx items.size items.size hi - sIx items.size 0 lo)).toArray } })
    (hsz : items.size ≤ sizeLine) : wpAny (model prog w) A (getItem (.ref t) (.ref sl)) Q E s := by
  have htake : sizeOk (.seq ((items.toList.drop (sIx items.size 0 lo)).take (sIx items.size items.size hi - sIx items.size 0 lo)).toArray) := by
    show ((items.toList.drop (sIx items.size 0 lo)).take (sIx items.size items.size hi - sIx items.size 0 lo)).toArray.size ≤ sizeLine
    rw [List.size_toArray, List.length_take, List.length_drop, Array.length_toList]
    omega
  have hj : sIx items.size items.size hi ≤ items.size := sIx_le _ _ (Nat.le_refl _) hi
  obtain ⟨os, hos, hcs, hds⟩ := id hs
  have hTs : s.TypeIs (.ref sl) "slice" := ⟨os, hos, hcs⟩
  unfold getItem
  try with_reducible refine wpAny_holding ?_
  first | refine wpAny_bind (wpAny_pure ?_) | skip
  refine wpAny_bind (wpAny_sequenceKey ht.typeIs (by decide) ?_)
  refine wpAny_bind (wpAny_callSpecial?_slot (name := Str.ofString "__getitem__") ht.typeIs PyProof.Rows.slot_tuple_getitem
    (wpAny_call_entry PyProof.Rows.slot_tuple_getitem ht.typeIs entry_tuple_getitem ?_ (args_tuple_getitem _ _)))
  show wpAny _ _ (Builtin.Tuple.tupleItemsOf (.ref t) >>= _) _ _ s
  refine wpAny_bind (tupleItemsOf_ ht ?_)
  refine wpAny_bind (wpAny_typeOf hTs ?_)
  rw [if_pos (by decide)]
  refine wpAny_bind (sliceApplied_gen hs pl pu ?_)
  have hno : ¬ ((((sIx items.size 0 lo : Nat) : Int) == 0 && (1 : Int) == 1 && (sIx items.size items.size hi - sIx items.size 0 lo) == items.size) = true) := by
    intro q
    rw [Bool.and_eq_true, Bool.and_eq_true] at q
    have q1 : ((sIx items.size 0 lo : Nat) : Int) = 0 := eq_of_beq q.1.1
    have q2 : sIx items.size items.size hi - sIx items.size 0 lo = items.size := eq_of_beq q.2
    exact hw ⟨by omega, by omega⟩
  show wpAny _ _ (if (((sIx items.size 0 lo : Nat) : Int) == 0 && (1 : Int) == 1 && (sIx items.size items.size hi - sIx items.size 0 lo) == items.size) = true then _ else _) _ _ s
  rw [if_neg hno, pick_gen]
  first
    | exact wpAny_bind (m := Builtin.Tuple.tupleExact _) (wpAny_newObj_type (wpAny_pure ⟨_, rfl, wpAny_pure h⟩) htake)
    | exact wpAny_bind (m := Builtin.Tuple.tupleExact _) (wpAny_newObj_type (wpAny_bind (wpAny_pure (wpAny_pure ⟨_, rfl, wpAny_pure h⟩))) htake)
    | exact wpAny_bind (wpAny_bind (m := Builtin.Tuple.tupleExact _) (wpAny_newObj_type (wpAny_pure (wpAny_pure ⟨_, rfl, wpAny_pure h⟩)) htake))
    | exact wpAny_bind (wpAny_bind (m := Builtin.Tuple.tupleExact _) (wpAny_newObj_type (wpAny_pure ⟨_, rfl, wpAny_pure h⟩) htake))
end
end HT
namespace L2
open PySem PySem.Spec PyProof.Rows
variable {q0 : Bool}
abbrev TO := St → Hp → (Option Int → Hp → Prop) → Prop
def PO (X : Cx) (e : Option Expr) (t : TO) : Prop :=
  ∀ (pins : List (Addr × Obj)) (s : Shared) (σ : St) (H : Hp) (Q : Option Int → Hp → Prop), Inv X pins σ H s → t σ H Q →
    wpAny (model X.prog X.w) X.A (evalPart e X.env) (fun u s' => ∃ o H', Inv X pins σ H' s' ∧ IsPart u o ∧ Q o H') X.xe s
def tNoPart : TO := fun _ H Q => Q none H
def tPart (t : TE) : TO := fun σ H Q => t σ H fun x H1 => ∃ i, x = .int i ∧ Q (some i) H1
theorem intsAre_of {ns : List Int} : ∀ {us : List Value}, Vals (ns.map V.int) us → IntsAre us ns := by
  induction ns with
  | nil => intro us r; rw [List.map_nil] at r; cases r; exact .nil
  | cons n ns ih =>
    intro us r
    rw [List.map_cons] at r
    cases r with
    | cons r1 r2 =>
      obtain ⟨t, e⟩ := r1
      subst e
      exact .cons n t (ih r2)
section
variable {X : Cx} {e : Expr} {te : TE} {lo hi : Option Expr} {tl th : TO} {pos p2 : Pos}
theorem po_none : PO X none tNoPart := by
  intro pins s σ H Q I h
  rw [evalPart_none]
  exact wpAny_pure ⟨none, H, I, .none, h⟩
theorem po_some (h : PE X e te) : PO X (some e) (tPart te) := by
  intro pins s σ H Q I hw
  rw [evalPart_some]
  refine thn (h pins s σ H _ I hw) fun u s1 ⟨x, H1, I1, r1, q1⟩ => ?_
  obtain ⟨i, rfl, q⟩ := q1
  obtain ⟨t, rfl⟩ := r1
  exact ⟨some i, H1, I1, .int i t, q⟩
def SlR (X : Cx) (r : V → Option Int → Option Int → Hp → VK → Prop) : Prop :=
  ∀ (pins : List (Addr × Obj)) (s : Shared) (σ : St) (H : Hp) (x : V) (v vl vu : Value) (lo hi : Option Int) (sl : Addr) (Q : VK), Inv X pins σ H s → RelV x v → s.heap.IsSliceOf sl vl vu .none → IsPart vl lo → IsPart vu hi → r x lo hi H Q →
    ∃ T id, typeLookup (.type T) "__getitem__" = pure (some (.builtin id)) ∧ s.TypeIs v T ∧ wpAny (model X.prog X.w) X.A (getItem v (.ref sl)) (EP X pins σ Q) X.xe s
def tSl (r : V → Option Int → Option Int → Hp → VK → Prop) (te : TE) (tl th : TO) : TE := fun σ H Q => te σ H fun x H1 => tl σ H1 fun l H2 => th σ H2 fun u H3 => r x l u H3 Q
theorem pe_slice {r : V → Option Int → Option Int → Hp → VK → Prop} (hr : SlR X r) (he : PE X e te) (hl : PO X lo tl) (hu : PO X hi th) : PE X (.Subscript e (.Slice lo hi none p2) pos) (tSl r te tl th) := by
  intro pins s σ H Q I h
  refine Subscript_ (thn (he pins s σ H _ I h) fun v s1 ⟨x, H1, I1, r1, q1⟩ => ?_)
  refine wpAny_Slice (thn (hl pins s1 σ H1 _ I1 q1) fun vl s2 ⟨l, H2, I2, pl, q2⟩ => thn (hu pins s2 σ H2 _ I2 q2) fun vu s3 ⟨u, H3, I3, pu, q3⟩ => ?_)
  rw [evalPart_none]
  refine wpAny_pure ?_
  have I4 : Inv X pins σ H3 { s3 with heap := s3.heap.push { cls := .type "slice", data := .fields #[vl, vu, .none] } } := I3.kept (t' := s3.toks) fun b ob q => Heap.get?_push_of_some _ q
  obtain ⟨T, id, hT, ht, hg⟩ := hr pins { s3 with heap := s3.heap.push { cls := .type "slice", data := .fields #[vl, vu, .none] } } σ H3 x v vl vu l u s3.heap.objs.size Q I4 r1 (Heap.IsSliceOf.new ..) pl pu q3
  show wpAny (model X.prog X.w) X.A (subscriptTail e (.Slice lo hi none p2) v (.ref s3.heap.objs.size)) (EP X pins σ Q) X.xe { s3 with heap := s3.heap.push { cls := .type "slice", data := .fields #[vl, vu, .none] } }
  exact tail_any (ops := [.ref s3.heap.objs.size, v]) ht hT hg (by with_unfolding_all rfl)
def cutV (xs : List V) (lo hi : Option Int) : List V := (xs.drop (HT.sIx xs.length 0 lo)).take (HT.sIx xs.length xs.length hi - HT.sIx xs.length 0 lo)
theorem cutV_length (xs : List V) (lo hi : Option Int) : (cutV xs lo hi).length ≤ xs.length := by
  unfold cutV
  rw [List.length_take, List.length_drop]
  omega
def rSlT (K : PySem.W.Frag) : V → Option Int → Option Int → Hp → VK → Prop := fun x lo hi H Q => ∃ a xs, x = .ref a ∧ SqT K H a xs ∧
  ¬ (HT.sIx xs.length 0 lo = 0 ∧ HT.sIx xs.length xs.length hi = xs.length) ∧ ∀ p, H p = none → Q (.ref p) (upd H p (.tup (cutV xs lo hi)))
theorem sl_tup : SlR X (rSlT X.K) := by
  intro pins s σ H x v vl vu lo hi sl Q I rx hs pl pu h
  obtain ⟨a, xs, rfl, hx, hw, q⟩ := h
  cases rx
  obtain ⟨its, r, ht, hz⟩ := I.tuple hx
  have hlen : its.toArray.size = xs.length := by rw [List.size_toArray]; exact r.length.symm
  refine ⟨"tuple", _, PyProof.Rows.slot_tuple_getitem.lookup, ht.typeIs, ?_⟩
  refine HT.getItem_tuple_cut ht hs pl pu (by rw [hlen]; exact hw) ?_ (by rw [hlen]; exact hz)
  rw [hlen]
  refine ⟨.ref s.heap.objs.size, _, I.laid (t' := s.toks) (o := .tup (cutV xs lo hi)) (fun b ob q => Heap.get?_push_of_some _ q) (Nat.le_refl _) ?_, rfl, q _ (I.hok.fresh (Nat.le_refl _))⟩
  exact ⟨Nat.le_trans (cutV_length xs lo hi) hz, _, (r.drop (HT.sIx xs.length 0 lo)).take (HT.sIx xs.length xs.length hi - HT.sIx xs.length 0 lo), IsTup.new _ _⟩
def rCatT (K : PySem.W.Frag) : R2 := fun x y H Q => ∃ a b xs ys, x = .ref a ∧ y = .ref b ∧ SqT K H a xs ∧ SqT K H b ys ∧ xs ≠ [] ∧ xs.length + ys.length ≤ sizeLine ∧
  (ys = [] → Q (.ref a) H) ∧ (ys ≠ [] → ∀ p, H p = none → Q (.ref p) (upd H p (.tup (xs ++ ys))))
theorem Vals.nil_iff {xs : List V} {us : List Value} (r : Vals xs us) : us = [] ↔ xs = [] := by
  cases r with
  | nil => simp
  | cons _ _ => simp
theorem op_catT : OpR X (binaryOp .Add) (rCatT X.K) := by
  intro pins s σ H x y v u Q I rx ry h
  obtain ⟨a, b, xs, ys, rfl, rfl, ha, hb, hx, hz, q1, q2⟩ := h
  cases rx
  cases ry
  obtain ⟨its, r1, p1, _⟩ := I.tuple ha
  obtain ⟨its2, r2, p2, _⟩ := I.tuple hb
  refine HT.cat_tup p1 p2 (fun z => hx (r1.nil_iff.mp z)) (fun z => ⟨.ref a, H, I, rfl, q1 (r2.nil_iff.mp z)⟩) (fun z => ?_) (by rw [← r1.length, ← r2.length]; exact hz)
  refine ⟨.ref s.heap.objs.size, _, I.laid (t' := s.toks) (o := .tup (xs ++ ys)) (fun b ob q => Heap.get?_push_of_some _ q) (Nat.le_refl _) ?_, rfl, q2 (fun w => z (r2.nil_iff.mpr w)) _ (I.hok.fresh (Nat.le_refl _))⟩
  exact ⟨by rw [List.length_append]; exact hz, _, r1.append r2, IsTup.new _ _⟩
end
end L2
namespace L2
open PySem PySem.Spec PyProof.Rows
variable {q0 : Bool}
def ixN (n : Nat) (i : Int) : Option Nat := if 0 ≤ i then (if i < n then some i.toNat else none) else if -(n : Int) ≤ i then some (i + n).toNat else none
def atI {α : Type} (xs : List α) (i : Int) : Option α := (ixN xs.length i).bind fun j => xs[j]?
theorem ixN_seq {n : Nat} {i : Int} {j : Nat} (h : ixN n i = some j) : seqIndex? i n = some j ∧ j < n ∧ -(n : Int) ≤ i ∧ i < n := by
  unfold ixN at h
  by_cases h0 : 0 ≤ i
  · rw [if_pos h0] at h
    by_cases h1 : i < n
    · rw [if_pos h1] at h
      have e : i.toNat = j := Option.some.inj h
      exact ⟨by rw [seqIndex_of h0 h1, e], by omega, by omega, h1⟩
    · rw [if_neg h1] at h; cases h
  · rw [if_neg h0] at h
    by_cases h1 : -(n : Int) ≤ i
    · rw [if_pos h1] at h
      have e : (i + n).toNat = j := Option.some.inj h
      exact ⟨by rw [seqIndex_neg (by omega) h1, e], by omega, h1, by omega⟩
    · rw [if_neg h1] at h; cases h
theorem atI_get {α : Type} {xs : List α} {i : Int} {v : α} (h : atI xs i = some v) : ∃ j, seqIndex? i xs.length = some j ∧ xs[j]? = some v ∧ j < xs.length ∧ -(xs.length : Int) ≤ i ∧ i < xs.length := by
  unfold atI at h
  cases e : ixN xs.length i with
  | none => rw [e] at h; cases h
  | some j =>
    rw [e] at h
    obtain ⟨h1, h2, h3, h4⟩ := ixN_seq e
    exact ⟨j, h1, h, h2, h3, h4⟩
theorem atI_nat {α : Type} {xs : List α} {j : Nat} {v : α} (h : xs[j]? = some v) : atI xs (j : Int) = some v := by
  have hj : j < xs.length := (List.getElem?_eq_some_iff.mp h).1
  have e : ixN xs.length (j : Int) = some j := by
    unfold ixN
    rw [if_pos (by omega), if_pos (by omega)]; simp
  unfold atI; rw [e]; exact h
def PlainIx (b : Expr) : Prop := ∀ o i, subscripted b false o i = operate [o, i] (getItem o i)
def IxR (X : Cx) (r : R2) : Prop :=
  ∀ (value slice : Expr) (pins : List (Addr × Obj)) (s : Shared) (σ : St) (H : Hp) (x y : V) (v u : Value) (Q : VK), Inv X pins σ H s → RelV x v → RelV y u → r x y H Q →
    subscripted slice false v u = operate [v, u] (getItem v u) → wpAny (model X.prog X.w) X.A (subscriptTail value slice v u) (EP X pins σ Q) X.xe s
def MtR (X : Cx) (id : String) (r : V → List V → Hp → VK → Prop) : Prop :=
  ∀ (pins : List (Addr × Obj)) (s : Shared) (σ : St) (H : Hp) (x : V) (xs : List V) (v : Value) (us : List Value) (Q : VK), Inv X pins σ H s → RelV x v → Vals xs us → r x xs H Q →
    wpAny (model X.prog X.w) X.A (call (.builtin id) (v :: us)) (EP X pins σ Q) X.xe s
section
variable {X : Cx} {a b : Expr} {ta tb : TE} {pos : Pos}
theorem pe_ix {r : R2} (hr : IxR X r) (ha : PE X a ta) (hb : PE X b tb) (hs : PlainIx b) : PE X (.Subscript a b pos) (tOp r ta tb) := by
  intro pins s σ H Q I h
  exact Subscript_ (binT ha hb I h fun v u s2 x y H2 I2 rx ry q => hr a b pins s2 σ H2 x y v u Q I2 rx ry q (hs _ _))
def rIxL (K : PySem.W.Frag) : R2 := fun x y H Q => ∃ p xs i v, x = .ref p ∧ y = .int i ∧ SqL K H p xs ∧ atI xs i = some v ∧ Q v H
def rIxT (K : PySem.W.Frag) : R2 := fun x y H Q => ∃ p xs i v, x = .ref p ∧ y = .int i ∧ SqT K H p xs ∧ atI xs i = some v ∧ Q v H
def rIxS : R2 := fun x y H Q => ∃ z i c, x = .str z ∧ y = .int i ∧ z.length ≤ sizeLine ∧ atI z.cps.toList i = some c ∧ Q (.str ⟨#[c]⟩) H
theorem ix_list : IxR X (rIxL X.K) := by
  intro value slice pins s σ H x y v u Q I rx ry h hs
  obtain ⟨p, xs, i, z, rfl, rfl, hq, he, q⟩ := h
  cases rx
  obtain ⟨t, rfl⟩ := ry
  obtain ⟨its, r, pl, hz⟩ := I.list hq
  obtain ⟨j, h1, h2, h3, h4, h5⟩ := atI_get he
  obtain ⟨w, ew, rw'⟩ := r.get h2
  have hl := r.length
  have hn := line63
  have fin : EP X pins σ Q w s := ⟨z, H, I, rw', q⟩
  by_cases h0 : 0 ≤ i
  · have hj : i.toNat = j := by
      rw [seqIndex_of h0 h5] at h1
      exact Option.some.inj h1
    exact item_listR pl.isList h0 (by omega) (by rw [hj]; simpa using ew) fin hs
  · have hj : (i + (its.toArray.size : Int)).toNat = j := by
      rw [seqIndex_neg (by omega) h4] at h1
      rw [List.size_toArray, ← hl]
      exact Option.some.inj h1
    exact subscriptTail_builtinR (x := w) pl.isList.typeIs slot_list_getitem.lookup
      (wpAny_getItem_list_neg (Q := fun r s' => r = w ∧ EP X pins σ Q r s') pl.isList (by omega) (by rw [List.size_toArray] <;> omega) (by omega) (by rw [hj]; simpa using ew) ⟨rfl, fin⟩) hs
theorem ix_tup : IxR X (rIxT X.K) := by
  intro value slice pins s σ H x y v u Q I rx ry h hs
  obtain ⟨p, xs, i, z, rfl, rfl, hq, he, q⟩ := h
  cases rx
  obtain ⟨t, rfl⟩ := ry
  obtain ⟨its, r, pl, hz⟩ := I.tuple hq
  obtain ⟨j, h1, h2, h3, h4, h5⟩ := atI_get he
  obtain ⟨w, ew, rw'⟩ := r.get h2
  have hl := r.length
  have hn := line63
  have fin : EP X pins σ Q w s := ⟨z, H, I, rw', q⟩
  exact subscriptTail_builtinR (x := w) pl.typeIs slot_tuple_getitem.lookup
    (getItem_tuple (j := j) (Q := fun r s' => r = w ∧ EP X pins σ Q r s') pl (by omega) (by omega) (by rw [List.size_toArray, ← hl]; exact h1) (by simpa using ew) ⟨rfl, fin⟩) hs
theorem ix_str : IxR X rIxS := by
  intro value slice pins s σ H x y v u Q I rx ry h hs
  obtain ⟨z, i, c, rfl, rfl, hz, he, q⟩ := h
  obtain ⟨t, rfl⟩ := rx
  obtain ⟨t', rfl⟩ := ry
  obtain ⟨j, h1, h2, h3, h4, h5⟩ := atI_get he
  have hl : z.cps.toList.length = z.length := by simp [Str.length]
  rw [hl] at h1 h4 h5
  have hn := line63
  exact tail_any (typeIs_str s z t) slot_str_getitem.lookup (getItem_str (c := c) (by
    have e1 : decide (i < -(2 ^ 63 : Int)) = false := decide_eq_false (by omega)
    have e2 : decide (i ≥ 2 ^ 63) = false := decide_eq_false (by omega)
    rw [e1, e2, Bool.or_false]) (by rw [h1]; simpa using h2) ⟨.str ⟨#[c]⟩, H, I.tok _, ⟨_, rfl⟩, q⟩) hs
theorem mapSeq_set (its : List Value) (n j : Nat) (u : Value) : Obj.mapSeq (·.setIfInBounds j u) { cls := .type "list", data := .seq its.toArray n } = { cls := .type "list", data := .seq (its.set j u).toArray n } := by
  simp [Obj.mapSeq]
theorem Inv.lst {pins : List (Addr × Obj)} {σ : St} {H : Hp} {s : Shared} {p : Addr} {xs : List V} (I : Inv X pins σ H s) (h : H p = some (.lst xs)) :
    ∃ (its : List Value) (n : Nat), Vals xs its ∧ s.heap.get? p = some { cls := .type "list", data := .seq its.toArray n } ∧ xs.length ≤ sizeLine := by
  obtain ⟨z, its, n, r, e⟩ := I.hok p _ h
  exact ⟨its, n, r, e, z⟩
theorem Inv.lstUpd {pins : List (Addr × Obj)} {σ : St} {H : Hp} {s : Shared} {p : Addr} {xs ys : List V} {its its' : List Value} {n n' : Nat} {f : Obj → Obj} (I : Inv X pins σ H s) (h : H p = some (.lst xs))
    (ho : s.heap.get? p = some { cls := .type "list", data := .seq its.toArray n }) (hf : f { cls := .type "list", data := .seq its.toArray n } = { cls := .type "list", data := .seq its'.toArray n' }) (r : Vals ys its') (hz : ys.length ≤ sizeLine) (t : Nat) :
    Inv X pins σ (upd H p (.lst ys)) { s with heap := s.heap.update p f, toks := t } := by
  have e : (s.heap.update p f).get? p = some { cls := .type "list", data := .seq its'.toArray n' } := by
    rw [Heap.get?_update_self f ho (by rw [hf] <;> rfl), hf]
  refine I.write (x := p) (e := p) (by rw [h]; trivial) (.inl rfl) (fun b u hb q => (Heap.get?_update_other _ _ (Ne.symm hb)).trans q) ⟨_, e⟩ ?_
  exact ⟨hz, its', n', r, e⟩
def rSetL : V → V → V → Hp → (Hp → Prop) → Prop := fun o i v H Q => ∃ p xs k j, o = .ref p ∧ i = .int k ∧ H p = some (.lst xs) ∧ ixN xs.length k = some j ∧ Q (upd H p (.lst (xs.set j v)))
theorem set_list : PSet X rSetL := by
  intro pins s σ H o i v ov iv u Q I ro ri rv h
  obtain ⟨p, xs, k, j, rfl, rfl, hp, hj, q⟩ := h
  cases ro
  obtain ⟨t, rfl⟩ := ri
  obtain ⟨its, n, r, ho, hz⟩ := I.lst hp
  obtain ⟨h1, h2, h3, h4⟩ := ixN_seq hj
  have hl := r.length
  have hn := line63
  have I' : Inv X pins σ (upd H p (.lst (xs.set j v))) { s with heap := s.heap.update p (Obj.mapSeq (·.setIfInBounds j u)) } :=
    I.lstUpd hp ho (mapSeq_set its n j u) (r.set rv j) (by rw [List.length_set]; exact hz) s.toks
  by_cases h0 : 0 ≤ k
  · have hk : k.toNat = j := by
      rw [seqIndex_of h0 h4] at h1
      exact Option.some.inj h1
    exact PySem.W.ki_setAt ho h0 (by omega) (by rw [List.size_toArray, ← hl]; exact h4) (by rw [hk]; exact ⟨_, I', q⟩)
  · have hk : (k + (its.toArray.size : Int)).toNat = j := by
      rw [seqIndex_neg (by omega) h3] at h1
      rw [List.size_toArray, ← hl]
      exact Option.some.inj h1
    exact PySem.W.ki_setBack ho (by omega) (by rw [List.size_toArray, ← hl]; exact h3) (by omega) (by rw [hk]; exact ⟨_, I', q⟩)
theorem slice_bounds (lo hi : Option Int) (n : Nat) : (sliceBounds lo hi none n).1 = ((HT.sIx n 0 lo : Nat) : Int) ∧ (sliceBounds lo hi none n).2.1 = ((HT.sIx n n hi : Nat) : Int) ∧ (sliceBounds lo hi none n).2.2 = 1 := by
  refine ⟨?_, ?_, rfl⟩
  · cases lo with
    | none => simp [sliceBounds, HT.sIx]
    | some i =>
      simp only [sliceBounds, HT.sIx, Option.getD_none, show (1 : Int) > 0 by decide, if_true]
      by_cases h : i < 0
      · simp only [h, if_true] <;> omega
      · simp only [h, if_false] <;> omega
  · cases hi with
    | none => simp [sliceBounds, HT.sIx]
    | some i =>
      simp only [sliceBounds, HT.sIx, Option.getD_none, show (1 : Int) > 0 by decide, if_true]
      by_cases h : i < 0
      · simp only [h, if_true] <;> omega
      · simp only [h, if_false] <;> omega
theorem slicePick_cut (its : List Value) (lo hi : Option Int) : slicePick its.toArray lo hi none = ((its.drop (HT.sIx its.length 0 lo)).take (HT.sIx its.length its.length hi - HT.sIx its.length 0 lo)).toArray := by
  obtain ⟨h1, h2, h3⟩ := slice_bounds lo hi its.toArray.size
  unfold slicePick
  rw [h1, h2, h3]
  simp only [sliceRange_one, pick_run, List.size_toArray] <;> rfl
def rSlL (K : PySem.W.Frag) : V → Option Int → Option Int → Hp → VK → Prop := fun x lo hi H Q => ∃ a xs, x = .ref a ∧ SqL K H a xs ∧ ∀ p, H p = none → Q (.ref p) (upd H p (.lst (cutV xs lo hi)))
theorem sl_list : SlR X (rSlL X.K) := by
  intro pins s σ H x v vl vu lo hi sl Q I rx hs pl pu h
  obtain ⟨a, xs, rfl, hx, q⟩ := h
  cases rx
  obtain ⟨its, r, ht, hz⟩ := I.list hx
  have hlen := r.length
  refine ⟨"list", _, slot_list_getitem.lookup, ht.isList.typeIs, ?_⟩
  refine wpAny_getItem_list_slice ht.isList hs pl pu .none (by simp) ?_ (by rw [List.size_toArray] <;> omega)
  rw [slicePick_cut, ← hlen]
  refine ⟨.ref s.heap.objs.size, _, I.laid (t' := s.toks) (o := .lst (cutV xs lo hi)) (fun b ob q => Heap.get?_push_of_some _ q) (Nat.le_refl _) ?_, rfl, q _ (I.hok.fresh (Nat.le_refl _))⟩
  exact ⟨Nat.le_trans (cutV_length xs lo hi) hz, _, 0, (r.drop (HT.sIx xs.length 0 lo)).take (HT.sIx xs.length xs.length hi - HT.sIx xs.length 0 lo), Heap.get?_push_size _ rfl⟩
def flatV : V → Bool
  | .non => true
  | .bl _ => true
  | .int _ => true
  | .str _ => true
  | _ => false
def eqV : V → V → Bool
  | .non, .non => true
  | .bl a, .bl b => a == b
  | .bl a, .int b => (if a then 1 else 0) == b
  | .int a, .bl b => a == (if b then 1 else 0)
  | .int a, .int b => a == b
  | .str a, .str b => a == b
  | _, _ => false
theorem eqAt_V {A : Around} {s : Shared} {y x : V} {u v : Value} (ry : RelV y u) (rx : RelV x v) (fy : flatV y = true) (fx : flatV x = true) : SeqAt.EqAt A s u v (eqV y x) := by
  cases y with
  | non =>
    cases ry
    cases x with
    | non => cases rx; exact SeqAt.EqAt.same _
    | bl b => cases rx; exact SeqAt.EqAt.none_bool b
    | int b => obtain ⟨t, rfl⟩ := rx; exact SeqAt.EqAt.none_int b t
    | str b => obtain ⟨t, rfl⟩ := rx; exact SeqAt.EqAt.none_str b t
    | _ => exact absurd (show false = true from fx) Bool.false_ne_true
  | bl a =>
    cases ry
    cases x with
    | non => cases rx; exact SeqAt.EqAt.bool_none a
    | bl b => cases rx; exact SeqAt.EqAt.bool_bool a b
    | int b => obtain ⟨t, rfl⟩ := rx; exact SeqAt.EqAt.bool_int a b t
    | str b => obtain ⟨t, rfl⟩ := rx; exact SeqAt.EqAt.bool_str a b t
    | _ => exact absurd (show false = true from fx) Bool.false_ne_true
  | int a =>
    obtain ⟨t', rfl⟩ := ry
    cases x with
    | non => cases rx; exact SeqAt.EqAt.int_none a t'
    | bl b => cases rx; exact SeqAt.EqAt.int_bool a t' b
    | int b => obtain ⟨t, rfl⟩ := rx; exact SeqAt.EqAt.int_int a t' b t
    | str b => obtain ⟨t, rfl⟩ := rx; exact SeqAt.EqAt.int_str a t' b t
    | _ => exact absurd (show false = true from fx) Bool.false_ne_true
  | str a =>
    obtain ⟨t', rfl⟩ := ry
    cases x with
    | non => cases rx; exact SeqAt.EqAt.str_none a t'
    | bl b => cases rx; exact SeqAt.EqAt.str_bool a t' b
    | int b => obtain ⟨t, rfl⟩ := rx; exact SeqAt.EqAt.str_int a t' b t
    | str b => obtain ⟨t, rfl⟩ := rx; exact SeqAt.EqAt.str_str a t' b t
    | _ => exact absurd (show false = true from fx) Bool.false_ne_true
  | _ => exact absurd (show false = true from fy) Bool.false_ne_true
def eqU (x : V) (u : Value) : Bool := match u with
  | .none => eqV .non x
  | .bool b => eqV (.bl b) x
  | .int i _ => eqV (.int i) x
  | .str z _ => eqV (.str z) x
  | _ => false
theorem eqU_of {x y : V} {u : Value} (r : RelV y u) (f : flatV y = true) : eqU x u = eqV y x := by
  cases y with
  | non => cases r; rfl
  | bl b => cases r; rfl
  | int i => obtain ⟨t, rfl⟩ := r; rfl
  | str z => obtain ⟨t, rfl⟩ := r; rfl
  | _ => exact absurd (show false = true from f) Bool.false_ne_true
theorem any_eqU {x : V} : ∀ {xs : List V} {us : List Value}, Vals xs us → xs.all flatV = true → us.any (eqU x) = xs.any fun y => eqV y x
  | _, _, .nil, _ => rfl
  | y :: xs, u :: us, .cons r t, f => by
    rw [List.all_cons, Bool.and_eq_true] at f
    rw [List.any_cons, List.any_cons, eqU_of r f.1, any_eqU t f.2]
theorem mem_eqAt {A : Around} {s : Shared} {x : V} {v : Value} (rx : RelV x v) (fx : flatV x = true) : ∀ {xs : List V} {us : List Value}, Vals xs us → xs.all flatV = true → ∀ u ∈ us, SeqAt.EqAt A s u v (eqU x u)
  | _, _, .nil, _ => fun u hu => by cases hu
  | y :: xs, u :: us, .cons r t, f => fun u' hu => by
    rw [List.all_cons, Bool.and_eq_true] at f
    rcases List.mem_cons.mp hu with rfl | hu
    · rw [eqU_of r f.1]; exact eqAt_V r rx f.1 fx
    · exact mem_eqAt rx fx t f.2 u' hu
def inV (x : V) (xs : List V) : Bool := xs.any fun y => eqV y x
def rIn (K : PySem.W.Frag) (neg : Bool) : R2 := fun x y H Q => ∃ p xs, y = .ref p ∧ (SqL K H p xs ∨ SqT K H p xs) ∧ flatV x = true ∧ xs.all flatV = true ∧ Q (.bl (if neg then !inV x xs else inV x xs)) H
theorem op_in_seq : OpR X (compareOp .In) (rIn X.K false) := by
  intro pins s σ H x y v u Q I rx ry h
  obtain ⟨p, xs, rfl, hq, fx, fs, q⟩ := h
  cases ry
  rcases hq with hq | hq
  · obtain ⟨its, r, pl, hz⟩ := I.list hq
    refine SeqAt.in_listAt (eqU x) pl.isList (fun w hw => mem_eqAt rx fx r fs w (by simpa using hw)) ⟨.bl _, H, I, rfl, ?_⟩
    rw [show its.toArray.any (eqU x) = its.any (eqU x) by simp, any_eqU r fs]
    exact q
  · obtain ⟨its, r, pl, hz⟩ := I.tuple hq
    refine SeqAt.in_tupleAt (eqU x) pl (fun w hw => mem_eqAt rx fx r fs w (by simpa using hw)) ⟨.bl _, H, I, rfl, ?_⟩
    rw [show its.toArray.any (eqU x) = its.any (eqU x) by simp, any_eqU r fs]
    exact q
theorem op_notIn_seq : OpR X (compareOp .NotIn) (rIn X.K true) := by
  intro pins s σ H x y v u Q I rx ry h
  obtain ⟨p, xs, rfl, hq, fx, fs, q⟩ := h
  cases ry
  rcases hq with hq | hq
  · obtain ⟨its, r, pl, hz⟩ := I.list hq
    refine SeqAt.notIn_listAt (eqU x) pl.isList (fun w hw => mem_eqAt rx fx r fs w (by simpa using hw)) ⟨.bl _, H, I, rfl, ?_⟩
    rw [show its.toArray.any (eqU x) = its.any (eqU x) by simp, any_eqU r fs]
    exact q
  · obtain ⟨its, r, pl, hz⟩ := I.tuple hq
    refine SeqAt.notIn_tupleAt (eqU x) pl (fun w hw => mem_eqAt rx fx r fs w (by simpa using hw)) ⟨.bl _, H, I, rfl, ?_⟩
    rw [show its.toArray.any (eqU x) = its.any (eqU x) by simp, any_eqU r fs]
    exact q
theorem call_len_seq : CallR X (.builtin "len") (fun xs H Q => ∃ p ys, xs = [.ref p] ∧ (SqL X.K H p ys ∨ SqT X.K H p ys) ∧ Q (.int ys.length) H) := by
  intro pins s σ H xs us Q I r h
  obtain ⟨p, ys, rfl, hq, q⟩ := h
  obtain ⟨u, rfl, rx⟩ := vals1 r
  cases rx
  have hn := line63
  rcases hq with hq | hq
  · obtain ⟨its, r', pl, hz⟩ := I.list hq
    have hlen := r'.length
    exact Calls.call_len_list pl.isList (by simp only [List.size_toArray] <;> omega) ⟨.int ys.length, H, I.tok _, ⟨s.toks + 1, by rw [List.size_toArray, hlen]⟩, q⟩
  · obtain ⟨its, r', pl, hz⟩ := I.tuple hq
    have hlen := r'.length
    exact len_tuple pl (by simp only [List.size_toArray] <;> omega) ⟨.int ys.length, H, I.tok _, ⟨s.toks + 1, by rw [List.size_toArray, hlen]⟩, q⟩
theorem call_len_str : CallR X (.builtin "len") (fun xs H Q => ∃ z, xs = [.str z] ∧ z.length ≤ sizeLine ∧ Q (.int z.length) H) := by
  intro pins s σ H xs us Q I r h
  obtain ⟨z, rfl, hz, q⟩ := h
  obtain ⟨u, rfl, t, rfl⟩ := vals1 r
  have hn := line63
  exact len_str (by omega) ⟨.int z.length, H, I.tok _, ⟨_, rfl⟩, q⟩
theorem call_list_of : CallR X (.type "list") (fun xs H Q => ∃ p ys, xs = [.ref p] ∧ (SqL X.K H p ys ∨ SqT X.K H p ys) ∧ ∀ l, H l = none → Q (.ref l) (upd H l (.lst ys))) := by
  intro pins s σ H xs us Q I r h
  obtain ⟨p, ys, rfl, hq, q⟩ := h
  obtain ⟨u, rfl, rx⟩ := vals1 r
  cases rx
  have fin : ∀ (its : List Value), Vals ys its → ys.length ≤ sizeLine → ∀ (h' : Heap) (c' : Nat), (∀ b o', s.heap.get? b = some o' → h'.get? b = some o') →
      h'.get? s.heap.objs.size = some { cls := .type "list", dict := none, data := .seq its.toArray c', slots := #[] } → EP X pins σ Q (.ref s.heap.objs.size) { s with heap := h' } := fun its r' hz h' c' kp e =>
    ⟨.ref s.heap.objs.size, _, I.laid (t' := s.toks) kp (Nat.le_refl _) (show ObjOk X.prog X.w _ h' _ (.lst ys) from ⟨hz, its, c', r', e⟩), rfl, q _ (I.hok.fresh (Nat.le_refl _))⟩
  rcases hq with hq | hq
  · obtain ⟨its, r', pl, hz⟩ := I.list hq
    have hlen := r'.length
    obtain ⟨o, ho, hc, n, hd⟩ := pl.isList
    exact call_list_seq p (.inl rfl) ho hc hd (fun h' c' kp e => fin its r' hz h' c' kp e) (by simp only [List.size_toArray] <;> omega)
  · obtain ⟨its, r', pl, hz⟩ := I.tuple hq
    have hlen := r'.length
    obtain ⟨o, ho, hc, n, hd⟩ := pl
    exact call_list_seq p (.inr rfl) ho hc hd (fun h' c' kp e => fin its r' hz h' c' kp e) (by simp only [List.size_toArray] <;> omega)
def tyV (K : PySem.W.Frag) (T : String) (x : V) (H : Hp) : Prop := match x with
  | .str _ => T = "str"
  | .int _ => T = "int"
  | .ref p => (T = "list" ∧ ∃ xs, SqL K H p xs) ∨ (T = "tuple" ∧ ∃ o, K.lookup p = some o ∧ o.cls = .type "tuple" ∧ o.dict = none) ∨
      (T = "dict" ∧ ((∃ kvs, H p = some (.dK kvs)) ∨ ∃ kvs, H p = some (.dT kvs))) ∨ (T = "set" ∧ ∃ S n, H p = some (.set S n))
  | _ => False
theorem tyV_is {pins : List (Addr × Obj)} {σ : St} {H : Hp} {s : Shared} {T : String} {x : V} {v : Value} (I : Inv X pins σ H s) (r : RelV x v) (ty : tyV X.K T x H) :
    s.TypeIs v T ∧ ∀ a, v = .ref a → ∃ ob, s.heap.get? a = some ob ∧ ob.dict = none := by
  cases x with
  | str z =>
    obtain ⟨t, rfl⟩ := r
    cases (show T = "str" from ty)
    exact ⟨typeIs_str s z t, fun _ e => nomatch e⟩
  | int i =>
    obtain ⟨t, rfl⟩ := r
    cases (show T = "int" from ty)
    exact ⟨typeIs_int s i t, fun _ e => nomatch e⟩
  | ref p =>
    cases r
    rcases ty with ⟨rfl, xs, hq⟩ | ⟨rfl, o, hk, hc, hd⟩ | ⟨rfl, hk⟩ | ⟨rfl, S, n, hk⟩
    · obtain ⟨its, _, pl, _⟩ := I.list hq
      refine ⟨pl.isList.typeIs, fun a e => ?_⟩
      cases e
      obtain ⟨o, n, e, c, hd, _⟩ := pl
      exact ⟨o, e, hd⟩
    · refine ⟨⟨o, I.kIn p o hk, hc⟩, fun a e => ?_⟩
      cases e
      exact ⟨o, I.kIn _ o hk, hd⟩
    · have z : ∃ o, s.heap.get? p = some o ∧ o.ExactDict := by
        rcases hk with ⟨kvs, hk⟩ | ⟨kvs, hk⟩
        · obtain ⟨_, _, _, _, o, _, _, e, ex, _⟩ := I.hok p _ hk
          exact ⟨o, e, ex⟩
        · obtain ⟨_, _, _, _, o, _, _, e, ex, _⟩ := I.hok p _ hk
          exact ⟨o, e, ex⟩
      obtain ⟨o, e, ex⟩ := z
      refine ⟨⟨o, e, ex.1⟩, fun a e2 => ?_⟩
      cases e2
      exact ⟨o, e, ex.2.1⟩
    · obtain ⟨o, _, _, _, e, ex, _⟩ := I.hok p _ hk
      refine ⟨⟨o, e, ex.1⟩, fun a e2 => ?_⟩
      cases e2
      exact ⟨o, e, ex.2.1⟩
  | _ => exact False.elim ty
def tBM (K : PySem.W.Frag) (T : String) (r : V → List V → Hp → VK → Prop) (to : TE) (t : TA) : TE := fun σ H Q => to σ H fun x H1 => tyV K T x H1 ∧ t σ H1 fun xs H2 => r x xs H2 Q
variable {o e : Expr} {es : List Expr} {to : TE} {t : TA} {name : Str} {apos cpos : Pos} {T id : String} {r : V → List V → Hp → VK → Prop}
theorem pe_bm (pa : PlainAttrs T) (slot : Slot T name id) (hty : typeOf (.builtin id) = pure (.type "method_descriptor")) (hm : MtR X id r) (ho : PE X o to) (ha : PA X (e :: es) t)
    (hbase : attributeBase o name X.env (eval o X.env) = eval o X.env := by rfl)
    (hfew : ((backTo cpos (starEach (e :: es) X.env)).all (fun x => !x.1) && (backToKw cpos (keywordEach [] X.env)).all (fun x => x.1.isSome)
      && decide ((e :: es).length + ([] : List Keyword).length + (if ([] : List Keyword).isEmpty then 0 else 1) < 30)) = true := by rfl)
    (hline : (apos.endLine == cpos.line) = true := by rfl) (hs : starEach (e :: es) X.env = (false, eval e X.env) :: starEach es X.env := by rfl) (hplain : (backTo cpos (starEach es X.env)).any (·.1) = false := by rfl) :
    PE X (.Call (.Attribute o name apos) (e :: es) [] cpos) (tBM X.K T r to t) := by
  intro pins s σ H Q I h
  refine wpAny_Call_method_late hbase hfew hline rfl (thn (ho pins s σ H _ I h) fun v s1 ⟨x, H1, I1, r1, ty, q1⟩ => ?_)
  obtain ⟨h1, h2⟩ := tyV_is I1 r1 ty
  refine ⟨T, id, pa, slot, hty, h1, h2, ?_⟩
  have hA := ha cpos pins s1 σ H1 _ I1 q1
  rw [hs] at hA ⊢
  refine Calls.callWith_builtin (by show (false || (backTo cpos (starEach es X.env)).any (·.1)) = false; rw [hplain] <;> rfl) (Calls.evalArgs_plain ?_)
  exact thn hA fun us s2 ⟨vs, H2, I2, r2, q2⟩ => hm pins s2 σ H2 x vs v us Q I2 r1 r2 q2
end
end L2
namespace L2
open PySem PySem.Spec PyProof.Rows
variable {q0 : Bool}
def MtM (X : Cx) (id : String) (r : V → List V → Hp → VK → Prop) : Prop :=
  ∀ (pins : List (Addr × Obj)) (s : Shared) (σ : St) (H : Hp) (x : V) (xs : List V) (v : Value) (us : List Value) (Q : VK), Inv X pins σ H s → RelV x v → Vals xs us → r x xs H Q →
    wpAny (model X.prog X.w) X.A (call (.builtin id) (v :: us)) (EP X pins σ Q) X.xe s
theorem Vals.one : ∀ {x : V} {us : List Value}, Vals [x] us → ∃ u, us = [u] ∧ RelV x u
  | _, _, .cons r .nil => ⟨_, rfl, r⟩
section
variable {X : Cx} {pins : List (Addr × Obj)} {σ : St} {H : Hp} {s : Shared} {l b : Addr} {xs ys zs : List V}
theorem Inv.lset {its its' : List Value} {n : Nat} {f : Array Value → Array Value} {t' : Nat} (I : Inv X pins σ H s) (hH : H l = some (.lst xs))
    (e : s.heap.get? l = some { cls := .type "list", data := .seq its.toArray n }) (hf : f its.toArray = its'.toArray) (hv : Vals ys its') (hz : ys.length ≤ sizeLine) :
    Inv X pins σ (upd H l (.lst ys)) { s with heap := s.heap.update l (Obj.mapSeq f), toks := t' } := by
  have q := PySem.IsL.update e f
  rw [hf] at q
  refine I.write (x := l) (e := l) (by rw [hH]; exact trivial) (.inl rfl) (fun b' u hb hu => (Heap.get?_update_other s.heap (Obj.mapSeq f) (Ne.symm hb)).trans hu) ⟨_, q⟩ ?_
  exact ⟨hz, its', _, hv, q⟩
theorem Inv.lnew {its : List Value} {t' : Nat} (I : Inv X pins σ H s) (hv : Vals ys its) (hz : ys.length ≤ sizeLine) :
    Inv X pins σ (upd H s.heap.objs.size (.lst ys)) { s with heap := s.heap.push { cls := .type "list", data := .seq its.toArray }, toks := t' } :=
  I.laid (fun _ _ q => Heap.get?_push_of_some _ q) (Nat.le_refl _) ⟨hz, its, 0, hv, Heap.get?_push_size _ rfl⟩
theorem Inv.fresh (I : Inv X pins σ H s) : H s.heap.objs.size = none := I.hok.fresh (Nat.le_refl _)
theorem Inv.lstM (I : Inv X pins σ H s) (hH : H l = some (.lst xs)) : xs.length ≤ sizeLine ∧ ∃ (its : List Value) (n : Nat), Vals xs its ∧ xs.length = its.length ∧ s.heap.get? l = some { cls := .type "list", data := .seq its.toArray n } := by
  obtain ⟨z, its, n, r, e⟩ := I.hok l _ hH
  exact ⟨z, its, n, r, r.length, e⟩
end
section
variable {X : Cx}
def rAppend : V → List V → Hp → VK → Prop := fun x vs H Q => ∃ l xs y, x = .ref l ∧ vs = [y] ∧ H l = some (.lst xs) ∧ xs.length < sizeLine ∧ Q .non (upd H l (.lst (xs ++ [y])))
theorem mt_append : MtM X "list.append" rAppend := by
  intro pins s σ H x vs v us Q I rx rv h
  obtain ⟨l, xs, y, rfl, rfl, hH, hz, q⟩ := h
  cases rx
  obtain ⟨u, rfl, ru⟩ := rv.one
  obtain ⟨z, its, n, r, hl, e⟩ := I.lstM hH
  refine call_meets F.slot_list_append ⟨_, e, rfl⟩ F.entry_list_append (F.args_list_append_2 _ _) (PySem.list_append l its.toArray n u (by rw [List.size_toArray]; omega)) ⟨e, ?_⟩
  refine ⟨.non, _, I.lset (its' := its ++ [u]) hH e (by simp) (r.append (.cons ru .nil)) ?_, rfl, q⟩
  rw [List.length_append, List.length_singleton]
  omega
def rCat : R2 := fun x y H Q => ∃ l b xs zs, x = .ref l ∧ y = .ref b ∧ H l = some (.lst xs) ∧ H b = some (.lst zs) ∧ xs.length + zs.length ≤ sizeLine ∧ ∀ p, H p = none → Q (.ref p) (upd H p (.lst (xs ++ zs)))
theorem op_cat : OpR X (binaryOp .Add) rCat := by
  intro pins s σ H x y v u Q I rx ry h
  obtain ⟨l, b, xs, zs, rfl, rfl, hH, hB, hz, q⟩ := h
  cases rx
  cases ry
  obtain ⟨z, its, n, r, hl, e⟩ := I.lstM hH
  obtain ⟨z2, its2, n2, r2, hl2, e2⟩ := I.lstM hB
  refine PySem.P.add_list e e2 ?_ (by rw [List.size_toArray, List.size_toArray]; omega)
  have ea : its.toArray ++ its2.toArray = (its ++ its2).toArray := by simp
  rw [ea]
  exact ⟨.ref _, _, I.lnew (t' := s.toks) (r.append r2) (by rw [List.length_append]; omega), rfl, q _ I.fresh⟩
end
section
variable {prog : Program} {w : World} {A : Around} {E : Value → Shared → Prop} {s : Shared}
end
section
variable {X : Cx}
end
end L2
namespace L2
open PySem PySem.Spec PyProof.Rows
variable {q0 : Bool}
section
variable {κ : Type} [DecidableEq κ]
def valV (kvs : List (κ × V)) (k : κ) : Option V := (kvs.find? fun kv => decide (kv.1 = k)).map (·.2)
def putK (kvs : List (κ × V)) (k : κ) (v : V) : List (κ × V) :=
  if (kvs.any fun kv => decide (kv.1 = k)) = true then kvs.map (fun kv => if kv.1 = k then (kv.1, v) else kv) else kvs ++ [(k, v)]
theorem valV_pos {p : κ × V} {r : List (κ × V)} {k : κ} (e : p.1 = k) : valV (p :: r) k = some p.2 := by simp [valV, List.find?_cons, e]
theorem valV_neg {p : κ × V} {r : List (κ × V)} {k : κ} (e : ¬ p.1 = k) : valV (p :: r) k = valV r k := by simp [valV, List.find?_cons, e]
theorem valV_any (k : κ) : ∀ kvs : List (κ × V), (kvs.any fun kv => decide (kv.1 = k)) = (valV kvs k).isSome
  | [] => rfl
  | p :: r => by
    rw [List.any_cons]
    by_cases e : p.1 = k
    · simp only [valV_pos e, decide_eq_true e, Bool.true_or, Option.isSome_some]
    · rw [valV_neg e, decide_eq_false e, Bool.false_or]; exact valV_any k r
theorem valV_map (k j : κ) (y : V) : ∀ kvs : List (κ × V), valV (kvs.map fun kv => if kv.1 = k then (kv.1, y) else kv) j = (valV kvs j).map fun x => if j = k then y else x
  | [] => rfl
  | p :: r => by
    have ih := valV_map k j y r
    rw [List.map_cons]
    by_cases h : p.1 = k
    · rw [if_pos h]
      by_cases e : p.1 = j
      · rw [valV_pos (p := (p.1, y)) e, valV_pos e, Option.map_some, if_pos (e.symm.trans h)]
      · rw [valV_neg (p := (p.1, y)) e, valV_neg e, ih]
    · rw [if_neg h]
      by_cases e : p.1 = j
      · rw [valV_pos (p := p) e, valV_pos e, Option.map_some, if_neg (fun z => h (e.trans z))]
      · rw [valV_neg (p := p) e, valV_neg e, ih]
theorem valV_snoc (k j : κ) (y : V) : ∀ kvs : List (κ × V), valV kvs k = none → valV (kvs ++ [(k, y)]) j = if j = k then some y else valV kvs j
  | [], _ => by
    by_cases e : k = j
    · rw [if_pos e.symm]; exact valV_pos (p := (k, y)) e
    · rw [if_neg (fun z => e z.symm)]; exact valV_neg (p := (k, y)) e
  | p :: r, hn => by
    rw [List.cons_append]
    have hk : ¬ p.1 = k := fun z => by rw [valV_pos z] at hn; cases hn
    rw [valV_neg hk] at hn
    have ih := valV_snoc k j y r hn
    by_cases e : p.1 = j
    · rw [valV_pos e, valV_pos e, if_neg (fun z => hk (e.trans z))]
    · rw [valV_neg e, valV_neg e, ih]
theorem valV_put (kvs : List (κ × V)) (k j : κ) (y : V) : valV (putK kvs k y) j = if j = k then some y else valV kvs j := by
  unfold putK
  by_cases a : (kvs.any fun kv => decide (kv.1 = k)) = true
  · rw [if_pos a, valV_map]
    rw [valV_any] at a
    by_cases e : j = k
    · obtain ⟨x, hx⟩ := Option.isSome_iff_exists.mp a
      rw [if_pos e, e, hx, Option.map_some, if_pos rfl]
    · rw [if_neg e]
      cases valV kvs j with
      | none => rfl
      | some x => rw [Option.map_some, if_neg e]
  · rw [if_neg a]
    refine valV_snoc k j y kvs ?_
    rw [valV_any] at a
    cases q : valV kvs k with
    | none => rfl
    | some x => rw [q] at a; exact (a rfl).elim
theorem length_putK (kvs : List (κ × V)) (k : κ) (v : V) : (putK kvs k v).length ≤ kvs.length + 1 := by
  unfold putK
  split
  · rw [List.length_map]; omega
  · rw [List.length_append, List.length_cons, List.length_nil]; omega
theorem putK_new {kvs : List (κ × V)} {k : κ} (v : V) (h : valV kvs k = none) : putK kvs k v = kvs ++ [(k, v)] := by
  unfold putK
  rw [valV_any, h]
  exact if_neg (by decide)
theorem RelO.isSome_eq {o : Option V} {u : Option Value} (r : RelO o u) : o.isSome = u.isSome := by
  cases o with
  | none => cases u with
    | none => rfl
    | some _ => exact (show False from r).elim
  | some _ => cases u with
    | none => exact (show False from r).elim
    | some _ => rfl
theorem KV.val {kvs : List (κ × V)} {vs : List (κ × Value)} (r : KV kvs vs) (k : κ) : RelO (valV kvs k) (valueAt vs k) := by
  unfold KV at r
  induction r with
  | nil => exact True.intro
  | @cons p q ps qs h t ih =>
    obtain ⟨h1, h2⟩ := h
    by_cases e : p.1 = k
    · have e' : q.1 = k := h1.symm.trans e
      have b : valueAt (q :: qs) k = some q.2 := by simp [valueAt, List.find?_cons, e']
      rw [valV_pos e, b]; exact h2
    · have e' : ¬ q.1 = k := fun z => e (h1.trans z)
      have b : valueAt (q :: qs) k = valueAt qs k := by simp [valueAt, List.find?_cons, e']
      rw [valV_neg e, b]; exact ih
theorem KV.any {kvs : List (κ × V)} {vs : List (κ × Value)} (r : KV kvs vs) (k : κ) : (kvs.any fun kv => decide (kv.1 = k)) = vs.any fun kv => decide (kv.1 = k) := by
  unfold KV at r
  induction r with
  | nil => rfl
  | cons h t ih => rw [List.any_cons, List.any_cons, ih, h.1]
theorem KV.repl {kvs : List (κ × V)} {vs : List (κ × Value)} (r : KV kvs vs) (k : κ) {y : V} {u : Value} (ry : RelV y u) :
    KV (kvs.map fun kv => if kv.1 = k then (kv.1, y) else kv) (vs.map fun kv => if kv.1 = k then (kv.1, u) else kv) := by
  unfold KV at r ⊢
  induction r with
  | nil => exact .nil
  | @cons p q ps qs h t ih =>
    rw [List.map_cons, List.map_cons]
    refine .cons ?_ ih
    obtain ⟨h1, h2⟩ := h
    by_cases e : p.1 = k
    · rw [if_pos e, if_pos (h1.symm.trans e)]; exact ⟨h1, ry⟩
    · rw [if_neg e, if_neg (fun z => e (h1.trans z))]; exact ⟨h1, h2⟩
theorem KV.put {kvs : List (κ × V)} {vs : List (κ × Value)} (r : KV kvs vs) (k : κ) {y : V} {u : Value} (ry : RelV y u) : KV (putK kvs k y) (stored vs k u) := by
  unfold putK stored
  rw [r.any k]
  by_cases e : (vs.any fun kv => decide (kv.1 = k)) = true
  · rw [if_pos e, if_pos e]; exact r.repl k ry
  · rw [if_neg e, if_neg e]; exact Paired.snoc r ⟨rfl, ry⟩
theorem KV.keys {kvs : List (κ × V)} {vs : List (κ × Value)} (r : KV kvs vs) : kvs.map (·.1) = vs.map (·.1) := by
  unfold KV at r
  induction r with
  | nil => rfl
  | cons h t ih => rw [List.map_cons, List.map_cons, ih, h.1]
theorem KV.length {kvs : List (κ × V)} {vs : List (κ × Value)} (r : KV kvs vs) : kvs.length = vs.length := Paired.length r
end
theorem kV_is {P : Program} {w : World} {k : Key} {u : Value} (r : RelV (kV k) u) : (mixKind P w).is k u = true := by
  cases k with
  | inl i => obtain ⟨t, e⟩ := (show ∃ t, u = Value.int i t from r); subst e; exact mixKind_int P w i t
  | inr x => obtain ⟨t, e⟩ := (show ∃ t, u = Value.str x t from r); subst e; exact mixKind_str P w x t
theorem items_are {P : Program} {w : World} : ∀ {ks : List Key} {us : List Value}, Vals (ks.map kV) us → ItemsAre (mixKind P w) ks us
  | [], _, r => by rw [List.map_nil] at r; cases r; exact .nil
  | k :: ks, _, r => by
    rw [List.map_cons] at r
    cases r with
    | cons h t => exact .cons (kV_is h) (items_are t)
abbrev KT (H : Hp) : List (List Key × V) → List (List Key × Addr × Value) → Prop := Paired fun p q => p.1 = q.1 ∧ H q.2.1 = some (.tup (p.1.map kV)) ∧ RelV p.2 q.2.2
theorem KT.val {H : Hp} {kvs : List (List Key × V)} {xs : List (List Key × Addr × Value)} (r : KT H kvs xs) (k : List Key) : RelO (valV kvs k) ((atKey xs k).map (·.2)) := by
  induction r with
  | nil => exact True.intro
  | @cons p q ps qs h t ih =>
    obtain ⟨h1, _, h2⟩ := h
    by_cases e : p.1 = k
    · have e' : q.1 = k := h1.symm.trans e
      have b : atKey (q :: qs) k = some q.2 := by simp [atKey, List.find?_cons, e']
      rw [valV_pos e, b]; exact h2
    · have e' : ¬ q.1 = k := fun z => e (h1.trans z)
      have b : atKey (q :: qs) k = atKey qs k := by simp [atKey, List.find?_cons, e']
      rw [valV_neg e, b]; exact ih
theorem KT.repl {H : Hp} {kvs : List (List Key × V)} {xs : List (List Key × Addr × Value)} (r : KT H kvs xs) (k : List Key) {y : V} {u : Value} (ry : RelV y u) :
    KT H (kvs.map fun kv => if kv.1 = k then (kv.1, y) else kv) (xs.map (putAt k u)) := by
  induction r with
  | nil => exact .nil
  | @cons p q ps qs h t ih =>
    rw [List.map_cons, List.map_cons]
    refine .cons ?_ ih
    obtain ⟨h1, h2, h3⟩ := h
    unfold putAt
    by_cases e : p.1 = k
    · rw [if_pos e, if_pos (h1.symm.trans e)]; exact ⟨h1, h2, ry⟩
    · rw [if_neg e, if_neg (fun z => e (h1.trans z))]; exact ⟨h1, h2, h3⟩
theorem KT.put {H : Hp} {kvs : List (List Key × V)} {xs : List (List Key × Addr × Value)} (r : KT H kvs xs) (k : List Key) {b : Addr} {y : V} {u : Value} (hb : H b = some (.tup (k.map kV))) (ry : RelV y u) :
    KT H (putK kvs k y) (storedH xs k b u) := by
  have e : (kvs.any fun kv => decide (kv.1 = k)) = (atKey xs k).isSome := by
    rw [valV_any, (r.val k).isSome_eq, Option.isSome_map]
  unfold putK storedH
  rw [e]
  by_cases q : (atKey xs k).isSome = true
  · rw [if_pos q, if_pos q]; exact r.repl k ry
  · rw [if_neg q, if_neg q]; exact Paired.snoc r ⟨rfl, hb, ry⟩
theorem KT.keeps {H H' : Hp} {kvs : List (List Key × V)} {xs : List (List Key × Addr × Value)} (r : KT H kvs xs) (ht : ∀ b ys, H b = some (.tup ys) → H' b = some (.tup ys)) : KT H' kvs xs :=
  Paired.mapP r fun _ _ z => ⟨z.1, ht _ _ z.2.1, z.2.2⟩
section
variable {P : Program} {w : World} {H : Hp} {h : Heap} {a : Addr}
theorem rd_of {u : HO} (ok : HOk P w H h) (e : Rd H a u) : ObjOk P w H h a u := e.ok ok
theorem dk_rd {kvs : List (Key × V)} (ok : HOk P w H h) (e : Rd H a (.dK kvs)) : kvs.length ≤ sizeLine ∧ (a == sysModules) = false ∧ ∃ vs, KV kvs vs ∧ h.DictOf (mixKind P w) a vs :=
  show ObjOk P w H h a (.dK kvs) from rd_of ok e
theorem dk_of {kvs : List (Key × V)} (ok : HOk P w H h) (e : H a = some (.dK kvs)) : kvs.length ≤ sizeLine ∧ (a == sysModules) = false ∧ ∃ vs, KV kvs vs ∧ h.DictOf (mixKind P w) a vs := dk_rd ok (.inl e)
theorem key_of {ks : List Key} (ok : HOk P w H h) (e : H a = some (.tup (ks.map kV))) : (tupleKind (mixKind P w)).is h ks a := by
  obtain ⟨_, its, r, o, h1, h2, n, h3⟩ := (show ObjOk P w H h a (.tup (ks.map kV)) from ok a _ e)
  exact ⟨o, its.toArray, n, h1, h2, h3, by simpa using items_are r⟩
theorem dt_rd {kvs : List (List Key × V)} (ok : HOk P w H h) (e : Rd H a (.dT kvs)) : kvs.length ≤ sizeLine ∧ (a == sysModules) = false ∧
    ∃ xs, KT H kvs xs ∧ h.DictOfH (tupleKind (mixKind P w)) a xs := by
  obtain ⟨z, y, xs, r, o, es, ep, h1, h2, h3, h4, h5⟩ := (show ObjOk P w H h a (.dT kvs) from rd_of ok e)
  refine ⟨z, y, xs, r, o, es, ep, h1, h2, h3, h4, fun x hx => ?_, h5⟩
  have all : ∀ {l : List (List Key × V)} {m : List (List Key × Addr × Value)}, KT H l m → ∀ x ∈ m, (tupleKind (mixKind P w)).is h x.1 x.2.1 := by
    intro l m q
    induction q with
    | nil => intro x hx; exact nomatch hx
    | @cons p q ps qs hq t ih =>
      intro x hx
      rcases List.mem_cons.mp hx with e | hx
      · subst e
        exact key_of ok (by rw [← hq.1]; exact hq.2.1)
      · exact ih x hx
  exact all r x hx
theorem dt_of {kvs : List (List Key × V)} (ok : HOk P w H h) (e : H a = some (.dT kvs)) : kvs.length ≤ sizeLine ∧ (a == sysModules) = false ∧
    ∃ xs, KT H kvs xs ∧ h.DictOfH (tupleKind (mixKind P w)) a xs := dt_rd ok (.inl e)
end
def DGet (H : Hp) (a : Addr) (y : V) (r : Option V) : Prop :=
  (∃ kvs k, Rd H a (.dK kvs) ∧ y = kV k ∧ r = valV kvs k) ∨ ∃ kvs k b, Rd H a (.dT kvs) ∧ y = .ref b ∧ H b = some (.tup (k.map kV)) ∧ r = valV kvs k
def DPut (H : Hp) (a : Addr) (y v : V) (H' : Hp) : Prop :=
  (∃ kvs k, H a = some (.dK kvs) ∧ y = kV k ∧ kvs.length < sizeLine ∧ H' = upd H a (.dK (putK kvs k v))) ∨
  ∃ kvs k b, H a = some (.dT kvs) ∧ y = .ref b ∧ H b = some (.tup (k.map kV)) ∧ kvs.length < sizeLine ∧ H' = upd H a (.dT (putK kvs k v))
theorem DGet.k {H : Hp} {a : Addr} {kvs : List (Key × V)} {k : Key} (e : H a = some (.dK kvs)) : DGet H a (kV k) (valV kvs k) := .inl ⟨kvs, k, .inl e, rfl, rfl⟩
theorem DGet.t {H : Hp} {a b : Addr} {kvs : List (List Key × V)} {k : List Key} (e : H a = some (.dT kvs)) (eb : H b = some (.tup (k.map kV))) : DGet H a (.ref b) (valV kvs k) := .inr ⟨kvs, k, b, .inl e, rfl, eb, rfl⟩
theorem DPut.k {H : Hp} {a : Addr} {kvs : List (Key × V)} {k : Key} {v : V} (e : H a = some (.dK kvs)) (hl : kvs.length < sizeLine) : DPut H a (kV k) v (upd H a (.dK (putK kvs k v))) := .inl ⟨kvs, k, e, rfl, hl, rfl⟩
theorem DPut.t {H : Hp} {a b : Addr} {kvs : List (List Key × V)} {k : List Key} {v : V} (e : H a = some (.dT kvs)) (eb : H b = some (.tup (k.map kV))) (hl : kvs.length < sizeLine) :
    DPut H a (.ref b) v (upd H a (.dT (putK kvs k v))) := .inr ⟨kvs, k, b, e, rfl, eb, hl, rfl⟩
section
variable {X : Cx} {pins : List (Addr × Obj)} {σ : St} {H : Hp} {s : Shared} {a : Addr} {y v : V} {u r : Value} {o : Option V} {A : Around} {E : Value → Shared → Prop}
theorem Inv.big (I : Inv X pins σ H s) : sysModules < s.heap.objs.size := by
  have h : mainGlobals < s.heap.objs.size := (I.mod.glob.keeps I.bk).lt
  exact Nat.lt_trans (by decide) h
theorem d_getItem {Q : Value → Shared → Prop} (hu : A.units + 1 < cLine) (I : Inv X pins σ H s) (g : DGet H a y (some v)) (ry : RelV y u) (h : ∀ w' s', Inv X pins σ H s' → RelV v w' → Q w' s') :
    wpAny (model X.prog X.w) A (getItem (.ref a) u) Q E s := by
  rcases g with ⟨kvs, k, e, ey, l⟩ | ⟨kvs, k, b, e, ey, eb, l⟩
  · subst ey
    obtain ⟨z, hd, vs, rel, dd⟩ := dk_rd I.hok e
    obtain ⟨w', hw, rw'⟩ := RelO.some_of (v := v) (o := valueAt vs k) (by rw [l]; exact rel.val k)
    exact wpAny_getItem_of (kV_is ry) dd.mapOf hw (h w' _ (I.tok _) rw')
  · subst ey
    cases (show u = Value.ref b from ry)
    obtain ⟨z, hd, xs, rel, dd⟩ := dt_rd I.hok e
    obtain ⟨w', hw, rw'⟩ := RelO.some_of (v := v) (o := (atKey xs k).map (·.2)) (by rw [l]; exact rel.val k)
    obtain ⟨p, hp, hp2⟩ := Option.map_eq_some_iff.mp hw
    refine wpAny_getItem_heap (tupleKind_room_in1 hu) (key_of I.hok eb) dd hp ?_
    rw [hp2]
    exact h w' _ (I.tok _) rw'
theorem d_in {Q : Value → Shared → Prop} (hu : A.units + 1 < cLine) (I : Inv X pins σ H s) (g : DGet H a y o) (ry : RelV y u) (h : ∀ s', Inv X pins σ H s' → Q (.bool o.isSome) s') :
    wpAny (model X.prog X.w) A (compareOp .In u (.ref a)) Q E s := by
  rcases g with ⟨kvs, k, e, ey, l⟩ | ⟨kvs, k, b, e, ey, eb, l⟩
  · subst ey
    obtain ⟨z, hd, vs, rel, dd⟩ := dk_rd I.hok e
    refine wpAny_in_of (kV_is ry) hd dd.mapOf ?_
    rw [← (rel.val k).isSome_eq, ← l]
    exact h _ (I.tok _)
  · subst ey
    cases (show u = Value.ref b from ry)
    obtain ⟨z, hd, xs, rel, dd⟩ := dt_rd I.hok e
    refine wpAny_in_heap (tupleKind_room_in1 hu) (key_of I.hok eb) hd dd ?_
    have q := (rel.val k).isSome_eq
    rw [Option.isSome_map] at q
    rw [← q, ← l]
    exact h _ (I.tok _)
theorem d_notIn {Q : Value → Shared → Prop} (hu : A.units + 1 < cLine) (I : Inv X pins σ H s) (g : DGet H a y o) (ry : RelV y u) (h : ∀ s', Inv X pins σ H s' → Q (.bool (!o.isSome)) s') :
    wpAny (model X.prog X.w) A (compareOp .NotIn u (.ref a)) Q E s := by
  rcases g with ⟨kvs, k, e, ey, l⟩ | ⟨kvs, k, b, e, ey, eb, l⟩
  · subst ey
    obtain ⟨z, hd, vs, rel, dd⟩ := dk_rd I.hok e
    refine wpAny_notIn_of (kV_is ry) hd dd.mapOf ?_
    rw [← (rel.val k).isSome_eq, ← l]
    exact h _ (I.tok _)
  · subst ey
    cases (show u = Value.ref b from ry)
    obtain ⟨z, hd, xs, rel, dd⟩ := dt_rd I.hok e
    refine wpAny_notIn_heap (tupleKind_room_in1 hu) (key_of I.hok eb) hd dd ?_
    have q := (rel.val k).isSome_eq
    rw [Option.isSome_map] at q
    rw [← q, ← l]
    exact h _ (I.tok _)
theorem d_write {h' : Heap} {t' : Nat} {ob : HO} (I : Inv X pins σ H s) (mu : Mut (H a)) (hs : Heap.SameBut a s.heap h') (he : ∃ q, h'.get? a = some q) (new : ObjOk X.prog X.w (upd H a ob) h' a ob) :
    Inv X pins σ (upd H a ob) { s with heap := h', toks := t' } :=
  I.write (x := a) (e := a) mu (.inl rfl) (fun b q hb z => (hs.2 b hb).trans z) he new
theorem dk_new {P : Program} {w : World} {H' : Hp} {h' : Heap} {kvs : List (Key × V)} {vs : List (Key × Value)} (z : kvs.length ≤ sizeLine) (hd : (a == sysModules) = false) (rel : KV kvs vs) (dd : h'.DictOf (mixKind P w) a vs) :
    ObjOk P w H' h' a (.dK kvs) := ⟨z, hd, vs, rel, dd⟩
theorem d_setItem {H' : Hp} {Q : Unit → Shared → Prop} (hu : A.units + 1 < cLine) (I : Inv X pins σ H s) (g : DPut H a y v H') (ry : RelV y u) (rv : RelV v r) (h : ∀ s', Inv X pins σ H' s' → Q () s') :
    wpAny (model X.prog X.w) A (setItem (.ref a) u r) Q E s := by
  rcases g with ⟨kvs, k, e, ey, l, eH⟩ | ⟨kvs, k, b, e, ey, eb, l, eH⟩
  · subst ey eH
    obtain ⟨z, hd, vs, rel, dd⟩ := dk_of I.hok e
    have hz : vs.length ≤ sizeLine := by rw [← rel.length]; exact z
    have hl : (putK kvs k v).length ≤ sizeLine := by have := length_putK kvs k v; omega
    refine wpAny_setItem_pairs (hsz := hz) (kV_is ry) dd fun h' dd' hs => h _ ?_
    have he : ∃ q, h'.get? a = some q := let ⟨q, _, _, hq, _⟩ := dd'; ⟨q, hq⟩
    exact d_write I (by rw [e]; exact True.intro) hs he (dk_new hl hd (rel.put k rv) dd')
  · subst ey eH
    cases (show u = Value.ref b from ry)
    obtain ⟨z, hd, xs, rel, dd⟩ := dt_of I.hok e
    have hz : xs.length ≤ sizeLine := by rw [← Paired.length rel]; exact z
    have hl : (putK kvs k v).length ≤ sizeLine := by have := length_putK kvs k v; omega
    refine wpAny_setItem_heap (hsz := hz) (tupleKind_room_in1 hu) (key_of I.hok eb) dd fun h' dd' hs => h _ ?_
    obtain ⟨q, es, ep, hq, h2, h3, h4, _, h5⟩ := dd'
    refine d_write I (by rw [e]; exact True.intro) hs ⟨q, hq⟩ ⟨hl, hd, _, (rel.put k eb rv).keeps fun c ys ec => ?_, q, es, ep, hq, h2, h3, h4, h5⟩
    rw [upd_ne (ne_of ec e (fun z => nomatch z))]
    exact ec
end
section
variable {X : Cx} {pins : List (Addr × Obj)} {σ : St} {H : Hp} {s : Shared} {a : Addr} {kvs : List (Key × V)} {k : Key} {u : Value} {A : Around} {E : Value → Shared → Prop}
theorem d_len {Q : Value → Shared → Prop} (I : Inv X pins σ H s) (e : Rd H a (.dK kvs)) (h : ∀ t s', Inv X pins σ H s' → Q (.int kvs.length t) s') : wpAny (model X.prog X.w) A (call (.builtin "len") [.ref a]) Q E s := by
  obtain ⟨z, hd, vs, rel, dd⟩ := dk_rd I.hok e
  refine call_len_dict hd dd (by rw [← rel.length]; rw [sizeLine_eq] at z; omega) ?_
  rw [← rel.length]
  exact h _ _ (I.tok _)
end
def NoSl (i : Expr) : Prop := ∀ ov iv, subscripted i false ov iv = operate [ov, iv] (getItem ov iv)
theorem subD_of {prog : Program} {w : World} {A : Around} {E : Value → Shared → Prop} {s : Shared} {env : Env} {value slice : Expr} {pos : Pos} {T id : String} {Q : Value → Shared → Prop}
    (hl : typeLookup (.type T) "__getitem__" = pure (some (.builtin id))) (hs : NoSl slice)
    (h : wpAny (model prog w) A (eval value env) (fun o s₁ => wpAny (model prog w) A (eval slice env) (fun i s₂ => s₂.TypeIs o T ∧ wpAny (model prog w) A (getItem o i) Q E s₂) E s₁) E s) :
    wpAny (model prog w) A (eval (.Subscript value slice pos) env) Q E s := by
  refine Subscript_ (wpAny_mono h (fun o s₁ h₁ => wpAny_mono h₁ (fun i s₂ h₂ => ?_) fun _ _ x => x) fun _ _ x => x)
  obtain ⟨hT, h₂⟩ := h₂
  unfold subscriptTail
  refine wpAny_bind ?_
  rw [getitemInPython_of_ne hT.not_modules]
  refine wpAny_bind (wpAny_specialOf hT hl ?_)
  have fin : wpAny (model prog w) A (subscripted slice false o i) (fun r s₃ => wpAny (model prog w) A (letTemporaryGo value o r >>= fun _ => pure r) Q E s₃) E s₂ := by
    rw [hs o i]
    exact wpAny_operating (wpAny_mono h₂ (fun r s₃ h₃ => wpAny_bind (wpAny_letTemporaryGo (wpAny_pure h₃))) fun _ _ x => x)
  first
    | exact wpAny_pure (wpAny_bind fin)
    | exact wpAny_bind (wpAny_pure (wpAny_bind fin))
    | exact wpAny_bind fin
theorem dict_typeIs {X : Cx} {pins : List (Addr × Obj)} {σ : St} {H : Hp} {s : Shared} {a : Addr} {y : V} {o : Option V} (I : Inv X pins σ H s) (g : DGet H a y o) : s.TypeIs (.ref a) "dict" := by
  rcases g with ⟨kvs, k, e, _, _⟩ | ⟨kvs, k, b, e, _, _, _⟩
  · obtain ⟨_, _, vs, _, dd⟩ := dk_rd I.hok e
    exact dd.typeIs
  · obtain ⟨_, _, xs, _, dd⟩ := dt_rd I.hok e
    exact dd.typeIs
def tDGet (td ty : TE) : TE := fun σ H Q => td σ H fun x H1 => ty σ H1 fun y H2 => ∃ a v, x = .ref a ∧ DGet H2 a y (some v) ∧ Q v H2
def tDIn (ty td : TE) : TE := fun σ H Q => ty σ H fun y H1 => td σ H1 fun x H2 => ∃ a o, x = .ref a ∧ DGet H2 a y o ∧ Q (.bl o.isSome) H2
def tDNotIn (ty td : TE) : TE := fun σ H Q => ty σ H fun y H1 => td σ H1 fun x H2 => ∃ a o, x = .ref a ∧ DGet H2 a y o ∧ Q (.bl (!o.isSome)) H2
def sDPut (td ty tv : TE) : TS := fun D σ H => tv σ H fun v H1 => td σ H1 fun x H2 => ty σ H2 fun y H3 => ∃ a H4, x = .ref a ∧ DPut H3 a y v H4 ∧ D.nx σ H4
section
variable {X : Cx} {o i e value : Expr} {pos pos' tpos : Pos} {td ty tv : TE}
theorem pe_dget (hu : X.A.units + 1 < cLine) (ho : PE X o td) (hi : PE X i ty) (hs : NoSl i) : PE X (.Subscript o i pos) (tDGet td ty) := by
  intro pins s σ H Q I h
  refine subD_of PySem.F.slot_dict_getitem.lookup hs (thn (ho pins s σ H _ I h) fun u s1 ⟨x, H1, I1, rx, q1⟩ => thn (hi pins s1 σ H1 _ I1 q1) fun iv s2 ⟨y, H2, I2, ry, a, v, ex, g, q2⟩ => ?_)
  subst ex
  obtain rfl : u = Value.ref a := rx
  exact ⟨dict_typeIs I2 g, d_getItem hu I2 g ry fun w' s3 I3 rw' => ⟨v, H2, I3, rw', q2⟩⟩
theorem pc_din (hu : X.A.units + 1 < cLine) (hi : PE X i ty) (ho : PE X o td) : PC X .In i o (tDIn ty td) := by
  intro pins s σ H Q I h
  refine thn (hi pins s σ H _ I h) fun iv s1 ⟨y, H1, I1, ry, q1⟩ => thn (ho pins s1 σ H1 _ I1 q1) fun u s2 ⟨x, H2, I2, rx, a, ov, ex, g, q2⟩ => ?_
  subst ex
  obtain rfl : u = Value.ref a := rx
  exact d_in hu I2 g ry fun s3 I3 => ⟨.bl ov.isSome, H2, I3, rfl, q2⟩
theorem pc_dnotin (hu : X.A.units + 1 < cLine) (hi : PE X i ty) (ho : PE X o td) : PC X .NotIn i o (tDNotIn ty td) := by
  intro pins s σ H Q I h
  refine thn (hi pins s σ H _ I h) fun iv s1 ⟨y, H1, I1, ry, q1⟩ => thn (ho pins s1 σ H1 _ I1 q1) fun u s2 ⟨x, H2, I2, rx, a, ov, ex, g, q2⟩ => ?_
  subst ex
  obtain rfl : u = Value.ref a := rx
  exact d_notIn hu I2 g ry fun s3 I3 => ⟨.bl (!ov.isSome), H2, I3, rfl, q2⟩
theorem ps_dput (hu : X.A.units + 1 < cLine) (ho : PE X o td) (hi : PE X i ty) (hv : PE X value tv) (hs : swapsWith value (some (.Subscript o i pos')) pos.line X.env = pure false) :
    PS X (.Assign [.Subscript o i pos'] value pos) (sDPut td ty tv) := by
  intro pins s σ H D I h
  refine wpAny_Assign_Subscript (thn (hv pins s σ H _ I h) fun r s1 ⟨v, H1, I1, rv, q1⟩ => thn (ho pins s1 σ H1 _ I1 q1) fun u s2 ⟨x, H2, I2, rx, q2⟩ => thn (hi pins s2 σ H2 _ I2 q2) fun iv s3 ⟨y, H3, I3, ry, a, H4, ex, g, q3⟩ => ?_) hs
  subst ex
  obtain rfl : u = Value.ref a := rx
  exact d_setItem hu I3 g ry rv fun s4 I4 => ⟨σ, H4, I4, q3⟩
end
theorem dk_empty {P : Program} {w : World} {H : Hp} (h : Heap) (hb : sysModules < h.objs.size) : ObjOk P w H (h.push { cls := .type "dict", data := .dict #[] }) h.objs.size (.dK []) :=
  ⟨Nat.zero_le _, beq_eq_false_iff_ne.mpr (Ne.symm (Nat.ne_of_lt hb)), [], .nil, Heap.DictOf.new h⟩
theorem dt_empty {P : Program} {w : World} {H : Hp} (h : Heap) (hb : sysModules < h.objs.size) : ObjOk P w H (h.push { cls := .type "dict", data := .dict #[] }) h.objs.size (.dT []) :=
  ⟨Nat.zero_le _, beq_eq_false_iff_ne.mpr (Ne.symm (Nat.ne_of_lt hb)), [], .nil, _, #[], 0, Heap.get?_push_size _ rfl, ⟨rfl, rfl, rfl⟩, rfl, rfl, List.nodup_nil⟩
def tDNewK : TE := fun _ H Q => ∀ p, H p = none → Q (.ref p) (upd H p (.dK []))
def tDNewT : TE := fun _ H Q => ∀ p, H p = none → Q (.ref p) (upd H p (.dT []))
section
variable {X : Cx} {pos : Pos}
theorem pe_dnewK : PE X (.Dict [] [] pos) tDNewK := fun pins s σ H Q I h =>
  wpAny_Dict_empty ⟨.ref s.heap.objs.size, _, I.laid (a := s.heap.objs.size) (o := .dK []) (t' := s.toks) (fun _ _ q => Heap.get?_push_of_some _ q) (Nat.le_refl _) (dk_empty s.heap I.big), rfl, h _ (I.hok.fresh (Nat.le_refl _))⟩
theorem pe_dnewT : PE X (.Dict [] [] pos) tDNewT := fun pins s σ H Q I h =>
  wpAny_Dict_empty ⟨.ref s.heap.objs.size, _, I.laid (a := s.heap.objs.size) (o := .dT []) (t' := s.toks) (fun _ _ q => Heap.get?_push_of_some _ q) (Nat.le_refl _) (dt_empty s.heap I.big), rfl, h _ (I.hok.fresh (Nat.le_refl _))⟩
end
section
variable {X : Cx} {pins : List (Addr × Obj)} {σ : St} {H : Hp} {s : Shared} {a : Addr} {y d : V} {u r : Value} {o : Option V} {A : Around} {E : Value → Shared → Prop}
end
section
variable {X : Cx} {o e f : Expr} {apos cpos : Pos} {td ty tx : TE}
end
section
variable {X : Cx} {pins : List (Addr × Obj)} {σ : St} {H : Hp} {s : Shared} {a : Addr} {kvs : List (Key × V)} {A : Around} {E : Value → Shared → Prop}
end
section
variable {X : Cx} {pins : List (Addr × Obj)} {σ : St} {H : Hp} {s : Shared} {a : Addr} {y : V} {u : Value} {A : Around} {E : Value → Shared → Prop}
end
end L2
namespace Att
open PySem PySem.W PySem.Calls PyProof.Rows
theorem ints_of_wellAll {P : Params} {h : Heap} : ∀ (ns : List Int) (vs : List Value), WellAll P h vs (ns.map WData.int) → IntsAre vs ns := by
  intro ns
  induction ns with
  | nil =>
    intro vs w
    rw [List.map_nil] at w
    cases w
    exact .nil
  | cons n ns ih =>
    intro vs w
    rw [List.map_cons] at w
    cases w with
    | cons a b =>
      cases a
      exact .cons _ _ (ih _ b)
theorem script_of {l : OpenLaw} {n : Nat} (hn : l.most = some n) {P : Params} {h : Heap} {args : List WData} {vals : List Value}
    (hpre : l.row.toRowW.claim.pre args = true) (hwl : WellAll P h vals args) :
    ∃ a vs ns, vals = [Value.ref a] ∧ args = [WData.list (ns.map WData.int)] ∧ h.get? a = some { cls := .type "list", data := .seq vs.toArray } ∧ IntsAre vs ns ∧ ns.length ≤ n := by
  have hsh : WShape.hasAll [] args [.list .int] = true := (pre_splitW hpre).1
  have hc : l.pre.holds [] { args := args } = true := (pre_splitW hpre).2
  obtain ⟨d, r, rfl, h1, h2⟩ := hasAllW_cons hsh
  obtain rfl := hasAllW_nil h2
  obtain ⟨xs, rfl, h3⟩ := hasW_list h1
  obtain ⟨ns, rfl⟩ := items_int h3
  have hlen : ns.length ≤ n := by
    unfold OpenLaw.pre at hc
    have h4 : (WTm.not (.lt (.lit (.int (n : Int))) (.len (.arg 0)))).holds [] { args := [.list (ns.map .int)] } = true := by
      have h4 := (holds_andW hc).1
      rw [hn] at h4
      exact h4
    have h5 := condW_of h4 (w_not (w_lt w_lit (w_len_list (w_arg rfl))))
    rw [List.length_map] at h5
    refine Nat.le_of_not_lt fun q => ?_
    have q' : (n : Int) < ((ns.length : Nat) : Int) := by omega
    first
      | (rw [decide_eq_true q'] at h5; exact absurd h5 (by decide))
      | (simp at h5; omega)
  cases hwl with
  | cons w1 w2 =>
    cases w2
    cases w1 with
    | list ho hall => exact ⟨_, _, ns, rfl, rfl, ho, ints_of_wellAll ns _ hall, hlen⟩
theorem post_true (l : OpenLaw) (args : List WData) : l.row.toRowW.claim.post args (.bool true) args = true :=
  postW_of (r := l.row.toRowW) (X := (true == true))
    (show WShape.has [] (.bool true) .bool = true by first | rfl | decide | simp [WShape.has, WShape.arms, WShape.armsAll])
    (show (WTm.eq .res (.lit (.bool true))).value [] { args := args, res := some (.bool true), after := args } = some (.bool (true == true)) from w_eq_bool (w_res rfl) w_lit) rfl
theorem attach_call {l : OpenLaw} {n : Nat} {q : Program} {loose : List Str} {XP : (Str → Option Value) → Heap → Prop} {YP : World → Heap → Prop} {d : DefRec}
    (hn : l.most = some n) (hdf : d.params.defaults = [])
    (call : ∀ (w : World) (s₀ s₁ : Shared) (mg mb : Str → Option Value) (fa : Addr) (o : Obj) (pm cd doc : Value) (a : Addr) (vs : List Value) (ns : List Int),
      Ground q loose [] XP w s₀ mg mb s₁.heap → YP w s₁.heap →
      s₁.heap.get? fa = some o → o.data = .func (docDef d.name d.params d.body d.scope pm cd doc) → s₁.heap.CodeRec cd d.name → mg d.name = some (.ref fa) →
      s₁.heap.get? a = some { cls := .type "list", data := .seq vs.toArray } → IntsAre vs ns → ns.length ≤ n → s₁.gens = #[] →
      codeAny (model l.prog w) callerA (.call (.ref fa) ⟨[.ref a], []⟩) (fun r s' => r = .ok (.ret (.bool true)) ∧ OldK s₁.heap s'.heap ∧ s'.os = s₁.os ∧ AllBare s'.gens) s₁) :
    WalkO q loose XP YP l.row.toRowW d [] (fun f vs => PySem.call f vs) := by
  intro w s₀ s₁ mg mb G Y fa o pm cd doc dV kV ho hd hcd hD hmg hg args vals as hpre hlay hrd hwl hlo
  obtain rfl : dV = .none := Dflts.none hD hdf
  obtain rfl : kV = .none := Dflts.noKw hD
  obtain ⟨a, vs, ns, rfl, rfl, hobj, hints, hlen⟩ := script_of hn hpre hwl
  refine enter_call (codeAny_mono (call w s₀ s₁ mg mb fa o pm cd doc a vs ns G Y ho (fd_plain hd) hcd hmg hobj hints hlen hg) fun r s' hq => ?_)
  obtain ⟨rfl, h2, h3, h4⟩ := hq
  exact ⟨.inl ⟨.bool true, .bool true, [], rfl, fun _ => rfl, .bool true, post_true l _, fun _ => ⟨List.Pairwise.nil, fun _ hm => (nomatch hm)⟩⟩, h2, h3, h4⟩
section
variable {prog : Program} {w : World} {A : Around} {E : Value → Shared → Prop} {s : Shared} {K : Frag}
def ledger (h : Heap) (L d : Addr) : List (Addr × Obj) := (List.range h.objs.size).filterMap fun a => if a = L ∨ a = d then none else (h.get? a).map fun o => (a, o)
end
end Att
namespace L2
open PySem PySem.Spec PyProof.Rows
variable {q0 : Bool}
theorem vals_ints : ∀ {vs : List Value} {ns : List Int}, IntsAre vs ns → Vals (ns.map V.int) vs
  | _, _, .nil => .nil
  | _, _, .cons n t h => .cons ⟨t, rfl⟩ (vals_ints h)
def Only (H : Hp) : Prop := ∀ b, H b = none ∨ ∃ o xs, H b = some (.frz o (.lst xs))
theorem law_call {P : Program} {w : World} {K : PySem.W.Frag} {mg mb : Str → Option Value} {CX : CXT} {k : Nat} {fa a : Addr} {fd : FuncData} {x : Str} {sp : Sp} {s₁ : Shared} {vs : List Value} {ns : List Int}
    (KX : K.In s₁.heap) (hns : s₁.heap.Ns mainGlobals mg) (hb : s₁.heap.Ns builtinsNs mb) (hbb : ∀ x : Str, x ≠ "__name__" → mb x = bootBuiltins x) (hlim : s₁.heap.NoLimit) (hg : s₁.gens = #[])
    (ha : s₁.heap.get? a = some { cls := .type "list", data := .seq vs.toArray }) (hi : IntsAre vs ns) (hl : ns.length ≤ sizeLine) (hr : Room q0 k callerA)
    (F : ∀ base : Heap, K.In base → base.Ns mainGlobals mg → FnOk q0 P w K mg base CX k fa fd [x] sp) (hbind : ∀ (s : Shared) (u : Value), BindsTo s fd ⟨[u], []⟩ [(x, u)])
    (hsp : ∀ H : Hp, Only H → SqL K H a (ns.map V.int) → sp [.ref a] H (fun v _ => v = .bl true) fun _ _ _ => False)
    (hCX : ∀ H e s', CX [] H s₁ (fun _ _ _ => False) e s' → False) :
    codeAny (model P w) callerA (.call (.ref fa) ⟨[.ref a], []⟩) (fun r s' => r = .ok (.ret (.bool true)) ∧ OldK s₁.heap s'.heap ∧ s'.os = s₁.os ∧ AllBare s'.gens) s₁ := by
  have rv := vals_ints hi
  have lenV := hi.length
  -- from an abstract heap in which nothing but the script may be tracked
  have core : ∀ H : Hp, Only H → SqL K H a (ns.map V.int) → HOk P w H s₁.heap → (∀ b, H b ≠ none → b = a) → (H a ≠ none → K.lookup a = none) →
      codeAny (model P w) callerA (.call (.ref fa) ⟨[.ref a], []⟩) (fun r s' => r = .ok (.ret (.bool true)) ∧ OldK s₁.heap s'.heap ∧ s'.os = s₁.os ∧ AllBare s'.gens) s₁ := by
    intro H hO hS hok hA hK
    have base_of : ∀ {b : Addr} {o : Obj}, s₁.heap.get? b = some o → H b = none → (hidT s₁.heap H).get? b = some o := fun e n => hidT_get e n
    have noA : ∀ {b : Addr} {o : Obj} {es : Array DictEntry} {ep : Nat}, s₁.heap.get? b = some o → o.data = .dict es ep → H b = none := fun {b o es ep} e d => by
      cases q : H b with
      | none => rfl
      | some u =>
        have e' : b = a := hA b (by rw [q]; simp)
        subst e'
        rw [ha] at e; cases e
        have d' : Data.seq vs.toArray _ = Data.dict es ep := d
        cases d'
    have nsK : ∀ {b : Addr} {m : Str → Option Value}, s₁.heap.Ns b m → (hidT s₁.heap H).Ns b m := fun {b m} ⟨o, es, ep, e, d, r⟩ => ⟨o, es, ep, base_of e (noA e d), d, r⟩
    have hKb : K.In (hidT s₁.heap H) := fun b o e => base_of (KX b o e) (by
      cases q : H b with
      | none => rfl
      | some u =>
        have e' : b = a := hA b (by rw [q]; simp)
        subst e'
        rw [hK (by rw [q]; simp)] at e; cases e)
    have hM : Mod K mg (hidT s₁.heap H) := ⟨hKb, nsK hns, ⟨mb, nsK hb, hbb⟩, let ⟨mc, h1, h2⟩ := hlim; ⟨mc, nsK h1, h2⟩⟩
    have e0 : Env0 P w K mg (hidT s₁.heap H) callerA [] s₁ H := ⟨rfl, hM, fun b o e => of_hidT e, Nat.le_of_eq (hidT_size _ _), trivial, fun b hb => absurd (show b ∈ ([] : List Addr) from hb) (by simp), hok, .of_eq hg⟩
    refine codeAny_mono ((F _ hKb (nsK hns)).run callerA [] s₁ H ⟨[.ref a], []⟩ [.ref a] [.ref a] _ _ hr e0 (hbind s₁ (.ref a)) (.cons rfl .nil) (hsp H hO hS)) fun r s' h => ?_
    cases r with
    | error e => exact (hCX H e s' h).elim
    | ok fl =>
      cases fl with
      | next => exact False.elim h
      | brk => exact False.elim h
      | cont => exact False.elim h
      | ret u =>
        obtain ⟨v, H', os, bare, un, hok', r', q⟩ := h
        have q' : v = .bl true := q
        subst q'
        obtain rfl : u = Value.bool true := r'
        refine ⟨rfl, OldK.of_keep fun b o e => ?_, os, bare⟩
        cases q : H b with
        | none => exact un.keep b o e q (by intro z; exact absurd (show b ∈ ([] : List Addr) from z) (by simp)) (by simp)
        | some u =>
          rcases hO b with z | ⟨ob, xs, z⟩
          · rw [q] at z; cases z
          · have z2 := un.frzs b ob _ z
            obtain ⟨e1, _⟩ := hok b _ z
            obtain ⟨e2, _⟩ := hok' b _ z2
            rw [e] at e1; cases e1
            exact e2
  cases hk : K.lookup a with
  | some o =>
    -- the script is one of the module's own objects
    have e := KX a o hk
    rw [ha] at e
    cases e
    refine core (fun _ => none) (fun _ => .inl rfl) (.inr ⟨_, vs.toArray, _, hk, rfl, rfl, rfl, by rw [List.size_toArray, lenV]; exact hl, by simpa using rv⟩) (fun b u z => by have z' : (none : Option HO) = some u := z; cases z') (fun b z => absurd rfl z) fun z => absurd rfl z
  | none =>
    refine core (fun b => if b = a then some (.frz { cls := .type "list", data := .seq vs.toArray } (.lst (ns.map V.int))) else none) (fun b => ?_) (.inl (.inr ⟨{ cls := .type "list", data := .seq vs.toArray }, if_pos rfl⟩)) (fun b u z => ?_) (fun b z => ?_) fun _ => hk
    · by_cases hb : b = a
      · exact .inr ⟨_, _, if_pos hb⟩
      · exact .inl (if_neg hb)
    · by_cases hb : b = a
      · have z' := (if_pos hb).symm.trans z
        cases z'
        subst hb
        exact ⟨ha, by rw [List.length_map]; exact hl, vs, _, rv, ha⟩
      · have z' := (if_neg hb).symm.trans z
        cases z'
    · by_cases hb : b = a
      · exact hb
      · exact absurd (if_neg hb) z
end L2
namespace L2
open PySem PySem.Spec PyProof.Rows
variable {q0 : Bool}
abbrev KOf {K : PySem.W.Frag} {h : Heap} (_ : K.In h) : PySem.W.Frag := K
theorem walk_of {l : PySem.W.OpenLaw} {n k : Nat} {q : Program} {loose : List Str} {XP : (Str → Option Value) → Heap → Prop} {YP : World → Heap → Prop} {d : DefRec} {K : Params → PySem.W.Frag} {CX : World → CXT} {sp : World → Sp} {x : Str}
    (hn : l.most = some n) (hn2 : n ≤ sizeLine) (hdf : d.params.defaults = []) (hr : Room q0 k callerA)
    (hY : ∀ (w : World) (h : Heap), YP w h → (K w.params).In h)
    (F : ∀ (w : World) (mg : Str → Option Value) (fa : Addr) (h : Heap), (K w.params).In h → h.Ns mainGlobals mg → mg d.name = some (.ref fa) →
      ∃ fd : FuncData, (∀ (s : Shared) (u : Value), BindsTo s fd ⟨[u], []⟩ [(x, u)]) ∧
        ∀ base : Heap, (K w.params).In base → base.Ns mainGlobals mg → FnOk q0 l.prog w (K w.params) mg base (CX w) k fa fd [x] (sp w))
    (hsp : ∀ (w : World) (H : Hp) (a : Addr) (ns : List Int), ns.length ≤ n → Only H → SqL (K w.params) H a (ns.map V.int) → sp w [.ref a] H (fun v _ => v = .bl true) fun _ _ _ => False)
    (hCX : ∀ (w : World) (H : Hp) (s : Shared) (e : Value) (s' : Shared), CX w [] H s (fun _ _ _ => False) e s' → False) :
    PySem.W.WalkO q loose XP YP l.row.toRowW d [] (fun f vs => PySem.call f vs) := by
  refine Att.attach_call hn hdf fun w s₀ s₁ mg mb fa o pm cd doc a vs ns G Y ho hd hcd hmg hobj hints hlen hg => ?_
  have KX := hY w _ Y
  obtain ⟨fd, hb, hF⟩ := F w mg fa _ KX G.T.g hmg
  exact law_call KX G.T.g G.T.b G.T.builtins G.T.nolimit hg hobj hints (Nat.le_trans hlen hn2) hr hF hb (fun H hO hS => hsp w H a ns hlen hO hS) fun H e s' => hCX w H s₁ e s'
end L2
namespace L2
open PySem PySem.Spec PyProof.Rows
variable {q0 : Bool}
def inClass (s : Stmt) (j : Nat) : Stmt := match s with
  | .ClassDef _ _ _ body _ _ _ _ _ _ _ => body.getD j (.Pass ⟨0, 0, 0, 0⟩)
  | _ => .Pass ⟨0, 0, 0, 0⟩
def defArgs (s : Stmt) : Arguments := match s with
  | .FunctionDef _ a _ _ _ _ _ _ _ _ => a
  | _ => { posonlyargs := [], args := [], vararg := none, kwonlyargs := [], kw_defaults := [], kwarg := none, defaults := [] }
def defBody (s : Stmt) : List Stmt := match s with
  | .FunctionDef _ _ b _ _ _ _ _ _ _ => b
  | _ => []
def defScope (s : Stmt) : Scope := match s with
  | .FunctionDef _ _ _ _ _ _ sc _ _ _ => sc
  | _ => { kind := .function, names := [], isGenerator := false, isCoroutine := false }
abbrev CX0 : CXT := fun _ _ _ _ _ _ => False
structure Fun (K : PySem.W.Frag) (x qual : Str) (st : Stmt) (f : Addr) (fd : FuncData) : Prop where
  ex : ∃ (oc : Value) (od : Option Addr) (kV doc pm : Value) (an : Option Addr) (cdv ct : Value) (osl : Array (Option Value)),
    fd = PySem.W.fnOf x qual (defArgs st) (defBody st) (defScope st) .none kV doc pm an cdv ct ∧ K.lookup f = some ⟨oc, od, .func fd, osl⟩ ∧ PySem.W.codeIn K cdv qual = true
  kp : PySem.W.keepIn K (.ref f) = true
section
variable {P : Program} {w : World} {K : PySem.W.Frag} {mg : Str → Option Value} {base : Heap}
theorem Fun.ok {x qual : Str} {st : Stmt} {f : Addr} {fd : FuncData} {N ps : List Str} {k : Nat} {sp : Sp} (F : Fun K x qual st f fd) (S : FnScope N ps (defScope st)) (len : ∀ vs H Q E, sp vs H Q E → vs.length = ps.length)
    (hbody : ∀ (cdv : Value) (A : Around) (outer : List Env) (s : Shared) (H : Hp) (vs : List V) (Q : VK) (E : XK), Room q0 k (A.deeper (envOfC qual (defScope st) s.heap.objs.size f cdv)) → sp vs H Q E →
      ∃ t, PSs (cxOf q0 CX0 P w K mg base N qual (defScope st) f cdv A outer s H E).nox (defBody st) t ∧ t { nx := fun _ H' => Q .non H', rt := Q } (start N vs) H) : FnOk q0 P w K mg base CX0 (k + 1) f fd ps sp := by
  obtain ⟨oc, od, kV, doc, pm, an, cdv, ct, osl, rfl, lk, hcd⟩ := F.ex
  refine fn_of lk hcd S len fun A outer s H vs Q E hr hsp => ?_
  obtain ⟨t, h, q⟩ := hbody cdv A outer s H vs Q E hr hsp
  exact ⟨t, h.nox, q⟩
theorem Fun.binds {x qual : Str} {st : Stmt} {f : Addr} {fd : FuncData} {ps : List Str} (F : Fun K x qual st f fd)
    (h : ∀ (kV doc pm : Value) (an : Option Addr) (cdv ct : Value) (us : List Value), us.length = ps.length → bindArgs (PySem.W.fnOf x qual (defArgs st) (defBody st) (defScope st) .none kV doc pm an cdv ct) ⟨us, []⟩ = pure (ps.zip us)) : Binds K fd ps [] := by
  obtain ⟨oc, od, kV, doc, pm, an, cdv, ct, osl, rfl, lk, hcd⟩ := F.ex
  exact .all (h kV doc pm an cdv ct)
theorem fun_mk {x qual : Str} {st : Stmt} {f : Addr} {oc : Value} {od an : Option Addr} {osl : Array (Option Value)} {kV doc pm cdv ct : Value} (l : K.lookup f = some ⟨oc, od, .func (PySem.W.fnOf x qual (defArgs st) (defBody st) (defScope st) .none kV doc pm an cdv ct), osl⟩)
    (c : PySem.W.codeIn K cdv qual = true) (k : PySem.W.keepIn K (.ref f) = true) : Fun K x qual st f (PySem.W.fnOf x qual (defArgs st) (defBody st) (defScope st) .none kV doc pm an cdv ct) := ⟨⟨oc, od, kV, doc, pm, an, cdv, ct, osl, rfl, l, c⟩, k⟩
end
theorem hu_of {A : Around} {k : Nat} (hr : Room q0 k A) : A.units + 1 < cLine := Nat.lt_of_le_of_lt (Nat.add_le_add_left (by decide : 1 ≤ 64) _) hr.units
section
variable {X : Cx}
theorem pv (i : Nat) {x : Str} {pos : Pos} (hN : X.N[i]? = some x := by rfl) (hv : Vis X.env.scope x := by first | exact Or.inl rfl | exact Or.inr (Or.inl rfl) | exact Or.inr (Or.inr rfl)) (hd : (x == ("__debug__" : Str)) = false := by decide)
    (hcd : (x == ("__classdict__" : Str)) = false := by decide) : PE X (.Name x pos) (tVar i) := pe_var hN hv hd hcd
end
theorem iteF {A B : Prop} (h : B) : if false = true then A else B := by
  rw [if_neg Bool.false_ne_true]
  exact h
theorem iteT {A B : Prop} (h : A) : if true = true then A else B := by
  rw [if_pos rfl]
  exact h
theorem ite2 {c A B : Prop} [Decidable c] (h1 : c → A) (h2 : ¬ c → B) : if c then A else B := by
  by_cases h : c
  · rw [if_pos h]
    exact h1 h
  · rw [if_neg h]
    exact h2 h
def Same (H H' : Hp) : Prop := ∀ b o, H b = some o → H' b = some o
theorem Same.refl (H : Hp) : Same H H := fun _ _ h => h
theorem Same.trans {H H1 H2 : Hp} (a : Same H H1) (b : Same H1 H2) : Same H H2 := fun c o h => b c o (a c o h)
theorem Same.free {H H' : Hp} (e : Same H H') {l : Addr} (h : H' l = Option.none) : H l = Option.none := by
  cases q : H l with
  | none => rfl
  | some o =>
    rw [e l o q] at h
    cases h
theorem Same.seq {K : PySem.W.Frag} {H H' : Hp} {a : Addr} {xs : List V} (e : Same H H') (h : SqL K H a xs) : SqL K H' a xs := by
  rcases h with (h | ⟨o, h⟩) | h
  · exact .inl (.inl (e _ _ h))
  · exact .inl (.inr ⟨o, e _ _ h⟩)
  · exact .inr h
end L2
namespace Srt
open PySem PySem.W PyProof.Rows
abbrev CM := Nat → Nat → (Bool → Shared → Prop) → Shared → Prop
abbrev g (p : Array Nat) (i : Nat) : Nat := p.getD i 0
section
variable {n : Nat} {lt : Nat → Nat → Bool} {cmp : CM} {s : Shared}
end
end Srt
set_option maxRecDepth 100000
namespace XL
open PySem
def Xat (h : Heap) (e : Addr) (cls : Value) (od tb : Option Addr) : Prop :=
  ∃ oe vs, h.get? e = some oe ∧ oe.cls = cls ∧ oe.dict = od ∧ oe.data = .fields vs ∧ 1 < vs.size ∧
    ((tb = none ∧ vs[1]? = some Value.none) ∨ ∃ T oT ts, tb = some T ∧ vs[1]? = some (.ref T) ∧ T ≠ e ∧ h.get? T = some oT ∧ oT.data = .fields ts ∧ ts[3]? = some Value.none)
section
variable {M : Model} {A : Around} {E : Value → Shared → Prop} {s : Shared}
end
end XL
set_option maxRecDepth 100000
namespace XL
open PySem
section
variable {prog : Program} {w : World} {A : Around} {E : Value → Shared → Prop} {h : Heap} {g : Array GenState} {d : Drawn} {t : Nat} {os : OsState}
variable {nm qn : Str} {C N : Addr} {bs bm bmB : List Value} {hz : Bool} {sn : List Str} {sub : List Value} {ab : Bool} {col : Option Bool} {dd : Option Addr} {k0 k1 k2 k3 k5 : Option Value} {B ni ii : String}
end
end XL
set_option maxRecDepth 100000
namespace XL
open PySem PySem.W PySem.Calls PyProof.Rows Builtin Builtin.ObjectAttr
def vErr : List Value := [.type "ValueError", .type "Exception", .type "BaseException", .type "object"]
def excLine : List Value → Bool
  | [] => false
  | .ref c :: r => excLine r || ((.ref c :: r : List Value) == vErr)
  | v :: r => (v :: r) == vErr
def excOver (K : Frag) (C : Addr) : Bool := (clsIn K C).any fun cd => excLine cd.mro
theorem line_has : ∀ {l : List Value}, excLine l = true → l.contains (.type "object") = true ∧ l.contains (.type "BaseException") = true ∧ l.isEmpty = false
  | [], e => by cases e
  | v :: r, e => by
    have last : ((v :: r : List Value) == vErr) = true → (v :: r).contains (.type "object") = true ∧ (v :: r).contains (.type "BaseException") = true ∧ (v :: r).isEmpty = false := fun z => by
      rw [eq_of_beq z]
      exact ⟨by decide +kernel, by decide +kernel, rfl⟩
    cases v with
    | ref c =>
      rcases Bool.or_eq_true_iff.mp e with z | z
      · obtain ⟨a, b, _⟩ := line_has z
        exact ⟨by rw [List.contains_cons, a, Bool.or_true], by rw [List.contains_cons, b, Bool.or_true], rfl⟩
      · exact last z
    | _ => exact last e
structure XC (K : Frag) (C : Addr) : Prop where
  over : excOver K C = true
  hd : hasDictIn K C = true
  sa : findIn K (.ref C) "__setattr__" = some (some (.builtin "object.__setattr__"))
  ga : findIn K (.ref C) "__getattribute__" = some (some (.builtin "BaseException.__getattribute__"))
  gh : findIn K (.ref C) "__getattr__" = some none
  ca : findIn K (.ref C) "__class__" = some (some (.builtin "object.__class__"))
  cg : specialIn K (.builtin "object.__class__") "__get__" = some (some (.builtin "getset_descriptor.__get__"))
  ct : takesIn K (.builtin "object.__class__") = some true
section
variable {prog : Program} {w : World} {A : Around} {E : Value → Shared → Prop} {s : Shared} {K : Frag} {x C dx : Addr} {ox : Obj} {od : Option Obj} {name : Str} {v : Value} {R : Result → Shared → Prop}
theorem XC.mro (c : XC K C) : ∃ cd, clsIn K C = some cd ∧ excLine cd.mro = true ∧ cd.hasDict = true := by
  obtain ⟨cd, h1, h2⟩ := any_some c.over
  obtain ⟨cd', h3, h4⟩ := any_some c.hd
  rw [h1] at h3
  cases h3
  exact ⟨cd, h1, h2, h4⟩
theorem XC.isObj (c : XC K C) : mroIn K C (.type "object") = some true := by
  obtain ⟨cd, h1, h2, _⟩ := c.mro
  obtain ⟨a, _, b⟩ := line_has h2
  unfold mroIn
  rw [h1, Option.bind_some, if_neg (by rw [b]; decide), a]
theorem XC.isExc (c : XC K C) : mroIn K C (.type "BaseException") = some true := by
  obtain ⟨cd, h1, h2, _⟩ := c.mro
  obtain ⟨_, a, b⟩ := line_has h2
  unfold mroIn
  rw [h1, Option.bind_some, if_neg (by rw [b]; decide), a]
theorem ga_bind (v : Value) : bindSpecial (.builtin "BaseException.__getattribute__") v = pure (.builtin "BaseException.__getattribute__", [v]) := by
  have f := PySem.F.attr_ValueError.ga.bind v
  exact f
theorem ga_plain : plainId "BaseException.__getattribute__" = true := PySem.F.attr_ValueError.ga.plain
theorem get_xo {Q : Value → Shared → Prop} {expr fill : Bool} {tk : Tok} (X : K.In s.heap) (c : XC K C) (I : InstAt s.heap x ox C od)
    (h : wpAny (model prog w) A.in1 (Builtin.«object.__getattribute__» ⟨[.ref x, .str name tk], []⟩)
      (fun fin s' => match fin with | .done (.ret v) => wpAny (model prog w) A (handedOut v) Q E s' | _ => False) (fun _ _ => False) s) :
    wpAny (model prog w) A (getAttrBy (.ref x) (.str name tk) fill expr) Q E s := by
  obtain ⟨hh, g, d, t, os⟩ := s
  have L0 := I.type (M := model prog w)
  have L1 := looks_findIn (M := model prog w) X c.ga
  have L2 := looks_findIn (M := model prog w) X c.gh
  have sub : Looks (model prog w) hh (isInstance (.ref x) (.type "BaseException")) true := I.type.andThen (looks_mroIn X c.isExc)
  have f2 : (onTheHeap (Value.ref C) && Value.builtin "BaseException.__getattribute__" == Value.builtin "object.__getattribute__") = false := by
    rw [show (Value.builtin "BaseException.__getattribute__" == Value.builtin "object.__getattribute__") = false from by decide +kernel]; rfl
  have f3 : (expr && onTheHeap (Value.builtin "BaseException.__getattribute__")) = false := by cases expr <;> rfl
  unfold getAttrBy
  refine wpAny_holding (wpAny_bind (L0.at (wpAny_bind (L1.at ?_))))
  dsimp only
  rw [f2]
  simp only [Bool.false_eq_true, if_false]
  unfold getAttrByItsOwn hookBefore
  refine wpAny_bind (L2.at (wpAny_bind (wpAny_attempt (wpAny_holding ?_))))
  unfold callGetattribute
  rw [f3]
  simp only [Bool.false_eq_true, if_false]
  unfold boundAndCalled
  rw [ga_bind]
  refine wpAny_bind (wpAny_pure (wpAny_call (codeAny_call_builtin ga_plain PySem.F.entry_bexc_ga
    (@check_slot (model prog w) _ _ ⟨hh, g, d, t, os⟩ "BaseException.__getattribute__" "BaseException" "__getattribute__" (.ref x) [.str name tk] [] _ (by decide +kernel) (by decide +kernel) sub (PySem.F.args_bexc_ga _ _) ?_))))
  refine wpAny_mono h (fun fin s' z => ?_) fun e s' z => z.elim
  rcases fin with (_ | _ | _ | _) | _ <;> first | exact z | exact z.elim
theorem get_xcls {Q : Option Value → Shared → Prop} (X : K.In s.heap) (c : XC K C) (I : InstAt s.heap x ox C od) (h : Q (some (.ref C)) { s with toks := s.toks + 1 }) :
    wpAny (model prog w) A (getAttr? (.ref x) "__class__") Q E s := by
  obtain ⟨cd, h1, _, h2⟩ := c.mro
  have hf : findObj K C od "__class__" = some (.bind (.builtin "getset_descriptor.__get__") (.builtin "object.__class__")) := by
    unfold findObj
    rw [h1, Option.bind_some, c.ca, Option.bind_some]
    simp [c.cg, c.ct]
  unfold getAttr? getAttrBy?
  refine wpAny_bind (wpAny_mkText (wpAny_bind (wpAny_attempt ?_)))
  refine get_xo (s := { s with toks := s.toks + 1 }) X c I ?_
  have L0 := I.type (M := model prog w)
  have L1 := looks_find (M := model prog w) X I hf
  refine wpAny_bind (wpAny_pure (wpAny_bind (wpAny_pure (wpAny_bind (L0.here (s := { s with toks := s.toks + 1 }) (wpAny_bind (L1.here (s := { s with toks := s.toks + 1 }) ?_)))))))
  show wpAny _ _ (holding [_] (call _ [_, .ref x, .ref C]) >>= ret) _ _ _
  refine wpAny_bind (wpAny_holding (wpAny_call (class_get (s := { s with toks := s.toks + 1 }) (ox := ox) (od := od) X I c.isObj ?_)))
  refine wpAny_pure ?_
  show wpAny _ _ (handedOut (.ref C)) _ _ _
  exact wpAny_pure (wpAny_pure h)
end
end XL
set_option maxRecDepth 100000
namespace XL
open PySem
section
variable {M : Model} {A : Around} {E : Value → Shared → Prop} {s : Shared} {env : Env}
end
end XL
set_option maxRecDepth 100000
namespace L2
open PySem PySem.Spec PyProof.Rows XL
variable {q0 : Bool}
def XO (e C : Addr) (od : Option Addr) : HO := .ext fun h => ∃ ox vs, h.get? e = some ox ∧ ox.cls = .ref C ∧ ox.dict = od ∧ ox.data = .fields vs
def XD (dx : Addr) (fs : List (Str × V)) : HO := .ext fun h => fs.length ≤ 1000 ∧ ∃ mA, h.Ns1 dx mA ∧ (∀ f, RelO (fs.lookup f) (mA f)) ∧ PySem.Within mA (fs.map (·.1))
section
variable {P : Program} {w : World} {H : Hp} {h : Heap} {e C dx : Addr} {od : Option Addr} {fs : List (Str × V)}
end
def CXo (P : Program) (w : World) : CXT := fun outer H s E u s' => ∃ e C od H' T, u = .ref e ∧ s'.os = s.os ∧ AllBare s'.gens ∧ Un (frs outer) [] H H' s.heap s'.heap ∧ HOk P w H' s'.heap ∧
  Xat s'.heap e (.ref C) od (some T) ∧ H' e = some (XO e C od) ∧ s.heap.objs.size ≤ T ∧ H' T = none ∧ E e C H'
section
variable {X : Cx} {pins : List (Addr × Obj)} {σ : St} {H : Hp} {s : Shared} {e C : Addr} {od tb : Option Addr}
theorem Inv.size_lt (I : Inv X pins σ H s) {b : Addr} (h : s.heap.objs.size ≤ b) : H b = none ∧ b ≠ X.env.locals ∧ (∀ x c, X.env.cells.lookup x = some c → c ≠ b) ∧ ∀ p ∈ X.pn ++ pins, p.1 ≠ b := by
  refine ⟨I.hok.fresh h, fun z => ?_, fun x c hc z => ?_, fun p hp z => ?_⟩
  · rw [z] at h
    exact absurd I.lt (Nat.not_lt.mpr h)
  · obtain ⟨v, o, ho, _⟩ := I.cell x c hc
    rw [z] at ho
    exact absurd (Heap.lt_size ho) (Nat.not_lt.mpr h)
  · have g := (I.pin p hp).1
    rw [z] at g
    exact absurd (Heap.lt_size g) (Nat.not_lt.mpr h)
theorem pass_none : Passes (CXo X.prog X.w) X (fun _ _ _ _ => False) := fun pins σ H s u s' I h => by
  obtain ⟨e, C, od, H', T, _, _, _, _, _, _, _, _, _, q⟩ := h
  exact q.elim
end
end L2
set_option maxRecDepth 100000
namespace XL
open PySem PySem.W
end XL
namespace L2
open PySem PySem.Spec PyProof.Rows XL
variable {q0 : Bool}
section
variable {X : Cx} {pins : List (Addr × Obj)} {σ : St} {H : Hp} {s : Shared} {a C dx : Addr} {od : Option Addr} {fs : List (Str × V)} {f : Str} {v y : V} {u : Value} {A : Around} {E : Value → Shared → Prop}
theorem xo_at (I : Inv X pins σ H s) (e : H a = some (XO a C od)) : ∃ ox vs, s.heap.get? a = some ox ∧ ox.cls = .ref C ∧ ox.dict = od ∧ ox.data = .fields vs := (I.hok a _ e).1
theorem xd_at (I : Inv X pins σ H s) (e : H dx = some (XD dx fs)) : fs.length ≤ 1000 ∧ ∃ mA, s.heap.Ns1 dx mA ∧ (∀ f, RelO (fs.lookup f) (mA f)) ∧ PySem.Within mA (fs.map (·.1)) := (I.hok dx _ e).1
theorem notCls_f {o : Obj} {vs : Array Value} (d : o.data = .fields vs) : PySem.W.notCls o = true := by
  unfold PySem.W.notCls
  rw [d]
end
section
variable {X : Cx} {o e value : Expr} {f : Str} {pos pos' tpos : Pos} {ta tv te : TE}
end
section
variable {X : Cx} {k : Nat} {f C : Addr} {fd : FuncData} {ps : List Str} {sp : Sp} {dvs : List V} {ds : List Value} {E : St → XK} {x m : Str} {p pos apos : Pos} {e o : Expr} {es : List Expr} {ta te : TE} {t : TA}
end
end L2
set_option maxRecDepth 100000
namespace XL
open PySem PySem.W
section
variable {M : Model} {A : Around} {E : Value → Shared → Prop} {s : Shared}
variable {nm qn nm' qn' : Str} {C N C' N' : Addr} {bs bm bs' bm' : List Value} {hz hz' : Bool} {sn sn' : List Str} {sub sub' : List Value} {ab ab' : Bool} {col col' : Option Bool} {dd dd' : Option Addr} {k0 k1 k2 k3 k5 j0 j1 j2 j3 j5 : Option Value} {ni ni' : String}
end
end XL
namespace L2
open PySem PySem.Spec PyProof.Rows XL
variable {q0 : Bool}
section
variable {X : Cx} {pins : List (Addr × Obj)} {σ : St} {H : Hp} {s : Shared}
end
section
variable {X : Cx} {pos np hpos : Pos} {body hbody : List Stmt} {b0 : Stmt} {cx n : Str} {C0 : Addr} {j : Nat} {E : St → XK} {tb th : TS}
end
end L2
set_option maxRecDepth 100000
namespace XL
open PySem PySem.W
theorem kitx_x {K : Frag} {x C : Addr} (c : XC K C) : KitX K (.ref x) (.ref C) (fun h => ∃ ox od, InstAt h x ox C od) where
  ty := fun _ _ _ ⟨_, _, I⟩ => I.type
  it := fun _ _ X _ => by
    obtain ⟨cd, hc, _, _⟩ := c.mro
    unfold clsIn at hc
    split at hc
    · rename_i c' d' cd' sl' ho
      intro A' Q' E' s' k q
      unfold isType loadHead
      exact wpAny_bind (wpAny_loadPart (k _ _ (X _ _ ho)) (wpAny_pure q))
    · cases hc
  ne := fun h tp dd its n sl X htp => by
    obtain ⟨cd, hc, _, _⟩ := c.mro
    refine Bool.eq_false_iff.mpr fun q => ?_
    have e : C = tp := Value.ref.inj (beq_iff_eq.mp q)
    subst e
    unfold clsIn at hc
    split at hc
    · rename_i c' d' cd' sl' ho
      have z := (X _ _ ho).symm.trans htp
      cases z
    · cases hc
  ca := fun X ⟨ox, od, I⟩ k => get_xcls X c I k
end XL
namespace L2
open PySem PySem.Spec PyProof.Rows XL
variable {q0 : Bool}
def clsV : V → Option Value
  | .ty n => some (.type n)
  | .ref a => some (.ref a)
  | _ => none
theorem clsV_rel {c : V} {u cv : Value} (e : clsV c = some cv) (r : RelV c u) : u = cv := by
  cases c <;> first | (cases e; exact r) | cases e
def clsVs : List V → Option (List Value)
  | [] => some []
  | c :: r => (clsV c).bind fun a => (clsVs r).map (a :: ·)
theorem clsVs_rel : ∀ {cs : List V} {us cv : List Value}, clsVs cs = some cv → Vals cs us → us = cv
  | [], _, _, e, .nil => by cases e; rfl
  | c :: r, _, _, e, .cons rc rr => by
    obtain ⟨a, e1, e2⟩ := Option.bind_eq_some_iff.mp e
    obtain ⟨b, e3, rfl⟩ := Option.map_eq_some_iff.mp e2
    rw [clsV_rel e1 rc, clsVs_rel e3 rr]
section
variable {X : Cx} {pins : List (Addr × Obj)} {σ : St} {H : Hp} {s : Shared} {A : Around} {E : Value → Shared → Prop} {Q : Value → Shared → Prop}
theorem xo_inst {a C : Addr} {od : Option Addr} (I : Inv X pins σ H s) (h : H a = some (XO a C od)) (hd : ∀ d, od = some d → ∃ o, s.heap.get? d = some o) : ∃ ox odx, PySem.W.InstAt s.heap a ox C odx := by
  obtain ⟨ox, vs, g, ce, oo, de⟩ := xo_at I h
  cases e : od with
  | none => exact ⟨ox, none, g, ce, notCls_f de, by rw [oo, e]; trivial⟩
  | some d =>
    obtain ⟨o, go⟩ := hd d e
    exact ⟨ox, some o, g, ce, notCls_f de, by rw [oo, e]; exact go⟩
end
def rIsin (K : PySem.W.Frag) : List V → Hp → VK → Prop := fun xs H Q => ∃ x c, xs = [x, c] ∧ ((∃ t cv b, TyOf K H x t ∧ clsV c = some cv ∧ PySem.W.kitOne K t cv = some b ∧ Q (.bl b) H) ∨
  (∃ a C od cv b, x = .ref a ∧ H a = some (XO a C od) ∧ (∀ d, od = some d → ∃ fs, H d = some (XD d fs)) ∧ XC K C ∧ clsV c = some cv ∧ PySem.W.kitOne K (.ref C) cv = some b ∧ Q (.bl b) H) ∨
  (∃ a C od p cs cv b, x = .ref a ∧ H a = some (XO a C od) ∧ (∀ d, od = some d → ∃ fs, H d = some (XD d fs)) ∧ XC K C ∧ c = .ref p ∧ SqT K H p cs ∧ clsVs cs = some cv ∧ PySem.W.kitAny K (.ref C) cv = some b ∧ Q (.bl b) H))
section
variable {X : Cx}
theorem call_isin : CallR X (.builtin "isinstance") (rIsin X.K) := by
  intro pins s σ H us xs Q I r h
  obtain ⟨x, c, rfl, h⟩ := h
  obtain ⟨u, v, rfl, ru, rv⟩ := vals2 r
  rcases h with ⟨t, cv, b, ty, ec, ek, q⟩ | ⟨a, C, od, cv, b, rfl, ha, hd, xc, ec, ek, q⟩ | ⟨a, C, od, p, cs, cv, b, rfl, ha, hd, xc, rfl, hp, ec, ek, q⟩
  · obtain rfl := clsV_rel ec rv
    exact isinst_ok I ru ty ek fun tk => ⟨.bl b, H, I.tok tk, rfl, q⟩
  · obtain rfl := clsV_rel ec rv
    obtain rfl : u = Value.ref a := ru
    refine PySem.W.kia_one (kitx_x xc) I.kIn (xo_inst I ha fun d e => ?_) ek (fun z => nomatch z) fun tk => ⟨.bl b, H, I.tok tk, rfl, q⟩
    obtain ⟨fs, hw⟩ := hd d e
    obtain ⟨_, _, ⟨o, _, _, go, _⟩, _⟩ := xd_at I hw
    exact ⟨o, go⟩
  · obtain rfl : u = Value.ref a := ru
    obtain rfl : v = Value.ref p := rv
    obtain ⟨its, vi, it, _⟩ := I.tuple hp
    obtain rfl := clsVs_rel ec vi
    obtain ⟨o, g, oc, n, od'⟩ := it
    obtain ⟨c1, d1, dt1, sl1⟩ := o
    dsimp only at oc od'
    subst oc od'
    refine PySem.W.kia_tup (kitx_x xc) I.kIn (xo_inst I ha fun d e => ?_) g ek (fun z => nomatch z) fun tk => ⟨.bl b, H, I.tok tk, rfl, q⟩
    obtain ⟨fs, hw⟩ := hd d e
    obtain ⟨_, _, ⟨o, _, _, go, _⟩, _⟩ := xd_at I hw
    exact ⟨o, go⟩
end
end L2
set_option maxRecDepth 100000
namespace L2
open PySem PySem.Spec PyProof.Rows XL
variable {q0 : Bool}
def frees (scope : Scope) : List Str := (scope.names.filter fun x => x.2 == .free).map (·.1)
def Cx.clo (X : Cx) (scope : Scope) : List (Str × Addr) := (frees scope).reverse.map fun n => (n, (X.env.cells.lookup n).getD 0)
theorem closure_of {env : Env} {f : Str → Addr} : ∀ (l : List (Str × NameKind)) (acc : List (Str × Addr)), (∀ x ∈ l, x.2 = .free → env.cells.lookup x.1 = some (f x.1)) →
    (forIn l acc fun x cs => (if x.2 == .free then do let c ← cellOf env x.1; pure (ForInStep.yield ((x.1, c) :: cs)) else pure (ForInStep.yield cs) : Sem (ForInStep (List (Str × Addr))))) =
      pure ((((l.filter fun x => x.2 == .free).map (·.1)).reverse.map fun n => (n, f n)) ++ acc)
  | [], acc, _ => rfl
  | x :: r, acc, h => by
    have ih := fun a => closure_of r a fun y hy => h y (List.mem_cons_of_mem _ hy)
    rw [List.forIn_cons]
    by_cases q : x.2 = .free
    · have e := h x List.mem_cons_self q
      have qb : (x.2 == NameKind.free) = true := by rw [q]; rfl
      rw [if_pos qb, List.filter_cons, if_pos qb]
      have ec : cellOf env x.1 = pure (f x.1) := by unfold cellOf; rw [e]
      rw [ec]
      simp only [pure_bind]
      rw [ih]
      simp
    · have qb : (x.2 == NameKind.free) = false := by simpa using q
      rw [if_neg (by rw [qb]; decide), List.filter_cons, if_neg (by rw [qb]; decide)]
      simp only [pure_bind]
      rw [ih]
theorem clo_of {X : Cx} {scope : Scope} (h : ∀ n ∈ frees scope, ∃ c, X.env.cells.lookup n = some c) : closureFor scope X.env = pure (X.clo scope) := by
  unfold closureFor
  have z := closure_of (env := X.env) (f := fun n => (X.env.cells.lookup n).getD 0) scope.names [] fun x hx hf => by
    obtain ⟨c, e⟩ := h x.1 (List.mem_map.mpr ⟨x, List.mem_filter.mpr ⟨hx, by simp [hf]⟩, rfl⟩)
    rw [e]
    rfl
  rw [List.append_nil] at z
  refine (bind_pure (m := Sem) _).trans ?_
  exact z
theorem clo_mem {X : Cx} {scope : Scope} {n : Str} {c : Addr} (h : (X.clo scope).lookup n = some c) : n ∈ frees scope ∧ c = (X.env.cells.lookup n).getD 0 := by
  have z := PySem.mem_of_lookup h
  unfold Cx.clo at z
  obtain ⟨y, hy, e⟩ := List.mem_map.mp z
  injection e with e1 e2
  subst e1
  exact ⟨List.mem_reverse.mp hy, e2.symm⟩
theorem lookup_map_self {f : Str → Addr} {n : Str} : ∀ {l : List Str}, n ∈ l → (l.map fun y => (y, f y)).lookup n = some (f n)
  | [], h => by simp at h
  | y :: r, h => by
    rw [List.map_cons, List.lookup_cons]
    by_cases q : n = y
    · subst q
      simp
    · rw [show (n == y) = false from by simpa using q]
      exact lookup_map_self ((List.mem_cons.mp h).resolve_left q)
theorem clo_get {X : Cx} {scope : Scope} {n : Str} {c : Addr} (hn : n ∈ frees scope) (h : X.env.cells.lookup n = some c) : (X.clo scope).lookup n = some c := by
  have z := lookup_map_self (f := fun n => (X.env.cells.lookup n).getD 0) (List.mem_reverse.mpr hn)
  unfold Cx.clo
  rw [z, h]
  rfl
section
variable {X : Cx} {pins : List (Addr × Obj)} {σ : St} {H : Hp} {s : Shared} {scope : Scope} {x : Str} {ys : List Str} {fr : List Nat} {fp : List Addr}
end
section
variable {X : Cx} {pins : List (Addr × Obj)} {σ : St} {H : Hp} {s : Shared} {scope : Scope} {x : Str} {ys : List Str} {fr : List Nat} {fp : List Addr}
end
def tTrue : TT := fun _ H Q => Q true H
def PIf (X : Cx) (ifs : List Expr) (t : TT) : Prop :=
  ∀ (pins : List (Addr × Obj)) (s : Shared) (σ : St) (H : Hp) (Q : Bool → Hp → Prop), Inv X pins σ H s → t σ H Q →
    wpAny (model X.prog X.w) X.A (forIn ifs true fun c r => if r = true then do let ok ← isTrue c X.env (eval c X.env); pure (ForInStep.yield ok) else pure (ForInStep.yield r)) (TP X pins σ Q) X.xe s
theorem pif_nil {X : Cx} : PIf X [] tTrue := fun pins s σ H Q I h => wpAny_pure ⟨H, I, h⟩
theorem pif_one {X : Cx} {c : Expr} {t : TT} (hc : PT X c t) : PIf X [c] t := fun pins s σ H Q I h => by
  rw [List.forIn_cons]
  refine wpAny_bind ?_
  rw [if_pos rfl]
  refine wpAny_bind (wpAny_mono (hc pins s σ H Q I h) (fun b s1 q => wpAny_pure ?_) fun _ _ z => z)
  exact wpAny_pure q
section
variable {X : Cx} {scope : Scope} {x : Str} {ys : List Str} {fr : List Nat} {elt iter : Expr} {ifs : List Expr} {px pos : Pos} {wi : TI} {tc : TT} {te : TE}
end
end L2
set_option maxRecDepth 100000
namespace L2
open PySem PySem.Spec PyProof.Rows XL
variable {q0 : Bool}
theorem relab_has {env : Env} {scope : Scope} (nc : ∀ y ∈ scope.names, y.2 ≠ .cell) (n : Str) (h : (relabel scope env).names.lookup n = some .cell ∨ (relabel scope env).names.lookup n = some .free) : n ∈ frees scope := by
  have key : ∀ k, (relabel scope env).names.lookup n = some k → (k = .cell ∨ k = .free) → n ∈ frees scope := fun k e hk => by
    obtain ⟨y, hy, ey⟩ := List.mem_map.mp (PySem.mem_of_lookup e)
    obtain ⟨m, j⟩ := y
    dsimp only at ey
    split at ey
    · rename_i q
      injection ey with e1 e2
      subst e1
      have : j = .free := by
        simp only [Bool.and_eq_true, beq_iff_eq] at q
        exact q.1.1
      subst this
      exact List.mem_map.mpr ⟨_, List.mem_filter.mpr ⟨hy, by simp⟩, rfl⟩
    · injection ey with e1 e2
      subst e1 e2
      rcases hk with z | z
      · exact absurd z (nc _ hy)
      · subst z
        exact List.mem_map.mpr ⟨_, List.mem_filter.mpr ⟨hy, by simp⟩, rfl⟩
  rcases h with h | h
  · exact key _ h (.inl rfl)
  · exact key _ h (.inr rfl)
theorem relab_free {env : Env} {scope : Scope} {n : Str} (h : scope.names.lookup n = some .free) : (relabel scope env).names.lookup n = some .cell ∨ (relabel scope env).names.lookup n = some .free := by
  have key : ∀ (l : List (Str × NameKind)), l.lookup n = some .free → (l.map fun (m, k) => if (k == NameKind.free && env.scope.kind == .function && env.kindOf m == some .cell) then (m, NameKind.cell) else (m, k)).lookup n = some .cell ∨
      (l.map fun (m, k) => if (k == NameKind.free && env.scope.kind == .function && env.kindOf m == some .cell) then (m, NameKind.cell) else (m, k)).lookup n = some .free := fun l => by
    induction l with
    | nil => intro e; simp at e
    | cons y r ih =>
      intro e
      obtain ⟨m, k⟩ := y
      rw [List.map_cons]
      rw [List.lookup_cons] at e
      cases q : n == m with
      | true =>
        rw [q] at e
        cases e
        dsimp only
        split
        · left; rw [List.lookup_cons, q]
        · right; rw [List.lookup_cons, q]
      | false =>
        rw [q] at e
        have z := ih e
        dsimp only
        split <;> (rw [List.lookup_cons, q]; exact z)
  exact key _ h
section
variable {P : Program} {w : World} {K : PySem.W.Frag} {mg : Str → Option Value} {base : Heap}
theorem Fun.okn {x qual : Str} {st : Stmt} {f : Addr} {fd : FuncData} {N ps : List Str} {k : Nat} {sp : Sp} (F : Fun K x qual st f fd) (S : FnScope N ps (defScope st)) (len : ∀ vs H Q E, sp vs H Q E → vs.length = ps.length)
    (hbody : ∀ (cdv : Value) (A : Around) (outer : List Env) (s : Shared) (H : Hp) (vs : List V) (Q : VK) (E : XK), Room q0 k (A.deeper (envOfC qual (defScope st) s.heap.objs.size f cdv)) → sp vs H Q E →
      ∃ t, PSs (cxOf q0 (CXo P w) P w K mg base N qual (defScope st) f cdv A outer s H E).nox (defBody st) t ∧ t { nx := fun _ H' => Q .non H', rt := Q } (start N vs) H) : FnOk q0 P w K mg base (CXo P w) (k + 1) f fd ps sp := by
  obtain ⟨oc, od, kV, doc, pm, an, cdv, ct, osl, rfl, lk, hcd⟩ := F.ex
  refine fn_of lk hcd S len fun A outer s H vs Q E hr hsp => ?_
  obtain ⟨t, h, q⟩ := hbody cdv A outer s H vs Q E hr hsp
  exact ⟨t, h.nox, q⟩
end
end L2
set_option maxRecDepth 100000
namespace L2
open PySem PySem.Spec PyProof.Rows XL
theorem ifP {b : Bool} {A B : Prop} (h : b = true) (q : A) : if b = true then A else B := by
  rw [if_pos h]
  exact q
theorem ifN {b : Bool} {A B : Prop} (h : b = false) (q : B) : if b = true then A else B := by
  rw [if_neg (by rw [h]; decide)]
  exact q
end L2
set_option maxRecDepth 100000
namespace L2
open PySem PySem.Spec PyProof.Rows XL
section
variable {X : Cx}
theorem op_le_str : OpR X (compareOp .LtE) (fun x y H Q => ∃ i j, x = .str i ∧ y = .str j ∧ Q (.bl (!decide (j.cps.toList < i.cps.toList))) H) := by
  intro pins s σ H x y v u Q I rx ry h
  obtain ⟨i, j, rfl, rfl, q⟩ := h
  obtain ⟨t, rfl⟩ := rx
  obtain ⟨t', rfl⟩ := ry
  exact PySem.P.le_str (fin_bl I q rfl)
end
end L2
set_option maxRecDepth 100000
namespace L2
open PySem PySem.Spec PyProof.Rows
variable {q0 : Bool}
section
variable {X : Cx}
theorem vals_of : ∀ {us : List Value} {ys : List V}, us.length = ys.length → (∀ (j : Nat) (y : V) (u : Value), ys[j]? = some y → us[j]? = some u → RelV y u) → Vals ys us
  | [], [], _, _ => .nil
  | u :: us, y :: ys, hl, h => .cons (h 0 y u rfl rfl) (vals_of (Nat.succ.inj hl) fun j y' u' e e' => h (j + 1) y' u' e e')
end
end L2
set_option maxRecDepth 100000
namespace L2
open PySem PySem.Spec PyProof.Rows
variable {q0 : Bool}
structure FunD (K : PySem.W.Frag) (x qual : Str) (st : Stmt) (T f : Addr) (fd : FuncData) : Prop where
  ex : ∃ (oc : Value) (od : Option Addr) (kV doc pm : Value) (an : Option Addr) (cdv ct : Value) (osl : Array (Option Value)),
    fd = PySem.W.fnOf x qual (defArgs st) (defBody st) (defScope st) (.ref T) kV doc pm an cdv ct ∧ K.lookup f = some ⟨oc, od, .func fd, osl⟩ ∧ PySem.W.codeIn K cdv qual = true
  kp : PySem.W.keepIn K (.ref f) = true
section
variable {P : Program} {w : World} {K : PySem.W.Frag} {mg : Str → Option Value} {base : Heap}
theorem FunD.okn {x qual : Str} {st : Stmt} {T f : Addr} {fd : FuncData} {N ps : List Str} {k : Nat} {sp : Sp} (F : FunD K x qual st T f fd) (S : FnScope N ps (defScope st)) (len : ∀ vs H Q E, sp vs H Q E → vs.length = ps.length)
    (hbody : ∀ (cdv : Value) (A : Around) (outer : List Env) (s : Shared) (H : Hp) (vs : List V) (Q : VK) (E : XK), Room q0 k (A.deeper (envOfC qual (defScope st) s.heap.objs.size f cdv)) → sp vs H Q E →
      ∃ t, PSs (cxOf q0 (CXo P w) P w K mg base N qual (defScope st) f cdv A outer s H E).nox (defBody st) t ∧ t { nx := fun _ H' => Q .non H', rt := Q } (start N vs) H) : FnOk q0 P w K mg base (CXo P w) (k + 1) f fd ps sp := by
  obtain ⟨oc, od, kV, doc, pm, an, cdv, ct, osl, rfl, lk, hcd⟩ := F.ex
  refine fn_of lk hcd S len fun A outer s H vs Q E hr hsp => ?_
  obtain ⟨t, h, q⟩ := hbody cdv A outer s H vs Q E hr hsp
  exact ⟨t, h.nox, q⟩
theorem FunD.binds {x qual : Str} {st : Stmt} {T f : Addr} {fd : FuncData} {ps : List Str} {o : Obj} {items : Array Value} {n : Nat} {ds : List Value} (F : FunD K x qual st T f fd) (ho : K.lookup T = some o) (hs : o.data = .seq items n) (m : Nat) (hm : m + ds.length = ps.length)
    (h : ∀ (kV doc pm : Value) (an : Option Addr) (cdv ct : Value) (us : List Value), us.length = m →
      ∃ k, bindArgs (PySem.W.fnOf x qual (defArgs st) (defBody st) (defScope st) (.ref T) kV doc pm an cdv ct) ⟨us, []⟩ = seqItems? (.ref T) >>= k ∧ k (some items) = pure (ps.zip (us ++ ds))) : Binds K fd ps ds := by
  obtain ⟨oc, od, kV, doc, pm, an, cdv, ct, osl, rfl, lk, hcd⟩ := F.ex
  intro s us hK hl
  rw [List.length_append] at hl
  obtain ⟨k, h1, h2⟩ := h kV doc pm an cdv ct us (by omega)
  exact BindsTo.of_defaults rfl (hK _ _ ho) hs h1 h2
theorem fund_mk {x qual : Str} {st : Stmt} {T f : Addr} {oc : Value} {od an : Option Addr} {osl : Array (Option Value)} {kV doc pm cdv ct : Value} (l : K.lookup f = some ⟨oc, od, .func (PySem.W.fnOf x qual (defArgs st) (defBody st) (defScope st) (.ref T) kV doc pm an cdv ct), osl⟩)
    (c : PySem.W.codeIn K cdv qual = true) (k : PySem.W.keepIn K (.ref f) = true) : FunD K x qual st T f (PySem.W.fnOf x qual (defArgs st) (defBody st) (defScope st) (.ref T) kV doc pm an cdv ct) := ⟨⟨oc, od, kV, doc, pm, an, cdv, ct, osl, rfl, l, c⟩, k⟩
end
end L2
set_option maxRecDepth 100000
namespace L2
open PySem PySem.Spec PyProof.Rows XL
variable {q0 : Bool}
abbrev Cx.blkG (X : Cx) (scope : Scope) (zs : List Str) (ys : List Str) (C : Addr) (ex : List Addr) (s : Shared) (H : Hp) (pn : List (Addr × Obj)) : Cx where
  prog := X.prog
  w := X.w
  K := X.K
  mg := X.mg
  base := X.base
  A := X.A
  N := zs ++ ys
  s₀ := s
  H₀ := H
  env := compEnvC scope (X.clo scope) C X.env
  outer := X.stack
  stack := X.stack
  ex := ex
  fn := fun _ => false
  calm := X.calm
  pn := pn
  xe := fun _ _ => False
theorem compLoop_testsG {prog : Program} {w : World} {A : Around} {R : Result → Shared → Prop} {s : Shared} {elt target iter : Expr} {ifs : List Expr} {scope : Scope} {pos : Pos} {it acc : Value} {env : Env} (I : Nat → Shared → Prop)
    (turn : ∀ n s, I n s → wpAny (model prog w) A (pyNext it) (fun r s₁ => match r with
      | none => R (.ok .next) s₁
      | some v => wpAny (model prog w) A (letOwnedTupleGo target it v) (fun _ s₀ => wpAny (model prog w) A (assign target env v) (fun _ s₂ =>
          wpAny (model prog w) A (forIn ifs true fun c r => if r = true then do let ok ← isTrue c env (eval c env); pure (ForInStep.yield ok) else pure (ForInStep.yield r)) (fun ok s₃ =>
            if ok = true then wpAny (model prog w) A (eval elt env) (fun x s₄ =>
              wpAny (model prog w) A (call (.builtin "list.append") [acc, x]) (fun _ s₅ => ∃ m, m < n ∧ I m s₅) (notedBy (model prog w) A env fun e s' => R (.error e) s') s₄) (notedBy (model prog w) A env fun e s' => R (.error e) s') s₃
            else ∃ m, m < n ∧ I m s₃) (notedBy (model prog w) A env fun e s' => R (.error e) s') s₂) (notedBy (model prog w) A env fun e s' => R (.error e) s') s₀) (notedBy (model prog w) A env fun e s' => R (.error e) s') s₁) (notedBy (model prog w) A env fun e s' => R (.error e) s') s)
    (n : Nat) (h : I n s) : codeAny (model prog w) A (.compLoop (.ListComp elt [⟨target, iter, ifs, 0⟩] scope pos) 0 it acc env) R s := by
  refine codeAny_loop rfl I (fun n s hI => ?_) n h
  show wpAny _ A ((compTurn (.ListComp elt [⟨target, iter, ifs, 0⟩] scope pos) 0 it acc env).onRaise (fun x => do noteFrame x env; theTreesLotGoes x)) _ _ s
  refine wpAny_noted ?_
  rw [compTurn_list]
  refine wpAny_bind (wpAny_standAt (wpAny_bind (wpAny_mono (turn n s hI) (fun r s₁ h₁ => ?_) fun _ _ h' => h')))
  cases r with
  | none => exact wpAny_pure h₁
  | some v =>
    refine wpAny_bind (wpAny_mono h₁ (fun _ s₀ h₀ => wpAny_bind (wpAny_mono h₀ (fun _ s₂ h₂ => wpAny_bind (wpAny_mono h₂ (fun ok s₃ h₃ => ?_) fun _ _ h' => h')) fun _ _ h' => h')) fun _ _ h' => h')
    cases ok with
    | false => exact wpAny_pure ⟨rfl, h₃⟩
    | true =>
      exact wpAny_bind (wpAny_bind (wpAny_mono h₃ (fun x s₄ h₄ => wpAny_bind (wpAny_mono h₄ (fun _ s₅ h₅ => wpAny_pure (wpAny_pure ⟨rfl, h₅⟩)) fun _ _ h' => h')) fun _ _ h' => h'))
structure BlkG (X : Cx) (scope : Scope) (zs : List Str) (ys : List Str) (fr : List Nat) : Prop where
  kind : scope.kind = .function
  own : ∀ x ∈ zs, scope.names.lookup x = some .local
  ncell : ∀ y ∈ scope.names, y.2 ≠ .cell
  names : ∀ y ∈ scope.names, y.2 = .local → scope.names.lookup y.1 = some .local
  free : ∀ n ∈ frees scope, X.env.scope.names.lookup n = some .cell
  has : ∀ n, ((relabel scope X.env).names.lookup n = some .cell ∨ (relabel scope X.env).names.lookup n = some .free) → n ∈ frees scope
  slots : fr.map (fun i => X.N[i]?) = ys.map some
  ysf : ∀ y ∈ ys, y ∈ frees scope
  ysc : ∀ y ∈ ys, (relabel scope X.env).names.lookup y = some .cell ∨ (relabel scope X.env).names.lookup y = some .free
  st : X.stack = X.env :: X.outer
  nd : X.N.Nodup
  ndb : (zs ++ ys).Nodup
def blk0 (σ : St) (fr : List Nat) (n : Nat) : St := List.replicate n none ++ fr.map fun i => (σ[i]?).join
section
variable {X : Cx} {pins : List (Addr × Obj)} {σ : St} {H : Hp} {s : Shared} {scope : Scope} {zs : List Str} {ys : List Str} {fr : List Nat} {fp : List Addr}
theorem BlkG.cells (B : BlkG X scope zs ys fr) (I : Inv X pins σ H s) : ∀ n ∈ frees scope, ∃ c, X.env.cells.lookup n = some c := fun n hn => I.ok.has n (.inl (B.free n hn))
theorem BlkG.sub (B : BlkG X scope zs ys fr) (I : Inv X pins σ H s) {n : Str} {c : Addr} (h : (X.clo scope).lookup n = some c) : X.env.cells.lookup n = some c := by
  obtain ⟨a, b⟩ := clo_mem h
  obtain ⟨d, e⟩ := B.cells I n a
  rw [e] at b
  rw [b, e]
  rfl
theorem Inv.blkG {h1 : Heap} {m1 : Str → Option Value} {t' : Nat} (B : BlkG X scope zs ys fr) (I : Inv X pins σ H s) (hf : ∀ b ∈ fp, FpOk X pins H b) (hz : ∀ b ∈ fp, b < s.heap.objs.size) (n1 : h1.Ns s.heap.objs.size m1) (k1 : ∀ b o, s.heap.get? b = some o → h1.get? b = some o) :
    Inv (X.blkG scope zs ys s.heap.objs.size fp s H (X.pn ++ pins)) [] (blk0 σ fr zs.length) H { s with heap := h1, toks := t' } := by
  have sub : ∀ n c, (X.clo scope).lookup n = some c → X.env.cells.lookup n = some c := fun n c h => B.sub I h
  have cz : ∀ n c, X.env.cells.lookup n = some c → c < s.heap.objs.size := fun n c e => by
    obtain ⟨v, o, ho, _⟩ := I.cell n c e
    exact Heap.lt_size ho
  have nfs : ∀ b ∈ fp, b ∉ frs X.stack := fun b hb z => (List.mem_cons.mp (I.stkSub b z)).elim (hf b hb).2.1 (hf b hb).2.2.1
  have fz : ∀ b, b ∈ frs X.stack → b < s.heap.objs.size := fun b hb => by
    obtain ⟨_, o, ho, _⟩ := I.stack.mem hb
    exact Heap.lt_size ho
  refine ⟨⟨I.ok.mod, B.kind, I.ok.glob, I.ok.blt, Nat.le_refl _, fun y z c h1 h2 => I.ok.inj y z c (sub y c h1) (sub z c h2), fun y hy => ?_, (fun y c hy _ => nomatch hy), I.ok.hd, I.ok.frames, .inl rfl, fun b hb => ⟨?_, fun y c h => (hf b hb).2.2.2.2.1 y c (sub y c h)⟩,
      I.bs, Nat.le_trans I.ok.bsz I.sz, fun b o e hb => ?_, fun b hb => nfs b hb, I.stack, I.stkFree⟩,
    rfl, I.bare, Un.kept k1, ⟨m1, n1, fun i y v e1 e2 e3 => ?_⟩, fun y c h => ?_, I.hok.fresh (Nat.le_refl _), fun y c h => I.freeC y c (sub y c h), fun p hp => ?_, I.hok.kept k1, ?_⟩
  · obtain ⟨c, e⟩ := B.cells I y (B.has y hy)
    exact ⟨c, clo_get (B.has y hy) e⟩
  · exact Nat.ne_of_lt (hz b hb)
  · rcases (hf b hb).2.2.2.1 with z | z
    · exact I.ok.noex b o e z
    · exact absurd (Nat.lt_of_lt_of_le (Heap.lt_size (I.ok.bs b o e).1) z) (Nat.lt_irrefl _)
  · have ln : (List.replicate zs.length (none : Option V)).length = zs.length := List.length_replicate
    by_cases lt : i < zs.length
    · have e2' : (blk0 σ fr zs.length)[i]? = some (some v) := e2
      unfold blk0 at e2'
      rw [List.getElem?_append_left (by rw [ln]; exact lt), List.getElem?_replicate] at e2'
      split at e2' <;> cases e2'
    · obtain ⟨k, rfl⟩ : ∃ k, i = zs.length + k := ⟨i - zs.length, by omega⟩
      have e2' : (fr.map fun i => (σ[i]?).join)[k]? = some (some v) := by
        have z : (blk0 σ fr zs.length)[zs.length + k]? = some (some v) := e2
        unfold blk0 at z
        rw [List.getElem?_append_right (by rw [ln]; omega), ln] at z
        simpa using z
      have e1' : ys[k]? = some y := by
        have z : (zs ++ ys)[zs.length + k]? = some y := e1
        rw [List.getElem?_append_right (by omega)] at z
        simpa using z
      rw [List.getElem?_map] at e2'
      obtain ⟨j, hj, ej⟩ := Option.map_eq_some_iff.mp e2'
      have ev : σ[j]? = some (some v) := by
        cases q : σ[j]? with
        | none => rw [q] at ej; cases ej
        | some w => rw [q] at ej; exact congrArg some ej
      have eN : X.N[j]? = some y := by
        have z := congrArg (fun l => l[k]?) B.slots
        simp only [List.getElem?_map, hj, e1', Option.map_some] at z
        exact Option.some.inj z
      have my : y ∈ ys := List.mem_of_getElem? e1'
      obtain ⟨m, _, lk⟩ := I.loc
      obtain ⟨u, r, l⟩ := lk j y v eN ev (.inr (.inl (B.free y (B.ysf y my))))
      refine ⟨u, r, .inr ⟨B.ysc y my, ?_⟩⟩
      rcases l with ⟨kk, _⟩ | ⟨_, c, e, o, ho, hd⟩
      · have z := B.free y (B.ysf y my)
        rw [show X.env.scope.names.lookup y = some .local from kk] at z
        cases z
      · exact ⟨c, clo_get (B.ysf y my) e, o, k1 c o ho, hd⟩
  · obtain ⟨v, o, ho, hd⟩ := I.cell y c (sub y c h)
    exact ⟨v, o, k1 c o ho, hd⟩
  · have hp' : p ∈ X.pn ++ pins := by simpa using hp
    obtain ⟨a1, a2, a3, a4, a5⟩ := I.pin p hp'
    exact ⟨k1 _ _ a1, a2, Nat.ne_of_lt (Heap.lt_size a1), fun z => (List.mem_cons.mp (I.stkSub _ z)).elim a3 a4, a5⟩
  · have z := congrArg List.length B.slots
    simp only [List.length_map] at z
    simp [blk0, z]
end
section
variable {X : Cx} {pins : List (Addr × Obj)} {σ : St} {H : Hp} {s : Shared} {scope : Scope} {zs : List Str} {ys : List Str} {fr : List Nat} {fp : List Addr}
theorem Inv.unblkG {C : Addr} {s' : Shared} {h2 : Heap} {σ' : St} {H' : Hp} {pl : List (Addr × Obj)} (I : Inv X pins σ H s) (hf : ∀ b ∈ fp, FpOk X pins H b) (hC : s.heap.objs.size ≤ C) (J : Inv (X.blkG scope zs ys C fp s H (X.pn ++ pins)) pl σ' H' s') (sb : Heap.SameBut C s'.heap h2) :
    Inv X pins σ H' { s' with heap := h2 } := by
  have kp : ∀ b o, b ≠ C → s'.heap.get? b = some o → h2.get? b = some o := fun b o nb g => (sb.2 b nb).trans g
  have old : ∀ b o, s.heap.get? b = some o → b ≠ C := fun b o g => Nat.ne_of_lt (Nat.lt_of_lt_of_le (Heap.lt_size g) hC)
  have trk : ∀ b u, H' b = some u → b ≠ C := fun b u hb z => by
    have f : H' C = none := J.free
    rw [z, f] at hb
    cases hb
  refine I.call' (s' := { s' with heap := h2 }) J.os (ch := fp) ⟨fun b o e n hb hx => kp b o (old b o e) (J.base.keep b o e n hb hx), fun b o e n hb hx => ?_, fun b o e n hx => J.base.free b o e n hx, fun b o e hx => ?_, J.base.tups, J.base.frzs, J.base.tbls⟩ (fun b u hb => ?_) J.bare fun b hb => ?_
  · obtain ⟨sl, q⟩ := J.base.slot b o e n hb hx
    exact ⟨sl, kp b _ (old b o e) q⟩
  · obtain ⟨o', q⟩ := J.base.there b o e hx
    exact ⟨o', kp b o' (old b o e) q⟩
  · refine (J.hok b u hb).stay (fun c v hc q => ?_) (fun c q => q) fun c xs q => q
    rcases hc with rfl | hc
    · exact kp c v (trk c u hb) q
    · exact kp c v (trk c _ hc) q
  · obtain ⟨_, a1, _, a3, a4, a5⟩ := hf b hb
    exact ⟨a3, a1, a4, a5⟩
end
def GOk (n : Nat) (g : TG) : Prop := ∀ v σ H Q, g v σ H Q → g v σ H (fun σ' H' => Q σ' H' ∧ σ'.length = σ.length ∧ ∀ i, n ≤ i → σ'[i]? = σ[i]?)
theorem gok_name {i n : Nat} (h : i < n) : GOk n (gName i) := fun v σ H Q q => ⟨q, by simp, fun j hj => by rw [List.getElem?_set_ne (by omega)]⟩
def CompG (J : It) (n : Nat) (g : TG) (σ : St) (fr : List Nat) (tc : TT) (te : TE) (l : Addr) (H1 : Hp) (Q : VK) : Prop := ∃ W : Nat → Nat → List V → Hp → Prop, (∃ m, W 0 m [] (upd H1 l (.lst []))) ∧ ∀ i m xs H2, W i m xs H2 →
  (J.stop i H2 ∧ Q (.ref l) H2) ∨ (J.go i H2 ∧ ∀ v H3, J.yld i H2 v H3 → g v (blk0 σ fr n) H3 fun σ' H3' => tc σ' H3' fun b H4 => if b = true then
    (te σ' H4 fun y H5 => H5 l = some (.lst xs) ∧ xs.length < sizeLine ∧ ∃ m', m' < m ∧ W (i + 1) m' (xs ++ [y]) (upd H5 l (.lst (xs ++ [y])))) else ∃ m', m' < m ∧ W (i + 1) m' xs H4)
def tCompG (wi : TI) (n : Nat) (g : TG) (fr : List Nat) (tc : TT) (te : TE) : TE := fun σ H Q => wi σ H fun J H1 => ∀ l, H1 l = none → CompG J n g σ fr tc te l H1 Q
section
variable {X : Cx} {scope : Scope} {zs : List Str} {ys : List Str} {fr : List Nat} {elt iter tg : Expr} {g : TG} {ifs : List Expr} {px pos : Pos} {wi : TI} {tc : TT} {te : TE}
theorem comp_coreG {pins : List (Addr × Obj)} {s : Shared} {σ : St} {H : Hp} {Q : VK} {U : Option (Value → Sem Unit)} {R : Value → Shared → Prop} (hc : X.calm = true) (B : BlkG X scope zs ys fr) (hi : PI X tg iter wi) (hg : ∀ C ex s H pn, (∀ x ∈ zs, (relabel scope X.env).names.lookup x = some .local) → (zs ++ ys).Nodup → PG (X.blkG scope zs ys C ex s H pn) tg g) (gok : GOk zs.length g)
    (hif : ∀ C ex s H pn, PIf (X.blkG scope zs ys C ex s H pn) ifs tc) (he : ∀ C ex s H pn, PE (X.blkG scope zs ys C ex s H pn) elt te) (I : Inv X pins σ H s) (h : tCompG wi zs.length g fr tc te σ H Q)
    (fin : ∀ C l H' s' m, (X.s₀.heap.objs.size ≤ C ∧ C ≠ X.env.locals ∧ (∀ x c, X.env.cells.lookup x = some c → c ≠ C) ∧ ∀ p ∈ X.pn ++ pins, p.1 ≠ C) → H' C = none → s'.heap.Ns C m → (∀ h2, Heap.SameBut C s'.heap h2 → Inv X pins σ H' { s' with heap := h2 }) → Q (.ref l) H' → compPost (model X.prog X.w) X.A X.xe U R (.ref l) C (.ok .next) s') :
    wpAny (model X.prog X.w) X.A (eval iter X.env) (fun v s1 => wpAny (model X.prog X.w) X.A (pyIter v) (fun it s2 => wpAny (model X.prog X.w) X.A (newList []) (fun acc s3 =>
      wpAny (model X.prog X.w) X.A (newFunctionEnv scope X.env.globals (X.clo scope) [] X.env.qual none .none (some X.env)) (fun cenv s4 =>
        codeAny (model X.prog X.w) X.A (.compStart (.ListComp elt [⟨tg, iter, ifs, 0⟩] scope pos) 0 it acc { cenv with scope := relabel scope X.env }) (compPost (model X.prog X.w) X.A X.xe U R acc cenv.locals) s4) X.xe s3) X.xe s2) X.xe s1) X.xe s := by
  refine thn (hi pins s σ H _ I h) fun v s1 h1 => thn h1 fun itv s2 h2 => ?_
  obtain ⟨it, fp, tn, J, H2, rfl, I2, T, st2, f2, body⟩ := h2
  have hN : H2 s2.heap.objs.size = none := I2.hok.fresh (Nat.le_refl _)
  obtain ⟨W, ⟨m0, w0⟩, turn⟩ := body s2.heap.objs.size hN
  refine wpAny_newObj_type ?_
  generalize hs3 : ({ s2 with heap := s2.heap.push { cls := .type "list", data := .seq ([] : List Value).toArray } } : Shared) = s3
  have k3 : ∀ b o, s2.heap.get? b = some o → s3.heap.get? b = some o := fun b o g => by rw [← hs3]; exact Heap.get?_push_of_some _ g
  have I3 : Inv X pins σ (upd H2 s2.heap.objs.size (.lst [])) s3 := by
    rw [← hs3]
    exact I2.laid (t' := s2.toks) (fun b u e => Heap.get?_push_of_some _ e) (Nat.le_refl _) ⟨Nat.zero_le _, [], 0, .nil, Heap.get?_push_size _ rfl⟩
  have z2 : ∀ b ∈ fp, b < s2.heap.objs.size := fun b hb => by
    obtain ⟨o, g, _⟩ := T.obj 0 _ st2 b hb
    exact Heap.lt_size g
  have z3 : ∀ b ∈ fp, b < s3.heap.objs.size := fun b hb => by
    obtain ⟨o, g, _⟩ := T.obj 0 _ st2 b hb
    exact Heap.lt_size (k3 b o g)
  have f3 : ∀ b ∈ fp, FpOk X pins (upd H2 s2.heap.objs.size (.lst [])) b := fun b hb => ⟨by rw [upd_ne (Nat.ne_of_lt (z2 b hb))]; exact (f2 b hb).1, (f2 b hb).2⟩
  have st3 : tn 0 s3.heap := T.keep _ _ _ st2 fun b _ o g => k3 b o g
  refine wpAny_newFunctionEnv B.ncell (by intro y hy; simp at hy) (fun h1 n1 sb1 => ?_) B.kind
  have k4 : ∀ b o, s3.heap.get? b = some o → h1.get? b = some o := fun b o g => sb1.extBut b o (Nat.ne_of_lt (Heap.lt_size g)) (Heap.get?_push_of_some _ g)
  have I4 := I3.blkG (t' := s3.toks + ([] : List (Str × Value)).length) B f3 z3 n1 k4
  have st4 : tn 0 h1 := T.keep _ _ _ st3 fun b _ o g => k4 b o g
  have own' : ∀ x ∈ zs, (relabel scope X.env).names.lookup x = some .local := fun x hx => lookup_relabel_local (B.own x hx)
  -- the iterator's objects, through the loop
  have stat : ∀ {H' : Hp}, (∀ b ∈ fp, H' b = none) → ∀ b ∈ fp, FpOk (X.blkG scope zs ys s3.heap.objs.size fp s3 (upd H2 s2.heap.objs.size (.lst [])) (X.pn ++ pins)) [] H' b := fun hn b hb => by
    obtain ⟨_, a1, a2, a3, a4, a5⟩ := f3 b hb
    exact ⟨hn b hb, Nat.ne_of_lt (z3 b hb), fun z => (List.mem_cons.mp (I3.stkSub b z)).elim a1 a2, .inl hb, fun y c h => a4 y c (B.sub I3 h), fun p hp => a5 p (by simpa using hp)⟩
  have loop : ∀ s4 : Shared, s4 = { s3 with heap := h1, toks := s3.toks + ([] : List (Str × Value)).length } →
      codeAny (model X.prog X.w) X.A (.compLoop (.ListComp elt [⟨tg, iter, ifs, 0⟩] scope pos) 0 (.ref it) (.ref s2.heap.objs.size) (compEnvC scope (X.clo scope) s3.heap.objs.size X.env))
        (compPost (model X.prog X.w) X.A X.xe U R (.ref s2.heap.objs.size) s3.heap.objs.size) s4 := by
    rintro s4 rfl
    refine compLoop_testsG (fun n s' => ∃ i xs H', Inv (X.blkG scope zs ys s3.heap.objs.size fp s3 (upd H2 s2.heap.objs.size (.lst [])) (X.pn ++ pins)) [] (blk0 σ fr zs.length) H' s' ∧ tn i s'.heap ∧ (∀ b ∈ fp, H' b = none) ∧ W i n xs H') ?_ m0
      ⟨0, [], _, I4, st4, fun b hb => (f3 b hb).1, w0⟩
    rintro n s5 ⟨i, xs, H5, I5, st5, fr5, w5⟩
    rcases turn i n xs H5 w5 with ⟨stop, q⟩ | ⟨go, step⟩
    · refine wpAny_mono (T.done (X.blkG scope zs ys s3.heap.objs.size fp s3 (upd H2 s2.heap.objs.size (.lst [])) (X.pn ++ pins)) rfl rfl rfl hc i [] s5 _ H5 (fun _ _ => False) I5 (stat fr5) st5 stop) (fun r s6 ⟨hr, I6⟩ => ?_) fun _ _ z => z.elim
      subst hr
      obtain ⟨m, hm, _⟩ := I6.loc
      exact fin _ _ H5 s6 m ⟨I3.sz, (I3.size_lt (Nat.le_refl _)).2⟩ I6.free hm (fun h2 sb => I3.unblkG f3 (Nat.le_refl _) I6 sb) q
    · refine wpAny_mono (T.item (X.blkG scope zs ys s3.heap.objs.size fp s3 (upd H2 s2.heap.objs.size (.lst [])) (X.pn ++ pins)) rfl rfl rfl hc i [] s5 _ H5 (fun _ _ => False) I5 (stat fr5) st5 go) (fun r s6 ⟨u, hr, h6⟩ => ?_) fun _ _ z => z.elim
      subst hr
      refine wpAny_mono h6 (fun _ s7 ⟨y, H7, I7, r7, y7, st7, fr7⟩ => ?_) fun _ _ z => z.elim
      have I7' := I7.pinned (stat fr7) (T.obj _ _ st7)
      refine wpAny_mono (hg _ _ _ _ _ own' B.ndb _ s7 _ H7 y u _ I7' r7 (gok _ _ _ _ (step y H7 y7))) (fun _ s8 ⟨σ8, H8, I8, q8, l8, k8⟩ => ?_) fun _ _ z => z.elim
      have back : ∀ {s9 : Shared} {H9 : Hp} {xs' : List V}, Inv (X.blkG scope zs ys s3.heap.objs.size fp s3 (upd H2 s2.heap.objs.size (.lst [])) (X.pn ++ pins)) ([] ++ pinsAt fp s7.heap) σ8 H9 s9 → (∃ m', m' < n ∧ W (i + 1) m' xs' H9) →
          ∃ m, m < n ∧ ∃ i xs H', Inv (X.blkG scope zs ys s3.heap.objs.size fp s3 (upd H2 s2.heap.objs.size (.lst [])) (X.pn ++ pins)) [] (blk0 σ fr zs.length) H' s9 ∧ tn i s9.heap ∧ (∀ b ∈ fp, H' b = none) ∧ W i m xs H' := fun {s9 H9 xs'} I9 ⟨m', lt, w9⟩ => by
        refine ⟨m', lt, i + 1, xs', H9, I9.unpinned.weak l8.symm (fun j v e => ?_), T.keep _ _ _ st7 fun b hb o e => (I9.pin (b, o) (List.mem_append_right _ (List.mem_append_right _ (mem_pinsAt hb e)))).1, fun b hb => ?_, w9⟩
        · by_cases lj : j < zs.length
          · unfold blk0 at e
            rw [List.getElem?_append_left (by rw [List.length_replicate]; exact lj), List.getElem?_replicate] at e
            split at e <;> cases e
          · rw [k8 j (by omega)]
            exact e
        obtain ⟨o, e, d⟩ := T.obj _ _ st7 b hb
        exact (I9.pin (b, o) (List.mem_append_right _ (List.mem_append_right _ (mem_pinsAt hb e)))).2.1
      refine wpAny_mono (hif _ _ _ _ _ _ s8 _ H8 _ I8 q8) (fun ok s9 ⟨H9, I9, q9⟩ => ?_) fun _ _ z => z.elim
      cases ok with
      | false =>
        rw [if_neg (by decide)] at q9 ⊢
        exact back I9 q9
      | true =>
        rw [if_pos rfl] at q9 ⊢
        refine wpAny_mono (he _ _ _ _ _ _ s9 _ H9 _ I9 q9) (fun ev s10 ⟨yv, H10, I10, r10, hl, len, w10⟩ => ?_) fun _ _ z => z.elim
        refine wpAny_mono (mt_append (X := X.blkG scope zs ys s3.heap.objs.size fp s3 (upd H2 s2.heap.objs.size (.lst [])) (X.pn ++ pins)) _ s10 _ H10 (.ref s2.heap.objs.size) [yv] (.ref s2.heap.objs.size) [ev] (fun v H' => H' = upd H10 s2.heap.objs.size (.lst (xs ++ [yv]))) I10 rfl (.cons r10 .nil) ⟨_, xs, yv, rfl, rfl, hl, len, rfl⟩)
          (fun _ s11 ⟨_, H11, I11, _, e11⟩ => ?_) fun _ _ z => z.elim
        subst e11
        exact back I11 w10
  exact codeAny_compStart_list (loop _ rfl) (T.self _ 0 _ _ _ st4 (loop _ rfl))
theorem pe_compG (hc : X.calm = true) (B : BlkG X scope zs ys fr) (hi : PI X tg iter wi) (hg : ∀ C ex s H pn, (∀ x ∈ zs, (relabel scope X.env).names.lookup x = some .local) → (zs ++ ys).Nodup → PG (X.blkG scope zs ys C ex s H pn) tg g) (gok : GOk zs.length g) (hif : ∀ C ex s H pn, PIf (X.blkG scope zs ys C ex s H pn) ifs tc) (he : ∀ C ex s H pn, PE (X.blkG scope zs ys C ex s H pn) elt te)
    (hs : ∀ x, foldedSetIterable iter X.env x = pure x := by intro _; rfl) : PE X (.ListComp elt [⟨tg, iter, ifs, 0⟩] scope pos) (tCompG wi zs.length g fr tc te) := by
  intro pins s σ H Q I h
  rw [eval_ListComp]
  refine wpAny_comprehension_free (use := none) rfl hs (clo_of (B.cells I)) B.kind B.names (comp_coreG hc B hi hg gok hif he I h fun C l H' s' m _ _ hm iv q => ?_)
  exact ⟨m, hm, fun h2 sb => ⟨.ref l, H', iv h2 sb, rfl, q⟩⟩
theorem ps_setcG {j : Nat} {y : Str} {py spos : Pos} (hc : X.calm = true) (B : BlkG X scope zs ys fr) (hi : PI X tg iter wi) (hg : ∀ C ex s H pn, (∀ x ∈ zs, (relabel scope X.env).names.lookup x = some .local) → (zs ++ ys).Nodup → PG (X.blkG scope zs ys C ex s H pn) tg g) (gok : GOk zs.length g) (hif : ∀ C ex s H pn, PIf (X.blkG scope zs ys C ex s H pn) ifs tc) (he : ∀ C ex s H pn, PE (X.blkG scope zs ys C ex s H pn) elt te)
    (hj : X.N[j]? = some y) (hy : Loc X.env.scope y) (hf : X.fn y = true ∨ X.env.scope.names.lookup y = some .local := by first | exact .inl rfl | exact .inr rfl | assumption)
    (hsw : swapsWith (.ListComp elt [⟨tg, iter, ifs, 0⟩] scope pos) (some (.Name y py)) spos.line X.env = pure true := by rfl)
    (hs : ∀ x, foldedSetIterable iter X.env x = pure x := by intro _; rfl) : PS X (.Assign [.Name y py] (.ListComp elt [⟨tg, iter, ifs, 0⟩] scope pos) spos) (tAsg (tCompG wi zs.length g fr tc te) (gName j)) := by
  intro pins s σ H D I h
  rw [exec_Assign_Name_used _ _ _ _ hsw]
  refine wpAny_bind (wpAny_standAt (wpAny_bind ?_))
  show wpAny _ _ (do let _ ← comprehension (.ListComp elt [⟨tg, iter, ifs, 0⟩] scope pos) scope X.env _ (newList []) false (eval iter X.env) (some (assign (.Name y py) X.env))) _ _ s
  refine wpAny_bind (wpAny_mono (wpAny_comprehension_free (use := some (assign (.Name y py) X.env)) (Q := fun _ s' => SP X pins D .next s') rfl hs (clo_of (B.cells I)) B.kind B.names
    (comp_coreG hc B hi hg gok hif he I h fun C l H' s' m hC hn hm iv q => ?_)) (fun _ s' z => wpAny_pure (wpAny_pure z)) fun _ _ e => e)
  show wpAny _ _ (assign (.Name y py) X.env (.ref l)) _ _ _
  have J : Inv X pins σ H' s' := iv s'.heap (.refl ..)
  refine wpAny_assign_Name (store_ok2 (v := V.ref l) J B.nd hj hy rfl (fun s2 J2 ⟨a, sb, ha⟩ => ?_) hf)
  have na : a ≠ C := by
    rcases ha with z | z
    · rw [z]; exact Ne.symm hC.2.1
    · exact hC.2.2.1 _ _ z
  refine ⟨m, ?_, fun h2 s3 => ?_⟩
  · obtain ⟨o, es, ep, g, r⟩ := hm
    exact ⟨o, es, ep, (sb.2 C (Ne.symm na)).trans g, r⟩
  · exact ⟨_, H', J2.turned (t' := s2.toks) (fun b o nb g => (s3.2 b nb).trans g) hn (hC.2.1) (.inr hC.1) hC.2.2.1 hC.2.2.2, q⟩
end
def blkOkG (scope sc0 : Scope) (N0 : List Str) (zs : List Str) (ys : List Str) (fr : List Nat) : Bool :=
  scope.kind == .function && zs.all (fun x => scope.names.lookup x == some .local) && scope.names.all (fun y => y.2 != .cell) && scope.names.all (fun y => y.2 != .local || scope.names.lookup y.1 == some .local) &&
  (frees scope).all (fun n => sc0.names.lookup n == some .cell) && fr.map (fun i => N0[i]?) == ys.map some && ys.all (fun y => scope.names.lookup y == some .free) && decide N0.Nodup && decide (zs ++ ys).Nodup
theorem blkG_of {X : Cx} {scope sc0 : Scope} {N0 : List Str} {zs : List Str} {ys : List Str} {fr : List Nat} (chk : blkOkG scope sc0 N0 zs ys fr = true) (es : X.env.scope = sc0) (eN : X.N = N0) (st : X.stack = X.env :: X.outer) : BlkG X scope zs ys fr := by
  unfold blkOkG at chk
  simp only [Bool.and_eq_true, beq_iff_eq, List.all_eq_true, decide_eq_true_eq] at chk
  obtain ⟨⟨⟨⟨⟨⟨⟨⟨a1, a2⟩, a3⟩, a4⟩, a5⟩, a6⟩, a7⟩, a8⟩, a9⟩ := chk
  have nc : ∀ y ∈ scope.names, y.2 ≠ .cell := fun y hy => by simpa using a3 y hy
  refine ⟨a1, a2, nc, fun y hy hl => ?_, fun n hn => by rw [es]; exact a5 n hn, fun n h => relab_has nc n h, by rw [eN]; exact a6, fun y hy => ?_, fun y hy => relab_free (a7 y hy), st, by rw [eN]; exact a8, a9⟩
  · have z := a4 y hy
    rw [hl] at z
    simpa using z
  · exact List.mem_map.mpr ⟨(y, .free), List.mem_filter.mpr ⟨PySem.mem_of_lookup (a7 y hy), by simp⟩, rfl⟩
theorem gok_tup {K : PySem.W.Frag} {m n : Nat} {t : TGs} (h : ∀ vs σ H Q, t vs σ H Q → t vs σ H (fun σ' H' => Q σ' H' ∧ σ'.length = σ.length ∧ ∀ i, n ≤ i → σ'[i]? = σ[i]?)) : GOk n (gTup K m t) := fun v σ H Q q => by
  obtain ⟨a, xs, e, hs, hl, q⟩ := q
  exact ⟨a, xs, e, hs, hl, h _ _ _ _ q⟩
theorem goks_nil {n : Nat} : ∀ vs σ H Q, gNil vs σ H Q → gNil vs σ H (fun σ' H' => Q σ' H' ∧ σ'.length = σ.length ∧ ∀ i, n ≤ i → σ'[i]? = σ[i]?) := fun vs σ H Q q => ⟨q.1, q.2, rfl, fun _ _ => rfl⟩
theorem goks_cons {i n : Nat} (hi : i < n) {t : TGs} (h : ∀ vs σ H Q, t vs σ H Q → t vs σ H (fun σ' H' => Q σ' H' ∧ σ'.length = σ.length ∧ ∀ i, n ≤ i → σ'[i]? = σ[i]?)) :
    ∀ vs σ H Q, gCons (gName i) t vs σ H Q → gCons (gName i) t vs σ H (fun σ' H' => Q σ' H' ∧ σ'.length = σ.length ∧ ∀ i, n ≤ i → σ'[i]? = σ[i]?) := fun vs σ H Q q => by
  obtain ⟨v, r, e, q⟩ := q
  refine ⟨v, r, e, ?_⟩
  have z := h _ _ _ _ q
  have e2 : ∀ (j : Nat), n ≤ j → (σ.set i (some v))[j]? = σ[j]? := fun j hj => by rw [List.getElem?_set_ne (by omega)]
  have e1 : (σ.set i (some v)).length = σ.length := by simp
  have key : (fun σ' H' => Q σ' H' ∧ σ'.length = (σ.set i (some v)).length ∧ ∀ j, n ≤ j → σ'[j]? = (σ.set i (some v))[j]?) = (fun σ' (H' : Hp) => Q σ' H' ∧ σ'.length = σ.length ∧ ∀ j, n ≤ j → σ'[j]? = σ[j]?) := by
    funext σ' H'
    rw [e1]
    refine propext ⟨fun ⟨a, b, c⟩ => ⟨a, b, fun j hj => (c j hj).trans (e2 j hj)⟩, fun ⟨a, b, c⟩ => ⟨a, b, fun j hj => (c j hj).trans (e2 j hj).symm⟩⟩
  rw [key] at z
  exact z
theorem compG_by {J : It} {n : Nat} {g : TG} {σ : St} {fr : List Nat} {tc : TT} {te : TE} {l : Addr} {H1 : Hp} {Q : VK} (len : Nat) (Pv : Nat → List V → Hp → Prop) (h0 : Pv 0 [] (upd H1 l (.lst []))) (hgo : ∀ i xs H, i < len → Pv i xs H → J.go i H)
    (step : ∀ i xs H2 v H3, i < len → Pv i xs H2 → J.yld i H2 v H3 → ∀ N : List V → Hp → Prop, (∀ xs' H', Pv (i + 1) xs' H' → N xs' H') → g v (blk0 σ fr n) H3 fun σ' H3' => tc σ' H3' fun b H4 => if b = true then
      (te σ' H4 fun y H5 => H5 l = some (.lst xs) ∧ xs.length < sizeLine ∧ N (xs ++ [y]) (upd H5 l (.lst (xs ++ [y])))) else N xs H4)
    (fin : ∀ xs H2, Pv len xs H2 → J.stop len H2 ∧ Q (.ref l) H2) : CompG J n g σ fr tc te l H1 Q := by
  refine ⟨fun i m xs H => m = len - i ∧ i ≤ len ∧ Pv i xs H, ⟨len, by simp, Nat.zero_le _, h0⟩, ?_⟩
  rintro i m xs H2 ⟨rfl, hi, p⟩
  by_cases lt : i < len
  · exact .inr ⟨hgo i xs H2 lt p, fun v H3 y => step i xs H2 v H3 lt p y (fun xs' H' => ∃ m', m' < len - i ∧ m' = len - (i + 1) ∧ i + 1 ≤ len ∧ Pv (i + 1) xs' H') fun xs' H' q => ⟨_, by omega, rfl, lt, q⟩⟩
  · have e : i = len := by omega
    subst e
    exact .inl (fin xs H2 p)
end L2
set_option maxRecDepth 100000
namespace L2
open PySem PySem.Spec PyProof.Rows XL
variable {q0 : Bool}
section
variable {X : Cx} {pins : List (Addr × Obj)} {σ : St} {H : Hp} {s : Shared}
theorem Inv.adopt {p : Addr} {o : HO} (I : Inv X pins σ H s) (n : H p = none) (h0 : X.s₀.heap.objs.size ≤ p) (hL : p ≠ X.env.locals) (hC : ∀ x c, X.env.cells.lookup x = some c → c ≠ p) (hp : ∀ q ∈ X.pn ++ pins, q.1 ≠ p)
    (new : ObjOk X.prog X.w (upd H p o) s.heap p o) : Inv X pins σ (upd H p o) s := by
  have ne : ∀ b u, H b = some u → b ≠ p := fun b u e => ne_of_none e n
  refine ⟨I.ok, I.os, I.bare, ⟨I.base.keep, I.base.slot, fun b ob e hn hx => ?_, I.base.there, fun b xs e => ?_, fun b ob u e => ?_, fun b ps e => ?_⟩, I.loc, I.cell, ?_, fun x c e => ?_, fun q hq => ?_, fun b u e => ?_, I.len⟩
  · rw [upd_ne (Nat.ne_of_lt (Nat.lt_of_lt_of_le (Heap.lt_size e) h0))]
    exact I.base.free b ob e hn hx
  · have z := I.base.tups b xs e
    rw [upd_ne (ne b _ z)]
    exact z
  · have z := I.base.frzs b ob u e
    rw [upd_ne (ne b _ z)]
    exact z
  · obtain ⟨m, z⟩ := I.base.tbls b ps e
    exact ⟨m, by rw [upd_ne (ne b _ z)]; exact z⟩
  · rw [upd_ne (Ne.symm hL)]
    exact I.free
  · rw [upd_ne (hC x c e)]
    exact I.freeC x c e
  · obtain ⟨a1, a2, a3⟩ := I.pin q hq
    exact ⟨a1, by rw [upd_ne (hp q hq)]; exact a2, a3⟩
  · by_cases hb : b = p
    · subst hb
      rw [upd_same] at e
      cases e
      exact new
    · rw [upd_ne hb] at e
      exact (I.hok b u e).stay (fun c v _ q => q) (fun c q => by rw [upd_ne (ne c _ q)]; exact q) fun c xs q => by rw [upd_ne (ne c _ q)]; exact q
theorem Inv.thaw {d : Addr} {o : Obj} {u : HO} (I : Inv X pins σ H s) (e : H d = some (.frz o u)) (nf : ∀ o' u', X.H₀ d ≠ some (.frz o' u')) : Inv X pins σ (upd H d u) s := by
  have ne : ∀ b v, H b = some v → (∀ o' u', v ≠ .frz o' u') → b ≠ d := fun b v h1 h2 z => by
    subst z
    rw [e] at h1
    cases h1
    exact h2 _ _ rfl
  have ne0 : ∀ b, H b = none → b ≠ d := fun b h1 z => by
    subst z
    rw [e] at h1
    cases h1
  refine ⟨I.ok, I.os, I.bare, ⟨I.base.keep, I.base.slot, fun b ob q hn hx => ?_, I.base.there, fun b xs q => ?_, fun b ob v q => ?_, fun b ps q => ?_⟩, I.loc, I.cell, ?_, fun x c q => ?_, fun p hp => ?_, fun b v q => ?_, I.len⟩
  · have z := I.base.free b ob q hn hx
    rw [upd_ne (ne0 b z)]
    exact z
  · have z := I.base.tups b xs q
    rw [upd_ne (ne b _ z (fun _ _ h => nomatch h))]
    exact z
  · have z := I.base.frzs b ob v q
    have hb : b ≠ d := fun w => by
      subst w
      exact nf _ _ q
    rw [upd_ne hb]
    exact z
  · obtain ⟨m, z⟩ := I.base.tbls b ps q
    exact ⟨m, by rw [upd_ne (ne b _ z (fun _ _ h => nomatch h))]; exact z⟩
  · rw [upd_ne (ne0 _ I.free)]
    exact I.free
  · rw [upd_ne (ne0 _ (I.freeC x c q))]
    exact I.freeC x c q
  · obtain ⟨a1, a2, a3⟩ := I.pin p hp
    exact ⟨a1, by rw [upd_ne (ne0 _ a2)]; exact a2, a3⟩
  · have st : ∀ (a : Addr) (v : HO), ObjOk X.prog X.w H s.heap a v → ObjOk X.prog X.w (upd H d u) s.heap a v := fun a v k =>
      k.stay (fun c v _ q => q) (fun c q => by rw [upd_ne (ne c _ q (fun _ _ h => nomatch h))]; exact q) fun c xs q => by rw [upd_ne (ne c _ q (fun _ _ h => nomatch h))]; exact q
    by_cases hb : b = d
    · subst hb
      rw [upd_same] at q
      cases q
      obtain ⟨g, ok⟩ := I.hok b _ e
      exact st _ _ ok
    · rw [upd_ne hb] at q
      exact st _ _ (I.hok b v q)
theorem Inv.nofrz {d : Addr} {kvs : List (Key × V)} (I : Inv X pins σ H s) (e : H d = some (.dK kvs)) : ∀ o' u', X.H₀ d ≠ some (.frz o' u') := fun o' u' z => by
  have q := I.base.frzs d o' u' z
  rw [e] at q
  cases q
theorem KV.get : ∀ {kvs : List (Key × V)} {vs : List (Key × Value)} {i : Nat} {k : Key} {x : V}, KV kvs vs → kvs[i]? = some (k, x) → ∃ u, vs[i]? = some (k, u) ∧ RelV x u
  | _, _, _, _, _, .nil, e => by simp at e
  | _, (_, _) :: _, 0, _, _, .cons r _, e => by
    simp at e
    subst e
    obtain ⟨r1, r2⟩ := r
    dsimp only at r1 r2
    subst r1
    exact ⟨_, rfl, r2⟩
  | _, _, i + 1, k, x, .cons _ t, e => by
    obtain ⟨u, h1, h2⟩ := KV.get (i := i) (k := k) (x := x) t (by simpa using e)
    exact ⟨u, by simpa using h1, h2⟩
theorem kV_rel {P : Program} {w : World} {k : Key} {u : Value} (h : (mixKind P w).is k u = true) : RelV (kV k) u := by
  rcases keyIs_shape (show keyIs k u = true from h) with ⟨i, t, rfl, rfl⟩ | ⟨x, t, rfl, rfl⟩
  · exact ⟨t, rfl⟩
  · exact ⟨t, rfl⟩
theorem frz_at {d : Addr} {o : Obj} {kvs : List (Key × V)} {ep : Nat} (I : Inv X pins σ H s) (e : H d = some (.frz o (.dK kvs))) (hep : ∃ es, o.data = .dict es ep) : ∃ vs, KV kvs vs ∧ s.heap.DictAt (mixKind X.prog X.w) d vs ep := by
  obtain ⟨g, _, _, vs, rel, o', es', ep', g', ex, hdat, hk, hp, hn⟩ := I.hok d _ e
  rw [g] at g'
  cases g'
  obtain ⟨es, he⟩ := hep
  rw [he] at hdat
  cases hdat
  exact ⟨vs, rel, o, _, g, ex, he, hk, hp, hn⟩
end
def Iti (d : Addr) (o : Obj) (kvs : List (Key × V)) : It :=
  ⟨fun i H => H d = some (.frz o (.dK kvs)) ∧ i < kvs.length, fun i H v H' => ∃ p k x, kvs[i]? = some (k, x) ∧ v = .ref p ∧ H p = none ∧ H' = upd H p (.tup [kV k, x]), fun i H => H d = some (.frz o (.dK kvs)) ∧ kvs.length ≤ i⟩
theorem turn_items {P : Program} {w : World} {K : PySem.W.Frag} {elts : List Expr} {x1} {tpos : Pos} (d it : Addr) (o : Obj) (kvs : List (Key × V)) (ep : Nat) (hep : ∃ es, o.data = .dict es ep) :
    Turn P w K (.Tuple elts x1 tpos) (Iti d o kvs) [it] it (fun i h => ∃ ok ov, IsItemIter h it d i kvs.length ep ok ov) where
  mem := by simp
  obj := fun i h st b hb => by
    have e : b = it := by simpa using hb
    subst e
    obtain ⟨ok, ov, st⟩ := st
    exact ⟨_, st, fun v z => by
      have z' : Data.fields _ = Data.cell v := z
      cases z'⟩
  keep := fun i h h' ⟨ok, ov, st⟩ k => ⟨ok, ov, k it (by simp) _ st⟩
  item := by
    intro X hP hw hK hc i pins s σ H E I hf st hg
    subst hP hw hK
    obtain ⟨ok, ov, st⟩ := st
    obtain ⟨e, lt⟩ := hg
    obtain ⟨vs, rel, da⟩ := frz_at I e hep
    obtain ⟨f0, f1, f2, f3, f4, f5⟩ := hf it (by simp)
    have hl : kvs.length = vs.length := rel.length
    obtain ⟨⟨k, x⟩, q⟩ : ∃ y, kvs[i] = y := ⟨_, rfl⟩
    have hx : kvs[i]? = some (k, x) := by rw [List.getElem?_eq_getElem lt, q]
    obtain ⟨u, hv, ru⟩ := rel.get hx
    rw [hl] at st
    refine wpAny_pyNext_items_item st da hv fun key h' hkey hout ht hz hkp => ?_
    refine ⟨_, rfl, wpAny_letOwnedTupleGo_items hout fun h'' hit' hsb => ?_⟩
    have kk : ∀ b o, b ≠ it → s.heap.get? b = some o → h''.get? b = some o := fun b o hb g => (hsb.2 b hb).trans (hkp b o hb g)
    have I1 : Inv X pins σ H { s with heap := h'' } := I.turned (t' := s.toks) kk f0 f1 f3 f4 f5
    obtain ⟨n0, nL, nC, nP⟩ := I.size_lt (Nat.le_refl s.heap.objs.size)
    have itlt : it < s.heap.objs.size := Heap.lt_size st
    have pne : s.heap.objs.size ≠ it := Nat.ne_of_gt itlt
    have hp : h''.get? s.heap.objs.size = some { cls := .type "tuple", data := .seq #[key, u] } := (hsb.2 _ pne).trans ht
    refine ⟨.ref s.heap.objs.size, upd H s.heap.objs.size (.tup [kV k, x]), I1.adopt n0 I.sz nL nC nP ⟨by show 2 ≤ sizeLine; decide, [key, u], .cons (kV_rel hkey) (.cons ru .nil), _, hp, rfl, _, rfl⟩, rfl, ⟨_, k, x, hx, rfl, n0, rfl⟩, ?_, fun b hb => ?_⟩
    · rw [← hl] at hit'
      exact ⟨_, _, hit'⟩
    · have e : b = it := by simpa using hb
      subst e
      rw [upd_ne (Ne.symm pne)]
      exact f0
  done := by
    intro X hP hw hK hc i pins s σ H E I hf st hg
    subst hP hw hK
    obtain ⟨ok, ov, st⟩ := st
    obtain ⟨e, le⟩ := hg
    obtain ⟨vs, rel, da⟩ := frz_at I e hep
    obtain ⟨f0, f1, f2, f3, f4, f5⟩ := hf it (by simp)
    have hl : kvs.length = vs.length := rel.length
    rw [hl] at st
    exact wpAny_pyNext_items_end (I.ok.hd hc) st da (by simpa using (by omega : vs.length ≤ i)) fun h' eb => ⟨rfl, I.turned (t' := s.toks) (fun b o hb e => eb b o hb e) f0 f1 f3 f4 f5⟩
  self := fun _ _ _ _ _ ⟨ok, ov, st⟩ h => PySem.W.kcp_self st h
def iItems (X : Cx) (to : TE) : TI := fun σ H R => to σ H fun x H1 => ∃ d kvs, x = .ref d ∧ H1 d = some (.dK kvs) ∧ ∀ ob, (∀ o' u', X.H₀ d ≠ some (.frz o' u')) → R (Iti d ob kvs) (upd H1 d (.frz ob (.dK kvs)))
section
variable {X : Cx} {o : Expr} {to : TE} {elts : List Expr} {x1 : _} {tpos apos cpos : Pos}
theorem pi_items (ho : PE X o to) (hbase : attributeBase o "items" X.env (eval o X.env) = eval o X.env := by rfl) (hline : (apos.endLine == cpos.line) = true := by rfl) :
    PI X (.Tuple elts x1 tpos) (.Call (.Attribute o "items" apos) [] [] cpos) (iItems X to) := by
  intro pins s σ H R I h
  refine wpAny_Call_method0_late hbase hline (thn (ho pins s σ H _ I h) fun v s1 ⟨x, H1, I1, r1, q1⟩ => ?_)
  obtain ⟨d, kvs, e1, e, q⟩ := q1
  subst e1
  cases r1
  obtain ⟨z, hd, vs, rel, dd⟩ := dk_of I1.hok e
  obtain ⟨ob, es, ep, g, ex, hdat, hk, hp, hn⟩ := id dd
  refine ⟨"dict", "dict.items", PySem.F.plainAttrs_dict, PySem.F.slot_dict_items, PySem.F.type_dict_items, dd.typeIs, fun a e2 => ?_, Calls.callWith_builtin rfl (PySem.evalArgs_none ?_)⟩
  · cases e2
    exact ⟨ob, g, ex.2.1⟩
  refine call_meetsIn PySem.F.slot_dict_items dd.typeIs PySem.F.entry_dict_items (PySem.F.args_dict_items_1 _) (meets_dict_items (mixKind X.prog X.w) d hd) ⟨⟨vs, dd⟩, ?_⟩
  have da : (s1.heap.push { cls := .type "dict_items", data := .fields #[.ref d] }).DictAt (mixKind X.prog X.w) d vs ep := ⟨ob, es, Heap.get?_push_of_some _ g, ex, hdat, hk, hp, hn⟩
  refine wpAny_pyIter_items (s := { s1 with heap := s1.heap.push { cls := .type "dict_items", data := .fields #[.ref d] } }) ⟨_, Heap.get?_push_size _ rfl, rfl, rfl⟩ da ?_
  have I2 : Inv X pins σ H1 { s1 with heap := s1.heap.push { cls := .type "dict_items", data := .fields #[.ref d] } } := I1.kept (t' := s1.toks) fun b o e => Heap.get?_push_of_some _ e
  generalize hs2 : ({ s1 with heap := s1.heap.push { cls := .type "dict_items", data := .fields #[.ref d] } } : Shared) = s2 at I2
  have g2 : s2.heap.get? d = some ob := by rw [← hs2]; exact Heap.get?_push_of_some _ g
  have I3 : Inv X pins σ (upd H1 d (.frz ob (.dK kvs))) s2 := I2.write (t' := s2.toks) (x := d) (e := d) (by rw [e]; exact True.intro) (.inl rfl) (fun b u _ q => q) ⟨ob, g2⟩ ⟨g2, I2.hok d _ e⟩
  have I4 : Inv X pins σ (upd H1 d (.frz ob (.dK kvs))) { s2 with heap := s2.heap.push { cls := .type "dict_itemiterator", data := .fields #[.none, .bool false, .ref d, .int 0 0, .int vs.length 0, .int ep 0, .none, .none] } } :=
    I3.kept (t' := s2.toks) fun b o e => Heap.get?_push_of_some _ e
  have fin : PIE X pins σ (.Tuple elts x1 tpos) R (.ref s2.heap.objs.size) { s2 with heap := s2.heap.push { cls := .type "dict_itemiterator", data := .fields #[.none, .bool false, .ref d, .int 0 0, .int vs.length 0, .int ep 0, .none, .none] } } := by
    refine ⟨s2.heap.objs.size, [s2.heap.objs.size], _, _, upd H1 d (.frz ob (.dK kvs)), rfl, I4, turn_items d _ ob kvs ep ⟨es, hdat⟩, ⟨.none, .none, ?_⟩, fun b hb => ?_, q ob (I1.nofrz e)⟩
    · have hl : kvs.length = vs.length := rel.length
      show IsItemIter _ _ d 0 kvs.length ep .none .none
      rw [hl]
      exact Heap.get?_push_size _ rfl
    · have eb : b = s2.heap.objs.size := by simpa using hb
      subst eb
      exact I3.fpOk (Nat.le_refl _) (I3.hok.fresh (Nat.le_refl _))
  exact fin
theorem thaw_end {pins : List (Addr × Obj)} {σ : St} {Q : VK} {u : Value} {s : Shared} (h : EP X pins σ (fun v H2 => ∃ d ob u, H2 d = some (.frz ob u) ∧ (∀ o' u', X.H₀ d ≠ some (.frz o' u')) ∧ Q v (upd H2 d u)) u s) : EP X pins σ Q u s := by
  obtain ⟨v, H2, I2, r2, d, ob, u', e, nf, q⟩ := h
  exact ⟨v, _, I2.thaw e nf, r2, q⟩
theorem pe_thaw {e : Expr} {t : TE} (h : PE X e t) : PE X e (fun σ H Q => t σ H fun v H2 => ∃ d ob u, H2 d = some (.frz ob u) ∧ (∀ o' u', X.H₀ d ≠ some (.frz o' u')) ∧ Q v (upd H2 d u)) := fun pins s σ H Q I q =>
  thn (h pins s σ H _ I q) fun _ _ z => thaw_end z
end
end L2
set_option maxRecDepth 100000
namespace PySem.F
theorem xl_plain_dict_loop : plainId "dict.update.loop" = true := by decide +kernel
theorem xl_entry_dict_loop : entryFor table "dict.update.loop" = some Builtin.«dict.update.loop» := entryFor_of_tree (by kernel_rfl)
theorem xl_list_nokeys : typeLookup (.type "list") "keys" = pure none := by rw [typeLookup_type, builtinLookup_eq_fast]; kernel_rfl
end PySem.F
namespace L2
open PySem PySem.Spec PyProof.Rows XL
variable {q0 : Bool}
theorem keys_miss {prog : Program} {w : World} {A : Around} {E : Value → Shared → Prop} {s : Shared} {a : Addr} {o : Obj} {xs : Array Value} {k : Nat} {Q : Option Value → Shared → Prop}
    (hx : s.heap.get? a = some o) (hc : o.cls = .type "list") (hdat : o.data = .seq xs k) (hd : o.dict = none) (hA : A.handled = none)
    (h : ∀ h' tk, (∀ b o, s.heap.get? b = some o → h'.get? b = some o) → Q none { s with heap := h', toks := tk }) : wpAny (model prog w) A (getAttr? (.ref a) "keys") Q E s := by
  obtain ⟨c, dct, dat, sl⟩ := o
  simp only at hc hdat hd
  subst hc hdat hd
  obtain ⟨hp, g, d, tk, os⟩ := s
  have hT : ∀ tk', (⟨hp, g, d, tk', os⟩ : Shared).TypeIs (.ref a) "list" := fun _ => ⟨_, hx, rfl⟩
  have f1 := sub_AttributeError
  have f3 := F.slot_list_getattribute.lookup
  have f4 := F.slot_list_getattribute.bind (.ref a)
  have f5 := am_list_getattr_none
  unfold getAttr? getAttrBy? getAttrBy
  repeat (any_goals (first | assumption | exact hT _ | ((with_reducible show wpAny _ _ (call (Value.builtin "list.__getattribute__") _ _) _ _ _); refine call_meets F.slot_list_getattribute (hT _) am_entry_list_getattribute (F.args_list_getattribute_2 _ _) (meets_getattribute_miss_list a xs k sl "keys" _ F.xl_list_nokeys (by decide +kernel) (by size_fits)) ⟨hx, hA, fun h' tk' e hx' => ?_⟩) | wp_step))
  obtain ⟨t', u', he⟩ := hx'.there
  have hk := hx'.of.keeps
  show wpAny _ _ (getattributeRaised _ _ _ _ _ _ _) _ _ _
  unfold getattributeRaised
  repeat (any_goals (first | assumption | wp_step))
  exact h _ _ hk
section
variable {X : Cx} {pins : List (Addr × Obj)} {σ : St} {H : Hp} {s : Shared} {a : Addr} {y v : V} {u r : Value} {A : Around} {E : Value → Shared → Prop}
theorem d_dictSet {H' : Hp} {Q : Unit → Shared → Prop} (hu : A.units < cLine) (I : Inv X pins σ H s) (g : DPut H a y v H') (ry : RelV y u) (rv : RelV v r) (h : ∀ s', Inv X pins σ H' s' → Q () s') :
    wpAny (model X.prog X.w) A (dictSet a u r) Q E s := by
  rcases g with ⟨kvs, k, e, ey, l, eH⟩ | ⟨kvs, k, b, e, ey, eb, l, eH⟩
  · subst ey eH
    obtain ⟨z, hd, vs, rel, dd⟩ := dk_of I.hok e
    have hz : vs.length ≤ sizeLine := by rw [← rel.length]; exact z
    have hl : (putK kvs k v).length ≤ sizeLine := by have := length_putK kvs k v; omega
    refine wpAny_dictSet_pairs (hsz := hz) (kV_is ry) dd fun h' dd' hs => h _ ?_
    have he : ∃ q, h'.get? a = some q := let ⟨q, _, _, hq, _⟩ := dd'; ⟨q, hq⟩
    exact d_write I (by rw [e]; exact True.intro) hs he (dk_new hl hd (rel.put k rv) dd')
  · subst ey eH
    cases (show u = Value.ref b from ry)
    obtain ⟨z, hd, xs, rel, dd⟩ := dt_of I.hok e
    have hz : xs.length ≤ sizeLine := by rw [← Paired.length rel]; exact z
    have hl : (putK kvs k v).length ≤ sizeLine := by have := length_putK kvs k v; omega
    refine wpAny_dictSet_heap (hsz := hz) (show (tupleKind (mixKind X.prog X.w)).room A from hu) (key_of I.hok eb) dd fun h' dd' hs => h _ ?_
    obtain ⟨q, es, ep, hq, h2, h3, h4, _, h5⟩ := dd'
    refine d_write I (by rw [e]; exact True.intro) hs ⟨q, hq⟩ ⟨hl, hd, _, (rel.put k eb rv).keeps fun c ys ec => ?_, q, es, ep, hq, h2, h3, h4, h5⟩
    rw [upd_ne (ne_of ec e (fun z => nomatch z))]
    exact ec
theorem DPut.stay {d b : Addr} {H' : Hp} {o : HO} (g : DPut H d y v H') (e : H b = some o) (n1 : ∀ kvs, o ≠ .dK kvs) (n2 : ∀ kvs, o ≠ .dT kvs) : H' b = some o := by
  rcases g with ⟨kvs, k, e2, _, _, rfl⟩ | ⟨kvs, k, b2, e2, _, _, _, rfl⟩
  · rw [upd_ne (ne_of e e2 (n1 _))]
    exact e
  · rw [upd_ne (ne_of e e2 (n2 _))]
    exact e
theorem DPut.free {d b : Addr} {H' : Hp} (g : DPut H d y v H') (e : H b = none) : H' b = none := by
  rcases g with ⟨kvs, k, e2, _, _, rfl⟩ | ⟨kvs, k, b2, e2, _, _, _, rfl⟩
  · rw [upd_ne (Ne.symm (ne_of_none e2 e))]
    exact e
  · rw [upd_ne (Ne.symm (ne_of_none e2 e))]
    exact e
end
inductive DPuts (d : Addr) : Hp → List (V × V) → Hp → Prop
  | nil {H : Hp} : DPuts d H [] H
  | cons {H H1 H2 : Hp} {y v : V} {r : List (V × V)} : DPut H d y v H1 → DPuts d H1 r H2 → DPuts d H ((y, v) :: r) H2
theorem update_loop {X : Cx} {pins : List (Addr × Obj)} {σ : St} {A : Around} {R : Result → Shared → Prop} (hh : A.in1.handled = none) (hu : A.in1.units < cLine) {l it d : Addr} :
    ∀ (ps : List (Addr × V × V)) (pre : List V) (j : Int) (H H2 : Hp) (s : Shared), Inv X pins σ H s → H l = some (.lst (pre ++ ps.map fun p => .ref p.1)) → (∀ p ∈ ps, H p.1 = some (.tup [p.2.1, p.2.2])) → DPuts d H (ps.map (·.2)) H2 →
      s.heap.IsListIter it l pre.length → FpOk X pins H it → (∀ s', Inv X pins σ H2 s' → R (.ok (.ret .none)) s') →
      codeAny (model X.prog X.w) A (.builtin "dict.update.loop" ⟨[.ref d, .ref it, rawInt j, .none], []⟩) R s
  | [], pre, j, H, H2, s, I, hl, hp, dp, st, fo, fin => by
    cases dp
    obtain ⟨z, its, n, r, hl2, e⟩ := I.lstM hl
    obtain ⟨f0, f1, f2, f3, f4, f5⟩ := fo
    refine codeAny_builtin F.xl_entry_dict_loop ?_
    rw [Around.under_plainId F.xl_plain_dict_loop _]
    show wpAny _ A.in1 (pyNext (.ref it) >>= _) _ _ s
    refine wpAny_bind (wpAny_pyNext_list_end hh st ⟨_, e, rfl, _, rfl⟩ (by simp at hl2 ⊢; omega) fun h' eb => ?_)
    show wpAny _ A.in1 (Builtin.Dict.addKeywords d [] >>= _) _ _ _
    exact wpAny_bind (wpAny_pure (wpAny_pure (fin _ (I.turned (t' := s.toks) (fun b o hb e => eb b o hb e) f0 f1 f3 f4 f5))))
  | (a, y, v) :: ps, pre, j, H, H2, s, I, hl, hp, dp, st, fo, fin => by
    have fo' := fo
    obtain ⟨f0, f1, f2, f3, f4, f5⟩ := fo
    cases dp with
    | @cons _ H1 _ _ _ _ g dp =>
    obtain ⟨z, its, n, r, hl2, e⟩ := I.lstM hl
    obtain ⟨u, hu1, ru⟩ := r.get (i := pre.length) (x := .ref a) (by simp)
    obtain rfl : u = Value.ref a := ru
    refine codeAny_builtin F.xl_entry_dict_loop ?_
    rw [Around.under_plainId F.xl_plain_dict_loop _]
    show wpAny _ A.in1 (pyNext (.ref it) >>= _) _ _ s
    refine wpAny_bind (wpAny_pyNext_list_item st ⟨_, e, rfl, _, rfl⟩ (x := .ref a) (by simpa using hu1) fun h' st' sb => ?_)
    have I1 : Inv X pins σ H { s with heap := h' } := I.turned (t' := s.toks) (fun b o hb e => (sb.2 b hb).trans e) f0 f1 f3 f4 f5
    obtain ⟨z2, ts, rt, ot, et, ct, nt, dt⟩ := I1.hok a _ (hp _ List.mem_cons_self)
    obtain ⟨uk, uv, rfl, rk, rv⟩ := vals2 rt
    show wpAny _ A.in1 (holding [.ref a] _ >>= _) _ _ _
    refine wpAny_bind (wpAny_holding ?_)
    refine wpAny_bind (wpAny_tryCatch ?_)
    unfold Builtin.Dict.pairItems
    refine wpAny_bind (wpAny_typeOf (T := "tuple") ⟨ot, et, ct⟩ ?_)
    rw [if_pos (by decide)]
    refine wpAny_bind (wpAny_seqItems et dt (wpAny_pure ?_))
    show wpAny _ A.in1 (holding [uk, uv] (dictSet d uk uv)) _ _ _
    have ob : ∀ b ∈ [it], ∃ o, h'.get? b = some o ∧ ∀ v, o.data ≠ .cell v := fun b hb => by
      have e : b = it := by simpa using hb
      subst e
      obtain ⟨o, e, c, d⟩ := id st'
      exact ⟨o, e, fun v z => by rw [d] at z; cases z⟩
    have I1' := I1.pinned (fp := [it]) (fun b hb => by
      have e : b = it := by simpa using hb
      subst e
      exact fo') ob
    refine wpAny_holding (d_dictSet hu I1' g rk rv fun s' I2 => ?_)
    refine wpAny_pure ⟨plainId_quiet F.xl_plain_dict_loop _, ?_⟩
    have fo2 : FpOk X pins H1 it := ⟨g.free f0, f1, f2, f3, f4, f5⟩
    have st2 : s'.heap.IsListIter it l (pre ++ [V.ref a]).length := by
      rw [List.length_append]
      exact st'.at fun o e => (I2.pin (it, o) (List.mem_append_right _ (List.mem_append_right _ (mem_pinsAt (by simp) e)))).1
    refine update_loop hh hu ps (pre ++ [V.ref a]) (j + 1) H1 H2 s' I2.unpinned ?_ (fun p hp' => ?_) dp st2 fo2 fin
    · have z := g.stay hl (fun _ q => nomatch q) (fun _ q => nomatch q)
      rw [z]
      simp
    · exact g.stay (hp p (List.mem_cons_of_mem _ hp')) (fun _ q => nomatch q) (fun _ q => nomatch q)
def rDictOf : List V → Hp → VK → Prop := fun xs H Q => ∃ (l : Addr) (ps : List (Addr × V × V)), xs = [.ref l] ∧ H l = some (.lst (ps.map fun p => .ref p.1)) ∧ (∀ p ∈ ps, H p.1 = some (.tup [p.2.1, p.2.2])) ∧
  ∀ d, H d = none → ∃ e H2, (e = .dK [] ∨ e = .dT []) ∧ DPuts d (upd H d e) (ps.map (·.2)) H2 ∧ Q (.ref d) H2
theorem call_dictOf {X : Cx} (hc : X.calm = true) (hu : X.A.units + 3 < cLine) : CallR X (.type "dict") rDictOf := by
  intro pins s σ H xs us Q I r h
  obtain ⟨l, ps, rfl, hl, hp, q⟩ := h
  obtain ⟨u, rfl, rx⟩ := vals1 r
  obtain rfl : u = Value.ref l := rx
  refine callType_codes (Q₁ := fun obj s₁ => obj = .ref s.heap.objs.size ∧ s₁ = { s with heap := s.heap.push { cls := .type "dict", data := .dict #[] } }) F.kt_called_dict (F.kt_typeCall_dict_1 _) F.entry_dict_init (kt_code_dict_new _ ⟨rfl, rfl⟩) ?_
  rintro obj s₁ ⟨rfl, rfl⟩
  obtain ⟨e, H2, he, dps, q2⟩ := q s.heap.objs.size I.fresh
  have I1 : Inv X pins σ (upd H s.heap.objs.size e) { s with heap := s.heap.push { cls := .type "dict", data := .dict #[] } } := by
    refine I.laid (t' := s.toks) (fun b u e => Heap.get?_push_of_some _ e) (Nat.le_refl _) ?_
    rcases he with rfl | rfl
    · exact dk_empty s.heap I.big
    · exact dt_empty s.heap I.big
  have hT : (Shared.mk (s.heap.push { cls := .type "dict", data := .dict #[] }) s.gens s.drawn s.toks s.os).TypeIs (.ref s.heap.objs.size) "dict" := ⟨_, Heap.get?_push_size _ rfl, rfl⟩
  have nl : l ≠ s.heap.objs.size := fun z => by
    rw [z, I.fresh] at hl
    cases hl
  have hl1 : upd H s.heap.objs.size e l = some (.lst (ps.map fun p => .ref p.1)) := by rw [upd_ne nl]; exact hl
  obtain ⟨z, its, n, rr, hll, el⟩ := I1.lstM hl1
  refine ⟨hT, F.args_dict_init_2 _ _, ?_⟩
  unfold Builtin.«dict.__init__»
  refine wpAny_bind ?_
  unfold Builtin.Dict.selfAndRest
  refine wpAny_bind (wpAny_notOrdered_dict hT ?_)
  show wpAny _ _ (pure (s.heap.objs.size, [Value.ref l])) _ _ _
  refine wpAny_pure ?_
  show wpAny _ _ (Builtin.Dict.updateFrom "dict.__init__" s.heap.objs.size (.ref l) [] .none) _ _ _
  unfold Builtin.Dict.updateFrom
  refine wpAny_bind (wpAny_typeOf (T := "list") ⟨_, el, rfl⟩ ?_)
  rw [if_pos (by decide)]
  refine wpAny_bind (keys_miss el rfl rfl rfl (I.ok.hd hc) fun h' tk hk => ?_)
  have I2 := I1.kept (h' := h') (t' := tk) hk
  show wpAny _ _ (rule _ >>= _) _ _ _
  refine wpAny_bind (wpAny_rule ?_)
  refine wpAny_bind (wpAny_pyIter_list ⟨_, hk _ _ el, rfl, _, rfl⟩ ?_)
  refine wpAny_pure ⟨plainId_quiet F.xl_plain_dict_loop _, ?_⟩
  have I3 : Inv X pins σ (upd H s.heap.objs.size e) _ := I2.kept (t' := tk) (h' := h'.push { cls := .type "list_iterator", data := .fields #[.ref l, .int 0 0] }) fun b o e => Heap.get?_push_of_some _ e
  refine update_loop (A := X.A.in1) (I.ok.hd hc) (by show X.A.units + 1 + 1 < cLine; omega) ps [] 0 _ H2 _ I3 (by simpa using hl1) (fun p hp' => ?_) dps ?_ ?_ fun s' I' => ?_
  · rw [upd_ne (ne_of_none (hp p hp') I.fresh)]
    exact hp p hp'
  · exact ⟨_, Heap.get?_push_size _ rfl, rfl, rfl⟩
  · exact I2.fpOk (Nat.le_refl _) (I2.hok.fresh (Nat.le_refl _))
  · exact ⟨rfl, ⟨.ref _, H2, I', rfl, q2⟩⟩
end L2
set_option maxRecDepth 100000
namespace L2
open PySem PySem.Spec PyProof.Rows XL
variable {q0 : Bool}
theorem pe_alt {X : Cx} {e : Expr} {t1 t2 : TE} (h1 : PE X e t1) (h2 : PE X e t2) : PE X e (fun σ H Q => t1 σ H Q ∨ t2 σ H Q) := fun pins s σ H Q I h => h.elim (h1 pins s σ H Q I) (h2 pins s σ H Q I)
def Itrs (lo d : Int) (n : Nat) : It := ⟨fun i _ => i < n, fun i H x H' => H' = H ∧ x = .int (lo + (i : Int) * d), fun i _ => n ≤ i⟩
theorem turn_rangeS {P : Program} {w : World} {K : PySem.W.Frag} {tg : Expr} (it : Addr) (lo d : Int) (n : Nat) : Turn P w K tg (Itrs lo d n) [it] it (fun i h => IsRangeIter h it (lo + (i : Nat) * d) ((n : Int) - (i : Nat)) d) where
  mem := by simp
  obj := fun i h st b hb => by
    have e : b = it := by simpa using hb
    subst e
    exact ⟨_, st, fun v z => by
      have z' : Data.fields _ = Data.cell v := z
      cases z'⟩
  keep := fun i h h' st k => k it (by simp) _ st
  item := by
    intro X hP hw hK hc i pins s σ H E I hf st hg
    subst hP hw hK
    obtain ⟨f0, f1, f2, f3, f4, f5⟩ := hf it (by simp)
    have W := Walks.range (prog := X.prog) (w := X.w) (I.ok.hd hc) it lo d n
    refine W.item i s _ _ hg st fun v h' tk hv st' kk => ?_
    obtain ⟨t, rfl⟩ := hv
    have I1 : Inv X pins σ H { s with heap := h', toks := tk } := I.turned (fun b o hb e => kk b o (by simpa using hb) e) f0 f1 f3 f4 f5
    exact ⟨_, rfl, go_of (s := { s with heap := h', toks := tk }) (n := "range_iterator") st' rfl rfl (by decide) ⟨.int (lo + (i : Int) * d), H, I1, ⟨t, rfl⟩, ⟨rfl, rfl⟩, st', fun b hb => (hf b hb).1⟩⟩
  done := by
    intro X hP hw hK hc i pins s σ H E I hf st hg
    subst hP hw hK
    obtain ⟨f0, f1, f2, f3, f4, f5⟩ := hf it (by simp)
    exact wpAny_pyNext_range_end (I.ok.hd hc) st (by have : n ≤ i := hg; omega) fun h' eb => ⟨rfl, I.turned (t' := s.toks) (fun b o hb e => eb b o hb e) f0 f1 f3 f4 f5⟩
  self := fun _ _ _ _ _ st h => wpAny_pyIter_rangeiter st h
theorem rangeSize_down (a b : Int) : Builtin.Range.rangeSize a b (-1) = if b < a then a - b else 0 := by
  unfold Builtin.Range.rangeSize
  rw [if_neg (by decide)]
  simp only [Int.neg_neg, Int.ediv_one]
  split <;> omega
theorem small_down {a b : Int} (ha : -(2 ^ 62) ≤ a) (ha' : a < 2 ^ 62) (hb : -(2 ^ 62) ≤ b) (hb' : b < 2 ^ 62) : Builtin.Range.small a b (-1) = true := by
  unfold Builtin.Range.small
  rw [rangeSize_down]
  simp only [Builtin.Range.rangeFitsLong, Bool.and_eq_true, Bool.or_eq_true, decide_eq_true_eq, beq_iff_eq, show ¬ ((-1 : Int) > 0) by decide, if_false]
  split <;> omega
section
variable {X : Cx} {tg : Expr}
theorem range_itS {pins : List (Addr × Obj)} {σ : St} {H : Hp} {s : Shared} {R : It → Hp → Prop} {E : Value → Shared → Prop} {lo hi d : Int} {n : Nat} {t u v : Tok} {tk : Nat} (I : Inv X pins σ H s) (sm : Builtin.Range.small lo hi d = true) (sz : Builtin.Range.rangeSize lo hi d = n)
    (q : R (Itrs lo d n) H) : wpAny (model X.prog X.w) X.A (pyIter (.ref s.heap.objs.size)) (PIE X pins σ tg R) E { s with heap := s.heap.push { cls := .type "range", data := .fields #[.int lo t, .int hi u, .int d v] }, toks := tk } := by
  refine wpAny_pyIter_range (IsRange.new ..) sm ?_
  have I1 : Inv X pins σ H { s with heap := s.heap.push { cls := .type "range", data := .fields #[.int lo t, .int hi u, .int d v] }, toks := tk } := I.kept fun b o e => Heap.get?_push_of_some _ e
  refine ⟨(s.heap.push { cls := .type "range", data := .fields #[.int lo t, .int hi u, .int d v] }).objs.size, [(s.heap.push { cls := .type "range", data := .fields #[.int lo t, .int hi u, .int d v] }).objs.size], _, _, H, rfl,
    I1.kept (t' := tk) fun b o e => Heap.get?_push_of_some _ e, turn_rangeS _ lo d n, ?_, fun b hb => ?_, q⟩
  · have e1 : lo + ((0 : Nat) : Int) * d = lo := by simp
    have e2 : ((n : Nat) : Int) - ((0 : Nat) : Int) = Builtin.Range.rangeSize lo hi d := by rw [sz]; simp
    show IsRangeIter _ _ (lo + ((0 : Nat) : Int) * d) (((n : Nat) : Int) - ((0 : Nat) : Int)) d
    rw [e1, e2]
    exact Heap.get?_push_size _ rfl
  · have e : b = (s.heap.push { cls := .type "range", data := .fields #[.int lo t, .int hi u, .int d v] }).objs.size := by simpa using hb
    subst e
    exact I1.fpOk (Nat.le_refl _) (I1.hok.fresh (Nat.le_refl _))
def iRng3 (ta : TA) : TI := fun σ H R => ta σ H fun vs H1 => ∃ i j d : Int, vs = [.int i, .int j, .int d] ∧ (-(2 ^ 62) ≤ i ∧ i < 2 ^ 62 ∧ -(2 ^ 62) ≤ j ∧ j < 2 ^ 62) ∧ ((d = 1 ∧ R (Itrs i 1 (j - i).toNat) H1) ∨ (d = -1 ∧ R (Itrs i (-1) (i - j).toNat) H1))
theorem pi_range3 {a b c : Expr} {ta : TA} {p pos : Pos} (hg : Gl X "range") (hm : X.mg "range" = none) (ha : PA X [a, b, c] ta) (hs : starEach [a, b, c] X.env = [(false, eval a X.env), (false, eval b X.env), (false, eval c X.env)] := by rfl) (hs2 : starEach [b, c] X.env = [(false, eval b X.env), (false, eval c X.env)] := by rfl) :
    PI X tg (.Call (.Name "range" p) [a, b, c] [] pos) (iRng3 ta) := by
  intro pins s σ H R I h
  refine Call_ (ld_blt I hg hm boot_range (PyProof.Rows.callWith_type1 (thn (ha pos pins s σ H _ I h) fun us s1 ⟨vs, H1, I1, r1, q1⟩ => ?_) (by rw [hs, hs2]) (by rw [hs2]; rfl)))
  obtain ⟨i, j, d, e, ⟨q1, q2, q3, q4⟩, q⟩ := q1
  subst e
  cases r1 with
  | cons r rr =>
    cases rr with
    | cons r' rr =>
      cases rr with
      | cons r'' rr =>
        cases rr
        obtain ⟨t, rfl⟩ := r
        obtain ⟨t', rfl⟩ := r'
        obtain ⟨t'', rfl⟩ := r''
        rcases q with ⟨rfl, q⟩ | ⟨rfl, q⟩
        · exact call_range_3 (by decide) (range_itS I1 (small_one q1 q2 q3 q4) (by rw [rangeSize_one]; split <;> omega) q) (Or.inl (PyProof.noPylong_small (by decide)))
        · exact call_range_3 (by decide) (range_itS I1 (small_down q1 q2 q3 q4) (by rw [rangeSize_down]; split <;> omega) q) (Or.inl (PyProof.noPylong_small (by decide)))
end
theorem vals_at {xs : List V} {us : List Value} (r : Vals xs us) {j : Nat} (h : j < us.toArray.size) : ∃ x, xs[j]? = some x ∧ RelV x us.toArray[j] := by
  have hl := r.length
  have hj : j < xs.length := by simp at h; omega
  obtain ⟨u, h1, h2⟩ := r.get (x := xs[j]) (List.getElem?_eq_getElem hj)
  refine ⟨xs[j], List.getElem?_eq_getElem hj, ?_⟩
  have : us.toArray[j] = u := by
    have z := List.getElem?_eq_some_iff.mp h1
    obtain ⟨z1, z2⟩ := z
    simpa using z2
  rw [this]
  exact h2
section
variable {X : Cx} {pins : List (Addr × Obj)} {σ : St} {H : Hp} {s : Shared}
end
theorem hu3_of {A : Around} {k : Nat} (hr : Room q0 k A) : A.units + 3 < cLine := by have := hr.un; omega
theorem hu20_of {A : Around} {k : Nat} (hr : Room q0 k A) : A.units + 20 < cLine := by have := hr.un; omega
theorem call_lenD {X : Cx} : CallR X (.builtin "len") (fun xs H Q => ∃ a kvs, xs = [.ref a] ∧ H a = some (.dK kvs) ∧ Q (.int kvs.length) H) := by
  intro pins s σ H xs us Q I r h
  obtain ⟨a, kvs, rfl, e, q⟩ := h
  obtain ⟨u, rfl, rx⟩ := vals1 r
  obtain rfl : u = Value.ref a := rx
  exact d_len I (.inl e) fun t s' I' => ⟨.int _, H, I', ⟨t, rfl⟩, q⟩
inductive Ents (w : World) : List DictEntry → List (Key × V) → Prop
  | nil : Ents w [] []
  | cons {k : Key} {x : V} {key val : Value} {h : Int} {es : List DictEntry} {kvs : List (Key × V)} (hh : h = keyH w k) (hk : RelV (kV k) key) (hv : RelV x val) (r : Ents w es kvs) : Ents w (⟨h, key, val⟩ :: es) ((k, x) :: kvs)
def GDict (w : World) (K : PySem.W.Frag) (D : Addr) (kvs : List (Key × V)) : Prop := (D == sysModules) = false ∧ ∃ (es : Array DictEntry) (ep : Nat), K.lookup D = some ⟨.type "dict", none, .dict es ep, #[]⟩ ∧ Ents w es.toList kvs ∧ (kvs.map (·.1)).Nodup
theorem Ents.ok {P : Program} {w : World} {es : List DictEntry} {kvs : List (Key × V)} (h : Ents w es kvs) : ∃ vs, KV kvs vs ∧ Pairs (mixKind P w) es vs ∧ ∀ e ∈ es, ∃ k, (mixKind P w).is k e.key = true ∧ e.hash = (mixKind P w).hash k := by
  induction h with
  | nil => exact ⟨[], .nil, .nil, fun e z => nomatch z⟩
  | @cons k x key val h es kvs hh hk hv _ ih =>
    obtain ⟨vs, a, b, c⟩ := ih
    refine ⟨(k, val) :: vs, .cons ⟨rfl, hv⟩ a, .cons (kV_is hk) rfl b, fun e he => ?_⟩
    rcases List.mem_cons.mp he with rfl | z
    · exact ⟨k, kV_is hk, hh⟩
    · exact c e z
section
variable {X : Cx} {pins : List (Addr × Obj)} {σ : St} {H : Hp} {s : Shared} {D : Addr} {kvs : List (Key × V)}
theorem gdict_at (I : Inv X pins σ H s) (g : GDict X.w X.K D kvs) : ∃ vs, KV kvs vs ∧ s.heap.DictOf (mixKind X.prog X.w) D vs := by
  obtain ⟨_, es, ep, l, en, nd⟩ := g
  obtain ⟨vs, a, b, c⟩ := en.ok (P := X.prog)
  refine ⟨vs, a, _, es, ep, I.kIn _ _ l, ⟨rfl, rfl, rfl⟩, rfl, fun e he => c e (by simpa using he), b, ?_⟩
  rw [← a.keys]
  exact nd
def tGIn (kvs : List (Key × V)) (neg : Bool) (ty : TE) : TE := fun σ H Q => ty σ H fun y H1 => ∃ k : Key, y = kV k ∧ Q (.bl (if neg then !(valV kvs k).isSome else (valV kvs k).isSome)) H1
theorem pc_gnotin {i : Expr} {ty : TE} {x : Str} {p : Pos} (hi : PE X i ty) (hg : Gl X x) (hm : X.mg x = some (.ref D)) (g : GDict X.w X.K D kvs) (hd : (x == ("__debug__" : Str)) = false := by decide) : PC X .NotIn i (.Name x p) (tGIn kvs true ty) := by
  intro pins s σ H Q I h
  refine thn (hi pins s σ H _ I h) fun iv s1 ⟨y, H1, I1, ry, k, ey, q1⟩ => thn (pe_glob (v := .ref D) hg hm rfl hd pins s1 σ H1 (fun v H2 => v = .ref D ∧ H2 = H1) I1 ⟨rfl, rfl⟩) fun u s2 ⟨x, H2, I2, rx, e1, e2⟩ => ?_
  subst ey e1 e2
  obtain rfl : u = Value.ref D := rx
  obtain ⟨vs, rel, dd⟩ := gdict_at I2 g
  refine wpAny_notIn_of (kV_is ry) g.1 dd.mapOf ?_
  rw [← (rel.val k).isSome_eq]
  exact ⟨.bl _, _, I2.tok _, rfl, q1⟩
end
end L2
set_option maxRecDepth 100000
namespace L2
open PySem PySem.Spec PyProof.Rows XL
variable {q0 : Bool}
theorem preSum_take {ns : List Int} {f : Nat → Int} (h : ∀ j (l : j < ns.length), f j = ns[j]) : ∀ j, j ≤ ns.length → preSum f j = (ns.take j).sum := by
  intro j
  induction j with
  | zero => intro _; rfl
  | succ j ih =>
    intro l
    have l' : j < ns.length := l
    show preSum f j + f j = _
    rw [ih (Nat.le_of_lt l'), h j l', List.take_add_one, List.getElem?_eq_getElem l', List.sum_append]
    simp
theorem sum_in {ns : List Int} (B : Int) (hb : ∀ n ∈ ns, -B ≤ n ∧ n ≤ B) (h0 : 0 ≤ B) : -(ns.length * B) ≤ ns.sum ∧ ns.sum ≤ ns.length * B := by
  induction ns with
  | nil => simp
  | cons a r ih =>
    have := ih fun n hn => hb n (List.mem_cons_of_mem _ hn)
    have := hb a List.mem_cons_self
    rw [List.sum_cons, List.length_cons]
    have e : ((r.length + 1 : Nat) : Int) * B = r.length * B + B := by rw [Int.natCast_add, Int.add_mul]; simp
    rw [e]
    omega
def rSumL (K : PySem.W.Frag) : List V → Hp → VK → Prop := fun xs H Q => ∃ (p : Addr) (ns : List Int), xs = [.ref p] ∧ SqL K H p (ns.map V.int) ∧ (ns.length ≤ 1000 ∧ ∀ n ∈ ns, -1000000 ≤ n ∧ n ≤ 1000000) ∧ Q (.int ns.sum) H
theorem call_sumL {X : Cx} (hc : X.calm = true) : CallR X (.builtin "sum") (rSumL X.K) := by
  intro pins s σ H xs us Q I r h
  obtain ⟨p, ns, rfl, hs, ⟨hlen, hb⟩, q⟩ := h
  obtain ⟨u, rfl, rx⟩ := vals1 r
  obtain rfl : u = Value.ref p := rx
  obtain ⟨its, vi, ⟨o, n, g, c, _, d⟩, _⟩ := I.list hs
  have hi : IntsAre its ns := intsAre_of vi
  have il : s.heap.IsList p its.toArray := ⟨o, g, c, n, d⟩
  obtain ⟨zs, e⟩ := hi.allInts.items
  have en : ns = zs.toList.map (·.1) := by rw [← hi.numsOf, ← nums_intItems, ← e]
  rw [e] at il
  have sz : zs.size = ns.length := by rw [en, List.length_map, Array.length_toList]
  have hat : ∀ j (l : j < ns.length), numAt zs j = ns[j] := fun j l => by
    rw [numAt_eq, ← en]
    simp [List.getD, l]
  have bd : ∀ j, j ≤ ns.length → InLong (ns.take j).sum := fun j l => by
    have := sum_in 1000000 (ns := ns.take j) (fun n hn => hb n (List.mem_of_mem_take hn)) (by decide)
    have hl : (ns.take j).length ≤ 1000 := by rw [List.length_take]; omega
    unfold InLong
    omega
  refine sum_intList (I.ok.hd hc) il (fun j hj => ⟨?_, ?_⟩) fun h' tk t' hk => ?_
  · rw [hat j (by omega)]
    have := hb ns[j] (List.getElem_mem _)
    unfold InLong
    omega
  · rw [preSum_take hat (j + 1) (by omega)]
    exact bd _ (by omega)
  · refine ⟨.int _, H, I.kept hk, ⟨t', rfl⟩, ?_⟩
    rw [sz, preSum_take hat _ (Nat.le_refl _), List.take_length]
    exact q
end L2
set_option maxRecDepth 100000
namespace L2
open PySem PySem.Spec PyProof.Rows XL
variable {q0 : Bool}
section
variable {X : Cx} {pins : List (Addr × Obj)} {σ : St} {H : Hp} {s : Shared} {h' : Heap}
theorem Inv.turnedL {t' : Nat} {ch : List Addr} (I : Inv X pins σ H s) (k : ∀ b o, b ∉ ch → s.heap.get? b = some o → h'.get? b = some o) (hf : ∀ b ∈ ch, FpOk X pins H b) : Inv X pins σ H { s with heap := h', toks := t' } := by
  have nit : ∀ b u, H b = some u → b ∉ ch := fun b u e z => by
    have := (hf b z).1
    rw [this] at e
    cases e
  refine I.step (g' := s.gens) (d' := s.drawn) (ch := ch) (fun b hb => ?_) (fun b o _ _ hc e _ => k b o hc e) (fun b o _ _ hc e _ => ⟨o.slots, k b o hc e⟩) (fun _ _ _ _ n => n)
    (fun b o hc e => ⟨o, k b o hc e⟩) (fun _ _ e => e) (fun _ _ _ e => e) (fun b ps e => ⟨#[], by rw [e]; simp⟩) (fun m hm => ?_) (fun b u e => ?_) I.bare
  · obtain ⟨f0, f1, f2, f3, f4, f5⟩ := hf b hb
    exact ⟨f3, f1, f4, f5⟩
  · obtain ⟨o, es, ep, ho, r⟩ := hm
    exact ⟨o, es, ep, k _ o (fun z => (hf _ z).2.1 rfl) ho, r⟩
  · refine (I.hok b u e).stay (fun c v hc q => k c v ?_ q) (fun _ q => q) fun _ _ q => q
    rcases hc with z | z
    · rw [z]; exact nit b u e
    · exact nit c _ z
end
section
variable {X : Cx} {tg : Expr}
end
theorem ne_num {a b : Nat} (h : a ≠ b) : (a : Addr) ≠ (b : Addr) := h
section
variable {X : Cx} {elts : List Expr} {x1 : _} {tpos : Pos}
end
end L2
set_option maxRecDepth 100000
namespace L2
open PySem PySem.Spec PyProof.Rows XL
variable {q0 : Bool}
def Ite (K : PySem.W.Frag) (a : Addr) : It :=
  ⟨fun i H => ∃ xs x, SqL K H a xs ∧ xs[i]? = some x, fun i H v H' => ∃ p x, (∀ xs, SqL K H a xs → xs[i]? = some x) ∧ v = .ref p ∧ H p = none ∧ H' = upd H p (.tup [.int i, x]), fun i H => ∃ xs, SqL K H a xs ∧ xs.length ≤ i⟩
theorem turn_enum {P : Program} {w : World} {K : PySem.W.Frag} {elts : List Expr} {x1} {tpos : Pos} (e it l : Addr) (hei : e ≠ it) :
    Turn P w K (.Tuple elts x1 tpos) (Ite K l) [e, it] e (fun i h => (∃ old, IsEnum h e it i old) ∧ h.IsListIter it l i) where
  mem := by simp
  obj := fun i h st b hb => by
    obtain ⟨⟨old, he⟩, ⟨o1, e1, c1, d1⟩⟩ := st
    simp only [List.mem_cons, List.not_mem_nil, or_false] at hb
    rcases hb with rfl | rfl
    · exact ⟨_, he, fun v k => by have k' : Data.fields _ = Data.cell v := k; cases k'⟩
    · exact ⟨_, e1, fun v k => by rw [d1] at k; cases k⟩
  keep := fun i h h' ⟨⟨old, he⟩, h1⟩ k => ⟨⟨old, k e (by simp) _ he⟩, h1.at fun o z => k it (by simp) o z⟩
  item := by
    intro X hP hw hK hc i pins s σ H E I hf st hg
    subst hP hw hK
    obtain ⟨xs, x, hq, hx⟩ := hg
    obtain ⟨its, rv, p, hz1⟩ := I.list hq
    obtain ⟨u, hu, ru⟩ := rv.get hx
    obtain ⟨⟨old, he⟩, h1⟩ := id st
    refine wpAny_pyNext_enum_item he h1 p.isList (x := u) (by simpa using hu) hei fun h' ho hit' hT hsz hk => ?_
    refine ⟨_, rfl, wpAny_letOwnedTupleGo_enum (s := { s with heap := h', toks := s.toks + 1 }) ho fun h'' he' hs' => ?_⟩
    have elt : e < s.heap.objs.size := Heap.lt_size he
    have pne : s.heap.objs.size ≠ e := Nat.ne_of_gt elt
    have kk : ∀ b o, b ∉ [e, it] → s.heap.get? b = some o → h''.get? b = some o := fun b o hb g => by
      simp only [List.mem_cons, List.not_mem_nil, or_false, not_or] at hb
      exact (hs'.2 b hb.1).trans (hk b o hb.1 hb.2 g)
    have I1 : Inv X pins σ H { s with heap := h'', toks := s.toks + 1 } := I.turnedL kk hf
    obtain ⟨n0, nL, nC, nP⟩ := I.size_lt (Nat.le_refl s.heap.objs.size)
    have hp : h''.get? s.heap.objs.size = some { cls := .type "tuple", data := .seq #[.int i s.toks, u] } := (hs'.2 _ pne).trans hT
    refine ⟨.ref s.heap.objs.size, upd H s.heap.objs.size (.tup [.int i, x]), I1.adopt n0 I.sz nL nC nP ⟨by show 2 ≤ sizeLine; decide, [.int i s.toks, u], .cons ⟨_, rfl⟩ (.cons ru .nil), _, hp, rfl, _, rfl⟩, rfl,
      ⟨_, x, fun zs hz => by rw [I.list_inj hz hq]; exact hx, rfl, n0, rfl⟩, ?_, fun b hb => ?_⟩
    · exact ⟨⟨_, by simpa using he'⟩, hit'.at fun o y => (hs'.2 it (Ne.symm hei)).trans y⟩
    · obtain ⟨o, ho⟩ : ∃ o, s.heap.get? b = some o := by
        obtain ⟨o1, e1, c1, d1⟩ := h1
        simp only [List.mem_cons, List.not_mem_nil, or_false] at hb
        rcases hb with rfl | rfl
        · exact ⟨_, he⟩
        · exact ⟨_, e1⟩
      rw [upd_ne (Nat.ne_of_lt (Heap.lt_size ho))]
      exact (hf b hb).1
  done := by
    intro X hP hw hK hc i pins s σ H E I hf st hg
    subst hP hw hK
    obtain ⟨xs, hq, hl⟩ := hg
    obtain ⟨its, rv, p, hz1⟩ := I.list hq
    have e1 := rv.length
    obtain ⟨⟨old, he⟩, h1⟩ := id st
    refine wpAny_pyNext_enum_end (I.ok.hd hc) he h1 p.isList (by simp; omega) fun h' hx => ⟨rfl, I.turnedL (t' := s.toks) (fun b o hb g => ?_) hf⟩
    simp only [List.mem_cons, List.not_mem_nil, or_false, not_or] at hb
    exact hx b o hb.2 g
  self := fun _ _ _ _ _ ⟨⟨_, st⟩, _⟩ h => wpAny_pyIter_enum st h
def iEnum (K : PySem.W.Frag) (ta : TA) : TI := fun σ H R => ta σ H fun vs H1 => ∃ a xs, vs = [.ref a] ∧ SqL K H1 a xs ∧ R (Ite K a) H1
section
variable {X : Cx} {elts : List Expr} {x1 : _} {tpos : Pos}
theorem pi_enumerate {a : Expr} {ta : TA} {p pos : Pos} (hg : Gl X "enumerate") (hm : X.mg "enumerate" = none) (ha : PA X [a] ta) (hs : starEach [a] X.env = [(false, eval a X.env)] := by rfl) :
    PI X (.Tuple elts x1 tpos) (.Call (.Name "enumerate" p) [a] [] pos) (iEnum X.K ta) := by
  intro pins s σ H R I h
  refine Call_ (ld_blt I hg hm PyProof.Rows.Boot.«enumerate» (PyProof.Rows.callWith_type1 (thn (ha pos pins s σ H _ I h) fun us s1 ⟨vs, H1, I1, r1, q1⟩ => ?_) hs rfl))
  obtain ⟨l, xs, e, hq, q⟩ := q1
  subst e
  obtain ⟨u, rfl, ru⟩ := vals1 r1
  obtain rfl : u = Value.ref l := ru
  obtain ⟨its, rv, p1, hz1⟩ := I1.list hq
  refine call_enumerate_list p1.isList fun h' he h1 hsz hk => ?_
  refine wpAny_pyIter_enum (s := { s1 with heap := h' }) he ?_
  have I2 : Inv X pins σ H1 { s1 with heap := h' } := I1.kept (t' := s1.toks) hk
  refine ⟨_, [s1.heap.objs.size + 1, s1.heap.objs.size], _, _, H1, rfl, I2, turn_enum _ _ l (ne_num (by omega)), ⟨⟨_, he⟩, h1⟩, fun b hb => ?_, q⟩
  have hb' : s1.heap.objs.size ≤ b := by
    simp only [List.mem_cons, List.not_mem_nil, or_false] at hb
    rcases hb with rfl | rfl
    · exact Nat.le_add_right _ 1
    · exact Nat.le_refl _
  exact I1.fpOk hb' (I1.hok.fresh hb')
end
theorem for_enum {K : PySem.W.Frag} {a : Addr} {xs : List V} {g : TG} {tb : TS} {D : Ends} {σ : St} {H : Hp} (Pv : Nat → St → Hp → Prop) (h0 : Pv 0 σ H) (hl : ∀ i σ H, i ≤ xs.length → Pv i σ H → SqL K H a xs)
    (hs : ∀ i x p σ H, xs[i]? = some x → H p = none → Pv i σ H → g (.ref p) σ (upd H p (.tup [.int i, x])) fun σ2 H2 => tb { D with nx := Pv (i + 1), ct := Pv (i + 1), bk := D.nx } σ2 H2) (hd : ∀ σ H, Pv xs.length σ H → D.nx σ H) :
    ∃ W : Nat → Nat → St → Hp → Prop, (∃ m, W 0 m σ H) ∧ ∀ i m σ H, W i m σ H →
      ((Ite K a).stop i H ∧ D.nx σ H) ∨ ((Ite K a).go i H ∧ ∃ N : St → Hp → Prop, (∀ σ' H', N σ' H' → ∃ m', m' < m ∧ W (i + 1) m' σ' H') ∧ ∀ x H', (Ite K a).yld i H x H' → g x σ H' fun σ2 H2 => tb { D with nx := N, ct := N, bk := D.nx } σ2 H2) := by
  refine ⟨fun i m σ H => m = xs.length - i ∧ i ≤ xs.length ∧ Pv i σ H, ⟨xs.length, by simp, Nat.zero_le _, h0⟩, ?_⟩
  rintro i m σ H ⟨rfl, hi, p⟩
  have q := hl i σ H hi p
  by_cases hlt : i < xs.length
  · refine .inr ⟨⟨xs, xs[i], q, by simp [hlt]⟩, Pv (i + 1), fun σ' H' p' => ⟨xs.length - (i + 1), by omega, rfl, hlt, p'⟩, fun x H' y => ?_⟩
    obtain ⟨r, x', e1, rfl, hr, rfl⟩ := y
    exact hs i x' r σ H (e1 _ q) hr p
  · have e : i = xs.length := by omega
    subst e
    exact .inl ⟨⟨xs, q, Nat.le_refl _⟩, hd σ H p⟩
end L2
namespace L2
open PySem PySem.Spec PyProof.Rows XL
end L2
set_option maxRecDepth 100000
namespace L2
open PySem PySem.Spec PyProof.Rows XL
def tMid (t : TS) : TS := fun D σ H => ∃ Pv : St → Hp → Prop, t { D with nx := Pv } σ H ∧ ∀ σ' H', Pv σ' H' → D.nx σ' H'
theorem ps_mid {X : Cx} {st : Stmt} {t : TS} (h : PS X st t) : PS X st (tMid t) := by
  intro pins s σ H D I q
  obtain ⟨Pv, q1, q2⟩ := q
  refine thn (h pins s σ H { D with nx := Pv } I q1) fun fl s1 z => ?_
  cases fl with
  | next =>
    obtain ⟨σ', H', I', r⟩ := z
    exact ⟨σ', H', I', q2 _ _ r⟩
  | _ => exact z
end L2
set_option maxRecDepth 100000
namespace XL
open PySem PySem.W
section
variable {prog : Program} {w : World} {A : Around} {E : Value → Shared → Prop} {h : Heap} {g : Array GenState} {d : Drawn} {t : Nat} {os : OsState}
variable {nm qn : Str} {C N : Addr} {bs bm bmB : List Value} {hz : Bool} {sn : List Str} {sub : List Value} {ab : Bool} {col : Option Bool} {dd : Option Addr} {k0 k1 k2 k3 k5 : Option Value} {B ni ii : String}
end
end XL
namespace L2
open PySem PySem.Spec PyProof.Rows XL
variable {q0 : Bool}
section
variable {X : Cx} {C : Addr} {x : Str} {p pos : Pos}
end
section
variable {X : Cx} {pos np hpos np1 np2 hpos1 hpos2 : Pos} {body hbody hbody1 hbody2 : List Stmt} {b0 b1 b2 : Stmt} {cx cx1 cx2 n : Str} {C0 C1 C2 : Addr} {j : Nat} {E : St → XK} {tb th th1 th2 : TS} {rest : List ExceptHandler}
end
end L2
set_option maxRecDepth 100000
namespace L2
open PySem PySem.Spec PyProof.Rows XL
section
variable {X : Cx} {a b c d : Expr} {ta tb tc td : TE} {pos : Pos}
end
end L2
set_option maxRecDepth 100000
set_option maxHeartbeats 4000000
namespace L2
open PySem PySem.Calls PyProof PyProof.Rows
def eU (e : V → Bool) (u : Value) : Bool := match absV u with | some y => e y | none => false
theorem eU_of {e : V → Bool} {y : V} {u : Value} (r : RelV y u) : eU e u = e y := by unfold eU; rw [r.abs]
theorem any_eU {e : V → Bool} : ∀ {xs : List V} {us : List Value}, Vals xs us → us.any (eU e) = xs.any e
  | _, _, .nil => rfl
  | y :: xs, u :: us, .cons r t => by rw [List.any_cons, List.any_cons, eU_of r, any_eU t]
theorem mem_rel : ∀ {xs : List V} {us : List Value}, Vals xs us → ∀ u ∈ us, ∃ y ∈ xs, RelV y u
  | _, _, .nil => fun u hu => nomatch hu
  | y :: xs, u :: us, .cons r t => fun u' hu => by
    rcases List.mem_cons.mp hu with rfl | hu
    · exact ⟨y, List.mem_cons_self, r⟩
    · obtain ⟨z, h1, h2⟩ := mem_rel t u' hu
      exact ⟨z, List.mem_cons_of_mem _ h1, h2⟩
section
variable {X : Cx}
end
end L2
set_option maxRecDepth 100000
namespace PySem.F
end PySem.F
namespace L2
open PySem PySem.Spec PyProof.Rows XL
variable {q0 : Bool}
end L2
set_option maxRecDepth 100000
namespace L2
open PySem PySem.Spec PyProof.Rows XL
variable {q0 : Bool}
section
variable {z TI TO i1 i2 l1 l2 : Addr} {P : Nat → Prop} {i : Nat} {h : Heap}
end
end L2
set_option maxRecDepth 100000
namespace L2
open PySem PySem.Spec PyProof.Rows XL
variable {q0 : Bool}
end L2
set_option maxRecDepth 100000
namespace L2
open PySem PySem.Spec PyProof.Rows XL
variable {q0 : Bool}
section
variable {X : Cx} {pos np1 np2 np3 hpos1 hpos2 hpos3 : Pos} {body hbody1 hbody2 hbody3 : List Stmt} {rest : List ExceptHandler} {b1 b2 b3 : Stmt} {cx1 cx2 cx3 n : Str} {C1 C2 C3 : Addr} {j : Nat} {E : St → XK} {tb th1 th2 th3 : TS}
end
end L2
set_option maxRecDepth 100000
namespace L2
open PySem PySem.Spec PyProof.Rows XL PySem.W
variable {q0 : Bool}
end L2
set_option maxRecDepth 100000
namespace L2
open PySem PySem.Spec PyProof.Rows XL PySem.W
variable {q0 : Bool}
end L2
set_option maxRecDepth 100000
namespace L2
open PySem PySem.Spec PyProof.Rows XL PySem.W
variable {q0 : Bool}
theorem valV_ix {κ : Type} [DecidableEq κ] : ∀ {kvs : List (κ × V)} {k : κ} {v : V}, valV kvs k = some v → ∃ i : Nat, kvs[i]? = some (k, v)
  | [], k, v, h => by cases h
  | p :: r, k, v, h => by
    by_cases e : p.1 = k
    · rw [valV_pos e] at h
      cases h
      exact ⟨0, by simp [← e]⟩
    · rw [valV_neg e] at h
      obtain ⟨i, hi⟩ := valV_ix h
      exact ⟨i + 1, by simpa using hi⟩
section
variable {X : Cx} {o e : Expr} {td ty : TE} {apos cpos : Pos}
end
end L2
set_option maxRecDepth 100000
namespace L2
open PySem PySem.Spec PyProof.Rows XL PySem.W
variable {q0 : Bool}
end L2
set_option maxRecDepth 100000
set_option maxHeartbeats 1000000
namespace L2
open PySem PySem.Spec PyProof.Rows XL PySem.W
inductive DV where
  | non
  | bl (b : Bool)
  | int (i : Int)
  | str (x : Str)
  | tup (xs : List DV)
  | lst (xs : List DV)
mutual
def dEq : DV → DV → Bool
  | .non, .non => true
  | .bl a, .bl b => a == b
  | .bl a, .int b => (if a then 1 else 0) == b
  | .int a, .bl b => a == (if b then 1 else 0)
  | .int a, .int b => a == b
  | .str a, .str b => a == b
  | .tup xs, .tup ys => dEqs xs ys
  | .lst xs, .lst ys => dEqs xs ys
  | _, _ => false
def dEqs : List DV → List DV → Bool
  | [], [] => true
  | x :: xs, y :: ys => dEq x y && dEqs xs ys
  | _, _ => false
end
mutual
theorem dEq_refl : ∀ d, dEq d d = true
  | .non => rfl
  | .bl _ => by simp [dEq]
  | .int _ => by simp [dEq]
  | .str _ => by simp [dEq]
  | .tup xs => by simp only [dEq]; exact dEqs_refl xs
  | .lst xs => by simp only [dEq]; exact dEqs_refl xs
theorem dEqs_refl : ∀ xs, dEqs xs xs = true
  | [] => rfl
  | x :: xs => by simp only [dEqs, Bool.and_eq_true]; exact ⟨dEq_refl x, dEqs_refl xs⟩
end
mutual
def DV.pl : DV → Bool
  | .bl _ => false
  | .tup xs => pls xs
  | .lst xs => pls xs
  | _ => true
def pls : List DV → Bool
  | [] => true
  | x :: xs => x.pl && pls xs
end
mutual
theorem dEq_eq : ∀ {d e : DV}, d.pl = true → e.pl = true → dEq d e = true → d = e
  | .non, .non, _, _, _ => rfl
  | .int a, .int b, _, _, h => by simp only [dEq, beq_iff_eq] at h; rw [h]
  | .str a, .str b, _, _, h => by simp only [dEq, beq_iff_eq] at h; rw [h]
  | .tup xs, .tup ys, p, q, h => by
    simp only [dEq] at h
    simp only [DV.pl] at p q
    rw [dEqs_eq p q h]
  | .lst xs, .lst ys, p, q, h => by
    simp only [dEq] at h
    simp only [DV.pl] at p q
    rw [dEqs_eq p q h]
  | .bl _, _, p, _, _ => by simp [DV.pl] at p
  | .non, .bl _, _, q, _ => by simp [DV.pl] at q
  | .int _, .bl _, _, q, _ => by simp [DV.pl] at q
  | .str _, .bl _, _, q, _ => by simp [DV.pl] at q
  | .tup _, .bl _, _, q, _ => by simp [DV.pl] at q
  | .lst _, .bl _, _, q, _ => by simp [DV.pl] at q
  | .non, .int _, _, _, h => by simp [dEq] at h
  | .non, .str _, _, _, h => by simp [dEq] at h
  | .non, .tup _, _, _, h => by simp [dEq] at h
  | .non, .lst _, _, _, h => by simp [dEq] at h
  | .int _, .non, _, _, h => by simp [dEq] at h
  | .int _, .str _, _, _, h => by simp [dEq] at h
  | .int _, .tup _, _, _, h => by simp [dEq] at h
  | .int _, .lst _, _, _, h => by simp [dEq] at h
  | .str _, .non, _, _, h => by simp [dEq] at h
  | .str _, .int _, _, _, h => by simp [dEq] at h
  | .str _, .tup _, _, _, h => by simp [dEq] at h
  | .str _, .lst _, _, _, h => by simp [dEq] at h
  | .tup _, .non, _, _, h => by simp [dEq] at h
  | .tup _, .int _, _, _, h => by simp [dEq] at h
  | .tup _, .str _, _, _, h => by simp [dEq] at h
  | .tup _, .lst _, _, _, h => by simp [dEq] at h
  | .lst _, .non, _, _, h => by simp [dEq] at h
  | .lst _, .int _, _, _, h => by simp [dEq] at h
  | .lst _, .str _, _, _, h => by simp [dEq] at h
  | .lst _, .tup _, _, _, h => by simp [dEq] at h
theorem dEqs_eq : ∀ {xs ys : List DV}, pls xs = true → pls ys = true → dEqs xs ys = true → xs = ys
  | [], [], _, _, _ => rfl
  | x :: xs, y :: ys, p, q, h => by
    simp only [pls, Bool.and_eq_true] at p q
    simp only [dEqs, Bool.and_eq_true] at h
    rw [dEq_eq p.1 q.1 h.1, dEqs_eq p.2 q.2 h.2]
  | [], _ :: _, _, _, h => by simp [dEqs] at h
  | _ :: _, [], _, _, h => by simp [dEqs] at h
end
theorem dEq_dec {d e : DV} {α : Type} {x y : α} [DecidableEq α] (p : d.pl = true) (q : e.pl = true) (f : d = e ↔ x = y) : dEq d e = decide (x = y) := by
  by_cases c : x = y
  · rw [decide_eq_true c, f.mpr c]
    exact dEq_refl _
  · rw [decide_eq_false c]
    cases z : dEq d e with
    | false => rfl
    | true => exact absurd (f.mp (dEq_eq p q z)) c
theorem dEqs_all : ∀ {xs ys : List DV} {e : Nat → Bool}, (∀ (j : Nat) (x y : DV), xs[j]? = some x → ys[j]? = some y → e j = dEq x y) → ((List.range (min xs.length ys.length)).all e && xs.length == ys.length) = dEqs xs ys
  | [], [], _, _ => rfl
  | [], _ :: _, _, _ => by simp [dEqs]
  | _ :: _, [], _, _ => by simp [dEqs]
  | x :: xs, y :: ys, e, h => by
    have ih := dEqs_all (xs := xs) (ys := ys) (e := fun j => e (j + 1)) (fun j a b ha hb => h (j + 1) a b (by simpa using ha) (by simpa using hb))
    have h0 := h 0 x y rfl rfl
    rw [List.length_cons, List.length_cons, show min (xs.length + 1) (ys.length + 1) = min xs.length ys.length + 1 by omega, List.range_succ_eq_map, List.all_cons, List.all_map]
    show _ = (dEq x y && dEqs xs ys)
    rw [← ih, h0]
    have z : ((xs.length + 1 == ys.length + 1) : Bool) = (xs.length == ys.length) := by
      rw [Bool.eq_iff_iff]
      simp
    rw [z, Bool.and_assoc]
    rfl
theorem dEqs_len : ∀ {xs ys : List DV}, xs.length ≠ ys.length → dEqs xs ys = false
  | [], [], h => absurd rfl h
  | [], _ :: _, _ => rfl
  | _ :: _, [], _ => rfl
  | x :: xs, y :: ys, h => by
    show (dEq x y && dEqs xs ys) = false
    rw [dEqs_len (xs := xs) (ys := ys) (fun z => h (by simp [z]))]
    exact Bool.and_false _
inductive Dv (K : PySem.W.Frag) (H : Hp) : Nat → V → DV → Prop
  | non {n : Nat} : Dv K H n .non .non
  | bl {n : Nat} {b : Bool} : Dv K H n (.bl b) (.bl b)
  | int {n : Nat} {b : Int} : Dv K H n (.int b) (.int b)
  | str {n : Nat} {b : Str} : Dv K H n (.str b) (.str b)
  | tup {n : Nat} {a : Addr} {xs : List V} {ds : List DV} (ha : SqT K H a xs) (hl : xs.length = ds.length) (h : ∀ (j : Nat) (x : V) (d : DV), xs[j]? = some x → ds[j]? = some d → Dv K H n x d) : Dv K H (n + 1) (.ref a) (.tup ds)
  | lst {n : Nat} {a : Addr} {xs : List V} {ds : List DV} (ha : SqL K H a xs) (hl : xs.length = ds.length) (h : ∀ (j : Nat) (x : V) (d : DV), xs[j]? = some x → ds[j]? = some d → Dv K H n x d) : Dv K H (n + 1) (.ref a) (.lst ds)
section
variable {X : Cx} {pins : List (Addr × Obj)} {σ : St} {H : Hp} {s : Shared}
theorem two_kinds {h : Heap} {a : Addr} {i j : Array Value} (p : h.IsTuple a i) (q : PlainL h a j) : False := by
  obtain ⟨o, e, c, _⟩ := p
  obtain ⟨o', n, e', c', _⟩ := q
  rw [e] at e'
  cases e'
  rw [c] at c'
  exact absurd c' (by decide)
theorem ext_of {xs ys : List DV} (h : xs.length = ys.length) (f : ∀ (j : Nat) (x y : DV), xs[j]? = some x → ys[j]? = some y → x = y) : xs = ys := by
  refine List.ext_getElem? fun j => ?_
  by_cases c : j < xs.length
  · rw [List.getElem?_eq_getElem c, List.getElem?_eq_getElem (by omega), f j _ _ (List.getElem?_eq_getElem c) (List.getElem?_eq_getElem (by omega))]
  · rw [List.getElem?_eq_none (by omega), List.getElem?_eq_none (by omega)]
theorem dv_fun (I : Inv X pins σ H s) {n : Nat} {x : V} {d : DV} (h : Dv X.K H n x d) : ∀ {m : Nat} {e : DV}, Dv X.K H m x e → d = e := by
  induction h with
  | non => intro m e h; cases h; rfl
  | bl => intro m e h; cases h; rfl
  | int => intro m e h; cases h; rfl
  | str => intro m e h; cases h; rfl
  | @tup n a xs ds ha hl h ih =>
    intro m e h2
    cases h2 with
    | @tup m _ ys es hb kl k =>
      obtain rfl := I.tuple_inj ha hb
      refine congrArg DV.tup (ext_of (by omega) fun j d e h1 h2 => ?_)
      have lt : j < xs.length := by
        have := (List.getElem?_eq_some_iff.mp h1).1
        omega
      exact ih j xs[j] d (List.getElem?_eq_getElem lt) h1 (k j xs[j] e (List.getElem?_eq_getElem lt) h2)
    | @lst m _ ys es hb kl k =>
      obtain ⟨its, _, t1, _⟩ := I.tuple ha
      obtain ⟨its2, _, t2, _⟩ := I.list hb
      exact (two_kinds t1 t2).elim
  | @lst n a xs ds ha hl h ih =>
    intro m e h2
    cases h2 with
    | @lst m _ ys es hb kl k =>
      obtain rfl := I.list_inj ha hb
      refine congrArg DV.lst (ext_of (by omega) fun j d e h1 h2 => ?_)
      have lt : j < xs.length := by
        have := (List.getElem?_eq_some_iff.mp h1).1
        omega
      exact ih j xs[j] d (List.getElem?_eq_getElem lt) h1 (k j xs[j] e (List.getElem?_eq_getElem lt) h2)
    | @tup m _ ys es hb kl k =>
      obtain ⟨its, _, t1, _⟩ := I.tuple hb
      obtain ⟨its2, _, t2, _⟩ := I.list ha
      exact (two_kinds t1 t2).elim
def at2 (f : DV → DV → Bool) (ds es : List DV) (j : Nat) : Bool := match ds[j]?, es[j]? with | some d, some e => f d e | _, _ => false
theorem at2_of {f : DV → DV → Bool} {ds es : List DV} {j : Nat} {d e : DV} (h : ds[j]? = some d) (h2 : es[j]? = some e) : at2 f ds es j = f d e := by
  unfold at2
  rw [h, h2]
theorem dv_at (I : Inv X pins σ H s) {n : Nat} {x : V} {d : DV} (h : Dv X.K H n x d) : ∀ {m : Nat} {y : V} {e : DV}, Dv X.K H m y e → ∀ {A : Around} {u v : Value}, A.units + n + m < cLine → RelV x u → RelV y v →
    SeqAt.EqAt A s u v (dEq d e) ∧ SeqAt.RcAt A s u v (dEq d e) ∧ SeqAt.RcNeAt A s u v (!dEq d e) := by
  induction h with
  | @non n =>
    intro m y e h2 A u v hu rx ry
    obtain rfl : u = Value.none := rx
    cases h2 with
    | @non  =>
      obtain rfl : v = Value.none := ry
      exact ⟨SeqAt.EqAt.same _, SeqAt.RcAt.none_none, SeqAt.RcNeAt.none_none⟩
    | @bl _ b2 =>
      obtain rfl : v = Value.bool _ := ry
      exact ⟨SeqAt.EqAt.none_bool _, SeqAt.RcAt.none_bool _, SeqAt.RcNeAt.none_bool _⟩
    | @int _ b2 =>
      obtain ⟨_, rfl⟩ := ry
      exact ⟨SeqAt.EqAt.none_int _ _, SeqAt.RcAt.none_int _ _, SeqAt.RcNeAt.none_int _ _⟩
    | @str _ b2 =>
      obtain ⟨_, rfl⟩ := ry
      exact ⟨SeqAt.EqAt.none_str _ _, SeqAt.RcAt.none_str _ _, SeqAt.RcNeAt.none_str _ _⟩
    | @tup m b ys es hb kl k =>
      obtain rfl : v = Value.ref _ := ry
      obtain ⟨its2, r2, t2, z2⟩ := I.tuple hb
      have l2 := r2.length
      exact ⟨SeqAt.EqAt.none_tuple t2 (by omega), SeqAt.RcAt.none_tuple t2 (by omega), SeqAt.RcNeAt.none_tuple t2 (by omega)⟩
    | @lst m b ys es hb kl k =>
      obtain rfl : v = Value.ref _ := ry
      obtain ⟨its2, r2, t2, z2⟩ := I.list hb
      have l2 := r2.length
      exact ⟨SeqAt.EqAt.none_list t2.isList (by omega), SeqAt.RcAt.none_list t2.isList (by omega), SeqAt.RcNeAt.none_list t2.isList (by omega)⟩
  | @bl n b1 =>
    intro m y e h2 A u v hu rx ry
    obtain rfl : u = Value.bool _ := rx
    cases h2 with
    | @non  =>
      obtain rfl : v = Value.none := ry
      exact ⟨SeqAt.EqAt.bool_none _, SeqAt.RcAt.bool_none _, SeqAt.RcNeAt.bool_none _⟩
    | @bl _ b2 =>
      obtain rfl : v = Value.bool _ := ry
      exact ⟨SeqAt.EqAt.bool_bool _ _, SeqAt.RcAt.bool_bool _ _, SeqAt.RcNeAt.bool_bool _ _⟩
    | @int _ b2 =>
      obtain ⟨_, rfl⟩ := ry
      exact ⟨SeqAt.EqAt.bool_int _ _ _, SeqAt.RcAt.bool_int _ _ _, SeqAt.RcNeAt.bool_int _ _ _⟩
    | @str _ b2 =>
      obtain ⟨_, rfl⟩ := ry
      exact ⟨SeqAt.EqAt.bool_str _ _ _, SeqAt.RcAt.bool_str _ _ _, SeqAt.RcNeAt.bool_str _ _ _⟩
    | @tup m b ys es hb kl k =>
      obtain rfl : v = Value.ref _ := ry
      obtain ⟨its2, r2, t2, z2⟩ := I.tuple hb
      have l2 := r2.length
      exact ⟨SeqAt.EqAt.bool_tuple _ t2 (by omega), SeqAt.RcAt.bool_tuple _ t2 (by omega), SeqAt.RcNeAt.bool_tuple _ t2 (by omega)⟩
    | @lst m b ys es hb kl k =>
      obtain rfl : v = Value.ref _ := ry
      obtain ⟨its2, r2, t2, z2⟩ := I.list hb
      have l2 := r2.length
      exact ⟨SeqAt.EqAt.bool_list _ t2.isList (by omega), SeqAt.RcAt.bool_list _ t2.isList (by omega), SeqAt.RcNeAt.bool_list _ t2.isList (by omega)⟩
  | @int n b1 =>
    intro m y e h2 A u v hu rx ry
    obtain ⟨_, rfl⟩ := rx
    cases h2 with
    | @non  =>
      obtain rfl : v = Value.none := ry
      exact ⟨SeqAt.EqAt.int_none _ _, SeqAt.RcAt.int_none _ _, SeqAt.RcNeAt.int_none _ _⟩
    | @bl _ b2 =>
      obtain rfl : v = Value.bool _ := ry
      exact ⟨SeqAt.EqAt.int_bool _ _ _, SeqAt.RcAt.int_bool _ _ _, SeqAt.RcNeAt.int_bool _ _ _⟩
    | @int _ b2 =>
      obtain ⟨_, rfl⟩ := ry
      exact ⟨SeqAt.EqAt.int_int _ _ _ _, SeqAt.RcAt.int_int _ _ _ _, SeqAt.RcNeAt.int_int _ _ _ _⟩
    | @str _ b2 =>
      obtain ⟨_, rfl⟩ := ry
      exact ⟨SeqAt.EqAt.int_str _ _ _ _, SeqAt.RcAt.int_str _ _ _ _, SeqAt.RcNeAt.int_str _ _ _ _⟩
    | @tup m b ys es hb kl k =>
      obtain rfl : v = Value.ref _ := ry
      obtain ⟨its2, r2, t2, z2⟩ := I.tuple hb
      have l2 := r2.length
      exact ⟨SeqAt.EqAt.int_tuple _ _ t2 (by omega), SeqAt.RcAt.int_tuple _ _ t2 (by omega), SeqAt.RcNeAt.int_tuple _ _ t2 (by omega)⟩
    | @lst m b ys es hb kl k =>
      obtain rfl : v = Value.ref _ := ry
      obtain ⟨its2, r2, t2, z2⟩ := I.list hb
      have l2 := r2.length
      exact ⟨SeqAt.EqAt.int_list _ _ t2.isList (by omega), SeqAt.RcAt.int_list _ _ t2.isList (by omega), SeqAt.RcNeAt.int_list _ _ t2.isList (by omega)⟩
  | @str n b1 =>
    intro m y e h2 A u v hu rx ry
    obtain ⟨_, rfl⟩ := rx
    cases h2 with
    | @non  =>
      obtain rfl : v = Value.none := ry
      exact ⟨SeqAt.EqAt.str_none _ _, SeqAt.RcAt.str_none _ _, SeqAt.RcNeAt.str_none _ _⟩
    | @bl _ b2 =>
      obtain rfl : v = Value.bool _ := ry
      exact ⟨SeqAt.EqAt.str_bool _ _ _, SeqAt.RcAt.str_bool _ _ _, SeqAt.RcNeAt.str_bool _ _ _⟩
    | @int _ b2 =>
      obtain ⟨_, rfl⟩ := ry
      exact ⟨SeqAt.EqAt.str_int _ _ _ _, SeqAt.RcAt.str_int _ _ _ _, SeqAt.RcNeAt.str_int _ _ _ _⟩
    | @str _ b2 =>
      obtain ⟨_, rfl⟩ := ry
      exact ⟨SeqAt.EqAt.str_str _ _ _ _, SeqAt.RcAt.str_str _ _ _ _, SeqAt.RcNeAt.str_str _ _ _ _⟩
    | @tup m b ys es hb kl k =>
      obtain rfl : v = Value.ref _ := ry
      obtain ⟨its2, r2, t2, z2⟩ := I.tuple hb
      have l2 := r2.length
      exact ⟨SeqAt.EqAt.str_tuple _ _ t2 (by omega), SeqAt.RcAt.str_tuple _ _ t2 (by omega), SeqAt.RcNeAt.str_tuple _ _ t2 (by omega)⟩
    | @lst m b ys es hb kl k =>
      obtain rfl : v = Value.ref _ := ry
      obtain ⟨its2, r2, t2, z2⟩ := I.list hb
      have l2 := r2.length
      exact ⟨SeqAt.EqAt.str_list _ _ t2.isList (by omega), SeqAt.RcAt.str_list _ _ t2.isList (by omega), SeqAt.RcNeAt.str_list _ _ t2.isList (by omega)⟩
  | @tup n a xs ds ha hl h ih =>
    intro m y e h2 A u v hu rx ry
    obtain rfl : u = Value.ref _ := rx
    obtain ⟨its, r1, t1, z1⟩ := I.tuple ha
    have l1 := r1.length
    cases h2 with
    | @non  =>
      obtain rfl : v = Value.none := ry
      exact ⟨SeqAt.EqAt.tuple_none t1 (by omega), SeqAt.RcAt.tuple_none t1 (by omega), SeqAt.RcNeAt.tuple_none t1 (by omega)⟩
    | @bl _ b2 =>
      obtain rfl : v = Value.bool _ := ry
      exact ⟨SeqAt.EqAt.tuple_bool _ t1 (by omega), SeqAt.RcAt.tuple_bool _ t1 (by omega), SeqAt.RcNeAt.tuple_bool _ t1 (by omega)⟩
    | @int _ b2 =>
      obtain ⟨_, rfl⟩ := ry
      exact ⟨SeqAt.EqAt.tuple_int _ _ t1 (by omega), SeqAt.RcAt.tuple_int _ _ t1 (by omega), SeqAt.RcNeAt.tuple_int _ _ t1 (by omega)⟩
    | @str _ b2 =>
      obtain ⟨_, rfl⟩ := ry
      exact ⟨SeqAt.EqAt.tuple_str _ _ t1 (by omega), SeqAt.RcAt.tuple_str _ _ t1 (by omega), SeqAt.RcNeAt.tuple_str _ _ t1 (by omega)⟩
    | @tup m b ys es hb kl k =>
      obtain rfl : v = Value.ref _ := ry
      obtain ⟨its2, r2, t2, z2⟩ := I.tuple hb
      have l2 := r2.length
      have step : ∀ (j : Nat) (h1 : j < its.toArray.size) (h2 : j < its2.toArray.size), SeqAt.EqAt A.in1 s its.toArray[j] its2.toArray[j] (at2 dEq ds es j) := fun j h1 h2 => by
        obtain ⟨x, hx, rx⟩ := vals_at r1 h1
        obtain ⟨y, hy, ry⟩ := vals_at r2 h2
        have j1 : j < ds.length := by simp at h1; omega
        have j2 : j < es.length := by simp at h2; omega
        rw [at2_of (List.getElem?_eq_getElem j1) (List.getElem?_eq_getElem j2)]
        exact (ih j x _ hx (List.getElem?_eq_getElem j1) (k j y _ hy (List.getElem?_eq_getElem j2)) (A := A.in1) (by show A.units + 1 + n + m < cLine; omega) rx ry).1
      have all := dEqs_all (xs := ds) (ys := es) (e := at2 dEq ds es) fun j x y h1 h2 => at2_of h1 h2
      have both : SeqAt.RcAt A s (.ref a) (.ref b) (dEqs ds es) ∧ SeqAt.RcNeAt A s (.ref a) (.ref b) (!dEqs ds es) := by
        have z1 := SeqAt.RcAt.tuples (A := A) (e := at2 dEq ds es) (show s.heap.IsTuple a its.toArray from t1) (show s.heap.IsTuple b its2.toArray from t2) (by omega) step
        have z2 := SeqAt.RcNeAt.tuples (A := A) (e := at2 dEq ds es) (show s.heap.IsTuple a its.toArray from t1) (show s.heap.IsTuple b its2.toArray from t2) (by omega) step
        have e1 : its.toArray.size = ds.length := by simp; omega
        have e2 : its2.toArray.size = es.length := by simp; omega
        rw [e1, e2, all] at z1 z2
        exact ⟨z1, z2⟩
      simp only [dEq]
      refine ⟨?_, both⟩
      by_cases q : a = b
      · subst q
        have ed : DV.tup ds = DV.tup es := dv_fun I (Dv.tup ha hl h) (Dv.tup hb kl k)
        rw [show es = ds by injection ed with z; exact z.symm, dEqs_refl]
        exact SeqAt.EqAt.same _
      · exact .of_refs q both.1
    | @lst m b ys es hb kl k =>
      obtain rfl : v = Value.ref _ := ry
      obtain ⟨its2, r2, t2, z2⟩ := I.list hb
      have l2 := r2.length
      exact ⟨SeqAt.EqAt.tuple_list t1 t2.isList (by omega), SeqAt.RcAt.tuple_list t1 t2.isList (by omega), SeqAt.RcNeAt.tuple_list t1 t2.isList (by omega)⟩
  | @lst n a xs ds ha hl h ih =>
    intro m y e h2 A u v hu rx ry
    obtain rfl : u = Value.ref _ := rx
    obtain ⟨its, r1, t1, z1⟩ := I.list ha
    have l1 := r1.length
    cases h2 with
    | @non  =>
      obtain rfl : v = Value.none := ry
      exact ⟨SeqAt.EqAt.list_none t1.isList (by omega), SeqAt.RcAt.list_none t1.isList (by omega), SeqAt.RcNeAt.list_none t1.isList (by omega)⟩
    | @bl _ b2 =>
      obtain rfl : v = Value.bool _ := ry
      exact ⟨SeqAt.EqAt.list_bool _ t1.isList (by omega), SeqAt.RcAt.list_bool _ t1.isList (by omega), SeqAt.RcNeAt.list_bool _ t1.isList (by omega)⟩
    | @int _ b2 =>
      obtain ⟨_, rfl⟩ := ry
      exact ⟨SeqAt.EqAt.list_int _ _ t1.isList (by omega), SeqAt.RcAt.list_int _ _ t1.isList (by omega), SeqAt.RcNeAt.list_int _ _ t1.isList (by omega)⟩
    | @str _ b2 =>
      obtain ⟨_, rfl⟩ := ry
      exact ⟨SeqAt.EqAt.list_str _ _ t1.isList (by omega), SeqAt.RcAt.list_str _ _ t1.isList (by omega), SeqAt.RcNeAt.list_str _ _ t1.isList (by omega)⟩
    | @tup m b ys es hb kl k =>
      obtain rfl : v = Value.ref _ := ry
      obtain ⟨its2, r2, t2, z2⟩ := I.tuple hb
      have l2 := r2.length
      exact ⟨SeqAt.EqAt.list_tuple t1.isList t2 (by omega), SeqAt.RcAt.list_tuple t1.isList t2 (by omega), SeqAt.RcNeAt.list_tuple t1.isList t2 (by omega)⟩
    | @lst m b ys es hb kl k =>
      obtain rfl : v = Value.ref _ := ry
      obtain ⟨its2, r2, t2, z2⟩ := I.list hb
      have l2 := r2.length
      have step : ∀ (j : Nat) (h1 : j < its.toArray.size) (h2 : j < its2.toArray.size), SeqAt.EqAt A.in1 s its.toArray[j] its2.toArray[j] (at2 dEq ds es j) := fun j h1 h2 => by
        obtain ⟨x, hx, rx⟩ := vals_at r1 h1
        obtain ⟨y, hy, ry⟩ := vals_at r2 h2
        have j1 : j < ds.length := by simp at h1; omega
        have j2 : j < es.length := by simp at h2; omega
        rw [at2_of (List.getElem?_eq_getElem j1) (List.getElem?_eq_getElem j2)]
        exact (ih j x _ hx (List.getElem?_eq_getElem j1) (k j y _ hy (List.getElem?_eq_getElem j2)) (A := A.in1) (by show A.units + 1 + n + m < cLine; omega) rx ry).1
      have all := dEqs_all (xs := ds) (ys := es) (e := at2 dEq ds es) fun j x y h1 h2 => at2_of h1 h2
      have both : SeqAt.RcAt A s (.ref a) (.ref b) (dEqs ds es) ∧ SeqAt.RcNeAt A s (.ref a) (.ref b) (!dEqs ds es) := by
        have e1 : its.toArray.size = ds.length := by simp; omega
        have e2 : its2.toArray.size = es.length := by simp; omega
        by_cases c : ds.length = es.length
        · have z1 := SeqAt.RcAt.lists (A := A) (e := at2 dEq ds es) t1.isList t2.isList (by omega) (by omega) step
          have z2 := SeqAt.RcNeAt.lists (A := A) (e := at2 dEq ds es) t1.isList t2.isList (by omega) (by omega) step
          have all' : (List.range ds.length).all (at2 dEq ds es) = dEqs ds es := by
            rw [← all, c, Nat.min_self]
            simp
          rw [e1, all'] at z1 z2
          exact ⟨z1, z2⟩
        · rw [dEqs_len c]
          exact ⟨SeqAt.RcAt.lists_lengths (A := A) t1.isList t2.isList (by rw [e1, e2]; simpa using c) (by omega), SeqAt.RcNeAt.lists_lengths (A := A) t1.isList t2.isList (by rw [e1, e2]; simpa using c) (by omega)⟩
      simp only [dEq]
      refine ⟨?_, both⟩
      by_cases q : a = b
      · subst q
        have ed : DV.lst ds = DV.lst es := dv_fun I (Dv.lst ha hl h) (Dv.lst hb kl k)
        rw [show es = ds by injection ed with z; exact z.symm, dEqs_refl]
        exact SeqAt.EqAt.same _
      · exact .of_refs q both.1
end
theorem Same.seqL {K : PySem.W.Frag} {H H' : Hp} {a : Addr} {xs : List V} (s : Same H H') (h : SqL K H a xs) : SqL K H' a xs := by
  rcases h with (h | ⟨ob, h⟩) | h
  · exact .inl (.inl (s _ _ h))
  · exact .inl (.inr ⟨ob, s _ _ h⟩)
  · exact .inr h
def rEqV (K : PySem.W.Frag) : R2 := fun x y H Q => ∃ (n m : Nat) (d e : DV), Dv K H n x d ∧ Dv K H m y e ∧ n ≤ 9 ∧ m ≤ 9 ∧ Q (.bl (dEq d e)) H
def rNeV (K : PySem.W.Frag) : R2 := fun x y H Q => ∃ (n m : Nat) (d e : DV), Dv K H n x d ∧ Dv K H m y e ∧ n ≤ 9 ∧ m ≤ 9 ∧ Q (.bl (!dEq d e)) H
def rInV (K : PySem.W.Frag) (neg : Bool) : R2 := fun x y H Q => ∃ (n m : Nat) (d : DV) (es : List DV), Dv K H n x d ∧ Dv K H m y (.lst es) ∧ n ≤ 9 ∧ m ≤ 9 ∧ Q (.bl (if neg then !es.any (fun z => dEq z d) else es.any fun z => dEq z d)) H
section
variable {X : Cx}
theorem op_eqV (hu : X.A.units + 20 < cLine) : OpR X (compareOp .Eq) (rEqV X.K) := by
  intro pins s σ H x y u v Q I rx ry h
  obtain ⟨n, m, d, e, h1, h2, hn, hm, q⟩ := h
  exact (dv_at I h1 h2 (A := X.A) (by omega) rx ry).2.1 X.prog X.w X.xe _ ⟨.bl _, H, I, rfl, q⟩
theorem op_neV (hu : X.A.units + 20 < cLine) : OpR X (compareOp .NotEq) (rNeV X.K) := by
  intro pins s σ H x y u v Q I rx ry h
  obtain ⟨n, m, d, e, h1, h2, hn, hm, q⟩ := h
  exact PySem.W.cmp_ofNotEq ((dv_at I h1 h2 (A := X.A) (by omega) rx ry).2.2 X.prog X.w X.xe _ ⟨.bl _, H, I, rfl, q⟩)
theorem any_ix {α β : Type} {f : α → Bool} {g : β → Bool} : ∀ {xs : List α} {ys : List β}, xs.length = ys.length → (∀ (j : Nat) (x : α) (y : β), xs[j]? = some x → ys[j]? = some y → f x = g y) → xs.any f = ys.any g
  | [], [], _, _ => rfl
  | [], _ :: _, h, _ => by cases h
  | _ :: _, [], h, _ => by cases h
  | x :: xs, y :: ys, h, k => by
    rw [List.any_cons, List.any_cons, k 0 x y rfl rfl, any_ix (xs := xs) (ys := ys) (by simpa using h) fun j a b h1 h2 => k (j + 1) a b (by simpa using h1) (by simpa using h2)]
noncomputable def eOf (K : PySem.W.Frag) (H : Hp) (m : Nat) (d : DV) (z : V) : Bool := @dite Bool (∃ e, Dv K H m z e) (Classical.propDecidable _) (fun h => dEq h.choose d) fun _ => false
theorem eOf_of {pins : List (Addr × Obj)} {σ : St} {H : Hp} {s : Shared} (I : Inv X pins σ H s) {m : Nat} {d e : DV} {z : V} (h : Dv X.K H m z e) : eOf X.K H m d z = dEq e d := by
  unfold eOf
  rw [dif_pos ⟨e, h⟩]
  have ex : ∃ e, Dv X.K H m z e := ⟨e, h⟩
  rw [dv_fun I ex.choose_spec h]
theorem op_inV (hu : X.A.units + 20 < cLine) : OpR X (compareOp .In) (rInV X.K false) := by
  intro pins s σ H x y v u Q I rx ry h
  obtain ⟨n, m, d, es, h1, h2, hn, hm, q⟩ := h
  cases h2 with
  | @lst m a xs _ ha hl k =>
    cases ry
    obtain ⟨its, r, pl, hz⟩ := I.list ha
    have get : ∀ z ∈ xs, ∃ (j : Nat) (e : DV), xs[j]? = some z ∧ es[j]? = some e ∧ Dv X.K H m z e := fun z hz => by
      obtain ⟨j, hj⟩ := List.getElem?_of_mem hz
      have lt : j < es.length := by rw [← hl]; exact (List.getElem?_eq_some_iff.mp hj).1
      exact ⟨j, es[j], hj, List.getElem?_eq_getElem lt, k j z _ hj (List.getElem?_eq_getElem lt)⟩
    refine SeqAt.in_listAt (eU (eOf X.K H m d)) pl.isList (fun w hw => ?_) ⟨.bl _, H, I, rfl, ?_⟩
    · obtain ⟨z, m1, m2⟩ := mem_rel r w (by simpa using hw)
      obtain ⟨j, e, _, _, he⟩ := get z m1
      rw [eU_of m2, eOf_of I he]
      exact (dv_at I he h1 (A := X.A.in1) (by show X.A.units + 1 + m + n < cLine; omega) m2 rx).1
    · rw [show its.toArray.any (eU (eOf X.K H m d)) = its.any (eU (eOf X.K H m d)) by simp, any_eU r, any_ix (g := fun z => dEq z d) hl fun j z e g1 g2 => eOf_of I (k j z e g1 g2)]
      exact q
theorem op_notInV (hu : X.A.units + 20 < cLine) : OpR X (compareOp .NotIn) (rInV X.K true) := by
  intro pins s σ H x y v u Q I rx ry h
  obtain ⟨n, m, d, es, h1, h2, hn, hm, q⟩ := h
  cases h2 with
  | @lst m a xs _ ha hl k =>
    cases ry
    obtain ⟨its, r, pl, hz⟩ := I.list ha
    have get : ∀ z ∈ xs, ∃ (j : Nat) (e : DV), xs[j]? = some z ∧ es[j]? = some e ∧ Dv X.K H m z e := fun z hz => by
      obtain ⟨j, hj⟩ := List.getElem?_of_mem hz
      have lt : j < es.length := by rw [← hl]; exact (List.getElem?_eq_some_iff.mp hj).1
      exact ⟨j, es[j], hj, List.getElem?_eq_getElem lt, k j z _ hj (List.getElem?_eq_getElem lt)⟩
    refine SeqAt.notIn_listAt (eU (eOf X.K H m d)) pl.isList (fun w hw => ?_) ⟨.bl _, H, I, rfl, ?_⟩
    · obtain ⟨z, m1, m2⟩ := mem_rel r w (by simpa using hw)
      obtain ⟨j, e, _, _, he⟩ := get z m1
      rw [eU_of m2, eOf_of I he]
      exact (dv_at I he h1 (A := X.A.in1) (by show X.A.units + 1 + m + n < cLine; omega) m2 rx).1
    · rw [show its.toArray.any (eU (eOf X.K H m d)) = its.any (eU (eOf X.K H m d)) by simp, any_eU r, any_ix (g := fun z => dEq z d) hl fun j z e g1 g2 => eOf_of I (k j z e g1 g2)]
      exact q
end
end L2
set_option maxRecDepth 100000
set_option maxHeartbeats 1000000
namespace L2
open PySem PySem.Spec PyProof.Rows XL PySem.W
def Tp (H H' : Hp) : Prop := ∀ b xs, H b = some (.tup xs) → H' b = some (.tup xs)
theorem Same.tp {H H' : Hp} (s : Same H H') : Tp H H' := fun b xs e => s b _ e
theorem Tp.trans {H H' H'' : Hp} (s : Tp H H') (r : Tp H' H'') : Tp H H'' := fun b xs e => r b xs (s b xs e)
theorem tp_lst {H : Hp} {l : Addr} {xs ys : List V} (h : H l = some (.lst xs)) : Tp H (upd H l (.lst ys)) := fun b zs e => by
  rw [upd_ne (fun z => by rw [z, h] at e; cases e)]
  exact e
section
variable {J : It} {n : Nat} {g : TG} {σ : St} {fr : List Nat} {tc : TT} {te : TE} {l : Addr} {H1 : Hp} {Q : VK}
theorem comp_go (len : Nat) (hlen : len < sizeLine) (hl : H1 l = none) (x : Nat → V) (hgo : ∀ i H, i < len → Same H1 H → J.go i H) (hy : ∀ i H v H', i < len → Same H1 H → J.yld i H v H' → H' = H ∧ v = x i) (hst : ∀ H, Same H1 H → J.stop len H)
    (p : Nat → Bool) (F : Nat → V → Hp → Prop) (stab : ∀ i y H H', Tp H H' → F i y H → F i y H')
    (step : ∀ i H2, i < len → Same H1 H2 → ∀ (N : V → Hp → Prop) (M : Hp → Prop), (∀ y H', Same H2 H' → p i = true → F i y H' → N y H') → (∀ H', Same H2 H' → p i = false → M H') →
      g (x i) (blk0 σ fr n) H2 fun σ' H3 => tc σ' H3 fun b H4 => if b = true then te σ' H4 N else M H4)
    (fin : ∀ ys H2, Same H1 H2 → H2 l = some (.lst ys) → ys.length = ((List.range len).filter p).length → (∀ (j : Nat) (y : V) (i : Nat), ys[j]? = some y → ((List.range len).filter p)[j]? = some i → F i y H2) → Q (.ref l) H2) : CompG J n g σ fr tc te l H1 Q := by
  refine compG_by len (fun i ys H2 => Same H1 H2 ∧ H2 l = some (.lst ys) ∧ ys.length = ((List.range i).filter p).length ∧ ∀ (j : Nat) (y : V) (k : Nat), ys[j]? = some y → ((List.range i).filter p)[j]? = some k → F k y H2) ?_ ?_ ?_ ?_
  · refine ⟨fun b u e => ?_, upd_same, rfl, fun j y k e => by simp at e⟩
    rw [upd_ne (ne_of_none e hl)]
    exact e
  · rintro i ys H2 lt ⟨s, _⟩
    exact hgo i H2 lt s
  · rintro i ys H2 v H3 lt ⟨s, el, ly, f⟩ yl N hN
    obtain ⟨rfl, rfl⟩ := hy i H2 v H3 lt s yl
    refine step i H3 lt s _ _ (fun y H' s' pt hf => ?_) (fun H' s' pf => ?_)
    · have el' := s' _ _ el
      have ylen : ys.length < sizeLine := by
        rw [ly]
        refine Nat.lt_of_le_of_lt (List.length_filter_le _ _) ?_
        rw [List.length_range]
        omega
      refine ⟨el', ylen, hN _ _ ⟨fun b u e => ?_, upd_same, ?_, fun j z k e1 e2 => ?_⟩⟩
      · rw [upd_ne (ne_of_none e hl)]
        exact s' _ _ (s _ _ e)
      · rw [List.range_succ, List.filter_append, List.length_append, List.length_append, ly, List.filter_cons_of_pos pt]
        rfl
      · rw [List.range_succ, List.filter_append, List.filter_cons_of_pos pt] at e2
        by_cases c : j < ys.length
        · rw [List.getElem?_append_left c] at e1
          rw [List.getElem?_append_left (by omega)] at e2
          exact stab _ _ _ _ ((Same.tp s').trans (tp_lst el')) (f j z k e1 e2)
        · rw [List.getElem?_append_right (by omega)] at e1 e2
          rw [← ly] at e2
          cases hj : j - ys.length with
          | zero =>
            rw [hj] at e1 e2
            simp at e1 e2
            subst e1 e2
            exact stab _ _ _ _ (tp_lst el') hf
          | succ m =>
            rw [hj] at e1
            simp at e1
    · refine hN _ _ ⟨s.trans s', s' _ _ el, ?_, fun j z k e1 e2 => ?_⟩
      · rw [List.range_succ, List.filter_append, List.filter_cons_of_neg (by simp [pf])]
        simpa using ly
      · rw [List.range_succ, List.filter_append, List.filter_cons_of_neg (by simp [pf])] at e2
        simp only [List.filter_nil, List.append_nil] at e2
        exact stab _ _ _ _ (Same.tp s') (f j z k e1 e2)
  · rintro ys H2 ⟨s, el, ly, f⟩
    exact ⟨hst _ s, fin ys H2 s el ly f⟩
theorem comp_listF {K : PySem.W.Frag} {a : Addr} {xs : List V} (hs : SqL K H1 a xs) (hlen : xs.length < sizeLine) (hl : H1 l = none) (p : Nat → Bool) (F : Nat → V → Hp → Prop) (stab : ∀ i y H H', Tp H H' → F i y H → F i y H')
    (step : ∀ (i : Nat) (x : V) (H2 : Hp), xs[i]? = some x → Same H1 H2 → ∀ (N : V → Hp → Prop) (M : Hp → Prop), (∀ y H', Same H2 H' → p i = true → F i y H' → N y H') → (∀ H', Same H2 H' → p i = false → M H') →
      g x (blk0 σ fr n) H2 fun σ' H3 => tc σ' H3 fun b H4 => if b = true then te σ' H4 N else M H4)
    (fin : ∀ ys H2, Same H1 H2 → H2 l = some (.lst ys) → ys.length = ((List.range xs.length).filter p).length → (∀ (j : Nat) (y : V) (i : Nat), ys[j]? = some y → ((List.range xs.length).filter p)[j]? = some i → F i y H2) → Q (.ref l) H2) : CompG (Itl K a) n g σ fr tc te l H1 Q := by
  refine comp_go xs.length hlen hl (fun i => xs.getD i .non) (fun i H lt s => ⟨xs, xs[i], Same.seqL s hs, List.getElem?_eq_getElem lt⟩) (fun i H v H' lt s y => ?_) (fun H s => ⟨xs, Same.seqL s hs, Nat.le_refl _⟩) p F stab (fun i H2 lt s N M h1 h2 => ?_) fin
  · obtain ⟨e, f⟩ := y
    have z := f xs (Same.seqL s hs)
    refine ⟨e, ?_⟩
    simp [z]
  · have e : xs[i]? = some (xs.getD i .non) := by simp [List.getElem?_eq_getElem lt]
    exact step i _ H2 e s N M h1 h2
theorem cut_true {i : Nat} {x : V} {σ0 : St} {H2 : Hp} {N : V → Hp → Prop} {M : Hp → Prop} {g : TG} {te : TE} (h : g x σ0 H2 fun σ' H3 => te σ' H3 N) : g x σ0 H2 fun σ' H3 => tTrue σ' H3 fun b H4 => if b = true then te σ' H4 N else M H4 := by
  have e : (fun (σ' : St) (H3 : Hp) => tTrue σ' H3 fun b H4 => if b = true then te σ' H4 N else M H4) = fun σ' H3 => te σ' H3 N := by
    funext σ' H3
    show (if true = true then te σ' H3 N else M H3) = te σ' H3 N
    rw [if_pos rfl]
  rw [e]
  exact h
theorem filter_all (m : Nat) : (List.range m).filter (fun _ => true) = List.range m := by simp
theorem comp_list {K : PySem.W.Frag} {a : Addr} {xs : List V} (hs : SqL K H1 a xs) (hlen : xs.length < sizeLine) (hl : H1 l = none) (F : Nat → V → Hp → Prop) (stab : ∀ i y H H', Tp H H' → F i y H → F i y H')
    (step : ∀ (i : Nat) (x : V) (H2 : Hp), xs[i]? = some x → Same H1 H2 → ∀ (N : V → Hp → Prop), (∀ y H', Same H2 H' → F i y H' → N y H') → g x (blk0 σ fr n) H2 fun σ' H3 => te σ' H3 N)
    (fin : ∀ ys H2, Same H1 H2 → H2 l = some (.lst ys) → ys.length = xs.length → (∀ (i : Nat) (y : V), ys[i]? = some y → F i y H2) → Q (.ref l) H2) : CompG (Itl K a) n g σ fr tTrue te l H1 Q := by
  refine comp_listF hs hlen hl (fun _ => true) F stab (fun i x H2 hx s N M h1 h2 => cut_true (i := i) (step i x H2 hx s N fun y H' s' f => h1 y H' s' rfl f)) (fun ys H2 s e ly f => ?_)
  rw [filter_all, List.length_range] at ly
  refine fin ys H2 s e ly fun i y hy => f i y i hy ?_
  rw [filter_all, List.getElem?_range (by have := (List.getElem?_eq_some_iff.mp hy).1; omega)]
end
end L2
set_option maxRecDepth 100000
set_option maxHeartbeats 1000000
namespace XL
open PySem PySem.MeetsSeq PySem.MeetsSeq2 PySem.MeetsSeq3 PySem.SeqAt
open AutoSeq1 (wpAny_loadPart')
end XL
namespace L2
open PySem PySem.Spec PyProof.Rows XL PySem.W
def plainE : Expr → Bool
  | .Starred _ _ => false
  | _ => true
theorem star_plain {e : Expr} {es : List Expr} {env : Env} (h : plainE e = true) : starEach (e :: es) env = (false, eval e env) :: starEach es env := by
  cases e <;> first | rfl | cases h
theorem pa_consP {X : Cx} {e : Expr} {es : List Expr} {te : TE} {t : TA} (ha : PE X e te) (hr : PA X es t) (hn : plainE e = true) : PA X (e :: es) (tCons te t) := pa_cons ha hr (star_plain hn)
section
variable {X : Cx}
end
section
variable {J : It} {n : Nat} {g : TG} {σ : St} {fr : List Nat} {tc : TT} {te : TE} {l : Addr} {H1 : Hp} {Q : VK}
end
end L2
set_option maxRecDepth 100000
set_option maxHeartbeats 1000000
namespace XL
open PySem L2
open PyProof.Rows (assign_Tuple)
section
variable {prog : Program} {w : World} {A : Around} {E : Value → Shared → Prop}
end
section
variable {X : Cx} {pos : Pos}
end
end XL
set_option maxRecDepth 100000
set_option maxHeartbeats 1000000
namespace L2
open PySem PySem.Spec PyProof.Rows XL PySem.W
section
variable {J : It} {n : Nat} {g : TG} {σ : St} {fr : List Nat} {tc : TT} {te : TE} {l : Addr} {H1 : Hp} {Q : VK}
end
end L2
set_option maxRecDepth 100000
set_option maxHeartbeats 1000000
namespace L2
open PySem PySem.Spec PyProof.Rows XL PySem.W
section
variable {J : It} {n : Nat} {g : TG} {σ : St} {fr : List Nat} {tc : TT} {te : TE} {l : Addr} {H1 : Hp} {Q : VK}
end
end L2
set_option maxRecDepth 100000
set_option maxHeartbeats 1000000
namespace L2
open PySem PySem.Spec PyProof.Rows XL PySem.W PySem.Builtin PySem.Builtin.Str
section
variable {prog : Program} {w : World} {A : Around} {E : Value → Shared → Prop} {s : Shared} {x y : Str} {t u : Tok} {Q : Value → Shared → Prop}
end
section
variable {X : Cx}
end
end L2
set_option maxRecDepth 100000
set_option maxHeartbeats 1000000
namespace L2
open PySem PySem.Spec PyProof.Rows XL
open AutoSeq1 (wpAny_loadPart')
section
variable {prog : Program} {w : World} {A : Around} {E : Value → Shared → Prop} {s : Shared}
theorem pyIter_dict_raw {d : Addr} {o : Obj} {es : Array DictEntry} {ep : Nat} {Q : Value → Shared → Prop} (hd : (d == sysModules) = false) (ho : s.heap.get? d = some o) (hc : o.cls = .type "dict") (hdat : o.data = .dict es ep)
    (hQ : Q (.ref s.heap.objs.size) { s with heap := s.heap.push { cls := .type "dict_keyiterator", data := .fields #[.ref d, .int 0 0, .int es.size 0, .int ep 0] } }) :
    wpAny (model prog w) A (pyIter (.ref d)) Q E s := by
  have hT : s.TypeIs (.ref d) "dict" := ⟨o, ho, hc⟩
  refine wpAny_pyIter_slot hT F.slot_dict_iter (wpAny_call_entry F.slot_dict_iter hT F.entry_dict_iter ?_ (F.args_dict_iter_1 _))
  unfold Builtin.«dict.__iter__»
  refine wpAny_bind ?_
  unfold Builtin.Dict.dictSlotNone
  refine wpAny_bind (wpAny_notOrdered_dict hT ?_)
  show wpAny _ _ (pure (Value.ref d)) _ _ s
  refine wpAny_pure ?_
  show wpAny _ _ (Builtin.Dict.showsAll d >>= _) _ _ s
  unfold Builtin.Dict.showsAll
  rw [if_neg (by rw [hd]; exact Bool.false_ne_true)]
  refine wpAny_bind (wpAny_pure ?_)
  refine wpAny_bind (wpAny_dictEntries ho hdat ?_)
  refine wpAny_bind (wpAny_dictEpoch ho hdat ?_)
  refine wpAny_bind (wpAny_newObj_type (wpAny_pure ⟨_, rfl, "dict_keyiterator", _, ⟨_, Heap.get?_push_size _ rfl, rfl⟩, F.slot_dict_keyiterator_next.lookup, ?_⟩))
  simpa [rawInt] using hQ
end
theorem meets_enumerate_newD (d : Addr) (hd : (d == sysModules) = false) (es : Array DictEntry) (ep : Nat) (dct : Option Addr) (sl : Array (Option Value)) :
    Meets (Builtin.«enumerate.__new__» ⟨[.type "enumerate", .ref d], []⟩) (fun _ R s => s.heap.get? d = some { cls := .type "dict", dict := dct, data := .dict es ep, slots := sl } ∧
      R (.ok (.ret (.ref (s.heap.push { cls := .type "dict_keyiterator", data := .fields #[.ref d, .int 0 0, .int es.size 0, .int ep 0] }).objs.size)))
        { s with heap := (s.heap.push { cls := .type "dict_keyiterator", data := .fields #[.ref d, .int 0 0, .int es.size 0, .int ep 0] }).push { cls := .type "enumerate", data := .fields #[.none, .bool false, .ref s.heap.objs.size, rawInt 0, .none, .none] } }) :=
  .of_wp fun prog w A R s h => by
    obtain ⟨hp, g, dr, tk, os⟩ := s; obtain ⟨hl, h⟩ := h
    have hsub := sub_enumerate
    have hI : ∀ {A' : Around} {E' : Value → Shared → Prop} {Q' : Value → Shared → Prop}, Q' (.ref hp.objs.size) ⟨hp.push { cls := .type "dict_keyiterator", data := .fields #[.ref d, .int 0 0, .int es.size 0, .int ep 0] }, g, dr, tk, os⟩ → wpAny (model prog w) A' (pyIter (.ref d)) Q' E' ⟨hp, g, dr, tk, os⟩ := fun q => pyIter_dict_raw hd hl rfl rfl q
    wp_walk using wpAny_loadPart' hl
    refine wpAny_stack_any fun st => wpAny_pure ?_
    split
    · rename_i c _ _ _ _ _
      cases (c == Value.type "enumerate")
      · wp_walk using wpAny_loadPart' hl, hI
        exact ⟨_, rfl, h⟩
      · wp_walk using wpAny_loadPart' hl, hI
        exact ⟨_, rfl, h⟩
    · wp_walk using wpAny_loadPart' hl, hI
      exact ⟨_, rfl, h⟩
section
variable {prog : Program} {w : World} {A : Around} {E : Value → Shared → Prop} {s : Shared}
theorem call_enumerate_dict {d : Addr} {o : Obj} {es : Array DictEntry} {ep : Nat} {Q : Value → Shared → Prop} (hd : (d == sysModules) = false) (ho : s.heap.get? d = some o) (hc : o.cls = .type "dict") (hdat : o.data = .dict es ep)
    (h : ∀ h', IsEnum h' (s.heap.objs.size + 1) s.heap.objs.size 0 .none → h'.IsKeyIter s.heap.objs.size d 0 es.size ep → h'.objs.size = s.heap.objs.size + 2 →
      (∀ b o, s.heap.get? b = some o → h'.get? b = some o) → Q (.ref (s.heap.objs.size + 1)) { s with heap := h' }) :
    wpAny (model prog w) A (call (.type "enumerate") [.ref d]) Q E s := by
  obtain ⟨c, dct, dt, sl⟩ := o
  replace hc : c = .type "dict" := hc
  replace hdat : dt = .dict es ep := hdat
  subst hc hdat
  refine callType_new F.called_enumerate (by decide) (F.typeCall_enumerate_1 _) (F.newCall_enumerate_1 _) (fun obj => F.args_object_init_2 obj _) F.entry_enumerate_new
    (meets_enumerate_newD d hd es ep dct sl) ⟨ho, ?_⟩
  have hz : (s.heap.push { cls := .type "dict_keyiterator", data := .fields #[.ref d, .int 0 0, .int es.size 0, .int ep 0] }).objs.size = s.heap.objs.size + 1 := Heap.size_push ..
  show _ ∧ _
  rw [hz]
  have he : IsEnum ((s.heap.push { cls := .type "dict_keyiterator", data := .fields #[.ref d, .int 0 0, .int es.size 0, .int ep 0] }).push
      { cls := .type "enumerate", data := .fields #[.none, .bool false, .ref s.heap.objs.size, rawInt 0, .none, .none] }) (s.heap.objs.size + 1) s.heap.objs.size 0 .none := by
    have := Heap.get?_push_size (s.heap.push { cls := .type "dict_keyiterator", data := .fields #[.ref d, .int 0 0, .int es.size 0, .int ep 0] })
      (o := { cls := .type "enumerate", data := .fields #[.none, .bool false, .ref s.heap.objs.size, rawInt 0, .none, .none] }) rfl
    rw [hz] at this; exact this
  refine ⟨⟨_, he, rfl⟩, h _ he ⟨_, Heap.get?_push_of_some _ (Heap.get?_push_size _ rfl), rfl, rfl⟩ (by rw [Heap.size_push, hz]) fun b o x => Heap.get?_push_of_some _ (Heap.get?_push_of_some _ x)⟩
end
section
variable {prog : Program} {w : World} {K : Type} [DecidableEq K] {knd : KeyKind prog w K} {A : Around} {E : Value → Shared → Prop} {s : Shared}
theorem nextOf_dict_item {it d : Addr} {i ep : Nat} {kvs : List (K × Value)} {k : K} {v : Value} {Q : Value → Shared → Prop} (hit : s.heap.IsKeyIter it d i kvs.length ep)
    (hm : s.heap.DictAt knd d kvs ep) (hx : kvs[i]? = some (k, v))
    (hQ : ∀ key h', knd.is k key = true → h'.IsKeyIter it d (i + 1) kvs.length ep → Heap.SameBut it s.heap h' → Q key { s with heap := h' }) :
    wpAny (model prog w) A (Builtin.SmallTypes.nextOf (.ref it)) Q E s := by
  obtain ⟨o, ho, hc, hd⟩ := id hit
  obtain ⟨od, es, hod, hcd, hdd, hk, hp, hn⟩ := id hm
  unfold Builtin.SmallTypes.nextOf
  refine wpAny_bind (wpAny_callSpecial?_slot (name := Str.ofString "__next__") hit.typeIs F.slot_dict_keyiterator_next
    (wpAny_call_entry F.slot_dict_keyiterator_next hit.typeIs F.entry_dict_keyiterator_next ?_ (F.args_dict_keyiterator_next_1 _)))
  refine wpAny_bind (wpAny_pure ?_)
  refine wpAny_bind ?_
  refine wpAny_bind ?_
  first | refine wpAny_bind (wpAny_typeNameOfWhole_keyiter hit.typeIs (wpAny_pure ?_)) | refine wpAny_bind (wpAny_typeNameOf_keyiter hit.typeIs (wpAny_pure ?_))
  refine wpAny_bind (wpAny_fieldsOf ho hd ?_)
  have hown : Builtin.Dict_items.ownsTuple "dict_keyiterator" = false := by decide
  simp only [hown, Bool.false_eq_true, if_false]
  show wpAny _ _ (if (Value.ref d == Value.none) = true then _ else _) _ _ s
  rw [if_neg (show ¬ ((Value.ref d == Value.none) = true) from Bool.false_ne_true)]
  refine wpAny_bind (wpAny_pure ?_)
  refine wpAny_bind (wpAny_dictEntries hod hdd ?_)
  have hsz : es.size = kvs.length := by rw [← hp.length]; simp
  rw [if_neg (by rw [hsz]; simp)]
  refine wpAny_bind (wpAny_pure ?_)
  refine wpAny_bind (wpAny_dictEpoch hod hdd ?_)
  rw [if_neg (by simp)]
  refine wpAny_pure ?_
  have hlt : i < kvs.length := by
    rcases Nat.lt_or_ge i kvs.length with h | h
    · exact h
    · simp [List.getElem?_eq_none h] at hx
  have hlt' : i < es.size := by rw [hsz]; exact hlt
  have hkey : knd.is k es[i].key = true := (hp.get? (e := es[i]) (by simp [hlt']) hx).1
  simp only [show ¬ ((i : Int) < 0) from by omega, if_false, Int.toNat_natCast, Array.getElem?_eq_getElem hlt']
  refine wpAny_bind ?_
  first | refine wpAny_bind (wpAny_typeNameOfWhole_keyiter hit.typeIs (wpAny_pure ?_)) | refine wpAny_bind (wpAny_typeNameOf_keyiter hit.typeIs (wpAny_pure ?_))
  refine wpAny_bind (wpAny_isOneOf_keyiter hit.typeIs ?_)
  show wpAny _ _ (setField (.ref it) 1 (rawInt ((i : Int) + 1)) >>= _) _ _ s
  refine wpAny_bind (wpAny_setField ho hd (by simp) ?_)
  have hit' : (s.heap.update it (Obj.mapFields (·.setIfInBounds 1 (rawInt ((i : Int) + 1))))).IsKeyIter it d (i + 1) kvs.length ep :=
    ⟨_, Heap.get?_update_self _ ho (Obj.isFreed_of_fields (Obj.data_mapFields hd _)), (Obj.cls_mapFields ..).trans hc, by rw [Obj.data_mapFields hd]; simp [rawInt]⟩
  refine wpAny_bind (wpAny_holding ?_)
  refine wpAny_bind (wpAny_isOneOf_keyiter (s := { s with heap := s.heap.update it (Obj.mapFields (·.setIfInBounds 1 (rawInt ((i : Int) + 1)))) }) hit'.typeIs ?_)
  show wpAny _ _ (pure es[i].key) _ _ _
  exact wpAny_pure (wpAny_pure ⟨_, rfl, wpAny_pure (hQ _ _ hkey hit' (Heap.SameBut.update ..))⟩)
theorem nextOf_dict_end {it d : Addr} {i ep : Nat} {kvs : List (K × Value)} {Q : Value → Shared → Prop} (hh : A.handled = none) (hit : s.heap.IsKeyIter it d i kvs.length ep)
    (hm : s.heap.DictAt knd d kvs ep) (hx : kvs[i]? = none)
    (hE : ∀ h' e, Heap.ExtBut it s.heap h' → (∃ o, h'.get? e = some o ∧ o.cls = .type "StopIteration") → E (.ref e) { s with heap := h' }) : wpAny (model prog w) A (Builtin.SmallTypes.nextOf (.ref it)) Q E s := by
  obtain ⟨o, ho, hc, hd⟩ := id hit
  obtain ⟨od, es, hod, hcd, hdd, hk, hp, hn⟩ := id hm
  unfold Builtin.SmallTypes.nextOf
  refine wpAny_bind (wpAny_callSpecial?_slot (name := Str.ofString "__next__") hit.typeIs F.slot_dict_keyiterator_next
    (wpAny_call_entry F.slot_dict_keyiterator_next hit.typeIs F.entry_dict_keyiterator_next ?_ (F.args_dict_keyiterator_next_1 _)))
  refine wpAny_bind (wpAny_pure ?_)
  refine wpAny_bind ?_
  refine wpAny_bind ?_
  first | refine wpAny_bind (wpAny_typeNameOfWhole_keyiter hit.typeIs (wpAny_pure ?_)) | refine wpAny_bind (wpAny_typeNameOf_keyiter hit.typeIs (wpAny_pure ?_))
  refine wpAny_bind (wpAny_fieldsOf ho hd ?_)
  have hown : Builtin.Dict_items.ownsTuple "dict_keyiterator" = false := by decide
  simp only [hown, Bool.false_eq_true, if_false]
  show wpAny _ _ (if (Value.ref d == Value.none) = true then _ else _) _ _ s
  rw [if_neg (show ¬ ((Value.ref d == Value.none) = true) from Bool.false_ne_true)]
  refine wpAny_bind (wpAny_pure ?_)
  refine wpAny_bind (wpAny_dictEntries hod hdd ?_)
  have hsz : es.size = kvs.length := by rw [← hp.length]; simp
  rw [if_neg (by rw [hsz]; simp)]
  refine wpAny_bind (wpAny_pure ?_)
  refine wpAny_bind (wpAny_dictEpoch hod hdd ?_)
  rw [if_neg (by simp)]
  refine wpAny_pure ?_
  have hge : es.size ≤ i := by rw [hsz]; simpa using hx
  simp only [show ¬ ((i : Int) < 0) from by omega, if_false, Int.toNat_natCast, Array.getElem?_eq_none hge]
  refine wpAny_bind ?_
  first | refine wpAny_bind (wpAny_typeNameOfWhole_keyiter hit.typeIs (wpAny_pure ?_)) | refine wpAny_bind (wpAny_typeNameOf_keyiter hit.typeIs (wpAny_pure ?_))
  show wpAny _ _ (setField (.ref it) 0 .none >>= _) _ _ s
  refine wpAny_bind (wpAny_setField ho hd (by simp) ?_)
  show wpAny _ _ (newExc (.type "StopIteration") [] >>= _) _ _ _
  refine wpAny_bind ?_
  simp only [newExc, newTuple]
  refine wpAny_bind (wpAny_newObj_type ?_ (by size_fits))
  refine wpAny_bind (m := firstArgMember _ _) (wpAny_of_eq (a := Value.none) (by first | rfl | (simp only [firstArgMember]; rfl)) ?_)
  refine wpAny_newObj_type ?_ (by size_fits)
  simp only [raiseNew]
  refine wpAny_bind (wpAny_handled ?_)
  first | rw [show A.in1.handled = none from hh] | rw [hh]
  refine wpAny_bind (wpAny_pure (wpAny_throw ?_))
  exact hE _ _ (((Heap.SameBut.update ..).extBut.push _).push _) ⟨_, Heap.get?_push_size _ rfl, rfl⟩
theorem draws_dict (hh : A.handled = none) {it d : Addr} (hid : it ≠ d) {kvs : List (K × Value)} {ep : Nat} :
    Draws prog w A it [it, d] kvs.length (fun i v => ∃ k x, kvs[i]? = some (k, x) ∧ knd.is k v = true) (fun i h => h.IsKeyIter it d i kvs.length ep ∧ h.DictAt knd d kvs ep) where
  live := fun _ _ st => let ⟨⟨o, ho, _⟩, _⟩ := st; ⟨o, ho⟩
  frame := fun _ _ _ st hk => by
    obtain ⟨⟨o, ho, r⟩, od, es, g, r2⟩ := st
    exact ⟨⟨o, hk it (by simp) o ho, r⟩, od, es, hk d (by simp) od g, r2⟩
  item := fun i s Q E hi st hQ => by
    obtain ⟨st, da⟩ := st
    obtain ⟨⟨k, x⟩, hx⟩ : ∃ y, kvs[i]? = some y := ⟨_, List.getElem?_eq_getElem hi⟩
    exact nextOf_dict_item st da hx fun key h' hkey hit' hs => hQ key h' s.toks ⟨k, x, hx, hkey⟩ ⟨hit', da.extBut hs.extBut (Ne.symm hid)⟩ hs
  done := fun s Q E st hE => by
    obtain ⟨st, da⟩ := st
    exact nextOf_dict_end hh st da (by simp) fun h' e x y => hE h' e x y
end
def Itk (d : Addr) (o : Obj) (kvs : List (Key × V)) : It :=
  ⟨fun i H => H d = some (.frz o (.dK kvs)) ∧ i < kvs.length, fun i H v H' => ∃ p k x, kvs[i]? = some (k, x) ∧ v = .ref p ∧ H p = none ∧ H' = upd H p (.tup [.int i, kV k]), fun i H => H d = some (.frz o (.dK kvs)) ∧ kvs.length ≤ i⟩
theorem KV.back : ∀ {kvs : List (Key × V)} {vs : List (Key × Value)} {i : Nat} {k : Key} {u : Value}, KV kvs vs → vs[i]? = some (k, u) → ∃ x, kvs[i]? = some (k, x)
  | _, _, _, _, _, .nil, e => by simp at e
  | (_, x) :: _, (_, _) :: _, 0, _, _, .cons r _, e => by
    simp at e
    obtain ⟨e1, e2⟩ := e
    obtain ⟨r1, r2⟩ := r
    dsimp only at r1 r2
    exact ⟨x, by simp [r1, e1]⟩
  | _, _, i + 1, k, u, .cons _ t, e => by
    obtain ⟨x, h⟩ := KV.back (i := i) t (by simpa using e)
    exact ⟨x, by simpa using h⟩
theorem turn_enumD {P : Program} {w : World} {K : PySem.W.Frag} {elts : List Expr} {x1} {tpos : Pos} (e it d : Addr) (hei : e ≠ it) (hid : it ≠ d) (hed : e ≠ d) (o : Obj) (kvs : List (Key × V)) (ep : Nat) (hep : ∃ es, o.data = .dict es ep) :
    Turn P w K (.Tuple elts x1 tpos) (Itk d o kvs) [e, it] e (fun i h => (∃ old, IsEnum h e it i old) ∧ h.IsKeyIter it d i kvs.length ep) where
  mem := by simp
  obj := fun i h st b hb => by
    obtain ⟨⟨old, he⟩, ⟨o1, e1, c1, d1⟩⟩ := st
    simp only [List.mem_cons, List.not_mem_nil, or_false] at hb
    rcases hb with rfl | rfl
    · exact ⟨_, he, fun v k => by have k' : Data.fields _ = Data.cell v := k; cases k'⟩
    · exact ⟨_, e1, fun v k => by rw [d1] at k; cases k⟩
  keep := fun i h h' ⟨⟨old, he⟩, ⟨o1, e1, r⟩⟩ k => ⟨⟨old, k e (by simp) _ he⟩, ⟨o1, k it (by simp) _ e1, r⟩⟩
  item := by
    intro X hP hw hK hc i pins s σ H E I hf st hg
    subst hP hw hK
    obtain ⟨⟨old, he⟩, h1⟩ := id st
    obtain ⟨ed, lt⟩ := hg
    obtain ⟨vs, rel, da⟩ := frz_at I ed hep
    have hl : kvs.length = vs.length := rel.length
    rw [hl] at h1
    refine wpAny_pyNext_enum_itemD (draws_dict (A := X.A.in1) (I.ok.hd hc) hid) he ⟨h1, da⟩ (by omega) hei (by simp [hei, hed]) fun x h' tk px ho hst' hT hsz hk => ?_
    obtain ⟨k, u, hv, hkey⟩ := px
    obtain ⟨y, hx⟩ := rel.back hv
    refine ⟨_, rfl, wpAny_letOwnedTupleGo_enum (s := { s with heap := h', toks := tk + 1 }) ho fun h'' he' hs' => ?_⟩
    have elt : e < s.heap.objs.size := Heap.lt_size he
    have pne : s.heap.objs.size ≠ e := Nat.ne_of_gt elt
    have kk : ∀ b o, b ∉ [e, it] → s.heap.get? b = some o → h''.get? b = some o := fun b o hb g => by
      simp only [List.mem_cons, List.not_mem_nil, or_false, not_or] at hb
      exact (hs'.2 b hb.1).trans (hk b o hb.1 hb.2 g)
    have I1 : Inv X pins σ H { s with heap := h'', toks := tk + 1 } := I.turnedL kk hf
    obtain ⟨n0, nL, nC, nP⟩ := I.size_lt (Nat.le_refl s.heap.objs.size)
    have hp : h''.get? s.heap.objs.size = some { cls := .type "tuple", data := .seq #[.int i tk, x] } := (hs'.2 _ pne).trans hT
    refine ⟨.ref s.heap.objs.size, upd H s.heap.objs.size (.tup [.int i, kV k]), I1.adopt n0 I.sz nL nC nP ⟨by show 2 ≤ sizeLine; decide, [.int i tk, x], .cons ⟨_, rfl⟩ (.cons (kV_rel hkey) .nil), _, hp, rfl, _, rfl⟩, rfl,
      ⟨_, k, y, hx, rfl, n0, rfl⟩, ?_, fun b hb => ?_⟩
    · obtain ⟨⟨o2, g2, r2⟩, _⟩ := hst'
      rw [← hl] at r2
      exact ⟨⟨_, by simpa using he'⟩, ⟨o2, (hs'.2 it (Ne.symm hei)).trans g2, r2⟩⟩
    · obtain ⟨o, ho⟩ : ∃ o, s.heap.get? b = some o := by
        obtain ⟨o1, e1, _⟩ := h1
        simp only [List.mem_cons, List.not_mem_nil, or_false] at hb
        rcases hb with rfl | rfl
        · exact ⟨_, he⟩
        · exact ⟨_, e1⟩
      rw [upd_ne (Nat.ne_of_lt (Heap.lt_size ho))]
      exact (hf b hb).1
  done := by
    intro X hP hw hK hc i pins s σ H E I hf st hg
    subst hP hw hK
    obtain ⟨⟨old, he⟩, h1⟩ := id st
    obtain ⟨ed, le⟩ := hg
    obtain ⟨vs, rel, da⟩ := frz_at I ed hep
    have hl : kvs.length = vs.length := rel.length
    rw [hl] at h1
    have D := draws_dict (A := X.A.in1) (I.ok.hd hc) hid (knd := mixKind X.prog X.w) (kvs := vs) (ep := ep)
    have fin : ∀ h', Heap.ExtBut it s.heap h' → (none : Option Value) = none ∧ Inv X pins σ H { s with heap := h' } := fun h' hx => ⟨rfl, I.turnedL (t' := s.toks) (fun b o hb g => by
      simp only [List.mem_cons, List.not_mem_nil, or_false, not_or] at hb
      exact hx b o hb.2 g) hf⟩
    have hT : s.TypeIs (.ref e) "enumerate" := ⟨_, he, rfl⟩
    unfold pyNext
    refine wpAny_bind (wpAny_attempt (wpAny_callSpecial?_slot (name := Str.ofString "__next__") hT F.slot_enumerate_next
      (wpAny_call_entry F.slot_enumerate_next hT F.entry_enumerate_next ?_ (F.args_enumerate_next_1 _))))
    show wpAny _ _ (field (.ref e) 2 >>= _) _ _ _
    refine wpAny_bind (wpAny_field he rfl (x := .ref it) rfl ?_)
    refine wpAny_bind (nextOf_dict_end (I.ok.hd hc) h1 da (by simp; omega) fun h' x he' hx' => ?_)
    obtain ⟨o, ho, hc⟩ := hx'
    refine wpAny_bind (wpAny_isInstance (T := "StopIteration") (b := true) ⟨o, ho, hc⟩ isSubtype_stop ?_)
    exact wpAny_pure (fin _ he')
  self := fun _ _ _ _ _ ⟨⟨_, st⟩, _⟩ h => wpAny_pyIter_enum st h
def iEnumD (ta : TA) : TI := fun σ H R => ta σ H fun vs H1 => ∃ d kvs, vs = [.ref d] ∧ ((H1 d = some (.dK kvs) ∧ ∀ ob, R (Itk d ob kvs) (upd H1 d (.frz ob (.dK kvs)))) ∨ ∃ ob, H1 d = some (.frz ob (.dK kvs)) ∧ R (Itk d ob kvs) H1)
section
variable {X : Cx} {elts : List Expr} {x1 : _} {tpos : Pos}
theorem pi_enumD {a : Expr} {ta : TA} {p pos : Pos} (hg : Gl X "enumerate") (hm : X.mg "enumerate" = none) (ha : PA X [a] ta) (hs : starEach [a] X.env = [(false, eval a X.env)] := by rfl) :
    PI X (.Tuple elts x1 tpos) (.Call (.Name "enumerate" p) [a] [] pos) (iEnumD ta) := by
  intro pins s σ H R I h
  refine Call_ (ld_blt I hg hm PyProof.Rows.Boot.«enumerate» (PyProof.Rows.callWith_type1 (thn (ha pos pins s σ H _ I h) fun us s1 ⟨vs, H1, I1, r1, q1⟩ => ?_) hs rfl))
  obtain ⟨d, kvs, e, q⟩ := q1
  subst e
  obtain ⟨u, rfl, ru⟩ := vals1 r1
  obtain rfl : u = Value.ref d := ru
  have key : ∀ H2 ob, H2 d = some (.frz ob (.dK kvs)) → Inv X pins σ H2 s1 → R (Itk d ob kvs) H2 → wpAny (model X.prog X.w) X.A (call (.type "enumerate") [.ref d]) (fun v s1 => wpAny (model X.prog X.w) X.A (pyIter v) (PIE X pins σ (.Tuple elts x1 tpos) R) X.xe s1) X.xe s1 := by
    intro H2 ob e2 I2 q2
    obtain ⟨z, hd, vs, rel, dd⟩ := dk_rd I2.hok (.inr ⟨ob, e2⟩)
    obtain ⟨ob', es, ep, g, ex, hdat, hk, hp, hn⟩ := id dd
    obtain ⟨g2, _⟩ := I2.hok d _ e2
    rw [g] at g2
    have eo : ob' = ob := Option.some.inj g2
    subst eo
    have hsz : es.size = vs.length := by rw [← hp.length]; simp
    refine call_enumerate_dict hd g (by obtain ⟨o3, g3, c3⟩ := dd.typeIs (s := s1); rw [g] at g3; cases g3; exact c3) hdat fun h' he h1 hsz' hk' => ?_
    refine wpAny_pyIter_enum (s := { s1 with heap := h' }) he ?_
    have I3 : Inv X pins σ H2 { s1 with heap := h' } := I2.kept (t' := s1.toks) hk'
    have dlt : d < s1.heap.objs.size := Heap.lt_size g
    rw [hsz, ← rel.length] at h1
    refine ⟨_, [s1.heap.objs.size + 1, s1.heap.objs.size], _, _, H2, rfl, I3, turn_enumD (s1.heap.objs.size + 1) s1.heap.objs.size d (ne_num (by omega)) (Nat.ne_of_gt dlt) (Nat.ne_of_gt (Nat.lt_succ_of_lt dlt)) ob' kvs ep ⟨es, hdat⟩, ⟨⟨_, he⟩, h1⟩, fun b hb => ?_, q2⟩
    have hb' : s1.heap.objs.size ≤ b := by
      simp only [List.mem_cons, List.not_mem_nil, or_false] at hb
      rcases hb with rfl | rfl
      · exact Nat.le_add_right _ 1
      · exact Nat.le_refl _
    exact I2.fpOk hb' (I2.hok.fresh hb')
  rcases q with ⟨e, q⟩ | ⟨ob, e, q⟩
  · obtain ⟨z, hd, vs, rel, dd⟩ := dk_of I1.hok e
    obtain ⟨ob, es, ep, g, ex, hdat, hk, hp, hn⟩ := id dd
    exact key _ ob upd_same (I1.write (t' := s1.toks) (x := d) (e := d) (by rw [e]; exact True.intro) (.inl rfl) (fun b u _ q => q) ⟨ob, g⟩ ⟨g, I1.hok d _ e⟩) (q ob)
  · exact key _ ob e I1 q
end
theorem for_enumD {d : Addr} {ob : Obj} {kvs : List (Key × V)} {g : TG} {tb : TS} {D : Ends} {σ : St} {H : Hp} (Pv : Nat → St → Hp → Prop) (h0 : Pv 0 σ H) (hl : ∀ i σ H, i ≤ kvs.length → Pv i σ H → H d = some (.frz ob (.dK kvs)))
    (hs : ∀ i k x p σ H, kvs[i]? = some (k, x) → H p = none → Pv i σ H → g (.ref p) σ (upd H p (.tup [.int i, kV k])) fun σ2 H2 => tb { D with nx := Pv (i + 1), ct := Pv (i + 1), bk := D.nx } σ2 H2) (hd : ∀ σ H, Pv kvs.length σ H → D.nx σ H) :
    ∃ W : Nat → Nat → St → Hp → Prop, (∃ m, W 0 m σ H) ∧ ∀ i m σ H, W i m σ H →
      ((Itk d ob kvs).stop i H ∧ D.nx σ H) ∨ ((Itk d ob kvs).go i H ∧ ∃ N : St → Hp → Prop, (∀ σ' H', N σ' H' → ∃ m', m' < m ∧ W (i + 1) m' σ' H') ∧ ∀ x H', (Itk d ob kvs).yld i H x H' → g x σ H' fun σ2 H2 => tb { D with nx := N, ct := N, bk := D.nx } σ2 H2) := by
  refine ⟨fun i m σ H => m = kvs.length - i ∧ i ≤ kvs.length ∧ Pv i σ H, ⟨kvs.length, by simp, Nat.zero_le _, h0⟩, ?_⟩
  rintro i m σ H ⟨rfl, hi, p⟩
  have q := hl i σ H hi p
  by_cases hlt : i < kvs.length
  · refine .inr ⟨⟨q, hlt⟩, Pv (i + 1), fun σ' H' p' => ⟨kvs.length - (i + 1), by omega, rfl, hlt, p'⟩, fun x H' y => ?_⟩
    obtain ⟨r, k, x', e1, rfl, hr, rfl⟩ := y
    exact hs i k x' r σ H e1 hr p
  · have e : i = kvs.length := by omega
    subst e
    exact .inl ⟨⟨q, Nat.le_refl _⟩, hd σ H p⟩
def Itw (d : Addr) (o : Obj) (kvs : List (Key × V)) : It :=
  ⟨fun i H => H d = some (.frz o (.dK kvs)) ∧ i < kvs.length, fun i H v H' => H' = H ∧ ∃ k, kvs[i]? = some (k, v), fun i H => H d = some (.frz o (.dK kvs)) ∧ kvs.length ≤ i⟩
theorem turn_values {P : Program} {w : World} {K : PySem.W.Frag} {tg : Expr} (d it : Addr) (o : Obj) (kvs : List (Key × V)) (ep : Nat) (hep : ∃ es, o.data = .dict es ep) :
    Turn P w K tg (Itw d o kvs) [it] it (fun i h => h.IsValIter it d i kvs.length ep) where
  mem := by simp
  obj := fun i h st b hb => by
    have e : b = it := by simpa using hb
    subst e
    obtain ⟨o1, e1, c1, d1⟩ := st
    exact ⟨_, e1, fun v k => by rw [d1] at k; cases k⟩
  keep := fun i h h' ⟨o1, e1, r⟩ k => ⟨o1, k it (by simp) _ e1, r⟩
  item := by
    intro X hP hw hK hc i pins s σ H E I hf st hg
    subst hP hw hK
    obtain ⟨e, lt⟩ := hg
    obtain ⟨vs, rel, da⟩ := frz_at I e hep
    obtain ⟨f0, f1, f2, f3, f4, f5⟩ := hf it (by simp)
    have hl : kvs.length = vs.length := rel.length
    obtain ⟨⟨k, x⟩, q⟩ : ∃ y, kvs[i] = y := ⟨_, rfl⟩
    have hx : kvs[i]? = some (k, x) := by rw [List.getElem?_eq_getElem lt, q]
    obtain ⟨u, hv, ru⟩ := rel.get hx
    rw [hl] at st
    refine wpAny_pyNext_values_item st da hv fun h' hit' hs => ?_
    obtain ⟨o2, g2, c2, d2⟩ := id hit'
    refine ⟨_, rfl, go_of (s := { s with heap := h' }) g2 c2 d2 (by decide) ?_⟩
    have I1 : Inv X pins σ H { s with heap := h' } := I.turned (t' := s.toks) (fun b o hb g => (hs.2 b hb).trans g) f0 f1 f3 f4 f5
    rw [← hl] at hit'
    exact ⟨x, H, I1, ru, ⟨rfl, k, hx⟩, hit', fun b hb => (hf b hb).1⟩
  done := by
    intro X hP hw hK hc i pins s σ H E I hf st hg
    subst hP hw hK
    obtain ⟨e, le⟩ := hg
    obtain ⟨vs, rel, da⟩ := frz_at I e hep
    obtain ⟨f0, f1, f2, f3, f4, f5⟩ := hf it (by simp)
    have hl : kvs.length = vs.length := rel.length
    rw [hl] at st
    exact wpAny_pyNext_values_end (I.ok.hd hc) st da (by simpa using (by omega : vs.length ≤ i)) fun h' eb => ⟨rfl, I.turned (t' := s.toks) (fun b o hb e => eb b o hb e) f0 f1 f3 f4 f5⟩
  self := fun A i s Q E st h => wpAny_pyIter_valiter st h
def iVals (X : Cx) (to : TE) : TI := fun σ H R => to σ H fun x H1 => ∃ d kvs, x = .ref d ∧ H1 d = some (.dK kvs) ∧ ∀ ob, (∀ o' u', X.H₀ d ≠ some (.frz o' u')) → R (Itw d ob kvs) (upd H1 d (.frz ob (.dK kvs)))
section
variable {X : Cx} {o : Expr} {to : TE} {tg : Expr} {apos cpos : Pos}
theorem pi_values (ho : PE X o to) (hbase : attributeBase o "values" X.env (eval o X.env) = eval o X.env := by rfl) (hline : (apos.endLine == cpos.line) = true := by rfl) :
    PI X tg (.Call (.Attribute o "values" apos) [] [] cpos) (iVals X to) := by
  intro pins s σ H R I h
  refine wpAny_Call_method0_late hbase hline (thn (ho pins s σ H _ I h) fun v s1 ⟨x, H1, I1, r1, q1⟩ => ?_)
  obtain ⟨d, kvs, e1, e, q⟩ := q1
  subst e1
  cases r1
  obtain ⟨z, hd, vs, rel, dd⟩ := dk_of I1.hok e
  obtain ⟨ob, es, ep, g, ex, hdat, hk, hp, hn⟩ := id dd
  refine ⟨"dict", "dict.values", PySem.F.plainAttrs_dict, PySem.F.slot_dict_values, PySem.F.type_dict_values, dd.typeIs, fun a e2 => ?_, Calls.callWith_builtin rfl (PySem.evalArgs_none ?_)⟩
  · cases e2
    exact ⟨ob, g, ex.2.1⟩
  refine call_meetsIn PySem.F.slot_dict_values dd.typeIs PySem.F.entry_dict_values (PySem.F.args_dict_values_1 _) (meets_dict_values (mixKind X.prog X.w) d hd) ⟨⟨vs, dd⟩, ?_⟩
  have da : (s1.heap.push { cls := .type "dict_values", data := .fields #[.ref d] }).DictAt (mixKind X.prog X.w) d vs ep := ⟨ob, es, Heap.get?_push_of_some _ g, ex, hdat, hk, hp, hn⟩
  refine wpAny_pyIter_values (s := { s1 with heap := s1.heap.push { cls := .type "dict_values", data := .fields #[.ref d] } }) ⟨_, Heap.get?_push_size _ rfl, rfl, rfl⟩ da ?_
  have I2 : Inv X pins σ H1 { s1 with heap := s1.heap.push { cls := .type "dict_values", data := .fields #[.ref d] } } := I1.kept (t' := s1.toks) fun b o e => Heap.get?_push_of_some _ e
  generalize hs2 : ({ s1 with heap := s1.heap.push { cls := .type "dict_values", data := .fields #[.ref d] } } : Shared) = s2 at I2
  have g2 : s2.heap.get? d = some ob := by rw [← hs2]; exact Heap.get?_push_of_some _ g
  have I3 : Inv X pins σ (upd H1 d (.frz ob (.dK kvs))) s2 := I2.write (t' := s2.toks) (x := d) (e := d) (by rw [e]; exact True.intro) (.inl rfl) (fun b u _ q => q) ⟨ob, g2⟩ ⟨g2, I2.hok d _ e⟩
  have I4 : Inv X pins σ (upd H1 d (.frz ob (.dK kvs))) { s2 with heap := s2.heap.push { cls := .type "dict_valueiterator", data := .fields #[.ref d, .int 0 0, .int vs.length 0, .int ep 0] } } :=
    I3.kept (t' := s2.toks) fun b o e => Heap.get?_push_of_some _ e
  have fin : PIE X pins σ tg R (.ref s2.heap.objs.size) { s2 with heap := s2.heap.push { cls := .type "dict_valueiterator", data := .fields #[.ref d, .int 0 0, .int vs.length 0, .int ep 0] } } := by
    refine ⟨s2.heap.objs.size, [s2.heap.objs.size], _, _, upd H1 d (.frz ob (.dK kvs)), rfl, I4, turn_values d _ ob kvs ep ⟨es, hdat⟩, ?_, fun b hb => ?_, q ob (I1.nofrz e)⟩
    · have hl : kvs.length = vs.length := rel.length
      show Heap.IsValIter _ _ d 0 kvs.length ep
      rw [hl]
      exact ⟨_, Heap.get?_push_size _ rfl, rfl, rfl⟩
    · have eb : b = s2.heap.objs.size := by simpa using hb
      subst eb
      exact I3.fpOk (Nat.le_refl _) (I3.hok.fresh (Nat.le_refl _))
  exact fin
end
end L2
set_option maxRecDepth 100000
set_option maxHeartbeats 1000000
namespace L2
open PySem PySem.Spec PyProof.Rows XL
theorem lri_no_len : typeLookup (.type "list_reverseiterator") "__len__" = pure none := by rw [typeLookup_type, builtinLookup_eq_fast]; kernel_rfl
theorem lri_hint : typeLookup (.type "list_reverseiterator") "__length_hint__" = pure (some (.builtin "list_reverseiterator.__length_hint__")) := by rw [typeLookup_type, builtinLookup_eq_fast]; kernel_rfl
section
variable {prog : Program} {w : World} {A : Around} {E : Value → Shared → Prop} {s : Shared}
theorem hint_rev {I l : Addr} {i : Int} {Q : Bool → Shared → Prop} (hit : s.heap.IsRevIter I l i) (h : Q false s) : wpAny (model prog w) A (Builtin.List.listLengthHint (.ref I)) Q E s := by
  unfold Builtin.List.listLengthHint
  refine wpAny_bind (wpAny_specialOf hit.typeIs lri_no_len ?_)
  show wpAny _ _ (specialOf (Value.ref I) (Str.ofString "__length_hint__") >>= _) _ _ _
  refine wpAny_bind (wpAny_specialOf hit.typeIs lri_hint ?_)
  generalize hid : ("list_reverseiterator.__length_hint__" : String) = id0
  wp_delta
  rw [show splitId id0 = some ("list_reverseiterator", "__length_hint__") from by subst hid; decide +kernel]
  subst hid
  refine wpAny_bind (wpAny_isInstance (T := "list_reverseiterator") (b := true) hit.typeIs (by rw [isSubtype_type]; kernel_rfl) ?_)
  refine wpAny_ite_split (fun hab => absurd hab (by decide)) (fun _ => ?_)
  refine wpAny_ite_split (fun _ => ?_) (fun hab => absurd (by decide +kernel) hab)
  refine wpAny_ite_split (fun hab => absurd hab (by decide +kernel)) (fun _ => ?_)
  exact wpAny_pure h
theorem extend_rev {R : Result → Shared → Prop} (hh : A.handled = none) {I l : Addr} {items : Array Value} (hne : l ≠ I) (S : Addr) (hSI : S ≠ I) (hSl : S ≠ l) (res : Value) (c₀ : Nat) (hit : s.heap.IsRevIter I l ((items.size : Int) - 1)) (hl : s.heap.IsList l items)
    (hS : s.heap.get? S = some { cls := .type "list", data := .seq #[] c₀ }) (hn : items.size ≤ sizeLine)
    (hR : ∀ h' tk acc' c', (∀ b o, b ≠ S → b ≠ I → s.heap.get? b = some o → h'.get? b = some o) → h'.get? S = some { cls := .type "list", dict := none, data := .seq acc' c', slots := #[] } →
      ItemsOf (fun i v => items[items.size - 1 - i]? = some v) acc' items.size → R (.ok (.ret res)) { s with heap := h', toks := tk }) :
    wpAny (model prog w) A.in1 (Builtin.List.listExtendWith (.ref S) (.ref I) res)
      (fun fin s' => match fin with | .done f => R (.ok f) s' | .again c' => c'.quiet = true ∧ codeAny (model prog w) A c' R s') (fun e s' => R (.error e) s') s := by
  have hSf : S ∉ [I, l] := by simp [hSI, hSl]
  have W := (Walks.listRev (prog := prog) (w := w) (A := A.in1) hh I l hne items).toS
  unfold Builtin.List.listExtendWith
  refine wpAny_bind (wpAny_typeOf hit.typeIs ?_)
  have h1 : Builtin.List.listSameRef (.ref S) (.ref I) = false := by simp [Builtin.List.listSameRef, hSI]
  have h2 : (Value.type "list_reverseiterator" == Value.type "list") = false := by decide
  have h3 : (Value.type "list_reverseiterator" == Value.type "tuple") = false := by decide
  simp only [h1, h2, h3, Bool.or_false, Bool.false_eq_true, if_false]
  refine wpAny_bind (wpAny_pyIter_revIter hit ?_)
  refine wpAny_bind (wpAny_holding (hint_rev hit ?_))
  rw [if_neg (by decide)]
  have hit0 : s.heap.IsRevIter I l ((items.size : Int) - 1 - ((0 : Nat) : Int)) := by simpa using hit
  refine wpAny_pure ⟨plainId_quiet F.plain_extend_loop _, codeAny_extend_loopS W hn S hSf res items.size 0 _ #[] c₀ rfl (Nat.zero_le _) ⟨Nat.zero_le _, hit0, hl⟩ hS (ItemsOf.nil _) fun s' acc' c' hm hS' hacc => ?_⟩
  rw [Moved.eq_with hm]
  refine hR s'.heap s'.toks acc' c' (fun b o hb hb2 e => hm.heap b o (fun hmem => ?_) e) hS' hacc
  rcases List.mem_cons.mp hmem with e' | hmem
  · exact hb e'
  · exact hb2 (List.mem_singleton.mp hmem)
theorem call_list_rev {Q : Value → Shared → Prop} (hh : A.handled = none) {I l : Addr} {items : Array Value} (hne : l ≠ I) (hit : s.heap.IsRevIter I l ((items.size : Int) - 1)) (hl : s.heap.IsList l items) (hn : items.size ≤ sizeLine)
    (hQ : ∀ h' tk acc' c', (∀ b o, b ≠ I → s.heap.get? b = some o → h'.get? b = some o) →
      h'.get? s.heap.objs.size = some { cls := .type "list", dict := none, data := .seq acc' c', slots := #[] } → ItemsOf (fun i v => items[items.size - 1 - i]? = some v) acc' items.size → Q (.ref s.heap.objs.size) { s with heap := h', toks := tk }) :
    wpAny (model prog w) A (call (.type "list") [.ref I]) Q E s := by
  refine callType_codes (Q₁ := fun obj s₁ => obj = .ref s.heap.objs.size ∧ s₁ = { s with heap := s.heap.push { cls := .type "list", data := .seq #[] } }) F.called_list (F.typeCall_list_1 _) F.entry_list_init
    (code_list_new _ ⟨rfl, rfl⟩) fun obj s₁ h₁ => ?_
  obtain ⟨rfl, rfl⟩ := h₁
  have hS : (s.heap.push { cls := .type "list", data := .seq #[] }).get? s.heap.objs.size = some { cls := .type "list", data := .seq #[] } := Heap.get?_push_size _ rfl
  have iI : I < s.heap.objs.size := by obtain ⟨o, e, _⟩ := hit; exact Heap.lt_size e
  have il : l < s.heap.objs.size := by obtain ⟨o, e, _⟩ := hl; exact Heap.lt_size e
  refine ⟨⟨_, hS, rfl⟩, F.args_list_init_2 _ _, ?_⟩
  show wpAny _ _ (do let old ← Builtin.List.listItems (.ref s.heap.objs.size); Builtin.List.listUpdate (.ref s.heap.objs.size) (fun _ => #[]); letGo old.toList.reverse; Builtin.List.listExtendWith (.ref s.heap.objs.size) (.ref I) .none) _ _ _
  refine wpAny_bind ?_
  unfold Builtin.List.listItems
  refine wpAny_bind (wpAny_seqItems hS rfl (wpAny_pure ?_))
  show wpAny _ _ (updateSeq s.heap.objs.size (fun _ => #[]) >>= fun _ => letGo (#[] : Array Value).toList.reverse >>= fun _ => Builtin.List.listExtendWith (.ref s.heap.objs.size) (.ref I) .none) _ _ _
  refine wpAny_bind (wpAny_updateSeq hS rfl ?_)
  have hS₂ := Heap.get?_update_self (Obj.mapSeq (fun _ => (#[] : Array Value))) hS rfl
  have oth : ∀ b o, s.heap.get? b = some o → ((s.heap.push { cls := .type "list", data := .seq #[] }).update s.heap.objs.size (Obj.mapSeq (fun _ => (#[] : Array Value)))).get? b = some o :=
    fun b o e => (Heap.get?_update_other _ _ (Nat.ne_of_gt (Heap.lt_size e))).trans (Heap.get?_push_of_some _ e)
  refine wpAny_bind (wpAny_letGo ?_)
  refine extend_rev (A := A.in1) hh hne s.heap.objs.size (Nat.ne_of_gt iI) (Nat.ne_of_gt il) .none _ (hit.at (oth I)) (hl.at (oth l)) hS₂ hn fun h' tk acc' c' hk hS' hacc => ?_
  exact ⟨rfl, hQ h' tk acc' c' (fun b o hb e => hk b o (Nat.ne_of_lt (Heap.lt_size e)) hb (oth b o e)) hS' hacc⟩
end
def tLRev (K : PySem.W.Frag) (ta : TA) : TE := fun σ H Q => ta σ H fun vs H1 => ∃ a xs, vs = [.ref a] ∧ SqL K H1 a xs ∧ ∀ l, H1 l = none → Q (.ref l) (upd H1 l (.lst xs.reverse))
section
variable {X : Cx}
theorem pe_listRev {a : Expr} {ta : TA} {p p2 pos pos2 : Pos} (hc : X.calm = true) (hg : Gl X "list") (hm : X.mg "list" = none) (hg2 : Gl X "reversed") (hm2 : X.mg "reversed" = none) (ha : PA X [a] ta)
    (hs : starEach [a] X.env = [(false, eval a X.env)] := by rfl) (hs3 : starEach [.Call (.Name "reversed" p2) [a] [] pos2] X.env = [(false, eval (.Call (.Name "reversed" p2) [a] [] pos2) X.env)] := by rfl) :
    PE X (.Call (.Name "list" p) [.Call (.Name "reversed" p2) [a] [] pos2] [] pos) (tLRev X.K ta) := by
  intro pins s σ H Q I h
  refine wpAny_Call_Name_kw (ld_blt I hg hm PyProof.Rows.Boot.«list» ?_)
  refine PyProof.Rows.callWith_type1 ?_ (by rw [hs3]; rfl) rfl
  rw [hs3]
  show wpAny _ _ (spliced ((false, eval (.Call (.Name "reversed" p2) [a] [] pos2) X.env) :: backTo pos [])) _ _ s
  refine Calls.spliced_cons ?_
  refine Call_ (ld_blt I hg2 hm2 PyProof.Rows.Boot.«reversed» (PyProof.Rows.callWith_type1 (thn (ha pos2 pins s σ H _ I h) fun us s1 ⟨vs, H1, I1, r1, q1⟩ => ?_) hs rfl))
  obtain ⟨l, xs, e, hq, q⟩ := q1
  subst e
  obtain ⟨u, rfl, ru⟩ := vals1 r1
  obtain rfl : u = Value.ref l := ru
  obtain ⟨its, rv, p, hz⟩ := I1.list hq
  have hlen := rv.length
  refine call_reversed_list p.isList ?_
  refine Calls.spliced_nil ?_
  have I2 : Inv X pins σ H1 { s1 with heap := s1.heap.push (revObj l ((its.toArray.size : Int) - 1)) } := I1.kept (t' := s1.toks) fun b o e => Heap.get?_push_of_some _ e
  have hit : Heap.IsRevIter (s1.heap.push (revObj l ((its.toArray.size : Int) - 1))) s1.heap.objs.size l ((its.toArray.size : Int) - 1) := ⟨_, Heap.get?_push_size _ rfl, rfl, rfl⟩
  have hll : l < s1.heap.objs.size := by obtain ⟨o, e, _⟩ := p.isList; exact Heap.lt_size e
  have hl2 : (s1.heap.push (revObj l ((its.toArray.size : Int) - 1))).IsList l its.toArray := p.isList.at fun o e => Heap.get?_push_of_some _ e
  have f2 := I1.fpOk (Nat.le_refl s1.heap.objs.size) (I1.hok.fresh (Nat.le_refl _))
  generalize hs2 : ({ s1 with heap := s1.heap.push (revObj l ((its.toArray.size : Int) - 1)) } : Shared) = s2 at I2
  have hit' : s2.heap.IsRevIter s1.heap.objs.size l ((its.toArray.size : Int) - 1) := by rw [← hs2]; exact hit
  have hl2' : s2.heap.IsList l its.toArray := by rw [← hs2]; exact hl2
  refine call_list_rev (I.ok.hd hc) (Nat.ne_of_lt hll) hit' hl2' (by simp only [List.size_toArray]; omega) fun h' tk acc' c' hk hS' hacc => ?_
  have I3 : Inv X pins σ H1 { s2 with heap := h', toks := tk } := I2.turned (t' := tk) (it := s1.heap.objs.size) (fun b o hb e => hk b o hb e) (I1.hok.fresh (Nat.le_refl _)) f2.2.1 f2.2.2.2.1 f2.2.2.2.2.1 f2.2.2.2.2.2
  have z2 : s1.heap.objs.size < s2.heap.objs.size := by obtain ⟨o, e, _⟩ := hit'; exact Heap.lt_size e
  have e1 : acc'.toList.length = xs.reverse.length := by rw [List.length_reverse, hlen]; simpa using hacc.1
  obtain ⟨n0, nL, nC, nP⟩ := I2.size_lt (Nat.le_refl s2.heap.objs.size)
  refine ⟨.ref s2.heap.objs.size, _, I3.adopt n0 I2.sz nL nC nP (show ObjOk X.prog X.w _ h' _ (.lst xs.reverse) from ⟨by rw [List.length_reverse]; exact hz, acc'.toList, c', vals_of e1 fun j y u ey eu => ?_, by simpa using hS'⟩), rfl, q _ n0⟩
  have eu' : acc'[j]? = some u := by simpa using eu
  have lt : j < xs.length := by
    have := (List.getElem?_eq_some_iff.mp ey).1
    simpa using this
  have h2 := hacc.2 j u eu'
  rw [List.getElem?_reverse lt] at ey
  obtain ⟨u', hu', ru'⟩ := rv.get ey
  have h2' : its[its.length - 1 - j]? = some u := by simpa using h2
  rw [← hlen, hu'] at h2'
  cases h2'
  exact ru'
end
end L2
namespace Geo
def dn (y r : Int) : Int := if y < r then 1 else -1
def upN (y r : Int) : Nat := if y < r then (r - y).toNat else (y - r).toNat
def wayI (b : Bool) : Int := if b then -1 else 1
def lvN (w x : Int) (b : Bool) : Nat := if b then (x + 1).toNat else (w + 2 - x).toNat
def upL (x y r : Int) : List (Int × Int) := (List.range (upN y r)).map fun (i : Nat) => (x, y + (i : Int) * dn y r)
def lvL (w x : Int) (b : Bool) (r : Int) : List (Int × Int) := (List.range (lvN w x b)).map fun (i : Nat) => (x + (i : Int) * wayI b, r)
def cells (w x y : Int) (b : Bool) (r : Int) : List (Int × Int) := upL x y r ++ lvL w x b r
def btw (v a b : Int) : Prop := min a b ≤ v ∧ v ≤ max a b
instance (v a b : Int) : Decidable (btw v a b) := inferInstanceAs (Decidable (_ ∧ _))
def meet (l m : List (Int × Int)) : Option (Int × Int) := l.find? fun c => decide (c ∈ m)
theorem meet_at {l m : List (Int × Int)} {i : Nat} {c : Int × Int} (hc : l[i]? = some c) (no : ∀ d ∈ l.take i, d ∉ m) (hm : c ∈ m) : meet l m = some c := by
  obtain ⟨h, hi⟩ := List.getElem?_eq_some_iff.mp hc
  have e : l.take i ++ c :: l.drop (i + 1) = l := by
    rw [← hi, List.getElem_cons_drop, List.take_append_drop]
  have hn : (l.take i).find? (fun c => decide (c ∈ m)) = none := by
    rw [List.find?_eq_none]
    intro d hd z
    exact no d hd (of_decide_eq_true z)
  have z : (l.take i ++ c :: l.drop (i + 1)).find? (fun c => decide (c ∈ m)) = some c := by
    rw [List.find?_append, hn, List.find?_cons_of_pos (by exact decide_eq_true hm)]
    rfl
  rw [e] at z
  exact z
theorem meet_no {l m : List (Int × Int)} (no : ∀ d ∈ l, d ∉ m) : meet l m = none := by
  unfold meet
  rw [List.find?_eq_none]
  intro d hd z
  exact no d hd (of_decide_eq_true z)
end Geo
set_option maxRecDepth 100000
set_option maxHeartbeats 4000000
namespace S51
open PySem L2 XL
def top (i : Nat) : Stmt := PySem.Challenge.pw_rimnotes_k51_exchanges_found.main.body.getD i (.Pass ⟨0, 0, 0, 0⟩)
abbrev s_Side_init : Stmt := inClass (top 17) 0
abbrev s_LeftSide_rim : Stmt := inClass (top 18) 1
abbrev s_LeftSide_way : Stmt := inClass (top 18) 2
abbrev s_LeftSide_across : Stmt := inClass (top 18) 3
abbrev s_RightSide_rim : Stmt := inClass (top 19) 1
abbrev s_RightSide_way : Stmt := inClass (top 19) 2
abbrev s_RightSide_across : Stmt := inClass (top 19) 3
abbrev s_side_of : Stmt := top 20
abbrev s_cells_of : Stmt := top 22
abbrev s_meeting : Stmt := top 24
abbrev s_upright : Stmt := top 26
abbrev s_upright_of : Stmt := top 27
abbrev s_exchangeable : Stmt := top 28
abbrev s_may_exchange : Stmt := top 29
abbrev s_is_whole : Stmt := top 31
abbrev s_is_name : Stmt := top 32
abbrev s_Picture_init : Stmt := inClass (top 38) 0
abbrev s_Picture_put : Stmt := inClass (top 38) 1
abbrev s_Picture_open_seat : Stmt := inClass (top 38) 4
abbrev s_Picture_points : Stmt := inClass (top 38) 6
abbrev s_Picture_place_of : Stmt := inClass (top 38) 8
abbrev s_Picture_may : Stmt := inClass (top 38) 9
abbrev s_Picture_length : Stmt := inClass (top 38) 10
abbrev s_Picture_check_name : Stmt := inClass (top 38) 15
abbrev s_Picture_check_cell : Stmt := inClass (top 38) 16
abbrev s_Picture_check_lines : Stmt := inClass (top 38) 17
abbrev s_Picture_check_seat : Stmt := inClass (top 38) 18
abbrev s_law_cell : Stmt := top 40
abbrev s_law_mixed : Stmt := top 41
abbrev s_law_built : Stmt := top 42
abbrev s_law_opened : Stmt := top 43
abbrev s_law_may : Stmt := top 44
abbrev s_law_given : Stmt := top 45
abbrev s_law_across : Stmt := top 46
abbrev s_law_cells : Stmt := top 47
abbrev s_law_met : Stmt := top 48
abbrev s_law_whole : Stmt := top 49
abbrev s_law_can : Stmt := top 50
abbrev s_law_upright : Stmt := top 51
abbrev s_law_right : Stmt := top 52
abbrev s_law_changed : Stmt := top 53
abbrev s_law : Stmt := top 54
set_option genInjectivity false in
set_option genSizeOf false in
structure Adr where
  f_Side_init : Addr
  d_Side_init : FuncData
  f_LeftSide_rim : Addr
  d_LeftSide_rim : FuncData
  f_LeftSide_way : Addr
  d_LeftSide_way : FuncData
  f_LeftSide_across : Addr
  d_LeftSide_across : FuncData
  f_RightSide_rim : Addr
  d_RightSide_rim : FuncData
  f_RightSide_way : Addr
  d_RightSide_way : FuncData
  f_RightSide_across : Addr
  d_RightSide_across : FuncData
  f_side_of : Addr
  d_side_of : FuncData
  f_cells_of : Addr
  d_cells_of : FuncData
  f_meeting : Addr
  d_meeting : FuncData
  f_upright : Addr
  d_upright : FuncData
  f_upright_of : Addr
  d_upright_of : FuncData
  f_exchangeable : Addr
  d_exchangeable : FuncData
  f_may_exchange : Addr
  d_may_exchange : FuncData
  f_is_whole : Addr
  d_is_whole : FuncData
  f_is_name : Addr
  d_is_name : FuncData
  f_Picture_init : Addr
  d_Picture_init : FuncData
  f_Picture_put : Addr
  d_Picture_put : FuncData
  T_Picture_put : Addr
  f_Picture_open_seat : Addr
  d_Picture_open_seat : FuncData
  f_Picture_points : Addr
  d_Picture_points : FuncData
  f_Picture_place_of : Addr
  d_Picture_place_of : FuncData
  f_Picture_may : Addr
  d_Picture_may : FuncData
  f_Picture_length : Addr
  d_Picture_length : FuncData
  f_Picture_check_name : Addr
  d_Picture_check_name : FuncData
  f_Picture_check_cell : Addr
  d_Picture_check_cell : FuncData
  f_Picture_check_lines : Addr
  d_Picture_check_lines : FuncData
  f_Picture_check_seat : Addr
  d_Picture_check_seat : FuncData
  f_law_cell : Addr
  d_law_cell : FuncData
  f_law_mixed : Addr
  d_law_mixed : FuncData
  f_law_built : Addr
  d_law_built : FuncData
  f_law_opened : Addr
  d_law_opened : FuncData
  f_law_may : Addr
  d_law_may : FuncData
  f_law_given : Addr
  d_law_given : FuncData
  f_law_across : Addr
  d_law_across : FuncData
  f_law_cells : Addr
  d_law_cells : FuncData
  f_law_met : Addr
  d_law_met : FuncData
  f_law_whole : Addr
  d_law_whole : FuncData
  f_law_can : Addr
  d_law_can : FuncData
  f_law_upright : Addr
  d_law_upright : FuncData
  f_law_right : Addr
  d_law_right : FuncData
  f_law_changed : Addr
  d_law_changed : FuncData
  f_law : Addr
  d_law : FuncData
  C_Side : Addr
  C_LeftSide : Addr
  C_RightSide : Addr
  C_Picture : Addr
  D_MIRRORED_SIDES : Addr
structure Txt (w : World) (K : PySem.W.Frag) (mg : Str → Option Value) (t : Adr) : Prop where
  g_Side : mg "Side" = some (.ref t.C_Side)
  g_LeftSide : mg "LeftSide" = some (.ref t.C_LeftSide)
  g_RightSide : mg "RightSide" = some (.ref t.C_RightSide)
  g_Picture : mg "Picture" = some (.ref t.C_Picture)
  F_Side_init : Fun K "__init__" "Side.__init__" s_Side_init t.f_Side_init t.d_Side_init
  b_Side_init : Binds K t.d_Side_init ["self", "width"] []
  F_LeftSide_rim : Fun K "rim" "LeftSide.rim" s_LeftSide_rim t.f_LeftSide_rim t.d_LeftSide_rim
  b_LeftSide_rim : Binds K t.d_LeftSide_rim ["self"] []
  F_LeftSide_way : Fun K "way" "LeftSide.way" s_LeftSide_way t.f_LeftSide_way t.d_LeftSide_way
  b_LeftSide_way : Binds K t.d_LeftSide_way ["self"] []
  F_LeftSide_across : Fun K "across" "LeftSide.across" s_LeftSide_across t.f_LeftSide_across t.d_LeftSide_across
  b_LeftSide_across : Binds K t.d_LeftSide_across ["self", "x"] []
  F_RightSide_rim : Fun K "rim" "RightSide.rim" s_RightSide_rim t.f_RightSide_rim t.d_RightSide_rim
  b_RightSide_rim : Binds K t.d_RightSide_rim ["self"] []
  F_RightSide_way : Fun K "way" "RightSide.way" s_RightSide_way t.f_RightSide_way t.d_RightSide_way
  b_RightSide_way : Binds K t.d_RightSide_way ["self"] []
  F_RightSide_across : Fun K "across" "RightSide.across" s_RightSide_across t.f_RightSide_across t.d_RightSide_across
  b_RightSide_across : Binds K t.d_RightSide_across ["self", "x"] []
  g_side_of : mg "side_of" = some (.ref t.f_side_of)
  F_side_of : Fun K "side_of" "side_of" s_side_of t.f_side_of t.d_side_of
  b_side_of : Binds K t.d_side_of ["word", "width"] []
  g_cells_of : mg "cells_of" = some (.ref t.f_cells_of)
  F_cells_of : Fun K "cells_of" "cells_of" s_cells_of t.f_cells_of t.d_cells_of
  b_cells_of : Binds K t.d_cells_of ["picture", "name", "side", "row"] []
  g_meeting : mg "meeting" = some (.ref t.f_meeting)
  F_meeting : Fun K "meeting" "meeting" s_meeting t.f_meeting t.d_meeting
  b_meeting : Binds K t.d_meeting ["picture", "one", "other"] []
  g_upright : mg "upright" = some (.ref t.f_upright)
  F_upright : Fun K "upright" "upright" s_upright t.f_upright t.d_upright
  b_upright : Binds K t.d_upright ["picture", "pairs"] []
  g_upright_of : mg "upright_of" = some (.ref t.f_upright_of)
  F_upright_of : Fun K "upright_of" "upright_of" s_upright_of t.f_upright_of t.d_upright_of
  b_upright_of : Binds K t.d_upright_of ["picture", "pair"] []
  g_exchangeable : mg "exchangeable" = some (.ref t.f_exchangeable)
  F_exchangeable : Fun K "exchangeable" "exchangeable" s_exchangeable t.f_exchangeable t.d_exchangeable
  b_exchangeable : Binds K t.d_exchangeable ["picture", "pairs"] []
  g_may_exchange : mg "may_exchange" = some (.ref t.f_may_exchange)
  F_may_exchange : Fun K "may_exchange" "may_exchange" s_may_exchange t.f_may_exchange t.d_may_exchange
  b_may_exchange : Binds K t.d_may_exchange ["picture", "one", "other"] []
  g_is_whole : mg "is_whole" = some (.ref t.f_is_whole)
  F_is_whole : Fun K "is_whole" "is_whole" s_is_whole t.f_is_whole t.d_is_whole
  b_is_whole : Binds K t.d_is_whole ["thing", "low", "high"] []
  g_is_name : mg "is_name" = some (.ref t.f_is_name)
  F_is_name : Fun K "is_name" "is_name" s_is_name t.f_is_name t.d_is_name
  b_is_name : Binds K t.d_is_name ["thing"] []
  F_Picture_init : Fun K "__init__" "Picture.__init__" s_Picture_init t.f_Picture_init t.d_Picture_init
  b_Picture_init : Binds K t.d_Picture_init ["self", "width", "height"] []
  F_Picture_put : FunD K "put" "Picture.put" s_Picture_put t.T_Picture_put t.f_Picture_put t.d_Picture_put
  b_Picture_put : Binds K t.d_Picture_put ["self", "name", "x", "y", "sides", "low", "high"] []
  F_Picture_open_seat : Fun K "open_seat" "Picture.open_seat" s_Picture_open_seat t.f_Picture_open_seat t.d_Picture_open_seat
  b_Picture_open_seat : Binds K t.d_Picture_open_seat ["self", "side", "row"] []
  F_Picture_points : Fun K "points" "Picture.points" s_Picture_points t.f_Picture_points t.d_Picture_points
  b_Picture_points : Binds K t.d_Picture_points ["self"] []
  F_Picture_place_of : Fun K "place_of" "Picture.place_of" s_Picture_place_of t.f_Picture_place_of t.d_Picture_place_of
  b_Picture_place_of : Binds K t.d_Picture_place_of ["self", "name"] []
  F_Picture_may : Fun K "may" "Picture.may" s_Picture_may t.f_Picture_may t.d_Picture_may
  b_Picture_may : Binds K t.d_Picture_may ["self", "name", "side", "row"] []
  F_Picture_length : Fun K "length" "Picture.length" s_Picture_length t.f_Picture_length t.d_Picture_length
  b_Picture_length : Binds K t.d_Picture_length ["self", "name", "side", "row"] []
  F_Picture_check_name : Fun K "check_name" "Picture.check_name" s_Picture_check_name t.f_Picture_check_name t.d_Picture_check_name
  b_Picture_check_name : Binds K t.d_Picture_check_name ["self", "name"] []
  F_Picture_check_cell : Fun K "check_cell" "Picture.check_cell" s_Picture_check_cell t.f_Picture_check_cell t.d_Picture_check_cell
  b_Picture_check_cell : Binds K t.d_Picture_check_cell ["self", "x", "y"] []
  F_Picture_check_lines : Fun K "check_lines" "Picture.check_lines" s_Picture_check_lines t.f_Picture_check_lines t.d_Picture_check_lines
  b_Picture_check_lines : Binds K t.d_Picture_check_lines ["self", "name", "x", "y"] []
  F_Picture_check_seat : Fun K "check_seat" "Picture.check_seat" s_Picture_check_seat t.f_Picture_check_seat t.d_Picture_check_seat
  b_Picture_check_seat : Binds K t.d_Picture_check_seat ["self", "side", "row"] []
  g_law_cell : mg "_law_cell" = some (.ref t.f_law_cell)
  F_law_cell : Fun K "_law_cell" "_law_cell" s_law_cell t.f_law_cell t.d_law_cell
  b_law_cell : Binds K t.d_law_cell ["_law_script", "_law_k"] []
  g_law_mixed : mg "_law_mixed" = some (.ref t.f_law_mixed)
  F_law_mixed : Fun K "_law_mixed" "_law_mixed" s_law_mixed t.f_law_mixed t.d_law_mixed
  b_law_mixed : Binds K t.d_law_mixed ["_law_cell_here", "_law_k"] []
  g_law_built : mg "_law_built" = some (.ref t.f_law_built)
  F_law_built : Fun K "_law_built" "_law_built" s_law_built t.f_law_built t.d_law_built
  b_law_built : Binds K t.d_law_built ["_law_cell_here", "_law_most", "_law_wide", "_law_high", "_law_free"] []
  g_law_opened : mg "_law_opened" = some (.ref t.f_law_opened)
  F_law_opened : Fun K "_law_opened" "_law_opened" s_law_opened t.f_law_opened t.d_law_opened
  b_law_opened : Binds K t.d_law_opened ["_law_picture", "_law_cell_here"] []
  g_law_may : mg "_law_may" = some (.ref t.f_law_may)
  F_law_may : Fun K "_law_may" "_law_may" s_law_may t.f_law_may t.d_law_may
  b_law_may : Binds K t.d_law_may ["_law_points", "_law_seats", "_law_name", "_law_side", "_law_row"] []
  g_law_given : mg "_law_given" = some (.ref t.f_law_given)
  F_law_given : Fun K "_law_given" "_law_given" s_law_given t.f_law_given t.d_law_given
  b_law_given : Binds K t.d_law_given ["_law_points", "_law_seats", "_law_cell_here"] []
  g_law_across : mg "_law_across" = some (.ref t.f_law_across)
  F_law_across : Fun K "_law_across" "_law_across" s_law_across t.f_law_across t.d_law_across
  b_law_across : Binds K t.d_law_across ["_law_width", "_law_point", "_law_side"] []
  g_law_cells : mg "_law_cells" = some (.ref t.f_law_cells)
  F_law_cells : Fun K "_law_cells" "_law_cells" s_law_cells t.f_law_cells t.d_law_cells
  b_law_cells : Binds K t.d_law_cells ["_law_width", "_law_point", "_law_side", "_law_row"] []
  g_law_met : mg "_law_met" = some (.ref t.f_law_met)
  F_law_met : Fun K "_law_met" "_law_met" s_law_met t.f_law_met t.d_law_met
  b_law_met : Binds K t.d_law_met ["_law_width", "_law_points", "_law_one", "_law_other"] []
  g_law_whole : mg "_law_whole" = some (.ref t.f_law_whole)
  F_law_whole : Fun K "_law_whole" "_law_whole" s_law_whole t.f_law_whole t.d_law_whole
  b_law_whole : Binds K t.d_law_whole ["_law_found", "_law_due"] []
  g_law_can : mg "_law_can" = some (.ref t.f_law_can)
  F_law_can : Fun K "_law_can" "_law_can" s_law_can t.f_law_can t.d_law_can
  b_law_can : Binds K t.d_law_can ["_law_width", "_law_points", "_law_seats", "_law_one", "_law_other"] []
  g_law_upright : mg "_law_upright" = some (.ref t.f_law_upright)
  F_law_upright : Fun K "_law_upright" "_law_upright" s_law_upright t.f_law_upright t.d_law_upright
  b_law_upright : Binds K t.d_law_upright ["_law_width", "_law_points", "_law_pairs"] []
  g_law_right : mg "_law_right" = some (.ref t.f_law_right)
  F_law_right : Fun K "_law_right" "_law_right" s_law_right t.f_law_right t.d_law_right
  b_law_right : Binds K t.d_law_right ["_law_picture", "_law_points", "_law_seats", "_law_pairs"] []
  g_law_changed : mg "_law_changed" = some (.ref t.f_law_changed)
  F_law_changed : Fun K "_law_changed" "_law_changed" s_law_changed t.f_law_changed t.d_law_changed
  b_law_changed : Binds K t.d_law_changed ["_law_points", "_law_seats", "_law_pairs", "_law_number"] []
  g_law : mg "law" = some (.ref t.f_law)
  F_law : Fun K "law" "law" s_law t.f_law t.d_law
  b_law : Binds K t.d_law ["_law_script"] []
  c_Side : Cls K t.C_Side
  ca_Side : PySem.W.findIn K (.ref t.C_Side) "__class__" = some (some (.builtin "object.__class__"))
  mo_Side : PySem.W.mroIn K t.C_Side (.type "object") = some true
  k_Side : Mk K t.C_Side t.f_Side_init
  c_LeftSide : Cls K t.C_LeftSide
  ca_LeftSide : PySem.W.findIn K (.ref t.C_LeftSide) "__class__" = some (some (.builtin "object.__class__"))
  mo_LeftSide : PySem.W.mroIn K t.C_LeftSide (.type "object") = some true
  k_LeftSide : Mk K t.C_LeftSide t.f_Side_init
  m_LeftSide_rim : Meth K t.C_LeftSide "rim" t.f_LeftSide_rim
  m_LeftSide_way : Meth K t.C_LeftSide "way" t.f_LeftSide_way
  m_LeftSide_across : Meth K t.C_LeftSide "across" t.f_LeftSide_across
  c_RightSide : Cls K t.C_RightSide
  ca_RightSide : PySem.W.findIn K (.ref t.C_RightSide) "__class__" = some (some (.builtin "object.__class__"))
  mo_RightSide : PySem.W.mroIn K t.C_RightSide (.type "object") = some true
  k_RightSide : Mk K t.C_RightSide t.f_Side_init
  m_RightSide_rim : Meth K t.C_RightSide "rim" t.f_RightSide_rim
  m_RightSide_way : Meth K t.C_RightSide "way" t.f_RightSide_way
  m_RightSide_across : Meth K t.C_RightSide "across" t.f_RightSide_across
  c_Picture : Cls K t.C_Picture
  ca_Picture : PySem.W.findIn K (.ref t.C_Picture) "__class__" = some (some (.builtin "object.__class__"))
  mo_Picture : PySem.W.mroIn K t.C_Picture (.type "object") = some true
  k_Picture : Mk K t.C_Picture t.f_Picture_init
  m_Picture_put : Meth K t.C_Picture "put" t.f_Picture_put
  m_Picture_open_seat : Meth K t.C_Picture "open_seat" t.f_Picture_open_seat
  m_Picture_points : Meth K t.C_Picture "points" t.f_Picture_points
  m_Picture_place_of : Meth K t.C_Picture "place_of" t.f_Picture_place_of
  m_Picture_may : Meth K t.C_Picture "may" t.f_Picture_may
  m_Picture_length : Meth K t.C_Picture "length" t.f_Picture_length
  m_Picture_check_name : Meth K t.C_Picture "check_name" t.f_Picture_check_name
  m_Picture_check_cell : Meth K t.C_Picture "check_cell" t.f_Picture_check_cell
  m_Picture_check_lines : Meth K t.C_Picture "check_lines" t.f_Picture_check_lines
  m_Picture_check_seat : Meth K t.C_Picture "check_seat" t.f_Picture_check_seat
  cg : PySem.W.specialIn K (.builtin "object.__class__") "__get__" = some (some (.builtin "getset_descriptor.__get__"))
  ct : PySem.W.takesIn K (.builtin "object.__class__") = some true
  n_RightSide_width : PySem.W.findIn K (.ref t.C_RightSide) "width" = some none
  n_Picture_placed : PySem.W.findIn K (.ref t.C_Picture) "placed" = some none
  n_Picture_height : PySem.W.findIn K (.ref t.C_Picture) "height" = some none
  n_Picture_width : PySem.W.findIn K (.ref t.C_Picture) "width" = some none
  n_Picture_opened : PySem.W.findIn K (.ref t.C_Picture) "opened" = some none
  n_Side_width : PySem.W.findIn K (.ref t.C_Side) "width" = some none
  n_LeftSide_width : PySem.W.findIn K (.ref t.C_LeftSide) "width" = some none
  n_abs : mg "abs" = none
  n_bool : mg "bool" = none
  n_dict : mg "dict" = none
  n_enumerate : mg "enumerate" = none
  n_int : mg "int" = none
  n_isinstance : mg "isinstance" = none
  n_len : mg "len" = none
  n_list : mg "list" = none
  n_max : mg "max" = none
  n_min : mg "min" = none
  n_range : mg "range" = none
  n_reversed : mg "reversed" = none
  n_str : mg "str" = none
  n_sum : mg "sum" = none
  n_tuple : mg "tuple" = none
  v_MOST_ROWS : ∃ tk, mg "MOST_ROWS" = some (.int 16 tk)
  v_MOST_COLUMNS : ∃ tk, mg "MOST_COLUMNS" = some (.int 30 tk)
  v_MOST_POINTS : ∃ tk, mg "MOST_POINTS" = some (.int 12 tk)
  g_MIRRORED_SIDES : mg "MIRRORED_SIDES" = some (.ref t.D_MIRRORED_SIDES)
  D_MIRRORED_SIDES : GDict w K t.D_MIRRORED_SIDES [(.inr "left", .str "right"), (.inr "right", .str "left"), (.inr "both", .str "both")]
theorem txt_mk {w : World} {K : PySem.W.Frag} {h : Heap} {mg : Str → Option Value} (X : K.In h) (G : h.Ns mainGlobals mg) {C_Side C_LeftSide C_RightSide C_Picture f_Side_init f_LeftSide_rim f_LeftSide_way f_LeftSide_across f_RightSide_rim f_RightSide_way f_RightSide_across f_side_of f_cells_of f_meeting f_upright f_upright_of f_exchangeable f_may_exchange f_is_whole f_is_name f_Picture_init f_Picture_put T_Picture_put f_Picture_open_seat f_Picture_points f_Picture_place_of f_Picture_may f_Picture_length f_Picture_check_name f_Picture_check_cell f_Picture_check_lines f_Picture_check_seat f_law_cell f_law_mixed f_law_built f_law_opened f_law_may f_law_given f_law_across f_law_cells f_law_met f_law_whole f_law_can f_law_upright f_law_right f_law_changed f_law : Addr} {oc_Side_init kv_Side_init dc_Side_init pm_Side_init cd_Side_init ct_Side_init : Value} {od_Side_init an_Side_init : Option Addr} {sl_Side_init : Array (Option Value)} {oc_LeftSide_rim kv_LeftSide_rim dc_LeftSide_rim pm_LeftSide_rim cd_LeftSide_rim ct_LeftSide_rim : Value} {od_LeftSide_rim an_LeftSide_rim : Option Addr} {sl_LeftSide_rim : Array (Option Value)} {oc_LeftSide_way kv_LeftSide_way dc_LeftSide_way pm_LeftSide_way cd_LeftSide_way ct_LeftSide_way : Value} {od_LeftSide_way an_LeftSide_way : Option Addr} {sl_LeftSide_way : Array (Option Value)} {oc_LeftSide_across kv_LeftSide_across dc_LeftSide_across pm_LeftSide_across cd_LeftSide_across ct_LeftSide_across : Value} {od_LeftSide_across an_LeftSide_across : Option Addr} {sl_LeftSide_across : Array (Option Value)} {oc_RightSide_rim kv_RightSide_rim dc_RightSide_rim pm_RightSide_rim cd_RightSide_rim ct_RightSide_rim : Value} {od_RightSide_rim an_RightSide_rim : Option Addr} {sl_RightSide_rim : Array (Option Value)} {oc_RightSide_way kv_RightSide_way dc_RightSide_way pm_RightSide_way cd_RightSide_way ct_RightSide_way : Value} {od_RightSide_way an_RightSide_way : Option Addr} {sl_RightSide_way : Array (Option Value)} {oc_RightSide_across kv_RightSide_across dc_RightSide_across pm_RightSide_across cd_RightSide_across ct_RightSide_across : Value} {od_RightSide_across an_RightSide_across : Option Addr} {sl_RightSide_across : Array (Option Value)} {oc_side_of kv_side_of dc_side_of pm_side_of cd_side_of ct_side_of : Value} {od_side_of an_side_of : Option Addr} {sl_side_of : Array (Option Value)} {oc_cells_of kv_cells_of dc_cells_of pm_cells_of cd_cells_of ct_cells_of : Value} {od_cells_of an_cells_of : Option Addr} {sl_cells_of : Array (Option Value)} {oc_meeting kv_meeting dc_meeting pm_meeting cd_meeting ct_meeting : Value} {od_meeting an_meeting : Option Addr} {sl_meeting : Array (Option Value)} {oc_upright kv_upright dc_upright pm_upright cd_upright ct_upright : Value} {od_upright an_upright : Option Addr} {sl_upright : Array (Option Value)} {oc_upright_of kv_upright_of dc_upright_of pm_upright_of cd_upright_of ct_upright_of : Value} {od_upright_of an_upright_of : Option Addr} {sl_upright_of : Array (Option Value)} {oc_exchangeable kv_exchangeable dc_exchangeable pm_exchangeable cd_exchangeable ct_exchangeable : Value} {od_exchangeable an_exchangeable : Option Addr} {sl_exchangeable : Array (Option Value)} {oc_may_exchange kv_may_exchange dc_may_exchange pm_may_exchange cd_may_exchange ct_may_exchange : Value} {od_may_exchange an_may_exchange : Option Addr} {sl_may_exchange : Array (Option Value)} {oc_is_whole kv_is_whole dc_is_whole pm_is_whole cd_is_whole ct_is_whole : Value} {od_is_whole an_is_whole : Option Addr} {sl_is_whole : Array (Option Value)} {oc_is_name kv_is_name dc_is_name pm_is_name cd_is_name ct_is_name : Value} {od_is_name an_is_name : Option Addr} {sl_is_name : Array (Option Value)} {oc_Picture_init kv_Picture_init dc_Picture_init pm_Picture_init cd_Picture_init ct_Picture_init : Value} {od_Picture_init an_Picture_init : Option Addr} {sl_Picture_init : Array (Option Value)} {oc_Picture_put kv_Picture_put dc_Picture_put pm_Picture_put cd_Picture_put ct_Picture_put : Value} {od_Picture_put an_Picture_put : Option Addr} {sl_Picture_put : Array (Option Value)} {oc_Picture_open_seat kv_Picture_open_seat dc_Picture_open_seat pm_Picture_open_seat cd_Picture_open_seat ct_Picture_open_seat : Value} {od_Picture_open_seat an_Picture_open_seat : Option Addr} {sl_Picture_open_seat : Array (Option Value)} {oc_Picture_points kv_Picture_points dc_Picture_points pm_Picture_points cd_Picture_points ct_Picture_points : Value} {od_Picture_points an_Picture_points : Option Addr} {sl_Picture_points : Array (Option Value)} {oc_Picture_place_of kv_Picture_place_of dc_Picture_place_of pm_Picture_place_of cd_Picture_place_of ct_Picture_place_of : Value} {od_Picture_place_of an_Picture_place_of : Option Addr} {sl_Picture_place_of : Array (Option Value)} {oc_Picture_may kv_Picture_may dc_Picture_may pm_Picture_may cd_Picture_may ct_Picture_may : Value} {od_Picture_may an_Picture_may : Option Addr} {sl_Picture_may : Array (Option Value)} {oc_Picture_length kv_Picture_length dc_Picture_length pm_Picture_length cd_Picture_length ct_Picture_length : Value} {od_Picture_length an_Picture_length : Option Addr} {sl_Picture_length : Array (Option Value)} {oc_Picture_check_name kv_Picture_check_name dc_Picture_check_name pm_Picture_check_name cd_Picture_check_name ct_Picture_check_name : Value} {od_Picture_check_name an_Picture_check_name : Option Addr} {sl_Picture_check_name : Array (Option Value)} {oc_Picture_check_cell kv_Picture_check_cell dc_Picture_check_cell pm_Picture_check_cell cd_Picture_check_cell ct_Picture_check_cell : Value} {od_Picture_check_cell an_Picture_check_cell : Option Addr} {sl_Picture_check_cell : Array (Option Value)} {oc_Picture_check_lines kv_Picture_check_lines dc_Picture_check_lines pm_Picture_check_lines cd_Picture_check_lines ct_Picture_check_lines : Value} {od_Picture_check_lines an_Picture_check_lines : Option Addr} {sl_Picture_check_lines : Array (Option Value)} {oc_Picture_check_seat kv_Picture_check_seat dc_Picture_check_seat pm_Picture_check_seat cd_Picture_check_seat ct_Picture_check_seat : Value} {od_Picture_check_seat an_Picture_check_seat : Option Addr} {sl_Picture_check_seat : Array (Option Value)} {oc_law_cell kv_law_cell dc_law_cell pm_law_cell cd_law_cell ct_law_cell : Value} {od_law_cell an_law_cell : Option Addr} {sl_law_cell : Array (Option Value)} {oc_law_mixed kv_law_mixed dc_law_mixed pm_law_mixed cd_law_mixed ct_law_mixed : Value} {od_law_mixed an_law_mixed : Option Addr} {sl_law_mixed : Array (Option Value)} {oc_law_built kv_law_built dc_law_built pm_law_built cd_law_built ct_law_built : Value} {od_law_built an_law_built : Option Addr} {sl_law_built : Array (Option Value)} {oc_law_opened kv_law_opened dc_law_opened pm_law_opened cd_law_opened ct_law_opened : Value} {od_law_opened an_law_opened : Option Addr} {sl_law_opened : Array (Option Value)} {oc_law_may kv_law_may dc_law_may pm_law_may cd_law_may ct_law_may : Value} {od_law_may an_law_may : Option Addr} {sl_law_may : Array (Option Value)} {oc_law_given kv_law_given dc_law_given pm_law_given cd_law_given ct_law_given : Value} {od_law_given an_law_given : Option Addr} {sl_law_given : Array (Option Value)} {oc_law_across kv_law_across dc_law_across pm_law_across cd_law_across ct_law_across : Value} {od_law_across an_law_across : Option Addr} {sl_law_across : Array (Option Value)} {oc_law_cells kv_law_cells dc_law_cells pm_law_cells cd_law_cells ct_law_cells : Value} {od_law_cells an_law_cells : Option Addr} {sl_law_cells : Array (Option Value)} {oc_law_met kv_law_met dc_law_met pm_law_met cd_law_met ct_law_met : Value} {od_law_met an_law_met : Option Addr} {sl_law_met : Array (Option Value)} {oc_law_whole kv_law_whole dc_law_whole pm_law_whole cd_law_whole ct_law_whole : Value} {od_law_whole an_law_whole : Option Addr} {sl_law_whole : Array (Option Value)} {oc_law_can kv_law_can dc_law_can pm_law_can cd_law_can ct_law_can : Value} {od_law_can an_law_can : Option Addr} {sl_law_can : Array (Option Value)} {oc_law_upright kv_law_upright dc_law_upright pm_law_upright cd_law_upright ct_law_upright : Value} {od_law_upright an_law_upright : Option Addr} {sl_law_upright : Array (Option Value)} {oc_law_right kv_law_right dc_law_right pm_law_right cd_law_right ct_law_right : Value} {od_law_right an_law_right : Option Addr} {sl_law_right : Array (Option Value)} {oc_law_changed kv_law_changed dc_law_changed pm_law_changed cd_law_changed ct_law_changed : Value} {od_law_changed an_law_changed : Option Addr} {sl_law_changed : Array (Option Value)} {oc_law kv_law dc_law pm_law cd_law ct_law : Value} {od_law an_law : Option Addr} {sl_law : Array (Option Value)} {tk0_Picture_put : Tok} {tk1_Picture_put : Tok} {toc_Picture_put : Value} {tod_Picture_put : Option Addr} {tn_Picture_put : Nat} {tsl_Picture_put : Array (Option Value)} {tkc_MOST_ROWS : Tok} {tkc_MOST_COLUMNS : Tok} {tkc_MOST_POINTS : Tok} {D_MIRRORED_SIDES : Addr} {ta0_MIRRORED_SIDES tb0_MIRRORED_SIDES : Tok} {ta1_MIRRORED_SIDES tb1_MIRRORED_SIDES : Tok} {ta2_MIRRORED_SIDES tb2_MIRRORED_SIDES : Tok} {ep_MIRRORED_SIDES : Nat}
    (g_Side : PySem.W.nsIn K mainGlobals "Side" = some (some (.ref C_Side)))
    (g_LeftSide : PySem.W.nsIn K mainGlobals "LeftSide" = some (some (.ref C_LeftSide)))
    (g_RightSide : PySem.W.nsIn K mainGlobals "RightSide" = some (some (.ref C_RightSide)))
    (g_Picture : PySem.W.nsIn K mainGlobals "Picture" = some (some (.ref C_Picture)))
    (a_Side_init : PySem.W.findIn K (.ref C_Side) "__init__" = some (some (.ref f_Side_init)))
    (l_Side_init : K.lookup f_Side_init = some ⟨oc_Side_init, od_Side_init, .func (PySem.W.fnOf "__init__" "Side.__init__" (defArgs s_Side_init) (defBody s_Side_init) (defScope s_Side_init) .none kv_Side_init dc_Side_init pm_Side_init an_Side_init cd_Side_init ct_Side_init), sl_Side_init⟩)
    (c_Side_init : PySem.W.codeIn K cd_Side_init "Side.__init__" = true)
    (k_Side_init : PySem.W.keepIn K (.ref f_Side_init) = true)
    (i_Side_init : PySem.W.isFn K (.ref f_Side_init) = true)
    (a_LeftSide_rim : PySem.W.findIn K (.ref C_LeftSide) "rim" = some (some (.ref f_LeftSide_rim)))
    (l_LeftSide_rim : K.lookup f_LeftSide_rim = some ⟨oc_LeftSide_rim, od_LeftSide_rim, .func (PySem.W.fnOf "rim" "LeftSide.rim" (defArgs s_LeftSide_rim) (defBody s_LeftSide_rim) (defScope s_LeftSide_rim) .none kv_LeftSide_rim dc_LeftSide_rim pm_LeftSide_rim an_LeftSide_rim cd_LeftSide_rim ct_LeftSide_rim), sl_LeftSide_rim⟩)
    (c_LeftSide_rim : PySem.W.codeIn K cd_LeftSide_rim "LeftSide.rim" = true)
    (k_LeftSide_rim : PySem.W.keepIn K (.ref f_LeftSide_rim) = true)
    (i_LeftSide_rim : PySem.W.isFn K (.ref f_LeftSide_rim) = true)
    (a_LeftSide_way : PySem.W.findIn K (.ref C_LeftSide) "way" = some (some (.ref f_LeftSide_way)))
    (l_LeftSide_way : K.lookup f_LeftSide_way = some ⟨oc_LeftSide_way, od_LeftSide_way, .func (PySem.W.fnOf "way" "LeftSide.way" (defArgs s_LeftSide_way) (defBody s_LeftSide_way) (defScope s_LeftSide_way) .none kv_LeftSide_way dc_LeftSide_way pm_LeftSide_way an_LeftSide_way cd_LeftSide_way ct_LeftSide_way), sl_LeftSide_way⟩)
    (c_LeftSide_way : PySem.W.codeIn K cd_LeftSide_way "LeftSide.way" = true)
    (k_LeftSide_way : PySem.W.keepIn K (.ref f_LeftSide_way) = true)
    (i_LeftSide_way : PySem.W.isFn K (.ref f_LeftSide_way) = true)
    (a_LeftSide_across : PySem.W.findIn K (.ref C_LeftSide) "across" = some (some (.ref f_LeftSide_across)))
    (l_LeftSide_across : K.lookup f_LeftSide_across = some ⟨oc_LeftSide_across, od_LeftSide_across, .func (PySem.W.fnOf "across" "LeftSide.across" (defArgs s_LeftSide_across) (defBody s_LeftSide_across) (defScope s_LeftSide_across) .none kv_LeftSide_across dc_LeftSide_across pm_LeftSide_across an_LeftSide_across cd_LeftSide_across ct_LeftSide_across), sl_LeftSide_across⟩)
    (c_LeftSide_across : PySem.W.codeIn K cd_LeftSide_across "LeftSide.across" = true)
    (k_LeftSide_across : PySem.W.keepIn K (.ref f_LeftSide_across) = true)
    (i_LeftSide_across : PySem.W.isFn K (.ref f_LeftSide_across) = true)
    (a_RightSide_rim : PySem.W.findIn K (.ref C_RightSide) "rim" = some (some (.ref f_RightSide_rim)))
    (l_RightSide_rim : K.lookup f_RightSide_rim = some ⟨oc_RightSide_rim, od_RightSide_rim, .func (PySem.W.fnOf "rim" "RightSide.rim" (defArgs s_RightSide_rim) (defBody s_RightSide_rim) (defScope s_RightSide_rim) .none kv_RightSide_rim dc_RightSide_rim pm_RightSide_rim an_RightSide_rim cd_RightSide_rim ct_RightSide_rim), sl_RightSide_rim⟩)
    (c_RightSide_rim : PySem.W.codeIn K cd_RightSide_rim "RightSide.rim" = true)
    (k_RightSide_rim : PySem.W.keepIn K (.ref f_RightSide_rim) = true)
    (i_RightSide_rim : PySem.W.isFn K (.ref f_RightSide_rim) = true)
    (a_RightSide_way : PySem.W.findIn K (.ref C_RightSide) "way" = some (some (.ref f_RightSide_way)))
    (l_RightSide_way : K.lookup f_RightSide_way = some ⟨oc_RightSide_way, od_RightSide_way, .func (PySem.W.fnOf "way" "RightSide.way" (defArgs s_RightSide_way) (defBody s_RightSide_way) (defScope s_RightSide_way) .none kv_RightSide_way dc_RightSide_way pm_RightSide_way an_RightSide_way cd_RightSide_way ct_RightSide_way), sl_RightSide_way⟩)
    (c_RightSide_way : PySem.W.codeIn K cd_RightSide_way "RightSide.way" = true)
    (k_RightSide_way : PySem.W.keepIn K (.ref f_RightSide_way) = true)
    (i_RightSide_way : PySem.W.isFn K (.ref f_RightSide_way) = true)
    (a_RightSide_across : PySem.W.findIn K (.ref C_RightSide) "across" = some (some (.ref f_RightSide_across)))
    (l_RightSide_across : K.lookup f_RightSide_across = some ⟨oc_RightSide_across, od_RightSide_across, .func (PySem.W.fnOf "across" "RightSide.across" (defArgs s_RightSide_across) (defBody s_RightSide_across) (defScope s_RightSide_across) .none kv_RightSide_across dc_RightSide_across pm_RightSide_across an_RightSide_across cd_RightSide_across ct_RightSide_across), sl_RightSide_across⟩)
    (c_RightSide_across : PySem.W.codeIn K cd_RightSide_across "RightSide.across" = true)
    (k_RightSide_across : PySem.W.keepIn K (.ref f_RightSide_across) = true)
    (i_RightSide_across : PySem.W.isFn K (.ref f_RightSide_across) = true)
    (a_side_of : PySem.W.nsIn K mainGlobals "side_of" = some (some (.ref f_side_of)))
    (l_side_of : K.lookup f_side_of = some ⟨oc_side_of, od_side_of, .func (PySem.W.fnOf "side_of" "side_of" (defArgs s_side_of) (defBody s_side_of) (defScope s_side_of) .none kv_side_of dc_side_of pm_side_of an_side_of cd_side_of ct_side_of), sl_side_of⟩)
    (c_side_of : PySem.W.codeIn K cd_side_of "side_of" = true)
    (k_side_of : PySem.W.keepIn K (.ref f_side_of) = true)
    (i_side_of : PySem.W.isFn K (.ref f_side_of) = true)
    (a_cells_of : PySem.W.nsIn K mainGlobals "cells_of" = some (some (.ref f_cells_of)))
    (l_cells_of : K.lookup f_cells_of = some ⟨oc_cells_of, od_cells_of, .func (PySem.W.fnOf "cells_of" "cells_of" (defArgs s_cells_of) (defBody s_cells_of) (defScope s_cells_of) .none kv_cells_of dc_cells_of pm_cells_of an_cells_of cd_cells_of ct_cells_of), sl_cells_of⟩)
    (c_cells_of : PySem.W.codeIn K cd_cells_of "cells_of" = true)
    (k_cells_of : PySem.W.keepIn K (.ref f_cells_of) = true)
    (i_cells_of : PySem.W.isFn K (.ref f_cells_of) = true)
    (a_meeting : PySem.W.nsIn K mainGlobals "meeting" = some (some (.ref f_meeting)))
    (l_meeting : K.lookup f_meeting = some ⟨oc_meeting, od_meeting, .func (PySem.W.fnOf "meeting" "meeting" (defArgs s_meeting) (defBody s_meeting) (defScope s_meeting) .none kv_meeting dc_meeting pm_meeting an_meeting cd_meeting ct_meeting), sl_meeting⟩)
    (c_meeting : PySem.W.codeIn K cd_meeting "meeting" = true)
    (k_meeting : PySem.W.keepIn K (.ref f_meeting) = true)
    (i_meeting : PySem.W.isFn K (.ref f_meeting) = true)
    (a_upright : PySem.W.nsIn K mainGlobals "upright" = some (some (.ref f_upright)))
    (l_upright : K.lookup f_upright = some ⟨oc_upright, od_upright, .func (PySem.W.fnOf "upright" "upright" (defArgs s_upright) (defBody s_upright) (defScope s_upright) .none kv_upright dc_upright pm_upright an_upright cd_upright ct_upright), sl_upright⟩)
    (c_upright : PySem.W.codeIn K cd_upright "upright" = true)
    (k_upright : PySem.W.keepIn K (.ref f_upright) = true)
    (i_upright : PySem.W.isFn K (.ref f_upright) = true)
    (a_upright_of : PySem.W.nsIn K mainGlobals "upright_of" = some (some (.ref f_upright_of)))
    (l_upright_of : K.lookup f_upright_of = some ⟨oc_upright_of, od_upright_of, .func (PySem.W.fnOf "upright_of" "upright_of" (defArgs s_upright_of) (defBody s_upright_of) (defScope s_upright_of) .none kv_upright_of dc_upright_of pm_upright_of an_upright_of cd_upright_of ct_upright_of), sl_upright_of⟩)
    (c_upright_of : PySem.W.codeIn K cd_upright_of "upright_of" = true)
    (k_upright_of : PySem.W.keepIn K (.ref f_upright_of) = true)
    (i_upright_of : PySem.W.isFn K (.ref f_upright_of) = true)
    (a_exchangeable : PySem.W.nsIn K mainGlobals "exchangeable" = some (some (.ref f_exchangeable)))
    (l_exchangeable : K.lookup f_exchangeable = some ⟨oc_exchangeable, od_exchangeable, .func (PySem.W.fnOf "exchangeable" "exchangeable" (defArgs s_exchangeable) (defBody s_exchangeable) (defScope s_exchangeable) .none kv_exchangeable dc_exchangeable pm_exchangeable an_exchangeable cd_exchangeable ct_exchangeable), sl_exchangeable⟩)
    (c_exchangeable : PySem.W.codeIn K cd_exchangeable "exchangeable" = true)
    (k_exchangeable : PySem.W.keepIn K (.ref f_exchangeable) = true)
    (i_exchangeable : PySem.W.isFn K (.ref f_exchangeable) = true)
    (a_may_exchange : PySem.W.nsIn K mainGlobals "may_exchange" = some (some (.ref f_may_exchange)))
    (l_may_exchange : K.lookup f_may_exchange = some ⟨oc_may_exchange, od_may_exchange, .func (PySem.W.fnOf "may_exchange" "may_exchange" (defArgs s_may_exchange) (defBody s_may_exchange) (defScope s_may_exchange) .none kv_may_exchange dc_may_exchange pm_may_exchange an_may_exchange cd_may_exchange ct_may_exchange), sl_may_exchange⟩)
    (c_may_exchange : PySem.W.codeIn K cd_may_exchange "may_exchange" = true)
    (k_may_exchange : PySem.W.keepIn K (.ref f_may_exchange) = true)
    (i_may_exchange : PySem.W.isFn K (.ref f_may_exchange) = true)
    (a_is_whole : PySem.W.nsIn K mainGlobals "is_whole" = some (some (.ref f_is_whole)))
    (l_is_whole : K.lookup f_is_whole = some ⟨oc_is_whole, od_is_whole, .func (PySem.W.fnOf "is_whole" "is_whole" (defArgs s_is_whole) (defBody s_is_whole) (defScope s_is_whole) .none kv_is_whole dc_is_whole pm_is_whole an_is_whole cd_is_whole ct_is_whole), sl_is_whole⟩)
    (c_is_whole : PySem.W.codeIn K cd_is_whole "is_whole" = true)
    (k_is_whole : PySem.W.keepIn K (.ref f_is_whole) = true)
    (i_is_whole : PySem.W.isFn K (.ref f_is_whole) = true)
    (a_is_name : PySem.W.nsIn K mainGlobals "is_name" = some (some (.ref f_is_name)))
    (l_is_name : K.lookup f_is_name = some ⟨oc_is_name, od_is_name, .func (PySem.W.fnOf "is_name" "is_name" (defArgs s_is_name) (defBody s_is_name) (defScope s_is_name) .none kv_is_name dc_is_name pm_is_name an_is_name cd_is_name ct_is_name), sl_is_name⟩)
    (c_is_name : PySem.W.codeIn K cd_is_name "is_name" = true)
    (k_is_name : PySem.W.keepIn K (.ref f_is_name) = true)
    (i_is_name : PySem.W.isFn K (.ref f_is_name) = true)
    (a_Picture_init : PySem.W.findIn K (.ref C_Picture) "__init__" = some (some (.ref f_Picture_init)))
    (l_Picture_init : K.lookup f_Picture_init = some ⟨oc_Picture_init, od_Picture_init, .func (PySem.W.fnOf "__init__" "Picture.__init__" (defArgs s_Picture_init) (defBody s_Picture_init) (defScope s_Picture_init) .none kv_Picture_init dc_Picture_init pm_Picture_init an_Picture_init cd_Picture_init ct_Picture_init), sl_Picture_init⟩)
    (c_Picture_init : PySem.W.codeIn K cd_Picture_init "Picture.__init__" = true)
    (k_Picture_init : PySem.W.keepIn K (.ref f_Picture_init) = true)
    (i_Picture_init : PySem.W.isFn K (.ref f_Picture_init) = true)
    (a_Picture_put : PySem.W.findIn K (.ref C_Picture) "put" = some (some (.ref f_Picture_put)))
    (l_Picture_put : K.lookup f_Picture_put = some ⟨oc_Picture_put, od_Picture_put, .func (PySem.W.fnOf "put" "Picture.put" (defArgs s_Picture_put) (defBody s_Picture_put) (defScope s_Picture_put) (.ref T_Picture_put) kv_Picture_put dc_Picture_put pm_Picture_put an_Picture_put cd_Picture_put ct_Picture_put), sl_Picture_put⟩)
    (c_Picture_put : PySem.W.codeIn K cd_Picture_put "Picture.put" = true)
    (k_Picture_put : PySem.W.keepIn K (.ref f_Picture_put) = true)
    (i_Picture_put : PySem.W.isFn K (.ref f_Picture_put) = true)
    (t_Picture_put : K.lookup T_Picture_put = some ⟨toc_Picture_put, tod_Picture_put, .seq #[.str "both" tk0_Picture_put, .int 1 tk1_Picture_put, .none] tn_Picture_put, tsl_Picture_put⟩)
    (a_Picture_open_seat : PySem.W.findIn K (.ref C_Picture) "open_seat" = some (some (.ref f_Picture_open_seat)))
    (l_Picture_open_seat : K.lookup f_Picture_open_seat = some ⟨oc_Picture_open_seat, od_Picture_open_seat, .func (PySem.W.fnOf "open_seat" "Picture.open_seat" (defArgs s_Picture_open_seat) (defBody s_Picture_open_seat) (defScope s_Picture_open_seat) .none kv_Picture_open_seat dc_Picture_open_seat pm_Picture_open_seat an_Picture_open_seat cd_Picture_open_seat ct_Picture_open_seat), sl_Picture_open_seat⟩)
    (c_Picture_open_seat : PySem.W.codeIn K cd_Picture_open_seat "Picture.open_seat" = true)
    (k_Picture_open_seat : PySem.W.keepIn K (.ref f_Picture_open_seat) = true)
    (i_Picture_open_seat : PySem.W.isFn K (.ref f_Picture_open_seat) = true)
    (a_Picture_points : PySem.W.findIn K (.ref C_Picture) "points" = some (some (.ref f_Picture_points)))
    (l_Picture_points : K.lookup f_Picture_points = some ⟨oc_Picture_points, od_Picture_points, .func (PySem.W.fnOf "points" "Picture.points" (defArgs s_Picture_points) (defBody s_Picture_points) (defScope s_Picture_points) .none kv_Picture_points dc_Picture_points pm_Picture_points an_Picture_points cd_Picture_points ct_Picture_points), sl_Picture_points⟩)
    (c_Picture_points : PySem.W.codeIn K cd_Picture_points "Picture.points" = true)
    (k_Picture_points : PySem.W.keepIn K (.ref f_Picture_points) = true)
    (i_Picture_points : PySem.W.isFn K (.ref f_Picture_points) = true)
    (a_Picture_place_of : PySem.W.findIn K (.ref C_Picture) "place_of" = some (some (.ref f_Picture_place_of)))
    (l_Picture_place_of : K.lookup f_Picture_place_of = some ⟨oc_Picture_place_of, od_Picture_place_of, .func (PySem.W.fnOf "place_of" "Picture.place_of" (defArgs s_Picture_place_of) (defBody s_Picture_place_of) (defScope s_Picture_place_of) .none kv_Picture_place_of dc_Picture_place_of pm_Picture_place_of an_Picture_place_of cd_Picture_place_of ct_Picture_place_of), sl_Picture_place_of⟩)
    (c_Picture_place_of : PySem.W.codeIn K cd_Picture_place_of "Picture.place_of" = true)
    (k_Picture_place_of : PySem.W.keepIn K (.ref f_Picture_place_of) = true)
    (i_Picture_place_of : PySem.W.isFn K (.ref f_Picture_place_of) = true)
    (a_Picture_may : PySem.W.findIn K (.ref C_Picture) "may" = some (some (.ref f_Picture_may)))
    (l_Picture_may : K.lookup f_Picture_may = some ⟨oc_Picture_may, od_Picture_may, .func (PySem.W.fnOf "may" "Picture.may" (defArgs s_Picture_may) (defBody s_Picture_may) (defScope s_Picture_may) .none kv_Picture_may dc_Picture_may pm_Picture_may an_Picture_may cd_Picture_may ct_Picture_may), sl_Picture_may⟩)
    (c_Picture_may : PySem.W.codeIn K cd_Picture_may "Picture.may" = true)
    (k_Picture_may : PySem.W.keepIn K (.ref f_Picture_may) = true)
    (i_Picture_may : PySem.W.isFn K (.ref f_Picture_may) = true)
    (a_Picture_length : PySem.W.findIn K (.ref C_Picture) "length" = some (some (.ref f_Picture_length)))
    (l_Picture_length : K.lookup f_Picture_length = some ⟨oc_Picture_length, od_Picture_length, .func (PySem.W.fnOf "length" "Picture.length" (defArgs s_Picture_length) (defBody s_Picture_length) (defScope s_Picture_length) .none kv_Picture_length dc_Picture_length pm_Picture_length an_Picture_length cd_Picture_length ct_Picture_length), sl_Picture_length⟩)
    (c_Picture_length : PySem.W.codeIn K cd_Picture_length "Picture.length" = true)
    (k_Picture_length : PySem.W.keepIn K (.ref f_Picture_length) = true)
    (i_Picture_length : PySem.W.isFn K (.ref f_Picture_length) = true)
    (a_Picture_check_name : PySem.W.findIn K (.ref C_Picture) "check_name" = some (some (.ref f_Picture_check_name)))
    (l_Picture_check_name : K.lookup f_Picture_check_name = some ⟨oc_Picture_check_name, od_Picture_check_name, .func (PySem.W.fnOf "check_name" "Picture.check_name" (defArgs s_Picture_check_name) (defBody s_Picture_check_name) (defScope s_Picture_check_name) .none kv_Picture_check_name dc_Picture_check_name pm_Picture_check_name an_Picture_check_name cd_Picture_check_name ct_Picture_check_name), sl_Picture_check_name⟩)
    (c_Picture_check_name : PySem.W.codeIn K cd_Picture_check_name "Picture.check_name" = true)
    (k_Picture_check_name : PySem.W.keepIn K (.ref f_Picture_check_name) = true)
    (i_Picture_check_name : PySem.W.isFn K (.ref f_Picture_check_name) = true)
    (a_Picture_check_cell : PySem.W.findIn K (.ref C_Picture) "check_cell" = some (some (.ref f_Picture_check_cell)))
    (l_Picture_check_cell : K.lookup f_Picture_check_cell = some ⟨oc_Picture_check_cell, od_Picture_check_cell, .func (PySem.W.fnOf "check_cell" "Picture.check_cell" (defArgs s_Picture_check_cell) (defBody s_Picture_check_cell) (defScope s_Picture_check_cell) .none kv_Picture_check_cell dc_Picture_check_cell pm_Picture_check_cell an_Picture_check_cell cd_Picture_check_cell ct_Picture_check_cell), sl_Picture_check_cell⟩)
    (c_Picture_check_cell : PySem.W.codeIn K cd_Picture_check_cell "Picture.check_cell" = true)
    (k_Picture_check_cell : PySem.W.keepIn K (.ref f_Picture_check_cell) = true)
    (i_Picture_check_cell : PySem.W.isFn K (.ref f_Picture_check_cell) = true)
    (a_Picture_check_lines : PySem.W.findIn K (.ref C_Picture) "check_lines" = some (some (.ref f_Picture_check_lines)))
    (l_Picture_check_lines : K.lookup f_Picture_check_lines = some ⟨oc_Picture_check_lines, od_Picture_check_lines, .func (PySem.W.fnOf "check_lines" "Picture.check_lines" (defArgs s_Picture_check_lines) (defBody s_Picture_check_lines) (defScope s_Picture_check_lines) .none kv_Picture_check_lines dc_Picture_check_lines pm_Picture_check_lines an_Picture_check_lines cd_Picture_check_lines ct_Picture_check_lines), sl_Picture_check_lines⟩)
    (c_Picture_check_lines : PySem.W.codeIn K cd_Picture_check_lines "Picture.check_lines" = true)
    (k_Picture_check_lines : PySem.W.keepIn K (.ref f_Picture_check_lines) = true)
    (i_Picture_check_lines : PySem.W.isFn K (.ref f_Picture_check_lines) = true)
    (a_Picture_check_seat : PySem.W.findIn K (.ref C_Picture) "check_seat" = some (some (.ref f_Picture_check_seat)))
    (l_Picture_check_seat : K.lookup f_Picture_check_seat = some ⟨oc_Picture_check_seat, od_Picture_check_seat, .func (PySem.W.fnOf "check_seat" "Picture.check_seat" (defArgs s_Picture_check_seat) (defBody s_Picture_check_seat) (defScope s_Picture_check_seat) .none kv_Picture_check_seat dc_Picture_check_seat pm_Picture_check_seat an_Picture_check_seat cd_Picture_check_seat ct_Picture_check_seat), sl_Picture_check_seat⟩)
    (c_Picture_check_seat : PySem.W.codeIn K cd_Picture_check_seat "Picture.check_seat" = true)
    (k_Picture_check_seat : PySem.W.keepIn K (.ref f_Picture_check_seat) = true)
    (i_Picture_check_seat : PySem.W.isFn K (.ref f_Picture_check_seat) = true)
    (a_law_cell : PySem.W.nsIn K mainGlobals "_law_cell" = some (some (.ref f_law_cell)))
    (l_law_cell : K.lookup f_law_cell = some ⟨oc_law_cell, od_law_cell, .func (PySem.W.fnOf "_law_cell" "_law_cell" (defArgs s_law_cell) (defBody s_law_cell) (defScope s_law_cell) .none kv_law_cell dc_law_cell pm_law_cell an_law_cell cd_law_cell ct_law_cell), sl_law_cell⟩)
    (c_law_cell : PySem.W.codeIn K cd_law_cell "_law_cell" = true)
    (k_law_cell : PySem.W.keepIn K (.ref f_law_cell) = true)
    (i_law_cell : PySem.W.isFn K (.ref f_law_cell) = true)
    (a_law_mixed : PySem.W.nsIn K mainGlobals "_law_mixed" = some (some (.ref f_law_mixed)))
    (l_law_mixed : K.lookup f_law_mixed = some ⟨oc_law_mixed, od_law_mixed, .func (PySem.W.fnOf "_law_mixed" "_law_mixed" (defArgs s_law_mixed) (defBody s_law_mixed) (defScope s_law_mixed) .none kv_law_mixed dc_law_mixed pm_law_mixed an_law_mixed cd_law_mixed ct_law_mixed), sl_law_mixed⟩)
    (c_law_mixed : PySem.W.codeIn K cd_law_mixed "_law_mixed" = true)
    (k_law_mixed : PySem.W.keepIn K (.ref f_law_mixed) = true)
    (i_law_mixed : PySem.W.isFn K (.ref f_law_mixed) = true)
    (a_law_built : PySem.W.nsIn K mainGlobals "_law_built" = some (some (.ref f_law_built)))
    (l_law_built : K.lookup f_law_built = some ⟨oc_law_built, od_law_built, .func (PySem.W.fnOf "_law_built" "_law_built" (defArgs s_law_built) (defBody s_law_built) (defScope s_law_built) .none kv_law_built dc_law_built pm_law_built an_law_built cd_law_built ct_law_built), sl_law_built⟩)
    (c_law_built : PySem.W.codeIn K cd_law_built "_law_built" = true)
    (k_law_built : PySem.W.keepIn K (.ref f_law_built) = true)
    (i_law_built : PySem.W.isFn K (.ref f_law_built) = true)
    (a_law_opened : PySem.W.nsIn K mainGlobals "_law_opened" = some (some (.ref f_law_opened)))
    (l_law_opened : K.lookup f_law_opened = some ⟨oc_law_opened, od_law_opened, .func (PySem.W.fnOf "_law_opened" "_law_opened" (defArgs s_law_opened) (defBody s_law_opened) (defScope s_law_opened) .none kv_law_opened dc_law_opened pm_law_opened an_law_opened cd_law_opened ct_law_opened), sl_law_opened⟩)
    (c_law_opened : PySem.W.codeIn K cd_law_opened "_law_opened" = true)
    (k_law_opened : PySem.W.keepIn K (.ref f_law_opened) = true)
    (i_law_opened : PySem.W.isFn K (.ref f_law_opened) = true)
    (a_law_may : PySem.W.nsIn K mainGlobals "_law_may" = some (some (.ref f_law_may)))
    (l_law_may : K.lookup f_law_may = some ⟨oc_law_may, od_law_may, .func (PySem.W.fnOf "_law_may" "_law_may" (defArgs s_law_may) (defBody s_law_may) (defScope s_law_may) .none kv_law_may dc_law_may pm_law_may an_law_may cd_law_may ct_law_may), sl_law_may⟩)
    (c_law_may : PySem.W.codeIn K cd_law_may "_law_may" = true)
    (k_law_may : PySem.W.keepIn K (.ref f_law_may) = true)
    (i_law_may : PySem.W.isFn K (.ref f_law_may) = true)
    (a_law_given : PySem.W.nsIn K mainGlobals "_law_given" = some (some (.ref f_law_given)))
    (l_law_given : K.lookup f_law_given = some ⟨oc_law_given, od_law_given, .func (PySem.W.fnOf "_law_given" "_law_given" (defArgs s_law_given) (defBody s_law_given) (defScope s_law_given) .none kv_law_given dc_law_given pm_law_given an_law_given cd_law_given ct_law_given), sl_law_given⟩)
    (c_law_given : PySem.W.codeIn K cd_law_given "_law_given" = true)
    (k_law_given : PySem.W.keepIn K (.ref f_law_given) = true)
    (i_law_given : PySem.W.isFn K (.ref f_law_given) = true)
    (a_law_across : PySem.W.nsIn K mainGlobals "_law_across" = some (some (.ref f_law_across)))
    (l_law_across : K.lookup f_law_across = some ⟨oc_law_across, od_law_across, .func (PySem.W.fnOf "_law_across" "_law_across" (defArgs s_law_across) (defBody s_law_across) (defScope s_law_across) .none kv_law_across dc_law_across pm_law_across an_law_across cd_law_across ct_law_across), sl_law_across⟩)
    (c_law_across : PySem.W.codeIn K cd_law_across "_law_across" = true)
    (k_law_across : PySem.W.keepIn K (.ref f_law_across) = true)
    (i_law_across : PySem.W.isFn K (.ref f_law_across) = true)
    (a_law_cells : PySem.W.nsIn K mainGlobals "_law_cells" = some (some (.ref f_law_cells)))
    (l_law_cells : K.lookup f_law_cells = some ⟨oc_law_cells, od_law_cells, .func (PySem.W.fnOf "_law_cells" "_law_cells" (defArgs s_law_cells) (defBody s_law_cells) (defScope s_law_cells) .none kv_law_cells dc_law_cells pm_law_cells an_law_cells cd_law_cells ct_law_cells), sl_law_cells⟩)
    (c_law_cells : PySem.W.codeIn K cd_law_cells "_law_cells" = true)
    (k_law_cells : PySem.W.keepIn K (.ref f_law_cells) = true)
    (i_law_cells : PySem.W.isFn K (.ref f_law_cells) = true)
    (a_law_met : PySem.W.nsIn K mainGlobals "_law_met" = some (some (.ref f_law_met)))
    (l_law_met : K.lookup f_law_met = some ⟨oc_law_met, od_law_met, .func (PySem.W.fnOf "_law_met" "_law_met" (defArgs s_law_met) (defBody s_law_met) (defScope s_law_met) .none kv_law_met dc_law_met pm_law_met an_law_met cd_law_met ct_law_met), sl_law_met⟩)
    (c_law_met : PySem.W.codeIn K cd_law_met "_law_met" = true)
    (k_law_met : PySem.W.keepIn K (.ref f_law_met) = true)
    (i_law_met : PySem.W.isFn K (.ref f_law_met) = true)
    (a_law_whole : PySem.W.nsIn K mainGlobals "_law_whole" = some (some (.ref f_law_whole)))
    (l_law_whole : K.lookup f_law_whole = some ⟨oc_law_whole, od_law_whole, .func (PySem.W.fnOf "_law_whole" "_law_whole" (defArgs s_law_whole) (defBody s_law_whole) (defScope s_law_whole) .none kv_law_whole dc_law_whole pm_law_whole an_law_whole cd_law_whole ct_law_whole), sl_law_whole⟩)
    (c_law_whole : PySem.W.codeIn K cd_law_whole "_law_whole" = true)
    (k_law_whole : PySem.W.keepIn K (.ref f_law_whole) = true)
    (i_law_whole : PySem.W.isFn K (.ref f_law_whole) = true)
    (a_law_can : PySem.W.nsIn K mainGlobals "_law_can" = some (some (.ref f_law_can)))
    (l_law_can : K.lookup f_law_can = some ⟨oc_law_can, od_law_can, .func (PySem.W.fnOf "_law_can" "_law_can" (defArgs s_law_can) (defBody s_law_can) (defScope s_law_can) .none kv_law_can dc_law_can pm_law_can an_law_can cd_law_can ct_law_can), sl_law_can⟩)
    (c_law_can : PySem.W.codeIn K cd_law_can "_law_can" = true)
    (k_law_can : PySem.W.keepIn K (.ref f_law_can) = true)
    (i_law_can : PySem.W.isFn K (.ref f_law_can) = true)
    (a_law_upright : PySem.W.nsIn K mainGlobals "_law_upright" = some (some (.ref f_law_upright)))
    (l_law_upright : K.lookup f_law_upright = some ⟨oc_law_upright, od_law_upright, .func (PySem.W.fnOf "_law_upright" "_law_upright" (defArgs s_law_upright) (defBody s_law_upright) (defScope s_law_upright) .none kv_law_upright dc_law_upright pm_law_upright an_law_upright cd_law_upright ct_law_upright), sl_law_upright⟩)
    (c_law_upright : PySem.W.codeIn K cd_law_upright "_law_upright" = true)
    (k_law_upright : PySem.W.keepIn K (.ref f_law_upright) = true)
    (i_law_upright : PySem.W.isFn K (.ref f_law_upright) = true)
    (a_law_right : PySem.W.nsIn K mainGlobals "_law_right" = some (some (.ref f_law_right)))
    (l_law_right : K.lookup f_law_right = some ⟨oc_law_right, od_law_right, .func (PySem.W.fnOf "_law_right" "_law_right" (defArgs s_law_right) (defBody s_law_right) (defScope s_law_right) .none kv_law_right dc_law_right pm_law_right an_law_right cd_law_right ct_law_right), sl_law_right⟩)
    (c_law_right : PySem.W.codeIn K cd_law_right "_law_right" = true)
    (k_law_right : PySem.W.keepIn K (.ref f_law_right) = true)
    (i_law_right : PySem.W.isFn K (.ref f_law_right) = true)
    (a_law_changed : PySem.W.nsIn K mainGlobals "_law_changed" = some (some (.ref f_law_changed)))
    (l_law_changed : K.lookup f_law_changed = some ⟨oc_law_changed, od_law_changed, .func (PySem.W.fnOf "_law_changed" "_law_changed" (defArgs s_law_changed) (defBody s_law_changed) (defScope s_law_changed) .none kv_law_changed dc_law_changed pm_law_changed an_law_changed cd_law_changed ct_law_changed), sl_law_changed⟩)
    (c_law_changed : PySem.W.codeIn K cd_law_changed "_law_changed" = true)
    (k_law_changed : PySem.W.keepIn K (.ref f_law_changed) = true)
    (i_law_changed : PySem.W.isFn K (.ref f_law_changed) = true)
    (a_law : PySem.W.nsIn K mainGlobals "law" = some (some (.ref f_law)))
    (l_law : K.lookup f_law = some ⟨oc_law, od_law, .func (PySem.W.fnOf "law" "law" (defArgs s_law) (defBody s_law) (defScope s_law) .none kv_law dc_law pm_law an_law cd_law ct_law), sl_law⟩)
    (c_law : PySem.W.codeIn K cd_law "law" = true)
    (k_law : PySem.W.keepIn K (.ref f_law) = true)
    (i_law : PySem.W.isFn K (.ref f_law) = true)
    (kc_Side : PySem.W.keepIn K (.ref C_Side) = true)
    (pg_Side : PySem.W.plainGet K C_Side Str.empty = true)
    (hd_Side : PySem.W.hasDictIn K C_Side = true)
    (po_Side : PySem.W.plainOver K C_Side = true)
    (sa_Side : PySem.W.findIn K (.ref C_Side) "__setattr__" = some (some (.builtin "object.__setattr__")))
    (mk_Side : PySem.W.makesIn K C_Side = true)
    (ca_Side : PySem.W.findIn K (.ref C_Side) "__class__" = some (some (.builtin "object.__class__")))
    (mo_Side : PySem.W.mroIn K C_Side (.type "object") = some true)
    (kc_LeftSide : PySem.W.keepIn K (.ref C_LeftSide) = true)
    (pg_LeftSide : PySem.W.plainGet K C_LeftSide Str.empty = true)
    (hd_LeftSide : PySem.W.hasDictIn K C_LeftSide = true)
    (po_LeftSide : PySem.W.plainOver K C_LeftSide = true)
    (sa_LeftSide : PySem.W.findIn K (.ref C_LeftSide) "__setattr__" = some (some (.builtin "object.__setattr__")))
    (mk_LeftSide : PySem.W.makesIn K C_LeftSide = true)
    (ca_LeftSide : PySem.W.findIn K (.ref C_LeftSide) "__class__" = some (some (.builtin "object.__class__")))
    (mo_LeftSide : PySem.W.mroIn K C_LeftSide (.type "object") = some true)
    (a_LeftSide_init : PySem.W.findIn K (.ref C_LeftSide) "__init__" = some (some (.ref f_Side_init)))
    (kc_RightSide : PySem.W.keepIn K (.ref C_RightSide) = true)
    (pg_RightSide : PySem.W.plainGet K C_RightSide Str.empty = true)
    (hd_RightSide : PySem.W.hasDictIn K C_RightSide = true)
    (po_RightSide : PySem.W.plainOver K C_RightSide = true)
    (sa_RightSide : PySem.W.findIn K (.ref C_RightSide) "__setattr__" = some (some (.builtin "object.__setattr__")))
    (mk_RightSide : PySem.W.makesIn K C_RightSide = true)
    (ca_RightSide : PySem.W.findIn K (.ref C_RightSide) "__class__" = some (some (.builtin "object.__class__")))
    (mo_RightSide : PySem.W.mroIn K C_RightSide (.type "object") = some true)
    (a_RightSide_init : PySem.W.findIn K (.ref C_RightSide) "__init__" = some (some (.ref f_Side_init)))
    (kc_Picture : PySem.W.keepIn K (.ref C_Picture) = true)
    (pg_Picture : PySem.W.plainGet K C_Picture Str.empty = true)
    (hd_Picture : PySem.W.hasDictIn K C_Picture = true)
    (po_Picture : PySem.W.plainOver K C_Picture = true)
    (sa_Picture : PySem.W.findIn K (.ref C_Picture) "__setattr__" = some (some (.builtin "object.__setattr__")))
    (mk_Picture : PySem.W.makesIn K C_Picture = true)
    (ca_Picture : PySem.W.findIn K (.ref C_Picture) "__class__" = some (some (.builtin "object.__class__")))
    (mo_Picture : PySem.W.mroIn K C_Picture (.type "object") = some true)
    (cg : PySem.W.specialIn K (.builtin "object.__class__") "__get__" = some (some (.builtin "getset_descriptor.__get__")))
    (ct : PySem.W.takesIn K (.builtin "object.__class__") = some true)
    (n_RightSide_width : PySem.W.findIn K (.ref C_RightSide) "width" = some none)
    (n_Picture_placed : PySem.W.findIn K (.ref C_Picture) "placed" = some none)
    (n_Picture_height : PySem.W.findIn K (.ref C_Picture) "height" = some none)
    (n_Picture_width : PySem.W.findIn K (.ref C_Picture) "width" = some none)
    (n_Picture_opened : PySem.W.findIn K (.ref C_Picture) "opened" = some none)
    (n_Side_width : PySem.W.findIn K (.ref C_Side) "width" = some none)
    (n_LeftSide_width : PySem.W.findIn K (.ref C_LeftSide) "width" = some none)
    (n_abs : PySem.W.nsIn K mainGlobals "abs" = some none)
    (n_bool : PySem.W.nsIn K mainGlobals "bool" = some none)
    (n_dict : PySem.W.nsIn K mainGlobals "dict" = some none)
    (n_enumerate : PySem.W.nsIn K mainGlobals "enumerate" = some none)
    (n_int : PySem.W.nsIn K mainGlobals "int" = some none)
    (n_isinstance : PySem.W.nsIn K mainGlobals "isinstance" = some none)
    (n_len : PySem.W.nsIn K mainGlobals "len" = some none)
    (n_list : PySem.W.nsIn K mainGlobals "list" = some none)
    (n_max : PySem.W.nsIn K mainGlobals "max" = some none)
    (n_min : PySem.W.nsIn K mainGlobals "min" = some none)
    (n_range : PySem.W.nsIn K mainGlobals "range" = some none)
    (n_reversed : PySem.W.nsIn K mainGlobals "reversed" = some none)
    (n_str : PySem.W.nsIn K mainGlobals "str" = some none)
    (n_sum : PySem.W.nsIn K mainGlobals "sum" = some none)
    (n_tuple : PySem.W.nsIn K mainGlobals "tuple" = some none)
    (v_MOST_ROWS : PySem.W.nsIn K mainGlobals "MOST_ROWS" = some (some (.int 16 tkc_MOST_ROWS)))
    (v_MOST_COLUMNS : PySem.W.nsIn K mainGlobals "MOST_COLUMNS" = some (some (.int 30 tkc_MOST_COLUMNS)))
    (v_MOST_POINTS : PySem.W.nsIn K mainGlobals "MOST_POINTS" = some (some (.int 12 tkc_MOST_POINTS)))
    (g_MIRRORED_SIDES : PySem.W.nsIn K mainGlobals "MIRRORED_SIDES" = some (some (.ref D_MIRRORED_SIDES)))
    (l_MIRRORED_SIDES : K.lookup D_MIRRORED_SIDES = some ⟨.type "dict", none, .dict #[⟨hashStr w "left", .str "left" ta0_MIRRORED_SIDES, .str "right" tb0_MIRRORED_SIDES⟩, ⟨hashStr w "right", .str "right" ta1_MIRRORED_SIDES, .str "left" tb1_MIRRORED_SIDES⟩, ⟨hashStr w "both", .str "both" ta2_MIRRORED_SIDES, .str "both" tb2_MIRRORED_SIDES⟩] ep_MIRRORED_SIDES, #[]⟩)
    (ns_MIRRORED_SIDES : (D_MIRRORED_SIDES == sysModules) = false)
    : ∃ t, Txt w K mg t :=
  ⟨⟨f_Side_init, _, f_LeftSide_rim, _, f_LeftSide_way, _, f_LeftSide_across, _, f_RightSide_rim, _, f_RightSide_way, _, f_RightSide_across, _, f_side_of, _, f_cells_of, _, f_meeting, _, f_upright, _, f_upright_of, _, f_exchangeable, _, f_may_exchange, _, f_is_whole, _, f_is_name, _, f_Picture_init, _, f_Picture_put, _, T_Picture_put, f_Picture_open_seat, _, f_Picture_points, _, f_Picture_place_of, _, f_Picture_may, _, f_Picture_length, _, f_Picture_check_name, _, f_Picture_check_cell, _, f_Picture_check_lines, _, f_Picture_check_seat, _, f_law_cell, _, f_law_mixed, _, f_law_built, _, f_law_opened, _, f_law_may, _, f_law_given, _, f_law_across, _, f_law_cells, _, f_law_met, _, f_law_whole, _, f_law_can, _, f_law_upright, _, f_law_right, _, f_law_changed, _, f_law, _, C_Side, C_LeftSide, C_RightSide, C_Picture, D_MIRRORED_SIDES⟩, {
    g_Side := PySem.W.mg_of X G g_Side
    g_LeftSide := PySem.W.mg_of X G g_LeftSide
    g_RightSide := PySem.W.mg_of X G g_RightSide
    g_Picture := PySem.W.mg_of X G g_Picture
    F_Side_init := fun_mk (st := s_Side_init) l_Side_init c_Side_init k_Side_init
    b_Side_init := (fun_mk (st := s_Side_init) l_Side_init c_Side_init k_Side_init).binds (ps := ["self", "width"]) fun _ _ _ _ _ _ us hl => match us, hl with | [_, _], _ => rfl
    F_LeftSide_rim := fun_mk (st := s_LeftSide_rim) l_LeftSide_rim c_LeftSide_rim k_LeftSide_rim
    b_LeftSide_rim := (fun_mk (st := s_LeftSide_rim) l_LeftSide_rim c_LeftSide_rim k_LeftSide_rim).binds (ps := ["self"]) fun _ _ _ _ _ _ us hl => match us, hl with | [_], _ => rfl
    F_LeftSide_way := fun_mk (st := s_LeftSide_way) l_LeftSide_way c_LeftSide_way k_LeftSide_way
    b_LeftSide_way := (fun_mk (st := s_LeftSide_way) l_LeftSide_way c_LeftSide_way k_LeftSide_way).binds (ps := ["self"]) fun _ _ _ _ _ _ us hl => match us, hl with | [_], _ => rfl
    F_LeftSide_across := fun_mk (st := s_LeftSide_across) l_LeftSide_across c_LeftSide_across k_LeftSide_across
    b_LeftSide_across := (fun_mk (st := s_LeftSide_across) l_LeftSide_across c_LeftSide_across k_LeftSide_across).binds (ps := ["self", "x"]) fun _ _ _ _ _ _ us hl => match us, hl with | [_, _], _ => rfl
    F_RightSide_rim := fun_mk (st := s_RightSide_rim) l_RightSide_rim c_RightSide_rim k_RightSide_rim
    b_RightSide_rim := (fun_mk (st := s_RightSide_rim) l_RightSide_rim c_RightSide_rim k_RightSide_rim).binds (ps := ["self"]) fun _ _ _ _ _ _ us hl => match us, hl with | [_], _ => rfl
    F_RightSide_way := fun_mk (st := s_RightSide_way) l_RightSide_way c_RightSide_way k_RightSide_way
    b_RightSide_way := (fun_mk (st := s_RightSide_way) l_RightSide_way c_RightSide_way k_RightSide_way).binds (ps := ["self"]) fun _ _ _ _ _ _ us hl => match us, hl with | [_], _ => rfl
    F_RightSide_across := fun_mk (st := s_RightSide_across) l_RightSide_across c_RightSide_across k_RightSide_across
    b_RightSide_across := (fun_mk (st := s_RightSide_across) l_RightSide_across c_RightSide_across k_RightSide_across).binds (ps := ["self", "x"]) fun _ _ _ _ _ _ us hl => match us, hl with | [_, _], _ => rfl
    g_side_of := PySem.W.mg_of X G a_side_of
    F_side_of := fun_mk (st := s_side_of) l_side_of c_side_of k_side_of
    b_side_of := (fun_mk (st := s_side_of) l_side_of c_side_of k_side_of).binds (ps := ["word", "width"]) fun _ _ _ _ _ _ us hl => match us, hl with | [_, _], _ => rfl
    g_cells_of := PySem.W.mg_of X G a_cells_of
    F_cells_of := fun_mk (st := s_cells_of) l_cells_of c_cells_of k_cells_of
    b_cells_of := (fun_mk (st := s_cells_of) l_cells_of c_cells_of k_cells_of).binds (ps := ["picture", "name", "side", "row"]) fun _ _ _ _ _ _ us hl => match us, hl with | [_, _, _, _], _ => rfl
    g_meeting := PySem.W.mg_of X G a_meeting
    F_meeting := fun_mk (st := s_meeting) l_meeting c_meeting k_meeting
    b_meeting := (fun_mk (st := s_meeting) l_meeting c_meeting k_meeting).binds (ps := ["picture", "one", "other"]) fun _ _ _ _ _ _ us hl => match us, hl with | [_, _, _], _ => rfl
    g_upright := PySem.W.mg_of X G a_upright
    F_upright := fun_mk (st := s_upright) l_upright c_upright k_upright
    b_upright := (fun_mk (st := s_upright) l_upright c_upright k_upright).binds (ps := ["picture", "pairs"]) fun _ _ _ _ _ _ us hl => match us, hl with | [_, _], _ => rfl
    g_upright_of := PySem.W.mg_of X G a_upright_of
    F_upright_of := fun_mk (st := s_upright_of) l_upright_of c_upright_of k_upright_of
    b_upright_of := (fun_mk (st := s_upright_of) l_upright_of c_upright_of k_upright_of).binds (ps := ["picture", "pair"]) fun _ _ _ _ _ _ us hl => match us, hl with | [_, _], _ => rfl
    g_exchangeable := PySem.W.mg_of X G a_exchangeable
    F_exchangeable := fun_mk (st := s_exchangeable) l_exchangeable c_exchangeable k_exchangeable
    b_exchangeable := (fun_mk (st := s_exchangeable) l_exchangeable c_exchangeable k_exchangeable).binds (ps := ["picture", "pairs"]) fun _ _ _ _ _ _ us hl => match us, hl with | [_, _], _ => rfl
    g_may_exchange := PySem.W.mg_of X G a_may_exchange
    F_may_exchange := fun_mk (st := s_may_exchange) l_may_exchange c_may_exchange k_may_exchange
    b_may_exchange := (fun_mk (st := s_may_exchange) l_may_exchange c_may_exchange k_may_exchange).binds (ps := ["picture", "one", "other"]) fun _ _ _ _ _ _ us hl => match us, hl with | [_, _, _], _ => rfl
    g_is_whole := PySem.W.mg_of X G a_is_whole
    F_is_whole := fun_mk (st := s_is_whole) l_is_whole c_is_whole k_is_whole
    b_is_whole := (fun_mk (st := s_is_whole) l_is_whole c_is_whole k_is_whole).binds (ps := ["thing", "low", "high"]) fun _ _ _ _ _ _ us hl => match us, hl with | [_, _, _], _ => rfl
    g_is_name := PySem.W.mg_of X G a_is_name
    F_is_name := fun_mk (st := s_is_name) l_is_name c_is_name k_is_name
    b_is_name := (fun_mk (st := s_is_name) l_is_name c_is_name k_is_name).binds (ps := ["thing"]) fun _ _ _ _ _ _ us hl => match us, hl with | [_], _ => rfl
    F_Picture_init := fun_mk (st := s_Picture_init) l_Picture_init c_Picture_init k_Picture_init
    b_Picture_init := (fun_mk (st := s_Picture_init) l_Picture_init c_Picture_init k_Picture_init).binds (ps := ["self", "width", "height"]) fun _ _ _ _ _ _ us hl => match us, hl with | [_, _, _], _ => rfl
    F_Picture_put := (fund_mk (st := s_Picture_put) l_Picture_put c_Picture_put k_Picture_put)
    b_Picture_put := (fund_mk (st := s_Picture_put) l_Picture_put c_Picture_put k_Picture_put).binds t_Picture_put rfl 7 rfl fun _ _ _ _ _ _ us hl => match us, hl with | [_, _, _, _, _, _, _], _ => ⟨_, rfl, rfl⟩
    F_Picture_open_seat := fun_mk (st := s_Picture_open_seat) l_Picture_open_seat c_Picture_open_seat k_Picture_open_seat
    b_Picture_open_seat := (fun_mk (st := s_Picture_open_seat) l_Picture_open_seat c_Picture_open_seat k_Picture_open_seat).binds (ps := ["self", "side", "row"]) fun _ _ _ _ _ _ us hl => match us, hl with | [_, _, _], _ => rfl
    F_Picture_points := fun_mk (st := s_Picture_points) l_Picture_points c_Picture_points k_Picture_points
    b_Picture_points := (fun_mk (st := s_Picture_points) l_Picture_points c_Picture_points k_Picture_points).binds (ps := ["self"]) fun _ _ _ _ _ _ us hl => match us, hl with | [_], _ => rfl
    F_Picture_place_of := fun_mk (st := s_Picture_place_of) l_Picture_place_of c_Picture_place_of k_Picture_place_of
    b_Picture_place_of := (fun_mk (st := s_Picture_place_of) l_Picture_place_of c_Picture_place_of k_Picture_place_of).binds (ps := ["self", "name"]) fun _ _ _ _ _ _ us hl => match us, hl with | [_, _], _ => rfl
    F_Picture_may := fun_mk (st := s_Picture_may) l_Picture_may c_Picture_may k_Picture_may
    b_Picture_may := (fun_mk (st := s_Picture_may) l_Picture_may c_Picture_may k_Picture_may).binds (ps := ["self", "name", "side", "row"]) fun _ _ _ _ _ _ us hl => match us, hl with | [_, _, _, _], _ => rfl
    F_Picture_length := fun_mk (st := s_Picture_length) l_Picture_length c_Picture_length k_Picture_length
    b_Picture_length := (fun_mk (st := s_Picture_length) l_Picture_length c_Picture_length k_Picture_length).binds (ps := ["self", "name", "side", "row"]) fun _ _ _ _ _ _ us hl => match us, hl with | [_, _, _, _], _ => rfl
    F_Picture_check_name := fun_mk (st := s_Picture_check_name) l_Picture_check_name c_Picture_check_name k_Picture_check_name
    b_Picture_check_name := (fun_mk (st := s_Picture_check_name) l_Picture_check_name c_Picture_check_name k_Picture_check_name).binds (ps := ["self", "name"]) fun _ _ _ _ _ _ us hl => match us, hl with | [_, _], _ => rfl
    F_Picture_check_cell := fun_mk (st := s_Picture_check_cell) l_Picture_check_cell c_Picture_check_cell k_Picture_check_cell
    b_Picture_check_cell := (fun_mk (st := s_Picture_check_cell) l_Picture_check_cell c_Picture_check_cell k_Picture_check_cell).binds (ps := ["self", "x", "y"]) fun _ _ _ _ _ _ us hl => match us, hl with | [_, _, _], _ => rfl
    F_Picture_check_lines := fun_mk (st := s_Picture_check_lines) l_Picture_check_lines c_Picture_check_lines k_Picture_check_lines
    b_Picture_check_lines := (fun_mk (st := s_Picture_check_lines) l_Picture_check_lines c_Picture_check_lines k_Picture_check_lines).binds (ps := ["self", "name", "x", "y"]) fun _ _ _ _ _ _ us hl => match us, hl with | [_, _, _, _], _ => rfl
    F_Picture_check_seat := fun_mk (st := s_Picture_check_seat) l_Picture_check_seat c_Picture_check_seat k_Picture_check_seat
    b_Picture_check_seat := (fun_mk (st := s_Picture_check_seat) l_Picture_check_seat c_Picture_check_seat k_Picture_check_seat).binds (ps := ["self", "side", "row"]) fun _ _ _ _ _ _ us hl => match us, hl with | [_, _, _], _ => rfl
    g_law_cell := PySem.W.mg_of X G a_law_cell
    F_law_cell := fun_mk (st := s_law_cell) l_law_cell c_law_cell k_law_cell
    b_law_cell := (fun_mk (st := s_law_cell) l_law_cell c_law_cell k_law_cell).binds (ps := ["_law_script", "_law_k"]) fun _ _ _ _ _ _ us hl => match us, hl with | [_, _], _ => rfl
    g_law_mixed := PySem.W.mg_of X G a_law_mixed
    F_law_mixed := fun_mk (st := s_law_mixed) l_law_mixed c_law_mixed k_law_mixed
    b_law_mixed := (fun_mk (st := s_law_mixed) l_law_mixed c_law_mixed k_law_mixed).binds (ps := ["_law_cell_here", "_law_k"]) fun _ _ _ _ _ _ us hl => match us, hl with | [_, _], _ => rfl
    g_law_built := PySem.W.mg_of X G a_law_built
    F_law_built := fun_mk (st := s_law_built) l_law_built c_law_built k_law_built
    b_law_built := (fun_mk (st := s_law_built) l_law_built c_law_built k_law_built).binds (ps := ["_law_cell_here", "_law_most", "_law_wide", "_law_high", "_law_free"]) fun _ _ _ _ _ _ us hl => match us, hl with | [_, _, _, _, _], _ => rfl
    g_law_opened := PySem.W.mg_of X G a_law_opened
    F_law_opened := fun_mk (st := s_law_opened) l_law_opened c_law_opened k_law_opened
    b_law_opened := (fun_mk (st := s_law_opened) l_law_opened c_law_opened k_law_opened).binds (ps := ["_law_picture", "_law_cell_here"]) fun _ _ _ _ _ _ us hl => match us, hl with | [_, _], _ => rfl
    g_law_may := PySem.W.mg_of X G a_law_may
    F_law_may := fun_mk (st := s_law_may) l_law_may c_law_may k_law_may
    b_law_may := (fun_mk (st := s_law_may) l_law_may c_law_may k_law_may).binds (ps := ["_law_points", "_law_seats", "_law_name", "_law_side", "_law_row"]) fun _ _ _ _ _ _ us hl => match us, hl with | [_, _, _, _, _], _ => rfl
    g_law_given := PySem.W.mg_of X G a_law_given
    F_law_given := fun_mk (st := s_law_given) l_law_given c_law_given k_law_given
    b_law_given := (fun_mk (st := s_law_given) l_law_given c_law_given k_law_given).binds (ps := ["_law_points", "_law_seats", "_law_cell_here"]) fun _ _ _ _ _ _ us hl => match us, hl with | [_, _, _], _ => rfl
    g_law_across := PySem.W.mg_of X G a_law_across
    F_law_across := fun_mk (st := s_law_across) l_law_across c_law_across k_law_across
    b_law_across := (fun_mk (st := s_law_across) l_law_across c_law_across k_law_across).binds (ps := ["_law_width", "_law_point", "_law_side"]) fun _ _ _ _ _ _ us hl => match us, hl with | [_, _, _], _ => rfl
    g_law_cells := PySem.W.mg_of X G a_law_cells
    F_law_cells := fun_mk (st := s_law_cells) l_law_cells c_law_cells k_law_cells
    b_law_cells := (fun_mk (st := s_law_cells) l_law_cells c_law_cells k_law_cells).binds (ps := ["_law_width", "_law_point", "_law_side", "_law_row"]) fun _ _ _ _ _ _ us hl => match us, hl with | [_, _, _, _], _ => rfl
    g_law_met := PySem.W.mg_of X G a_law_met
    F_law_met := fun_mk (st := s_law_met) l_law_met c_law_met k_law_met
    b_law_met := (fun_mk (st := s_law_met) l_law_met c_law_met k_law_met).binds (ps := ["_law_width", "_law_points", "_law_one", "_law_other"]) fun _ _ _ _ _ _ us hl => match us, hl with | [_, _, _, _], _ => rfl
    g_law_whole := PySem.W.mg_of X G a_law_whole
    F_law_whole := fun_mk (st := s_law_whole) l_law_whole c_law_whole k_law_whole
    b_law_whole := (fun_mk (st := s_law_whole) l_law_whole c_law_whole k_law_whole).binds (ps := ["_law_found", "_law_due"]) fun _ _ _ _ _ _ us hl => match us, hl with | [_, _], _ => rfl
    g_law_can := PySem.W.mg_of X G a_law_can
    F_law_can := fun_mk (st := s_law_can) l_law_can c_law_can k_law_can
    b_law_can := (fun_mk (st := s_law_can) l_law_can c_law_can k_law_can).binds (ps := ["_law_width", "_law_points", "_law_seats", "_law_one", "_law_other"]) fun _ _ _ _ _ _ us hl => match us, hl with | [_, _, _, _, _], _ => rfl
    g_law_upright := PySem.W.mg_of X G a_law_upright
    F_law_upright := fun_mk (st := s_law_upright) l_law_upright c_law_upright k_law_upright
    b_law_upright := (fun_mk (st := s_law_upright) l_law_upright c_law_upright k_law_upright).binds (ps := ["_law_width", "_law_points", "_law_pairs"]) fun _ _ _ _ _ _ us hl => match us, hl with | [_, _, _], _ => rfl
    g_law_right := PySem.W.mg_of X G a_law_right
    F_law_right := fun_mk (st := s_law_right) l_law_right c_law_right k_law_right
    b_law_right := (fun_mk (st := s_law_right) l_law_right c_law_right k_law_right).binds (ps := ["_law_picture", "_law_points", "_law_seats", "_law_pairs"]) fun _ _ _ _ _ _ us hl => match us, hl with | [_, _, _, _], _ => rfl
    g_law_changed := PySem.W.mg_of X G a_law_changed
    F_law_changed := fun_mk (st := s_law_changed) l_law_changed c_law_changed k_law_changed
    b_law_changed := (fun_mk (st := s_law_changed) l_law_changed c_law_changed k_law_changed).binds (ps := ["_law_points", "_law_seats", "_law_pairs", "_law_number"]) fun _ _ _ _ _ _ us hl => match us, hl with | [_, _, _, _], _ => rfl
    g_law := PySem.W.mg_of X G a_law
    F_law := fun_mk (st := s_law) l_law c_law k_law
    b_law := (fun_mk (st := s_law) l_law c_law k_law).binds (ps := ["_law_script"]) fun _ _ _ _ _ _ us hl => match us, hl with | [_], _ => rfl
    c_Side := ⟨pg_Side, hd_Side, po_Side, sa_Side⟩
    ca_Side := ca_Side
    mo_Side := mo_Side
    k_Side := ⟨mk_Side, a_Side_init, i_Side_init, kc_Side⟩
    c_LeftSide := ⟨pg_LeftSide, hd_LeftSide, po_LeftSide, sa_LeftSide⟩
    ca_LeftSide := ca_LeftSide
    mo_LeftSide := mo_LeftSide
    k_LeftSide := ⟨mk_LeftSide, a_LeftSide_init, i_Side_init, kc_LeftSide⟩
    m_LeftSide_rim := ⟨a_LeftSide_rim, i_LeftSide_rim, k_LeftSide_rim⟩
    m_LeftSide_way := ⟨a_LeftSide_way, i_LeftSide_way, k_LeftSide_way⟩
    m_LeftSide_across := ⟨a_LeftSide_across, i_LeftSide_across, k_LeftSide_across⟩
    c_RightSide := ⟨pg_RightSide, hd_RightSide, po_RightSide, sa_RightSide⟩
    ca_RightSide := ca_RightSide
    mo_RightSide := mo_RightSide
    k_RightSide := ⟨mk_RightSide, a_RightSide_init, i_Side_init, kc_RightSide⟩
    m_RightSide_rim := ⟨a_RightSide_rim, i_RightSide_rim, k_RightSide_rim⟩
    m_RightSide_way := ⟨a_RightSide_way, i_RightSide_way, k_RightSide_way⟩
    m_RightSide_across := ⟨a_RightSide_across, i_RightSide_across, k_RightSide_across⟩
    c_Picture := ⟨pg_Picture, hd_Picture, po_Picture, sa_Picture⟩
    ca_Picture := ca_Picture
    mo_Picture := mo_Picture
    k_Picture := ⟨mk_Picture, a_Picture_init, i_Picture_init, kc_Picture⟩
    m_Picture_put := ⟨a_Picture_put, i_Picture_put, k_Picture_put⟩
    m_Picture_open_seat := ⟨a_Picture_open_seat, i_Picture_open_seat, k_Picture_open_seat⟩
    m_Picture_points := ⟨a_Picture_points, i_Picture_points, k_Picture_points⟩
    m_Picture_place_of := ⟨a_Picture_place_of, i_Picture_place_of, k_Picture_place_of⟩
    m_Picture_may := ⟨a_Picture_may, i_Picture_may, k_Picture_may⟩
    m_Picture_length := ⟨a_Picture_length, i_Picture_length, k_Picture_length⟩
    m_Picture_check_name := ⟨a_Picture_check_name, i_Picture_check_name, k_Picture_check_name⟩
    m_Picture_check_cell := ⟨a_Picture_check_cell, i_Picture_check_cell, k_Picture_check_cell⟩
    m_Picture_check_lines := ⟨a_Picture_check_lines, i_Picture_check_lines, k_Picture_check_lines⟩
    m_Picture_check_seat := ⟨a_Picture_check_seat, i_Picture_check_seat, k_Picture_check_seat⟩
    cg := cg
    ct := ct
    n_RightSide_width := n_RightSide_width
    n_Picture_placed := n_Picture_placed
    n_Picture_height := n_Picture_height
    n_Picture_width := n_Picture_width
    n_Picture_opened := n_Picture_opened
    n_Side_width := n_Side_width
    n_LeftSide_width := n_LeftSide_width
    n_abs := PySem.W.mg_none_of X G n_abs
    n_bool := PySem.W.mg_none_of X G n_bool
    n_dict := PySem.W.mg_none_of X G n_dict
    n_enumerate := PySem.W.mg_none_of X G n_enumerate
    n_int := PySem.W.mg_none_of X G n_int
    n_isinstance := PySem.W.mg_none_of X G n_isinstance
    n_len := PySem.W.mg_none_of X G n_len
    n_list := PySem.W.mg_none_of X G n_list
    n_max := PySem.W.mg_none_of X G n_max
    n_min := PySem.W.mg_none_of X G n_min
    n_range := PySem.W.mg_none_of X G n_range
    n_reversed := PySem.W.mg_none_of X G n_reversed
    n_str := PySem.W.mg_none_of X G n_str
    n_sum := PySem.W.mg_none_of X G n_sum
    n_tuple := PySem.W.mg_none_of X G n_tuple
    v_MOST_ROWS := ⟨_, PySem.W.mg_of X G v_MOST_ROWS⟩
    v_MOST_COLUMNS := ⟨_, PySem.W.mg_of X G v_MOST_COLUMNS⟩
    v_MOST_POINTS := ⟨_, PySem.W.mg_of X G v_MOST_POINTS⟩
    g_MIRRORED_SIDES := PySem.W.mg_of X G g_MIRRORED_SIDES
    D_MIRRORED_SIDES := ⟨ns_MIRRORED_SIDES, _, _, l_MIRRORED_SIDES, .cons rfl ⟨_, rfl⟩ ⟨_, rfl⟩ (.cons rfl ⟨_, rfl⟩ ⟨_, rfl⟩ (.cons rfl ⟨_, rfl⟩ ⟨_, rfl⟩ (.nil))), by decide⟩ }⟩
theorem sc_Side_init : FnScope ["self", "width"] ["self", "width"] (defScope s_Side_init) := ⟨rfl, rfl, rfl, by decide +kernel, rfl, by decide +kernel, by decide +kernel⟩
theorem sc_LeftSide_rim : FnScope ["self"] ["self"] (defScope s_LeftSide_rim) := ⟨rfl, rfl, rfl, by decide +kernel, rfl, by decide +kernel, by decide +kernel⟩
theorem sc_LeftSide_way : FnScope ["self"] ["self"] (defScope s_LeftSide_way) := ⟨rfl, rfl, rfl, by decide +kernel, rfl, by decide +kernel, by decide +kernel⟩
theorem sc_LeftSide_across : FnScope ["self", "x"] ["self", "x"] (defScope s_LeftSide_across) := ⟨rfl, rfl, rfl, by decide +kernel, rfl, by decide +kernel, by decide +kernel⟩
theorem sc_RightSide_rim : FnScope ["self"] ["self"] (defScope s_RightSide_rim) := ⟨rfl, rfl, rfl, by decide +kernel, rfl, by decide +kernel, by decide +kernel⟩
theorem sc_RightSide_way : FnScope ["self"] ["self"] (defScope s_RightSide_way) := ⟨rfl, rfl, rfl, by decide +kernel, rfl, by decide +kernel, by decide +kernel⟩
theorem sc_RightSide_across : FnScope ["self", "x"] ["self", "x"] (defScope s_RightSide_across) := ⟨rfl, rfl, rfl, by decide +kernel, rfl, by decide +kernel, by decide +kernel⟩
theorem sc_side_of : FnScope ["word", "width"] ["word", "width"] (defScope s_side_of) := ⟨rfl, rfl, rfl, by decide +kernel, rfl, by decide +kernel, by decide +kernel⟩
theorem sc_cells_of : FnScope ["picture", "name", "side", "row", "x", "y", "toward", "down", "upright", "level"] ["picture", "name", "side", "row"] (defScope s_cells_of) := ⟨rfl, rfl, rfl, by decide +kernel, rfl, by decide +kernel, by decide +kernel⟩
theorem sc_meeting : FnScope ["picture", "one", "other", "name", "side", "row", "theirs", "cell"] ["picture", "one", "other"] (defScope s_meeting) := ⟨rfl, rfl, rfl, by decide +kernel, rfl, by decide +kernel, by decide +kernel⟩
theorem sc_upright : FnScope ["picture", "pairs"] ["picture", "pairs"] (defScope s_upright) := ⟨rfl, rfl, rfl, by decide +kernel, rfl, by decide +kernel, by decide +kernel⟩
theorem sc_upright_of : FnScope ["picture", "pair", "name", "side", "row", "x", "y"] ["picture", "pair"] (defScope s_upright_of) := ⟨rfl, rfl, rfl, by decide +kernel, rfl, by decide +kernel, by decide +kernel⟩
theorem sc_exchangeable : FnScope ["picture", "pairs", "number", "one", "other", "cell"] ["picture", "pairs"] (defScope s_exchangeable) := ⟨rfl, rfl, rfl, by decide +kernel, rfl, by decide +kernel, by decide +kernel⟩
theorem sc_may_exchange : FnScope ["picture", "one", "other", "name", "side", "row", "other_name", "other_side", "other_row"] ["picture", "one", "other"] (defScope s_may_exchange) := ⟨rfl, rfl, rfl, by decide +kernel, rfl, by decide +kernel, by decide +kernel⟩
theorem sc_is_whole : FnScope ["thing", "low", "high"] ["thing", "low", "high"] (defScope s_is_whole) := ⟨rfl, rfl, rfl, by decide +kernel, rfl, by decide +kernel, by decide +kernel⟩
theorem sc_is_name : FnScope ["thing"] ["thing"] (defScope s_is_name) := ⟨rfl, rfl, rfl, by decide +kernel, rfl, by decide +kernel, by decide +kernel⟩
theorem sc_Picture_init : FnScope ["self", "width", "height"] ["self", "width", "height"] (defScope s_Picture_init) := ⟨rfl, rfl, rfl, by decide +kernel, rfl, by decide +kernel, by decide +kernel⟩
theorem sc_Picture_put : FnScope ["self", "name", "x", "y", "sides", "low", "high", "highest"] ["self", "name", "x", "y", "sides", "low", "high"] (defScope s_Picture_put) := ⟨rfl, rfl, rfl, by decide +kernel, rfl, by decide +kernel, by decide +kernel⟩
theorem sc_Picture_open_seat : FnScope ["self", "side", "row"] ["self", "side", "row"] (defScope s_Picture_open_seat) := ⟨rfl, rfl, rfl, by decide +kernel, rfl, by decide +kernel, by decide +kernel⟩
theorem sc_Picture_points : FnScope ["self"] ["self"] (defScope s_Picture_points) := ⟨rfl, rfl, rfl, by decide +kernel, rfl, by decide +kernel, by decide +kernel⟩
theorem sc_Picture_place_of : FnScope ["self", "name"] ["self", "name"] (defScope s_Picture_place_of) := ⟨rfl, rfl, rfl, by decide +kernel, rfl, by decide +kernel, by decide +kernel⟩
theorem sc_Picture_may : FnScope ["self", "name", "side", "row", "x", "y", "sides", "low", "high"] ["self", "name", "side", "row"] (defScope s_Picture_may) := ⟨rfl, rfl, rfl, by decide +kernel, rfl, by decide +kernel, by decide +kernel⟩
theorem sc_Picture_length : FnScope ["self", "name", "side", "row", "x", "y"] ["self", "name", "side", "row"] (defScope s_Picture_length) := ⟨rfl, rfl, rfl, by decide +kernel, rfl, by decide +kernel, by decide +kernel⟩
theorem sc_Picture_check_name : FnScope ["self", "name"] ["self", "name"] (defScope s_Picture_check_name) := ⟨rfl, rfl, rfl, by decide +kernel, rfl, by decide +kernel, by decide +kernel⟩
theorem sc_Picture_check_cell : FnScope ["self", "x", "y"] ["self", "x", "y"] (defScope s_Picture_check_cell) := ⟨rfl, rfl, rfl, by decide +kernel, rfl, by decide +kernel, by decide +kernel⟩
theorem sc_Picture_check_lines : FnScope ["self", "name", "x", "y", "others", "other"] ["self", "name", "x", "y"] (defScope s_Picture_check_lines) := ⟨rfl, rfl, rfl, by decide +kernel, rfl, by decide +kernel, by decide +kernel⟩
theorem sc_Picture_check_seat : FnScope ["self", "side", "row"] ["self", "side", "row"] (defScope s_Picture_check_seat) := ⟨rfl, rfl, rfl, by decide +kernel, rfl, by decide +kernel, by decide +kernel⟩
theorem sc_law_cell : FnScope ["_law_script", "_law_k"] ["_law_script", "_law_k"] (defScope s_law_cell) := ⟨rfl, rfl, rfl, by decide +kernel, rfl, by decide +kernel, by decide +kernel⟩
theorem sc_law_mixed : FnScope ["_law_cell_here", "_law_k", "_law_number"] ["_law_cell_here", "_law_k"] (defScope s_law_mixed) := ⟨rfl, rfl, rfl, by decide +kernel, rfl, by decide +kernel, by decide +kernel⟩
theorem sc_law_built : FnScope ["_law_cell_here", "_law_most", "_law_wide", "_law_high", "_law_free", "_law_picture", "_law_points", "_law_first", "_law_k", "_law_x", "_law_y", "_law_number", "_law_low", "_law_point", "_law_name"] ["_law_cell_here", "_law_most", "_law_wide", "_law_high", "_law_free"] (defScope s_law_built) := ⟨rfl, rfl, rfl, by decide +kernel, rfl, by decide +kernel, by decide +kernel⟩
theorem sc_law_opened : FnScope ["_law_picture", "_law_cell_here", "_law_seats", "_law_j", "_law_side", "_law_number", "_law_bits", "_law_row"] ["_law_picture", "_law_cell_here"] (defScope s_law_opened) := ⟨rfl, rfl, rfl, by decide +kernel, rfl, by decide +kernel, by decide +kernel⟩
theorem sc_law_may : FnScope ["_law_points", "_law_seats", "_law_name", "_law_side", "_law_row", "_law_point"] ["_law_points", "_law_seats", "_law_name", "_law_side", "_law_row"] (defScope s_law_may) := ⟨rfl, rfl, rfl, by decide +kernel, rfl, by decide +kernel, by decide +kernel⟩
theorem sc_law_given : FnScope ["_law_points", "_law_seats", "_law_cell_here", "_law_pairs", "_law_taken", "_law_k", "_law_name", "_law_number", "_law_some", "_law_seat", "_law_turn"] ["_law_points", "_law_seats", "_law_cell_here"] (defScope s_law_given) := ⟨rfl, rfl, rfl, by decide +kernel, rfl, by decide +kernel, by decide +kernel⟩
theorem sc_law_across : FnScope ["_law_width", "_law_point", "_law_side"] ["_law_width", "_law_point", "_law_side"] (defScope s_law_across) := ⟨rfl, rfl, rfl, by decide +kernel, rfl, by decide +kernel, by decide +kernel⟩
theorem sc_law_cells : FnScope ["_law_width", "_law_point", "_law_side", "_law_row", "_law_x", "_law_y", "_law_found", "_law_k"] ["_law_width", "_law_point", "_law_side", "_law_row"] (defScope s_law_cells) := ⟨rfl, rfl, rfl, by decide +kernel, rfl, by decide +kernel, by decide +kernel⟩
theorem sc_law_met : FnScope ["_law_width", "_law_points", "_law_one", "_law_other", "_law_there", "_law_place"] ["_law_width", "_law_points", "_law_one", "_law_other"] (defScope s_law_met) := ⟨rfl, rfl, rfl, by decide +kernel, rfl, by decide +kernel, by decide +kernel⟩
theorem sc_law_whole : FnScope ["_law_found", "_law_due"] ["_law_found", "_law_due"] (defScope s_law_whole) := ⟨rfl, rfl, rfl, by decide +kernel, rfl, by decide +kernel, by decide +kernel⟩
theorem sc_law_can : FnScope ["_law_width", "_law_points", "_law_seats", "_law_one", "_law_other"] ["_law_width", "_law_points", "_law_seats", "_law_one", "_law_other"] (defScope s_law_can) := ⟨rfl, rfl, rfl, by decide +kernel, rfl, by decide +kernel, by decide +kernel⟩
theorem sc_law_upright : FnScope ["_law_width", "_law_points", "_law_pairs", "_law_found", "_law_name", "_law_side", "_law_row", "_law_point"] ["_law_width", "_law_points", "_law_pairs"] (defScope s_law_upright) := ⟨rfl, rfl, rfl, by decide +kernel, rfl, by decide +kernel, by decide +kernel⟩
theorem sc_law_right : FnScope ["_law_picture", "_law_points", "_law_seats", "_law_pairs", "_law_handed", "_law_found", "_law_due", "_law_k", "_law_one", "_law_other", "_law_place"] ["_law_picture", "_law_points", "_law_seats", "_law_pairs"] (defScope s_law_right) := ⟨rfl, rfl, rfl, by decide +kernel, rfl, by decide +kernel, by decide +kernel⟩
theorem sc_law_changed : FnScope ["_law_points", "_law_seats", "_law_pairs", "_law_number", "_law_at", "_law_name", "_law_side", "_law_row", "_law_found", "_law_taken", "_law_some", "_law_seat", "_law_other"] ["_law_points", "_law_seats", "_law_pairs", "_law_number"] (defScope s_law_changed) := ⟨rfl, rfl, rfl, by decide +kernel, rfl, by decide +kernel, by decide +kernel⟩
theorem sc_law : FnScope ["_law_script", "_law_picture", "_law_points", "_law_seats", "_law_pairs", "_law_k"] ["_law_script"] (defScope s_law) := ⟨rfl, rfl, rfl, by decide +kernel, rfl, by decide +kernel, by decide +kernel⟩
end S51
set_option maxRecDepth 100000
set_option maxHeartbeats 4000000
namespace S51
open PySem L2 XL PyProof.Rows
theorem kit_same {K : PySem.W.Frag} {v : Value} : PySem.W.kitOne K v v = some true := if_pos (by simp)
theorem same_upd {H H' : Hp} {p : Addr} {o : HO} (s : Same H H') (hp : H' p = none) : Same H (L2.upd H' p o) := fun b u z => by
  have z' := s b u z
  rw [upd_ne (ne_of_none z' hp)]
  exact z'
theorem same2 {H : Hp} {x dx : Addr} {a b c : HO} (hx : H x = none) (hd : H dx = none) : Same H (upd (upd (upd H dx a) x b) x c) := fun y o e => by
  rw [upd_ne (ne_of_none e hx), upd_ne (ne_of_none e hx), upd_ne (ne_of_none e hd)]
  exact e
def sideW (b : Bool) : Str := if b then "left" else "right"
def SideAt (t : Adr) (H : Hp) (p : Addr) (b : Bool) (w : Int) : Prop := ∃ dx, H p = some (.ins (if b then t.C_LeftSide else t.C_RightSide) dx [("width", .int w)])
def spInit (K : PySem.W.Frag) : Sp := fun vs H Q _ => ∃ (p C dx : Addr) (n : Int), vs = [.ref p, .int n] ∧ H p = some (.ins C dx []) ∧ Cls K C ∧ NoAttr K C "width" ∧ Q .non (upd H p (.ins C dx [("width", .int n)]))
def sp1 (v : V) : Sp := fun vs H Q _ => ∃ p : V, vs = [p] ∧ Q v H
def spAcL : Sp := fun vs H Q _ => ∃ (p : V) (x : V), vs = [p, x] ∧ Q x H
def spRim (t : Adr) : Sp := fun vs H Q _ => ∃ (p : Addr) (n : Int), vs = [.ref p] ∧ SideAt t H p false n ∧ Q (.int (n + 1)) H
def spAcR (t : Adr) : Sp := fun vs H Q _ => ∃ (p : Addr) (n x : Int), vs = [.ref p, .int x] ∧ SideAt t H p false n ∧ Q (.int (n + 1 - x)) H
def spSideOf (t : Adr) : Sp := fun vs H Q _ => ∃ (b : Bool) (n : Int), vs = [.str (sideW b), .int n] ∧ ∀ p H', H p = none → SideAt t H' p b n → Same H H' → Q (.ref p) H'
section
variable {P : Program} {w : World} {K : PySem.W.Frag} {mg : Str → Option Value} {base : Heap} {t : Adr}
theorem ok_Side_init (T : Txt w K mg t) : FnOk true P w K mg base (CXo P w) 1 t.f_Side_init t.d_Side_init ["self", "width"] (spInit K) := by
  refine T.F_Side_init.okn (k := 0) sc_Side_init (fun vs H Q E h => ?_) (fun cdv A outer s H vs Q E hr h => ?_)
  · obtain ⟨p, C, dx, n, rfl, _⟩ := h
    rfl
  · obtain ⟨p, C, dx, n, rfl, h⟩ := h
    refine ⟨_, pss_one (ps_fld (pv 0) (pv 1) rfl), ?_⟩
    obtain ⟨hp, c, na, q⟩ := h
    exact ⟨_, rfl, _, rfl, p, C, dx, [], rfl, hp, c, na, (by show 0 < 1000; decide), q⟩
theorem ok_LeftSide_rim (T : Txt w K mg t) : FnOk true P w K mg base (CXo P w) 1 t.f_LeftSide_rim t.d_LeftSide_rim ["self"] (sp1 (.int 0)) := by
  refine T.F_LeftSide_rim.okn (k := 0) sc_LeftSide_rim (fun vs H Q E h => ?_) (fun cdv A outer s H vs Q E hr h => ?_)
  · obtain ⟨p, rfl, _⟩ := h
    rfl
  · obtain ⟨p, rfl, h⟩ := h
    refine ⟨_, pss_one (ps_ret (pe_int)), ?_⟩
    exact h
theorem ok_LeftSide_way (T : Txt w K mg t) : FnOk true P w K mg base (CXo P w) 1 t.f_LeftSide_way t.d_LeftSide_way ["self"] (sp1 (.int (-1))) := by
  refine T.F_LeftSide_way.okn (k := 0) sc_LeftSide_way (fun vs H Q E h => ?_) (fun cdv A outer s H vs Q E hr h => ?_)
  · obtain ⟨p, rfl, _⟩ := h
    rfl
  · obtain ⟨p, rfl, h⟩ := h
    refine ⟨_, pss_one (ps_ret (pe_un un_neg (pe_int))), ?_⟩
    exact ⟨1, rfl, h⟩
theorem ok_LeftSide_across (T : Txt w K mg t) : FnOk true P w K mg base (CXo P w) 1 t.f_LeftSide_across t.d_LeftSide_across ["self", "x"] (spAcL) := by
  refine T.F_LeftSide_across.okn (k := 0) sc_LeftSide_across (fun vs H Q E h => ?_) (fun cdv A outer s H vs Q E hr h => ?_)
  · obtain ⟨p, x, rfl, _⟩ := h
    rfl
  · obtain ⟨p, x, rfl, h⟩ := h
    refine ⟨_, pss_one (ps_ret (pv 1)), ?_⟩
    exact ⟨_, rfl, h⟩
theorem ok_RightSide_way (T : Txt w K mg t) : FnOk true P w K mg base (CXo P w) 1 t.f_RightSide_way t.d_RightSide_way ["self"] (sp1 (.int 1)) := by
  refine T.F_RightSide_way.okn (k := 0) sc_RightSide_way (fun vs H Q E h => ?_) (fun cdv A outer s H vs Q E hr h => ?_)
  · obtain ⟨p, rfl, _⟩ := h
    rfl
  · obtain ⟨p, rfl, h⟩ := h
    refine ⟨_, pss_one (ps_ret (pe_int)), ?_⟩
    exact h
theorem ok_RightSide_rim (T : Txt w K mg t) : FnOk true P w K mg base (CXo P w) 1 t.f_RightSide_rim t.d_RightSide_rim ["self"] (spRim t) := by
  refine T.F_RightSide_rim.okn (k := 0) sc_RightSide_rim (fun vs H Q E h => ?_) (fun cdv A outer s H vs Q E hr h => ?_)
  · obtain ⟨p, n, rfl, _⟩ := h
    rfl
  · obtain ⟨p, n, rfl, h⟩ := h
    refine ⟨_, pss_one (ps_ret (pe_op op_add (pe_fld (pv 0) rfl) (pe_int))), ?_⟩
    obtain ⟨⟨dx, hp⟩, q⟩ := h
    exact ⟨_, rfl, p, t.C_RightSide, dx, _, _, rfl, hp, T.c_RightSide, T.n_RightSide_width, rfl, _, _, rfl, rfl, q⟩
theorem ok_RightSide_across (T : Txt w K mg t) : FnOk true P w K mg base (CXo P w) 1 t.f_RightSide_across t.d_RightSide_across ["self", "x"] (spAcR t) := by
  refine T.F_RightSide_across.okn (k := 0) sc_RightSide_across (fun vs H Q E h => ?_) (fun cdv A outer s H vs Q E hr h => ?_)
  · obtain ⟨p, n, x, rfl, _⟩ := h
    rfl
  · obtain ⟨p, n, x, rfl, h⟩ := h
    refine ⟨_, pss_one (ps_ret (pe_op op_sub (pe_op op_add (pe_fld (pv 0) rfl) (pe_int)) (pv 1))), ?_⟩
    obtain ⟨⟨dx, hp⟩, q⟩ := h
    exact ⟨_, rfl, p, t.C_RightSide, dx, _, _, rfl, hp, T.c_RightSide, T.n_RightSide_width, rfl, _, _, rfl, rfl, _, rfl, _, _, rfl, rfl, q⟩
theorem ok_side_of (T : Txt w K mg t) : FnOk true P w K mg base (CXo P w) 3 t.f_side_of t.d_side_of ["word", "width"] (spSideOf t) := by
  refine T.F_side_of.okn (k := 2) sc_side_of (fun vs H Q E h => ?_) (fun cdv A outer s H vs Q E hr h => ?_)
  · obtain ⟨b, n, rfl, _⟩ := h
    rfl
  · obtain ⟨b, n, rfl, h⟩ := h
    refine ⟨_, pss_cons (ps_if (pt_val (pe_callB call_isin rfl T.n_isinstance boot_isinstance (pa_cons (pv 0) (pa_cons (pe_bltn (v := .ty "str") rfl T.n_str boot_str rfl) (pa_nil))))) (pss_cons (ps_if (pt_cmpR op_eq (pv 0) (pe_str) (nomark _)) (pss_one (ps_ret (pe_make T.k_LeftSide (ok_Side_init T) (hr.mono (by decide)) rfl T.g_LeftSide T.b_Side_init .nil pass_none (pa_cons (pv 1) (pa_nil))))) (pss_nil))
      (pss_one (ps_if (pt_cmpR op_eq (pv 0) (pe_str) (nomark _)) (pss_one (ps_ret (pe_make T.k_RightSide (ok_Side_init T) (hr.mono (by decide)) rfl T.g_RightSide T.b_Side_init .nil pass_none (pa_cons (pv 1) (pa_nil))))) (pss_nil)))) (pss_nil))
      (pss_one (ps_never)), ?_⟩
    cases b with
    | true =>
      refine ⟨_, rfl, _, _, rfl, .inl ⟨_, _, true, .str _, rfl, kit_same, true, rfl, iteT ?_⟩⟩
      refine ⟨_, rfl, rfl, _, rfl, ?_⟩
      refine ifP (by decide +kernel) ?_
      exact ⟨_, rfl, fun x dx hx hdx ne => ⟨x, t.C_LeftSide, dx, n, rfl, upd_same, T.c_LeftSide, T.n_LeftSide_width, rfl, h x _ hx ⟨dx, upd_same⟩ (same2 hx hdx)⟩⟩
    | false =>
      refine ⟨_, rfl, _, _, rfl, .inl ⟨_, _, true, .str _, rfl, kit_same, true, rfl, iteT ?_⟩⟩
      refine ⟨_, rfl, rfl, _, rfl, ?_⟩
      refine ifN (by decide +kernel) ?_
      refine ⟨_, rfl, rfl, _, rfl, ?_⟩
      refine ifP (by decide +kernel) ?_
      exact ⟨_, rfl, fun x dx hx hdx ne => ⟨x, t.C_RightSide, dx, n, rfl, upd_same, T.c_RightSide, T.n_RightSide_width, rfl, h x _ hx ⟨dx, upd_same⟩ (same2 hx hdx)⟩⟩
end
def isNm (x : Str) : Bool := decide (x.length = 1) && (!decide (x.cps.toList < [97]) && !decide ([122] < x.cps.toList))
def spIsW : Sp := fun vs H Q _ => ∃ (i lo hi : Int), vs = [.int i, .int lo, .int hi] ∧ lo ≤ i ∧ i ≤ hi ∧ Q (.bl true) H
def spIsN : Sp := fun vs H Q _ => ∃ (x : Str), vs = [.str x] ∧ isNm x = true ∧ Q (.bl true) H
theorem a_cps : ("a" : Str).cps.toList = [97] := by decide +kernel
theorem z_cps : ("z" : Str).cps.toList = [122] := by decide +kernel
section
variable {P : Program} {w : World} {K : PySem.W.Frag} {mg : Str → Option Value} {base : Heap} {t : Adr}
theorem ok_is_whole (T : Txt w K mg t) : FnOk true P w K mg base (CXo P w) 1 t.f_is_whole t.d_is_whole ["thing", "low", "high"] (spIsW) := by
  refine T.F_is_whole.okn (k := 0) sc_is_whole (fun vs H Q E h => ?_) (fun cdv A outer s H vs Q E hr h => ?_)
  · obtain ⟨i, lo, hi, rfl, _⟩ := h
    rfl
  · obtain ⟨i, lo, hi, rfl, h⟩ := h
    refine ⟨_, pss_one (ps_ret (pe_and (pe_callB call_isin rfl T.n_isinstance boot_isinstance (pa_cons (pv 0) (pa_cons (pe_bltn (v := .ty "int") rfl T.n_int boot_int rfl) (pa_nil)))) (pe_and (pe_not (pe_callB call_isin rfl T.n_isinstance boot_isinstance (pa_cons (pv 0) (pa_cons (pe_bltn (v := .ty "bool") rfl T.n_bool boot_bool rfl) (pa_nil))))) (pe_one (pe_chain op_le op_le (pv 1) (pv 0) (pv 2)))))), ?_⟩
    obtain ⟨c1, c2, q⟩ := h
    refine ⟨_, rfl, _, _, rfl, .inl ⟨_, _, true, .int i, rfl, kit_same, true, rfl, iteT ?_⟩⟩
    refine ⟨_, rfl, _, _, rfl, .inl ⟨_, _, false, .int i, rfl, (by rfl), false, rfl, true, rfl, iteT ?_⟩⟩
    refine ⟨_, rfl, _, rfl, _, _, rfl, rfl, _, rfl, ite2 (fun c => ?_) (fun c => ?_)⟩
    · refine ⟨_, rfl, _, _, rfl, rfl, ?_⟩
      show Q (.bl (decide (i ≤ hi))) H
      rw [decide_eq_true c2]
      exact q
    · exact absurd (decide_eq_true c1) c
theorem ok_is_name (T : Txt w K mg t) : FnOk true P w K mg base (CXo P w) 1 t.f_is_name t.d_is_name ["thing"] (spIsN) := by
  refine T.F_is_name.okn (k := 0) sc_is_name (fun vs H Q E h => ?_) (fun cdv A outer s H vs Q E hr h => ?_)
  · obtain ⟨x, rfl, _⟩ := h
    rfl
  · obtain ⟨x, rfl, h⟩ := h
    refine ⟨_, pss_one (ps_ret (pe_and (pe_callB call_isin rfl T.n_isinstance boot_isinstance (pa_cons (pv 0) (pa_cons (pe_bltn (v := .ty "str") rfl T.n_str boot_str rfl) (pa_nil)))) (pe_and (pe_cmpR op_eq (pe_callB call_len_str rfl T.n_len boot_len (pa_cons (pv 0) (pa_nil))) (pe_int) (nomark _)) (pe_one (pe_chain op_le_str op_le_str (pe_str) (pv 0) (pe_str)))))), ?_⟩
    obtain ⟨hn, q⟩ := h
    unfold isNm at hn
    simp only [Bool.and_eq_true, decide_eq_true_eq, Bool.not_eq_true', decide_eq_false_iff_not] at hn
    obtain ⟨l1, n1, n2⟩ := hn
    refine ⟨_, rfl, _, _, rfl, .inl ⟨_, _, true, .str x, rfl, kit_same, true, rfl, iteT ?_⟩⟩
    refine ⟨_, rfl, _, rfl, (by rw [l1]; decide), rfl, _, rfl, ite2 (fun c => ?_) (fun c => ?_)⟩
    · refine ⟨_, rfl, _, _, rfl, rfl, _, rfl, ite2 (fun d => ?_) (fun d => ?_)⟩
      · refine ⟨_, _, rfl, rfl, ?_⟩
        rw [z_cps, decide_eq_false n2]
        exact q
      · rw [a_cps, decide_eq_false n1] at d
        exact absurd rfl d
    · exact absurd (decide_eq_true (by rw [l1]; rfl)) c
end
section
end
end S51
set_option maxRecDepth 100000
set_option maxHeartbeats 4000000
namespace S51
open PySem L2 XL PyProof.Rows
structure Pt where
  nm : Str
  x : Int
  y : Int
  sd : Str
  lo : Int
  hi : Int
def ptV (p : Pt) : List V := [.int p.x, .int p.y, .str p.sd, .int p.lo, .int p.hi]
inductive Pl (H : Hp) : List Pt → List (Key × V) → Prop
  | nil : Pl H [] []
  | cons {p : Pt} {q : Addr} {ps : List Pt} {kvs : List (Key × V)} (h : H q = some (.tup (ptV p))) (r : Pl H ps kvs) : Pl H (p :: ps) ((.inr p.nm, .ref q) :: kvs)
inductive PtsL (H : Hp) : List Pt → List Addr → Prop
  | nil : PtsL H [] []
  | cons {p : Pt} {q : Addr} {ps : List Pt} {qs : List Addr} (h : H q = some (.tup (.str p.nm :: ptV p))) (r : PtsL H ps qs) : PtsL H (p :: ps) (q :: qs)
theorem tT_if {σ : L2.St} {H : Hp} {A B : Hp → Prop} (h : A H) : tTrue σ H (fun b H4 => if b = true then A H4 else B H4) := by
  show if true = true then A H else B H
  rw [if_pos rfl]
  exact h
theorem gT_if {i : Nat} {v : V} {σ : L2.St} {H : Hp} {A B : L2.St → Hp → Prop} (h : A (σ.set i (some v)) H) : gName i v σ H (fun σ' H' => tTrue σ' H' fun b H4 => if b = true then A σ' H4 else B σ' H4) := by
  show if true = true then A (σ.set i (some v)) H else B (σ.set i (some v)) H
  rw [if_pos rfl]
  exact h
def Tups (H H' : Hp) : Prop := ∀ b xs, H b = some (.tup xs) → H' b = some (.tup xs)
theorem Pl.keep {H H' : Hp} (s : Tups H H') {ps : List Pt} {kvs : List (Key × V)} (h : Pl H ps kvs) : Pl H' ps kvs := by
  induction h with
  | nil => exact .nil
  | cons h _ ih => exact .cons (s _ _ h) ih
theorem PtsL.keep {H H' : Hp} (s : Tups H H') {ps : List Pt} {qs : List Addr} (h : PtsL H ps qs) : PtsL H' ps qs := by
  induction h with
  | nil => exact .nil
  | cons h _ ih => exact .cons (s _ _ h) ih
theorem Pl.len {H : Hp} {ps : List Pt} {kvs : List (Key × V)} (h : Pl H ps kvs) : kvs.length = ps.length := by
  induction h with
  | nil => rfl
  | cons _ _ ih => simp [ih]
theorem PtsL.len {H : Hp} {ps : List Pt} {qs : List Addr} (h : PtsL H ps qs) : qs.length = ps.length := by
  induction h with
  | nil => rfl
  | cons _ _ ih => simp [ih]
theorem Pl.find {H : Hp} {ps : List Pt} {kvs : List (Key × V)} (h : Pl H ps kvs) {nm : Str} {pt : Pt} (e : ps.find? (fun p => decide (p.nm = nm)) = some pt) : ∃ q, valV kvs (.inr nm) = some (.ref q) ∧ H q = some (.tup (ptV pt)) := by
  induction h with
  | nil => simp at e
  | @cons p q ps kvs h _ ih =>
    by_cases c : p.nm = nm
    · rw [List.find?_cons_of_pos (by simpa using c)] at e
      cases e
      exact ⟨q, valV_pos (by rw [c]), h⟩
    · rw [List.find?_cons_of_neg (by simpa using c)] at e
      obtain ⟨q', h1, h2⟩ := ih e
      exact ⟨q', by rw [valV_neg (fun z => c (Sum.inr.inj z))]; exact h1, h2⟩
theorem Pl.no {H : Hp} {ps : List Pt} {kvs : List (Key × V)} (h : Pl H ps kvs) {nm : Str} (e : ∀ p ∈ ps, p.nm ≠ nm) : valV kvs (.inr nm) = none := by
  induction h with
  | nil => rfl
  | @cons p q ps kvs h _ ih =>
    rw [valV_neg (fun z => e p List.mem_cons_self (Sum.inr.inj z))]
    exact ih fun p' hp => e p' (List.mem_cons_of_mem _ hp)
theorem Pl.get {H : Hp} {ps : List Pt} {kvs : List (Key × V)} (h : Pl H ps kvs) {i : Nat} {k : Key} {x : V} (e : kvs[i]? = some (k, x)) : ∃ p q, ps[i]? = some p ∧ k = .inr p.nm ∧ x = .ref q ∧ H q = some (.tup (ptV p)) := by
  induction h generalizing i with
  | nil => simp at e
  | @cons p q ps kvs h _ ih =>
    cases i with
    | zero =>
      simp at e
      exact ⟨p, q, rfl, e.1.symm, e.2.symm, h⟩
    | succ j => exact ih (by simpa using e)
theorem PtsL.get {H : Hp} {ps : List Pt} {qs : List Addr} (h : PtsL H ps qs) {i : Nat} {q : Addr} (e : qs[i]? = some q) : ∃ p, ps[i]? = some p ∧ H q = some (.tup (.str p.nm :: ptV p)) := by
  induction h generalizing i with
  | nil => simp at e
  | @cons p q' ps qs h _ ih =>
    cases i with
    | zero =>
      simp at e
      subst e
      exact ⟨p, rfl, h⟩
    | succ j => exact ih (by simpa using e)
theorem Pl.snoc {H : Hp} {ps : List Pt} {kvs : List (Key × V)} (h : Pl H ps kvs) {p : Pt} {q : Addr} (e : H q = some (.tup (ptV p))) : Pl H (ps ++ [p]) (kvs ++ [(.inr p.nm, .ref q)]) := by
  induction h with
  | nil => exact .cons e .nil
  | cons h _ ih => exact .cons h ih
theorem PtsL.snoc {H : Hp} {ps : List Pt} {qs : List Addr} (h : PtsL H ps qs) {p : Pt} {q : Addr} (e : H q = some (.tup (.str p.nm :: ptV p))) : PtsL H (ps ++ [p]) (qs ++ [q]) := by
  induction h with
  | nil => exact .cons e .nil
  | cons h _ ih => exact .cons h ih
abbrev picF (w h : Int) (dp do_ : Addr) : List (Str × V) := [("width", .int w), ("height", .int h), ("placed", .ref dp), ("opened", .ref do_)]
structure Pic (t : Adr) (H : Hp) (a dp do_ : Addr) (w h : Int) (ps : List Pt) : Prop where
  ins : ∃ dx, H a = some (.ins t.C_Picture dx (picF w h dp do_))
  pl : ∃ kvs, H dp = some (.dK kvs) ∧ Pl H ps kvs
  w1 : 1 ≤ w
  w2 : w ≤ 30
  h1 : 1 ≤ h
  h2 : h ≤ 16
  len : ps.length ≤ 12
theorem Same.tups {H H' : Hp} (s : Same H H') : Tups H H' := fun b xs e => s b _ e
theorem Pic.same {t : Adr} {H H' : Hp} {a dp do_ : Addr} {w h : Int} {ps : List Pt} (s : Same H H') (p : Pic t H a dp do_ w h ps) : Pic t H' a dp do_ w h ps :=
  ⟨let ⟨dx, e⟩ := p.ins; ⟨dx, s _ _ e⟩, let ⟨kvs, e, q⟩ := p.pl; ⟨kvs, s _ _ e, q.keep (Same.tups s)⟩, p.w1, p.w2, p.h1, p.h2, p.len⟩
theorem lk_no {w h : Int} {dp do_ : Addr} {m : Str} (e : ((["width", "height", "placed", "opened"] : List Str).all fun k => !(m == k)) = true) : (picF w h dp do_).lookup m = none := by
  simp only [List.all_cons, List.all_nil, Bool.and_eq_true, Bool.not_eq_true'] at e
  obtain ⟨e1, e2, e3, e4, _⟩ := e
  unfold picF
  rw [List.lookup_cons, e1]
  show List.lookup m [("height", V.int h), ("placed", V.ref dp), ("opened", V.ref do_)] = none
  rw [List.lookup_cons, e2]
  show List.lookup m [("placed", V.ref dp), ("opened", V.ref do_)] = none
  rw [List.lookup_cons, e3]
  show List.lookup m [("opened", V.ref do_)] = none
  rw [List.lookup_cons, e4]
  rfl
theorem lkW {w h : Int} {dp do_ : Addr} : (picF w h dp do_).lookup ("width" : Str) = some (.int w) := by
  unfold picF
  rw [List.lookup_cons, show (("width" : Str) == "width") = true from by decide +kernel]
theorem lkH {w h : Int} {dp do_ : Addr} : (picF w h dp do_).lookup ("height" : Str) = some (.int h) := by
  unfold picF
  rw [List.lookup_cons, show (("height" : Str) == "width") = false from by decide +kernel]
  show List.lookup ("height" : Str) [("height", V.int h), ("placed", V.ref dp), ("opened", V.ref do_)] = _
  rw [List.lookup_cons, show (("height" : Str) == "height") = true from by decide +kernel]
theorem lkP {w h : Int} {dp do_ : Addr} : (picF w h dp do_).lookup ("placed" : Str) = some (.ref dp) := by
  unfold picF
  rw [List.lookup_cons, show (("placed" : Str) == "width") = false from by decide +kernel]
  show List.lookup ("placed" : Str) [("height", V.int h), ("placed", V.ref dp), ("opened", V.ref do_)] = _
  rw [List.lookup_cons, show (("placed" : Str) == "height") = false from by decide +kernel]
  show List.lookup ("placed" : Str) [("placed", V.ref dp), ("opened", V.ref do_)] = _
  rw [List.lookup_cons, show (("placed" : Str) == "placed") = true from by decide +kernel]
def spPInit (t : Adr) : Sp := fun vs H Q _ => ∃ (p dx : Addr) (w h : Int), vs = [.ref p, .int w, .int h] ∧ H p = some (.ins t.C_Picture dx []) ∧ 1 ≤ w ∧ w ≤ 30 ∧ 1 ≤ h ∧ h ≤ 16 ∧
  ∀ H' dp do_, H dp = none → H do_ = none → (∀ b u, b ≠ p → H b = some u → H' b = some u) → Pic t H' p dp do_ w h [] → H' do_ = some (.dT []) → Q .non H'
def spCN (t : Adr) : Sp := fun vs H Q _ => ∃ (a dp do_ : Addr) (pw ph : Int) (ps : List Pt) (nm : Str) (pt : Pt), vs = [.ref a, .str nm] ∧ Pic t H a dp do_ pw ph ps ∧ isNm nm = true ∧ ps.find? (fun p => decide (p.nm = nm)) = some pt ∧ Q .non H
def spCC (t : Adr) : Sp := fun vs H Q _ => ∃ (a dp do_ : Addr) (pw ph : Int) (ps : List Pt) (x y : Int), vs = [.ref a, .int x, .int y] ∧ Pic t H a dp do_ pw ph ps ∧ 1 ≤ x ∧ x ≤ pw ∧ 1 ≤ y ∧ y ≤ ph ∧ Q .non H
def spPts (t : Adr) : Sp := fun vs H Q _ => ∃ (a dp do_ : Addr) (pw ph : Int) (ps : List Pt), vs = [.ref a] ∧ Pic t H a dp do_ pw ph ps ∧ ∀ H' l qs, Same H H' → H' l = some (.lst (qs.map V.ref)) → PtsL H' ps qs → Q (.ref l) H'
def spCL (t : Adr) : Sp := fun vs H Q _ => ∃ (a dp do_ : Addr) (pw ph : Int) (ps : List Pt) (nm : Str) (x y : Int), vs = [.ref a, .str nm, .int x, .int y] ∧ Pic t H a dp do_ pw ph ps ∧ (∀ p ∈ ps, p.nm ≠ nm → p.x ≠ x ∧ p.y ≠ y) ∧ ∀ H', Same H H' → Q .non H'
def spCS (t : Adr) : Sp := fun vs H Q _ => ∃ (a dp do_ : Addr) (pw ph : Int) (ps : List Pt) (b : Bool) (r : Int), vs = [.ref a, .str (sideW b), .int r] ∧ Pic t H a dp do_ pw ph ps ∧ 1 ≤ r ∧ r ≤ ph ∧ ∀ H', Same H H' → Q .non H'
def spPut (t : Adr) : Sp := fun vs H Q _ => ∃ (a dp do_ : Addr) (pw ph : Int) (ps : List Pt) (nm : Str) (x y : Int) (sd : Str) (lo hi : Int) (hv : V), vs = [.ref a, .str nm, .int x, .int y, .str sd, .int lo, hv] ∧ Pic t H a dp do_ pw ph ps ∧
  ((hv = .non ∧ hi = ph) ∨ hv = .int hi) ∧ isNm nm = true ∧ 1 ≤ x ∧ x ≤ pw ∧ 1 ≤ y ∧ y ≤ ph ∧ (sd = "left" ∨ sd = "right" ∨ sd = "both") ∧ 1 ≤ lo ∧ lo ≤ hi ∧ hi ≤ ph ∧ (∀ p ∈ ps, p.nm ≠ nm ∧ p.x ≠ x ∧ p.y ≠ y) ∧ ps.length < 12 ∧
  ∀ H', (∀ b u, b ≠ dp → H b = some u → H' b = some u) → Pic t H' a dp do_ pw ph (ps ++ [⟨nm, x, y, sd, lo, hi⟩]) → Q .non H'
def spPlc (t : Adr) : Sp := fun vs H Q _ => ∃ (a dp do_ : Addr) (pw ph : Int) (ps : List Pt) (nm : Str) (pt : Pt), vs = [.ref a, .str nm] ∧ Pic t H a dp do_ pw ph ps ∧ isNm nm = true ∧ ps.find? (fun p => decide (p.nm = nm)) = some pt ∧
  ∀ H' q, Same H H' → H' q = some (.tup [.int pt.x, .int pt.y]) → Q (.ref q) H'
def lenI (w x y : Int) (b : Bool) (r : Int) : Int := (if b then x else w + 1 - x) + (if y - r < 0 then -(y - r) else y - r)
def spLen (t : Adr) : Sp := fun vs H Q _ => ∃ (a dp do_ : Addr) (pw ph : Int) (ps : List Pt) (nm : Str) (pt : Pt) (b : Bool) (r : Int), vs = [.ref a, .str nm, .str (sideW b), .int r] ∧ Pic t H a dp do_ pw ph ps ∧ isNm nm = true ∧ ps.find? (fun p => decide (p.nm = nm)) = some pt ∧ 1 ≤ r ∧ r ≤ ph ∧
  ∀ H', Same H H' → Q (.int (lenI pw pt.x pt.y b r)) H'
section
variable {P : Program} {w : World} {K : PySem.W.Frag} {mg : Str → Option Value} {base : Heap} {t : Adr}
theorem ok_Picture_init (T : Txt w K mg t) : FnOk true P w K mg base (CXo P w) 2 t.f_Picture_init t.d_Picture_init ["self", "width", "height"] (spPInit t) := by
  refine T.F_Picture_init.okn (k := 1) sc_Picture_init (fun vs H Q E h => ?_) (fun cdv A outer s H vs Q E hr h => ?_)
  · obtain ⟨p, dx, pw, ph, rfl, _⟩ := h
    rfl
  · obtain ⟨p, dx, pw, ph, rfl, h⟩ := h
    refine ⟨_, pss_cons (ps_if (PW.pt (pw_or (pt_not (pt_val (pe_call (ok_is_whole T) (hr.mono (by decide)) rfl T.g_is_whole T.F_is_whole.kp T.b_is_whole .nil pass_none (pa_cons (pv 1) (pa_cons (pe_int) (pa_cons (pe_glob (v := .int 30) rfl T.v_MOST_COLUMNS.choose_spec ⟨_, rfl⟩) (pa_nil))))))) (pw_or1 (pt_not (pt_val (pe_call (ok_is_whole T) (hr.mono (by decide)) rfl T.g_is_whole T.F_is_whole.kp T.b_is_whole .nil pass_none (pa_cons (pv 2) (pa_cons (pe_int) (pa_cons (pe_glob (v := .int 16) rfl T.v_MOST_ROWS.choose_spec ⟨_, rfl⟩) (pa_nil)))))))))) (pss_one (ps_never)) (pss_nil))
      (pss_cons (ps_fld (pv 0) (pv 1) rfl)
      (pss_cons (ps_fld (pv 0) (pv 2) rfl)
      (pss_cons (ps_fld (pv 0) (pe_dnewK) rfl)
      (pss_one (ps_fld (pv 0) (pe_dnewT) rfl))))), ?_⟩
    obtain ⟨hp, w1, w2, h1, h2, q⟩ := h
    refine ⟨_, rfl, pw, 1, 30, rfl, w1, w2, true, rfl, iteF ⟨_, rfl, ph, 1, 16, rfl, h1, h2, true, rfl, iteF ?_⟩⟩
    refine ⟨_, rfl, _, rfl, p, _, dx, _, rfl, hp, T.c_Picture, T.n_Picture_width, (by show 0 < 1000; decide), ?_⟩
    refine ⟨_, rfl, _, rfl, p, _, dx, _, rfl, upd_same, T.c_Picture, T.n_Picture_height, (by show 1 < 1000; decide), ?_⟩
    rw [upd_upd]
    refine fun dp hdp => ?_
    have n1 : p ≠ dp := ne_of_none upd_same hdp
    refine ⟨_, rfl, p, _, dx, _, rfl, (by rw [upd_ne n1]; exact upd_same), T.c_Picture, T.n_Picture_placed, (by show 2 < 1000; decide), fun do_ hdo => ?_⟩
    have n2 : p ≠ do_ := ne_of_none upd_same hdo
    have n3 : dp ≠ do_ := ne_of_none (by rw [upd_ne (Ne.symm n1)]; exact upd_same) hdo
    refine ⟨_, rfl, p, _, dx, _, rfl, (by rw [upd_ne n2]; exact upd_same), T.c_Picture, T.n_Picture_opened, (by show 3 < 1000; decide), ?_⟩
    rw [upd_ne (Ne.symm n1)] at hdp
    have hdo' : H do_ = none := by
      have z := hdo
      rw [upd_ne (Ne.symm n2), upd_ne (Ne.symm n3), upd_ne (Ne.symm n2)] at z
      exact z
    refine q _ dp do_ hdp hdo' (fun b u nb e => ?_) ⟨⟨dx, upd_same⟩, ⟨[], ?_, .nil⟩, w1, w2, h1, h2, Nat.zero_le _⟩ ?_
    · have c1 : b ≠ dp := ne_of_none e hdp
      have c2 : b ≠ do_ := fun z => by
        subst z
        rw [upd_ne nb, upd_ne c1, upd_ne nb] at hdo
        rw [e] at hdo
        cases hdo
      rw [upd_ne nb, upd_ne c2, upd_ne nb, upd_ne c1, upd_ne nb]
      exact e
    · rw [upd_ne (Ne.symm n1), upd_ne n3, upd_ne (Ne.symm n1)]
      exact upd_same
    · rw [upd_ne (Ne.symm n2)]
      exact upd_same
theorem ok_Picture_check_name (T : Txt w K mg t) : FnOk true P w K mg base (CXo P w) 2 t.f_Picture_check_name t.d_Picture_check_name ["self", "name"] (spCN t) := by
  refine T.F_Picture_check_name.okn (k := 1) sc_Picture_check_name (fun vs H Q E h => ?_) (fun cdv A outer s H vs Q E hr h => ?_)
  · obtain ⟨a, dp, do_, pw, ph, ps, nm, pt, rfl, _⟩ := h
    rfl
  · obtain ⟨a, dp, do_, pw, ph, ps, nm, pt, rfl, h⟩ := h
    refine ⟨_, pss_one (ps_if (PW.pt (pw_or (pt_not (pt_val (pe_call (ok_is_name T) (hr.mono (by decide)) rfl T.g_is_name T.F_is_name.kp T.b_is_name .nil pass_none (pa_cons (pv 1) (pa_nil))))) (pw_or1 (pt_cmp (pc_dnotin (hu_of hr) (pv 1) (pe_fld (pv 0) rfl)))))) (pss_one (ps_never)) (pss_nil)), ?_⟩
    obtain ⟨pic, hn, hf, q⟩ := h
    obtain ⟨⟨dx, hp⟩, ⟨kvs, hk, pl⟩, _⟩ := id pic
    obtain ⟨q0, e, _⟩ := pl.find hf
    exact ⟨_, rfl, nm, rfl, hn, true, rfl, iteF ⟨_, rfl, _, rfl, a, _, dx, _, _, rfl, hp, T.c_Picture, T.n_Picture_placed, lkP, dp, some (.ref q0), rfl, (by rw [← e]; exact DGet.k (k := .inr nm) hk), false, rfl, iteF q⟩⟩
theorem ok_Picture_check_cell (T : Txt w K mg t) : FnOk true P w K mg base (CXo P w) 2 t.f_Picture_check_cell t.d_Picture_check_cell ["self", "x", "y"] (spCC t) := by
  refine T.F_Picture_check_cell.okn (k := 1) sc_Picture_check_cell (fun vs H Q E h => ?_) (fun cdv A outer s H vs Q E hr h => ?_)
  · obtain ⟨a, dp, do_, pw, ph, ps, x, y, rfl, _⟩ := h
    rfl
  · obtain ⟨a, dp, do_, pw, ph, ps, x, y, rfl, h⟩ := h
    refine ⟨_, pss_one (ps_if (PW.pt (pw_or (pt_not (pt_val (pe_call (ok_is_whole T) (hr.mono (by decide)) rfl T.g_is_whole T.F_is_whole.kp T.b_is_whole .nil pass_none (pa_cons (pv 1) (pa_cons (pe_int) (pa_cons (pe_fld (pv 0) rfl) (pa_nil))))))) (pw_or1 (pt_not (pt_val (pe_call (ok_is_whole T) (hr.mono (by decide)) rfl T.g_is_whole T.F_is_whole.kp T.b_is_whole .nil pass_none (pa_cons (pv 2) (pa_cons (pe_int) (pa_cons (pe_fld (pv 0) rfl) (pa_nil)))))))))) (pss_one (ps_never)) (pss_nil)), ?_⟩
    obtain ⟨pic, x1, x2, y1, y2, q⟩ := h
    obtain ⟨⟨dx, hp⟩, _, _⟩ := id pic
    exact ⟨_, rfl, _, rfl, a, _, dx, _, _, rfl, hp, T.c_Picture, T.n_Picture_width, lkW, x, 1, pw, rfl, x1, x2, true, rfl, iteF ⟨_, rfl, _, rfl, a, _, dx, _, _, rfl, hp, T.c_Picture, T.n_Picture_height, lkH, y, 1, ph, rfl, y1, y2, true, rfl, iteF q⟩⟩
theorem ok_Picture_points (T : Txt w K mg t) : FnOk true P w K mg base (CXo P w) 1 t.f_Picture_points t.d_Picture_points ["self"] (spPts t) := by
  refine T.F_Picture_points.okn (k := 0) sc_Picture_points (fun vs H Q E h => ?_) (fun cdv A outer s H vs Q E hr h => ?_)
  · obtain ⟨a, dp, do_, pw, ph, ps, rfl, _⟩ := h
    rfl
  · obtain ⟨a, dp, do_, pw, ph, ps, rfl, h⟩ := h
    refine ⟨_, pss_one (ps_ret (pe_thaw (pe_compG rfl (blkG_of (zs := ["name", "rest"]) (ys := []) (fr := []) (N0 := ["self"]) (sc0 := defScope s_Picture_points) (by decide +kernel) rfl rfl rfl) (pi_items (pe_fld (pv 0) rfl)) (fun _ _ _ _ _ ow nd => (pg_tup rfl (pgs_cons (pg_name (i := 0) nd rfl (Or.inl (ow _ (by simp))) (Or.inr (ow _ (by simp)))) (pgs_cons (pg_name (i := 1) nd rfl (Or.inl (ow _ (by simp))) (Or.inr (ow _ (by simp)))) (pgs_nil))) : PG _ _ (gTup K 2 _))) (gok_tup (goks_cons (by decide) (goks_cons (by decide) (goks_nil)))) (fun _ _ _ _ _ => pif_nil) (fun _ _ _ _ _ => pe_op (r := rCatT K) op_catT (pe_tup (pa_cons (pv 0) (pa_nil))) (pv 1))))), ?_⟩
    obtain ⟨pic, q⟩ := h
    obtain ⟨⟨dx, hp⟩, ⟨kvs, hk, pl⟩, _⟩ := id pic
    refine ⟨_, rfl, a, _, dx, _, _, rfl, hp, T.c_Picture, T.n_Picture_placed, lkP, dp, kvs, rfl, hk, fun ob nf l hl => ?_⟩
    have nl : l ≠ dp := fun z => by
      rw [z, upd_same] at hl
      cases hl
    have hl0 : H l = none := by rwa [upd_ne nl] at hl
    refine compG_by kvs.length (fun i xs H2 => ∃ qs : List Addr, xs = qs.map V.ref ∧ qs.length ≤ i ∧ H2 dp = some (.frz ob (.dK kvs)) ∧ (∀ b u, b ≠ dp → H b = some u → H2 b = some u) ∧ H2 l = some (.lst xs) ∧ PtsL H2 (ps.take i) qs) ?_ ?_ ?_ ?_
    · refine ⟨[], rfl, Nat.le_refl _, ?_, fun b u nb e => ?_, upd_same, by simpa using PtsL.nil⟩
      · rw [upd_ne (Ne.symm nl)]
        exact upd_same
      · rw [upd_ne (ne_of_none e hl0), upd_ne nb]
        exact e
    · rintro i xs H2 lt ⟨qs, _, _, hd, _⟩
      exact ⟨hd, lt⟩
    · rintro i xs H2 v H3 lt ⟨qs, rfl, ql, hd, sm, hl2, pts⟩ ⟨p, k, x, hx, rfl, hpn, rfl⟩ N hN
      obtain ⟨pt, q0, hpt, rfl, rfl, hq0⟩ := pl.get hx
      have e0 : H2 q0 = some (.tup (ptV pt)) := sm _ _ (ne_of hq0 hk (fun z => nomatch z)) hq0
      refine ⟨p, _, rfl, SqT.of upd_same, rfl, _, _, rfl, _, _, rfl, rfl, ?_⟩
      refine tT_if ?_
      have n0 : q0 ≠ p := ne_of_none e0 hpn
      refine ⟨_, rfl, (by show 1 ≤ sizeLine; decide), fun p1 h1 => ⟨_, rfl, p1, q0, _, ptV pt, rfl, rfl, SqT.of upd_same, SqT.of ?_, (by simp), (by show 1 + 5 ≤ sizeLine; decide), (fun z => nomatch z), fun _ p2 h2 => ?_⟩⟩
      · rw [upd_ne (ne_of_none (by rw [upd_ne n0]; exact e0) h1), upd_ne n0]
        exact e0
      have up : ∀ b u, H2 b = some u → (upd (upd (upd H2 p (.tup [.str pt.nm, .ref q0])) p1 (.tup [.str pt.nm])) p2 (.tup ([.str pt.nm] ++ ptV pt))) b = some u := fun b u e => by
        have c1 : b ≠ p := ne_of_none e hpn
        have e1 : upd H2 p (.tup [.str pt.nm, .ref q0]) b = some u := by rw [upd_ne c1]; exact e
        have c2 : b ≠ p1 := ne_of_none e1 h1
        have e2 : upd (upd H2 p (.tup [.str pt.nm, .ref q0])) p1 (.tup [.str pt.nm]) b = some u := by rw [upd_ne c2]; exact e1
        rw [upd_ne (ne_of_none e2 h2)]
        exact e2
      have c3 : l ≠ p2 := ne_of_none (show upd (upd H2 p (.tup [.str pt.nm, .ref q0])) p1 (.tup [.str pt.nm]) l = some (.lst (qs.map V.ref)) from by
        have c1 : l ≠ p := ne_of_none hl2 hpn
        have e1 : upd H2 p (.tup [.str pt.nm, .ref q0]) l = some (.lst (qs.map V.ref)) := by rw [upd_ne c1]; exact hl2
        rw [upd_ne (ne_of_none e1 h1)]
        exact e1) h2
      have tk : ps.take (i + 1) = ps.take i ++ [pt] := by
        rw [List.take_add_one, hpt]
        rfl
      have ll : qs.length < sizeLine := Nat.lt_trans (by have := pl.len; have := pic.len; omega : qs.length < 13) (by decide)
      refine ⟨up _ _ hl2, by rw [List.length_map]; exact ll, hN _ _ ⟨qs ++ [p2], by simp, by simp; omega, ?_, fun b u nb e => ?_, upd_same, ?_⟩⟩
      · rw [upd_ne (Ne.symm nl)]
        exact up _ _ hd
      · have e2 := up _ _ (sm b u nb e)
        rw [upd_ne (ne_of_none e hl0)]
        exact e2
      · rw [tk]
        refine PtsL.snoc (PtsL.keep (fun b xs e => ?_) pts) ?_
        · have e2 := up _ _ e
          rw [upd_ne (ne_of e2 (up _ _ hl2) (fun z => nomatch z))]
          exact e2
        · rw [upd_ne (Ne.symm c3)]
          exact upd_same
    · rintro xs H2 ⟨qs, rfl, _, hd, sm, hl2, pts⟩
      refine ⟨⟨hd, Nat.le_refl _⟩, dp, ob, _, hd, nf, q _ l qs (fun b u e => ?_) ?_ (PtsL.keep (fun b xs e => ?_) (by rw [pl.len, List.take_length] at pts; exact pts))⟩
      · by_cases c : b = dp
        · subst c
          rw [hk] at e
          cases e
          exact upd_same
        · rw [upd_ne c]
          exact sm b u c e
      · rw [upd_ne nl]
        exact hl2
      · rw [upd_ne (ne_of e hd (fun z => nomatch z))]
        exact e
theorem ok_Picture_check_lines (T : Txt w K mg t) : FnOk true P w K mg base (CXo P w) 2 t.f_Picture_check_lines t.d_Picture_check_lines ["self", "name", "x", "y"] (spCL t) := by
  refine T.F_Picture_check_lines.okn (k := 1) sc_Picture_check_lines (fun vs H Q E h => ?_) (fun cdv A outer s H vs Q E hr h => ?_)
  · obtain ⟨a, dp, do_, pw, ph, ps, nm, x, y, rfl, _⟩ := h
    rfl
  · obtain ⟨a, dp, do_, pw, ph, ps, nm, x, y, rfl, h⟩ := h
    refine ⟨_, pss_cons (ps_setcG rfl (blkG_of (zs := ["other"]) (ys := ["name"]) (fr := [1]) (N0 := ["self", "name", "x", "y", "others", "other"]) (sc0 := defScope s_Picture_check_lines) (by decide +kernel) rfl rfl rfl) (pi_list (pe_meth0 (pv 0) T.c_Picture T.m_Picture_points (ok_Picture_points T) (hr.mono (by decide)) T.b_Picture_points .nil pass_none)) (fun _ _ _ _ _ ow nd => pg_name (i := 0) nd rfl (Or.inl (ow _ (by simp))) (Or.inr (ow _ (by simp)))) (gok_name (by decide)) (fun _ _ _ _ _ => pif_one (pt_cmpR op_ne (pe_ix (r := rIxT K) ix_tup (pv 0) (pe_int) (fun _ _ => rfl)) (pv 1) (nomark _))) (fun _ _ _ _ _ => pv 0) (j := 4) rfl (Or.inl rfl))
      (pss_cons (ps_for PassesOwn.never rfl (pi_list (pv 4)) (pg_name (i := 5) sc_Picture_check_lines.nd rfl (Or.inl rfl)) (pss_one (ps_if (pt_cmpR op_eq (pe_ix ix_tup (pv 5) (pe_int) (fun _ _ => rfl)) (pv 2) (nomark _)) (pss_one (ps_never)) (pss_nil))))
      (pss_one (ps_for PassesOwn.never rfl (pi_list (pv 4)) (pg_name (i := 5) sc_Picture_check_lines.nd rfl (Or.inl rfl)) (pss_one (ps_if (pt_cmpR op_eq (pe_ix ix_tup (pv 5) (pe_int) (fun _ _ => rfl)) (pv 3) (nomark _)) (pss_one (ps_never)) (pss_nil)))))), ?_⟩
    obtain ⟨pic, no, q⟩ := h
    obtain ⟨⟨dx, hp⟩, ⟨kvs, hk, pl⟩, _⟩ := id pic
    refine ⟨_, rfl, a, dx, _, rfl, hp, lk_no (by decide +kernel), a, dp, do_, pw, ph, ps, rfl, pic, fun H1 l1 qs s1 hl1 pt1 => ⟨l1, rfl, ⟨_, SqL.of hl1⟩, fun l hl => ?_⟩⟩
    refine compG_by qs.length (fun i xs H2 => ∃ os : List Addr, xs = os.map V.ref ∧ os.length ≤ i ∧ Same H1 H2 ∧ H2 l = some (.lst xs) ∧ ∀ o ∈ os, ∃ p ∈ ps, p.nm ≠ nm ∧ H1 o = some (.tup (.str p.nm :: ptV p))) ?_ ?_ ?_ ?_
    · exact ⟨[], rfl, Nat.le_refl _, same_upd (Same.refl _) hl, upd_same, fun o z => nomatch z⟩
    · rintro i xs H2 lt ⟨os, _, _, s2, _⟩
      exact ⟨_, .ref qs[i], SqL.of (s2 _ _ hl1), by simp [lt]⟩
    · rintro i xs H2 v H3 lt ⟨os, rfl, ol, s2, hl2, hos⟩ ⟨rfl, hv⟩ N hN
      have hv' := hv _ (SqL.of (s2 _ _ hl1))
      rw [List.getElem?_map] at hv'
      obtain ⟨o, ho, rfl⟩ := Option.map_eq_some_iff.mp hv'
      obtain ⟨p, hpp, ep⟩ := pt1.get ho
      refine ⟨_, rfl, o, _, 0, _, rfl, rfl, SqT.of (s2 _ _ ep), rfl, _, rfl, rfl, _, rfl, ite2 (fun c => ?_) (fun c => ?_)⟩
      · have cn : p.nm ≠ nm := fun z => by
          rw [z] at c
          simp at c
        refine ⟨_, rfl, hl2, (by rw [List.length_map]; exact Nat.lt_trans (by have := pt1.len; have := pic.len; omega : os.length < 13) (by decide)), hN _ _ ⟨os ++ [o], by simp, by simp; omega, ?_, upd_same, ?_⟩⟩
        · intro b u e
          by_cases cb : b = l
          · subst cb
            rw [e] at hl
            cases hl
          · rw [upd_ne cb]
            exact s2 b u e
        · intro o' ho'
          rcases List.mem_append.mp ho' with z | z
          · exact hos o' z
          · have := List.mem_singleton.mp z
            subst this
            exact ⟨p, List.mem_of_getElem? hpp, cn, ep⟩
      · exact hN _ _ ⟨os, rfl, by omega, s2, hl2, hos⟩
    · rintro xs H2 ⟨os, rfl, ol, s2, hl2, hos⟩
      refine ⟨⟨_, SqL.of (s2 _ _ hl1), by simp⟩, ?_⟩
      have loop : ∀ (o : Addr), o ∈ os → ∃ p ∈ ps, p.nm ≠ nm ∧ H2 o = some (.tup (.str p.nm :: ptV p)) := fun o ho => by
        obtain ⟨p, h1, h2, h3⟩ := hos o ho
        exact ⟨p, h1, h2, s2 _ _ h3⟩
      refine ⟨_, rfl, l, rfl, ⟨_, SqL.of hl2⟩, for_list (xs := os.map V.ref) (Pv := fun i σ H3 => ∃ v5 : Option V, σ = [some (.ref a), some (.str nm), some (.int x), some (.int y), some (.ref l), v5] ∧ H2 = H3) ⟨_, rfl, rfl⟩ (fun _ _ _ _ ⟨_, _, z⟩ => by rw [← z]; exact SqL.of hl2) ?_ ?_⟩
      · rintro i v σ _ hv ⟨v5, rfl, rfl⟩
        rw [List.getElem?_map] at hv
        obtain ⟨o, ho, rfl⟩ := Option.map_eq_some_iff.mp hv
        obtain ⟨p, m1, m2, m3⟩ := loop o (List.mem_of_getElem? ho)
        refine ⟨_, rfl, o, _, 1, _, rfl, rfl, SqT.of m3, rfl, _, rfl, rfl, _, rfl, ifN (decide_eq_false fun z => (no p m1 m2).1 (V.int.inj z)) ⟨_, rfl, rfl⟩⟩
      · rintro σ _ ⟨v5, rfl, rfl⟩
        refine ⟨_, rfl, l, rfl, ⟨_, SqL.of hl2⟩, for_list (xs := os.map V.ref) (Pv := fun i σ H3 => ∃ v5 : Option V, σ = [some (.ref a), some (.str nm), some (.int x), some (.int y), some (.ref l), v5] ∧ H2 = H3) ⟨_, rfl, rfl⟩ (fun _ _ _ _ ⟨_, _, z⟩ => by rw [← z]; exact SqL.of hl2) ?_ ?_⟩
        · rintro i v σ _ hv ⟨v5, rfl, rfl⟩
          rw [List.getElem?_map] at hv
          obtain ⟨o, ho, rfl⟩ := Option.map_eq_some_iff.mp hv
          obtain ⟨p, m1, m2, m3⟩ := loop o (List.mem_of_getElem? ho)
          refine ⟨_, rfl, o, _, 2, _, rfl, rfl, SqT.of m3, rfl, _, rfl, rfl, _, rfl, ifN (decide_eq_false fun z => (no p m1 m2).2 (V.int.inj z)) ⟨_, rfl, rfl⟩⟩
        · rintro σ _ ⟨v5, rfl, rfl⟩
          exact q _ (s1.trans s2)
theorem ok_Picture_check_seat (T : Txt w K mg t) : FnOk true P w K mg base (CXo P w) 4 t.f_Picture_check_seat t.d_Picture_check_seat ["self", "side", "row"] (spCS t) := by
  refine T.F_Picture_check_seat.okn (k := 3) sc_Picture_check_seat (fun vs H Q E h => ?_) (fun cdv A outer s H vs Q E hr h => ?_)
  · obtain ⟨a, dp, do_, pw, ph, ps, b, r, rfl, _⟩ := h
    rfl
  · obtain ⟨a, dp, do_, pw, ph, ps, b, r, rfl, h⟩ := h
    refine ⟨_, pss_cons (ps_expr (pe_call (ok_side_of T) (hr.mono (by decide)) rfl T.g_side_of T.F_side_of.kp T.b_side_of .nil pass_none (pa_cons (pv 1) (pa_cons (pe_fld (pv 0) rfl) (pa_nil)))))
      (pss_one (ps_if (pt_not (pt_val (pe_call (ok_is_whole T) (hr.mono (by decide)) rfl T.g_is_whole T.F_is_whole.kp T.b_is_whole .nil pass_none (pa_cons (pv 2) (pa_cons (pe_int) (pa_cons (pe_fld (pv 0) rfl) (pa_nil))))))) (pss_one (ps_never)) (pss_nil))), ?_⟩
    obtain ⟨pic, r1, r2, q⟩ := h
    obtain ⟨⟨dx, hp⟩, _, _⟩ := id pic
    refine ⟨_, rfl, _, rfl, a, _, dx, _, _, rfl, hp, T.c_Picture, T.n_Picture_width, lkW, b, pw, rfl, fun p H1 hp1 sd1 s1 => ?_⟩
    exact ⟨_, rfl, _, rfl, a, _, dx, _, _, rfl, (s1 _ _ hp), T.c_Picture, T.n_Picture_height, lkH, r, 1, ph, rfl, r1, r2, true, rfl, iteF (q H1 s1)⟩
theorem ok_Picture_put (T : Txt w K mg t) : FnOk true P w K mg base (CXo P w) 3 t.f_Picture_put t.d_Picture_put ["self", "name", "x", "y", "sides", "low", "high"] (spPut t) := by
  refine T.F_Picture_put.okn (k := 2) sc_Picture_put (fun vs H Q E h => ?_) (fun cdv A outer s H vs Q E hr h => ?_)
  · obtain ⟨a, dp, do_, pw, ph, ps, nm, x, y, sd, lo, hi, hv, rfl, _⟩ := h
    rfl
  · obtain ⟨a, dp, do_, pw, ph, ps, nm, x, y, sd, lo, hi, hv, rfl, h⟩ := h
    refine ⟨_, pss_cons (ps_set (i := 7) sc_Picture_put.nd rfl (Or.inl rfl) (pe_ifExp (pt_cmpR op_isN (pv 6) (pe_non) (nomark _)) (pe_fld (pv 0) rfl) (pv 6)))
      (pss_cons (ps_if (pt_not (pt_val (pe_call (ok_is_name T) (hr.mono (by decide)) rfl T.g_is_name T.F_is_name.kp T.b_is_name .nil pass_none (pa_cons (pv 1) (pa_nil))))) (pss_one (ps_never)) (pss_nil))
      (pss_cons (ps_expr (pe_meth (pv 0) T.c_Picture T.m_Picture_check_cell (ok_Picture_check_cell T) (hr.mono (by decide)) T.b_Picture_check_cell .nil pass_none (pa_cons (pv 2) (pa_cons (pv 3) (pa_nil)))))
      (pss_cons (ps_if (PW.pt (pw_or (pt_not (pt_val (pe_callB call_isin rfl T.n_isinstance boot_isinstance (pa_cons (pv 4) (pa_cons (pe_bltn (v := .ty "str") rfl T.n_str boot_str rfl) (pa_nil)))))) (pw_or1 (pt_cmp (pc_gnotin (pv 4) rfl T.g_MIRRORED_SIDES T.D_MIRRORED_SIDES))))) (pss_one (ps_never)) (pss_nil))
      (pss_cons (ps_if (PW.pt (pw_or (pt_not (pt_val (pe_call (ok_is_whole T) (hr.mono (by decide)) rfl T.g_is_whole T.F_is_whole.kp T.b_is_whole .nil pass_none (pa_cons (pv 5) (pa_cons (pe_int) (pa_cons (pe_fld (pv 0) rfl) (pa_nil))))))) (pw_or1 (pt_not (pt_val (pe_call (ok_is_whole T) (hr.mono (by decide)) rfl T.g_is_whole T.F_is_whole.kp T.b_is_whole .nil pass_none (pa_cons (pv 7) (pa_cons (pv 5) (pa_cons (pe_fld (pv 0) rfl) (pa_nil)))))))))) (pss_one (ps_never)) (pss_nil))
      (pss_cons (ps_if (pt_cmp (pc_din (hu_of hr) (pv 1) (pe_fld (pv 0) rfl))) (pss_one (ps_never)) (pss_nil))
      (pss_cons (ps_if (pt_cmpR op_ge (pe_callB call_lenD rfl T.n_len boot_len (pa_cons (pe_fld (pv 0) rfl) (pa_nil))) (pe_glob (v := .int 12) rfl T.v_MOST_POINTS.choose_spec ⟨_, rfl⟩) (nomark _)) (pss_one (ps_never)) (pss_nil))
      (pss_cons (ps_expr (pe_meth (pv 0) T.c_Picture T.m_Picture_check_lines (ok_Picture_check_lines T) (hr.mono (by decide)) T.b_Picture_check_lines .nil pass_none (pa_cons (pv 1) (pa_cons (pv 2) (pa_cons (pv 3) (pa_nil))))))
      (pss_one (ps_dput (hu_of hr) (pe_fld (pv 0) rfl) (pv 1) (pe_tup (pa_cons (pv 2) (pa_cons (pv 3) (pa_cons (pv 4) (pa_cons (pv 5) (pa_cons (pv 7) (pa_nil))))))) rfl))))))))), ?_⟩
    obtain ⟨pic, hhv, hn, x1, x2, y1, y2, hsd, l1, l2, l3, no, len, q⟩ := h
    obtain ⟨⟨dx, hp⟩, ⟨kvs, hk, pl⟩, _⟩ := id pic
    have hsd' : (valV ([(Sum.inr "left", V.str "right"), (Sum.inr "right", V.str "left"), (Sum.inr "both", V.str "both")] : List (Key × V)) (Sum.inr sd)).isSome = true := by
      rcases hsd with rfl | rfl | rfl <;> decide +kernel
    rcases hhv with ⟨rfl, e⟩ | rfl
    · obtain rfl := e.symm
      refine ⟨_, rfl, rfl, _, rfl, ifP (by rfl) ⟨_, rfl, a, _, dx, _, _, rfl, hp, T.c_Picture, T.n_Picture_height, lkH, ?_⟩⟩
      refine ⟨_, rfl, nm, rfl, hn, true, rfl, iteF ?_⟩
      refine ⟨_, rfl, a, dx, _, rfl, hp, lk_no (by decide +kernel), _, rfl, _, rfl, a, dp, do_, pw, ph, ps, x, y, rfl, pic, x1, x2, y1, y2, ?_⟩
      refine ⟨_, rfl, _, _, rfl, .inl ⟨_, _, true, .str _, rfl, kit_same, true, rfl, iteF ⟨_, rfl, .inr sd, rfl, false, (by rw [hsd']; rfl), iteF ?_⟩⟩⟩
      refine ⟨_, rfl, _, rfl, a, _, dx, _, _, rfl, hp, T.c_Picture, T.n_Picture_height, lkH, lo, 1, ph, rfl, l1, (by omega), true, rfl, iteF ⟨_, rfl, _, rfl, _, rfl, a, _, dx, _, _, rfl, hp, T.c_Picture, T.n_Picture_height, lkH, ph, lo, ph, rfl, (by omega), (by omega), true, rfl, iteF ?_⟩⟩
      refine ⟨_, rfl, _, rfl, a, _, dx, _, _, rfl, hp, T.c_Picture, T.n_Picture_placed, lkP, dp, none, rfl, (by rw [← pl.no (nm := nm) (fun p hp => (no p hp).1)]; exact DGet.k (k := .inr nm) hk), false, rfl, iteF ?_⟩
      refine ⟨_, rfl, a, _, dx, _, _, rfl, hp, T.c_Picture, T.n_Picture_placed, lkP, dp, kvs, rfl, hk, _, _, rfl, rfl, _, rfl, ifN (decide_eq_false (by have := pl.len; omega)) ?_⟩
      refine ⟨_, rfl, a, dx, _, rfl, hp, lk_no (by decide +kernel), _, rfl, _, rfl, _, rfl, a, dp, do_, pw, ph, ps, nm, x, y, rfl, pic, fun p hp _ => (no p hp).2, fun H1 s1 => ?_⟩
      refine ⟨_, rfl, _, rfl, _, rfl, _, rfl, _, rfl, (by show 5 ≤ sizeLine; decide), fun q1 hq1 => ?_⟩
      have hp1 : upd H1 q1 (.tup [.int x, .int y, .str sd, .int lo, .int ph]) a = some (.ins t.C_Picture dx (picF pw ph dp do_)) := by rw [upd_ne (ne_of_none (s1 _ _ hp) hq1)]; exact s1 _ _ hp
      have hk1 : upd H1 q1 (.tup [.int x, .int y, .str sd, .int lo, .int ph]) dp = some (.dK kvs) := by rw [upd_ne (ne_of_none (s1 _ _ hk) hq1)]; exact s1 _ _ hk
      refine ⟨_, rfl, a, _, dx, _, _, rfl, hp1, T.c_Picture, T.n_Picture_placed, lkP, _, rfl, dp, _, rfl, DPut.k (k := .inr nm) hk1 (Nat.lt_trans (by have := pl.len; omega : kvs.length < 12) (by decide)), ?_⟩
      rw [putK_new (.ref q1) (pl.no (nm := nm) (fun p hp => (no p hp).1))]
      have nq : q1 ≠ dp := fun z => by
        subst z
        rw [s1 _ _ hk] at hq1
        cases hq1
      refine q _ (fun b u nb e => ?_) ⟨⟨dx, ?_⟩, ⟨_, upd_same, Pl.snoc (p := ⟨nm, x, y, sd, lo, ph⟩) (pl.keep (fun b xs e => ?_)) ?_⟩, pic.w1, pic.w2, pic.h1, pic.h2, (by rw [List.length_append]; exact len)⟩
      · rw [upd_ne nb, upd_ne (ne_of_none (s1 _ _ e) hq1)]
        exact s1 _ _ e
      · rw [upd_ne (ne_of hp1 hk1 (fun z => nomatch z))]
        exact hp1
      · have e' := s1 _ _ e
        rw [upd_ne (ne_of e' (s1 _ _ hk) (fun z => nomatch z)), upd_ne (ne_of_none e' hq1)]
        exact e'
      · rw [upd_ne nq]
        exact upd_same
    · refine ⟨_, rfl, rfl, _, rfl, ifN (by rfl) ⟨_, rfl, ?_⟩⟩
      refine ⟨_, rfl, nm, rfl, hn, true, rfl, iteF ?_⟩
      refine ⟨_, rfl, a, dx, _, rfl, hp, lk_no (by decide +kernel), _, rfl, _, rfl, a, dp, do_, pw, ph, ps, x, y, rfl, pic, x1, x2, y1, y2, ?_⟩
      refine ⟨_, rfl, _, _, rfl, .inl ⟨_, _, true, .str _, rfl, kit_same, true, rfl, iteF ⟨_, rfl, .inr sd, rfl, false, (by rw [hsd']; rfl), iteF ?_⟩⟩⟩
      refine ⟨_, rfl, _, rfl, a, _, dx, _, _, rfl, hp, T.c_Picture, T.n_Picture_height, lkH, lo, 1, ph, rfl, l1, (by omega), true, rfl, iteF ⟨_, rfl, _, rfl, _, rfl, a, _, dx, _, _, rfl, hp, T.c_Picture, T.n_Picture_height, lkH, hi, lo, ph, rfl, (by omega), (by omega), true, rfl, iteF ?_⟩⟩
      refine ⟨_, rfl, _, rfl, a, _, dx, _, _, rfl, hp, T.c_Picture, T.n_Picture_placed, lkP, dp, none, rfl, (by rw [← pl.no (nm := nm) (fun p hp => (no p hp).1)]; exact DGet.k (k := .inr nm) hk), false, rfl, iteF ?_⟩
      refine ⟨_, rfl, a, _, dx, _, _, rfl, hp, T.c_Picture, T.n_Picture_placed, lkP, dp, kvs, rfl, hk, _, _, rfl, rfl, _, rfl, ifN (decide_eq_false (by have := pl.len; omega)) ?_⟩
      refine ⟨_, rfl, a, dx, _, rfl, hp, lk_no (by decide +kernel), _, rfl, _, rfl, _, rfl, a, dp, do_, pw, ph, ps, nm, x, y, rfl, pic, fun p hp _ => (no p hp).2, fun H1 s1 => ?_⟩
      refine ⟨_, rfl, _, rfl, _, rfl, _, rfl, _, rfl, (by show 5 ≤ sizeLine; decide), fun q1 hq1 => ?_⟩
      have hp1 : upd H1 q1 (.tup [.int x, .int y, .str sd, .int lo, .int hi]) a = some (.ins t.C_Picture dx (picF pw ph dp do_)) := by rw [upd_ne (ne_of_none (s1 _ _ hp) hq1)]; exact s1 _ _ hp
      have hk1 : upd H1 q1 (.tup [.int x, .int y, .str sd, .int lo, .int hi]) dp = some (.dK kvs) := by rw [upd_ne (ne_of_none (s1 _ _ hk) hq1)]; exact s1 _ _ hk
      refine ⟨_, rfl, a, _, dx, _, _, rfl, hp1, T.c_Picture, T.n_Picture_placed, lkP, _, rfl, dp, _, rfl, DPut.k (k := .inr nm) hk1 (Nat.lt_trans (by have := pl.len; omega : kvs.length < 12) (by decide)), ?_⟩
      rw [putK_new (.ref q1) (pl.no (nm := nm) (fun p hp => (no p hp).1))]
      have nq : q1 ≠ dp := fun z => by
        subst z
        rw [s1 _ _ hk] at hq1
        cases hq1
      refine q _ (fun b u nb e => ?_) ⟨⟨dx, ?_⟩, ⟨_, upd_same, Pl.snoc (p := ⟨nm, x, y, sd, lo, hi⟩) (pl.keep (fun b xs e => ?_)) ?_⟩, pic.w1, pic.w2, pic.h1, pic.h2, (by rw [List.length_append]; exact len)⟩
      · rw [upd_ne nb, upd_ne (ne_of_none (s1 _ _ e) hq1)]
        exact s1 _ _ e
      · rw [upd_ne (ne_of hp1 hk1 (fun z => nomatch z))]
        exact hp1
      · have e' := s1 _ _ e
        rw [upd_ne (ne_of e' (s1 _ _ hk) (fun z => nomatch z)), upd_ne (ne_of_none e' hq1)]
        exact e'
      · rw [upd_ne nq]
        exact upd_same
theorem ok_Picture_place_of (T : Txt w K mg t) : FnOk true P w K mg base (CXo P w) 3 t.f_Picture_place_of t.d_Picture_place_of ["self", "name"] (spPlc t) := by
  refine T.F_Picture_place_of.okn (k := 2) sc_Picture_place_of (fun vs H Q E h => ?_) (fun cdv A outer s H vs Q E hr h => ?_)
  · obtain ⟨a, dp, do_, pw, ph, ps, nm, pt, rfl, _⟩ := h
    rfl
  · obtain ⟨a, dp, do_, pw, ph, ps, nm, pt, rfl, h⟩ := h
    refine ⟨_, pss_cons (ps_expr (pe_meth (pv 0) T.c_Picture T.m_Picture_check_name (ok_Picture_check_name T) (hr.mono (by decide)) T.b_Picture_check_name .nil pass_none (pa_cons (pv 1) (pa_nil))))
      (pss_one (ps_ret (pe_slice sl_tup (pe_dget (hu_of hr) (pe_fld (pv 0) rfl) (pv 1) (fun _ _ => rfl)) po_none (po_some (pe_int))))), ?_⟩
    obtain ⟨pic, hn, hf, q⟩ := h
    obtain ⟨⟨dx, hp⟩, ⟨kvs, hk, pl⟩, _⟩ := id pic
    obtain ⟨q0, e, hq0⟩ := pl.find hf
    refine ⟨_, rfl, a, dx, _, rfl, hp, lk_no (by decide +kernel), _, rfl, a, dp, do_, pw, ph, ps, nm, pt, rfl, pic, hn, hf, ?_⟩
    exact ⟨_, rfl, a, _, dx, _, _, rfl, hp, T.c_Picture, T.n_Picture_placed, lkP, _, rfl, dp, .ref q0, rfl, (by rw [← e]; exact DGet.k (k := .inr nm) hk), 2, rfl, q0, ptV pt, rfl, SqT.of hq0, (fun z => absurd z.2 (by show ¬ ((2 : Nat) = 5); decide)), fun p hp' => q _ p (same_upd (Same.refl _) hp') upd_same⟩
theorem ok_Picture_length (T : Txt w K mg t) : FnOk true P w K mg base (CXo P w) 5 t.f_Picture_length t.d_Picture_length ["self", "name", "side", "row"] (spLen t) := by
  refine T.F_Picture_length.okn (k := 4) sc_Picture_length (fun vs H Q E h => ?_) (fun cdv A outer s H vs Q E hr h => ?_)
  · obtain ⟨a, dp, do_, pw, ph, ps, nm, pt, b, r, rfl, _⟩ := h
    rfl
  · obtain ⟨a, dp, do_, pw, ph, ps, nm, pt, b, r, rfl, h⟩ := h
    refine ⟨_, pss_cons (ps_asg (pe_meth (pv 0) T.c_Picture T.m_Picture_place_of (ok_Picture_place_of T) (hr.mono (by decide)) T.b_Picture_place_of .nil pass_none (pa_cons (pv 1) (pa_nil))) (pg_tup rfl (pgs_cons (pg_name (i := 4) sc_Picture_length.nd rfl (Or.inl rfl)) (pgs_cons (pg_name (i := 5) sc_Picture_length.nd rfl (Or.inl rfl)) (pgs_nil)))))
      (pss_cons (ps_expr (pe_meth (pv 0) T.c_Picture T.m_Picture_check_seat (ok_Picture_check_seat T) (hr.mono (by decide)) T.b_Picture_check_seat .nil pass_none (pa_cons (pv 2) (pa_cons (pv 3) (pa_nil)))))
      (pss_one (ps_ret (pe_op op_add (pe_alt (pe_meth (pe_call (ok_side_of T) (hr.mono (by decide)) rfl T.g_side_of T.F_side_of.kp T.b_side_of .nil pass_none (pa_cons (pv 2) (pa_cons (pe_fld (pv 0) rfl) (pa_nil)))) T.c_LeftSide T.m_LeftSide_across (ok_LeftSide_across T) (hr.mono (by decide)) T.b_LeftSide_across .nil pass_none (pa_cons (pv 4) (pa_nil))) (pe_meth (pe_call (ok_side_of T) (hr.mono (by decide)) rfl T.g_side_of T.F_side_of.kp T.b_side_of .nil pass_none (pa_cons (pv 2) (pa_cons (pe_fld (pv 0) rfl) (pa_nil)))) T.c_RightSide T.m_RightSide_across (ok_RightSide_across T) (hr.mono (by decide)) T.b_RightSide_across .nil pass_none (pa_cons (pv 4) (pa_nil)))) (pe_callB call_abs rfl T.n_abs boot_abs (pa_cons (pe_op op_sub (pv 5) (pv 3)) (pa_nil))))))), ?_⟩
    obtain ⟨pic, hn, hf, r1, r2, q⟩ := h
    obtain ⟨⟨dx, hp⟩, _, _⟩ := id pic
    refine ⟨_, rfl, a, dx, _, rfl, hp, lk_no (by decide +kernel), _, rfl, a, dp, do_, pw, ph, ps, nm, pt, rfl, pic, hn, hf, fun H1 q1 s1 hq1 => ⟨q1, _, rfl, SqT.of hq1, rfl, _, _, rfl, _, _, rfl, rfl, ?_⟩⟩
    refine ⟨_, rfl, a, dx, _, rfl, s1 _ _ hp, lk_no (by decide +kernel), _, rfl, _, rfl, a, dp, do_, pw, ph, ps, b, r, rfl, Pic.same s1 pic, r1, r2, fun H2 s2 => ?_⟩
    cases b with
    | true =>
      refine .inl ⟨_, rfl, _, rfl, a, _, dx, _, _, rfl, (s2 _ _ (s1 _ _ hp)), T.c_Picture, T.n_Picture_width, lkW, true, pw, rfl, fun p H3 hp3 sd3 s3 => ?_⟩
      obtain ⟨ds, hs⟩ := sd3
      exact ⟨p, ds, _, rfl, hs, (by rw [List.lookup_cons, show (("across" : Str) == "width") = false from by decide +kernel]; rfl), _, rfl, _, _, rfl, _, rfl, _, rfl, _, _, rfl, rfl, _, rfl, _, _, rfl, rfl, q H3 ((s1.trans s2).trans s3)⟩
    | false =>
      refine .inr ⟨_, rfl, _, rfl, a, _, dx, _, _, rfl, (s2 _ _ (s1 _ _ hp)), T.c_Picture, T.n_Picture_width, lkW, false, pw, rfl, fun p H3 hp3 sd3 s3 => ?_⟩
      obtain ⟨ds, hs⟩ := id sd3
      exact ⟨p, ds, _, rfl, hs, (by rw [List.lookup_cons, show (("across" : Str) == "width") = false from by decide +kernel]; rfl), _, rfl, p, pw, _, rfl, sd3, _, rfl, _, rfl, _, _, rfl, rfl, _, rfl, _, _, rfl, rfl, q H3 ((s1.trans s2).trans s3)⟩
end
end S51
set_option maxRecDepth 100000
set_option maxHeartbeats 4000000
namespace S51
open PySem L2 XL PyProof.Rows
inductive CellsL (H : Hp) : List (Int × Int) → List Addr → Prop
  | nil : CellsL H [] []
  | cons {c : Int × Int} {q : Addr} {cs : List (Int × Int)} {qs : List Addr} (h : H q = some (.tup [.int c.1, .int c.2])) (r : CellsL H cs qs) : CellsL H (c :: cs) (q :: qs)
theorem CellsL.keep {H H' : Hp} (s : Tups H H') {cs : List (Int × Int)} {qs : List Addr} (h : CellsL H cs qs) : CellsL H' cs qs := by
  induction h with
  | nil => exact .nil
  | cons h _ ih => exact .cons (s _ _ h) ih
theorem CellsL.len {H : Hp} {cs : List (Int × Int)} {qs : List Addr} (h : CellsL H cs qs) : qs.length = cs.length := by
  induction h with
  | nil => rfl
  | cons _ _ ih => simp [ih]
theorem CellsL.get {H : Hp} {cs : List (Int × Int)} {qs : List Addr} (h : CellsL H cs qs) {i : Nat} {q : Addr} (e : qs[i]? = some q) : ∃ c, cs[i]? = some c ∧ H q = some (.tup [.int c.1, .int c.2]) := by
  induction h generalizing i with
  | nil => simp at e
  | @cons c q' cs qs h _ ih =>
    cases i with
    | zero =>
      simp at e
      subst e
      exact ⟨c, rfl, h⟩
    | succ j => exact ih (by simpa using e)
theorem CellsL.append {H : Hp} {cs ds : List (Int × Int)} {qs rs : List Addr} (h : CellsL H cs qs) (h' : CellsL H ds rs) : CellsL H (cs ++ ds) (qs ++ rs) := by
  induction h with
  | nil => exact h'
  | cons h _ ih => exact .cons h ih
theorem CellsL.snoc {H : Hp} {cs : List (Int × Int)} {qs : List Addr} (h : CellsL H cs qs) {c : Int × Int} {q : Addr} (e : H q = some (.tup [.int c.1, .int c.2])) : CellsL H (cs ++ [c]) (qs ++ [q]) := h.append (.cons e .nil)
theorem comp_cells {σ : L2.St} {fr : List Nat} {te : TE} {l : Addr} {H1 : Hp} {Q : VK} {lo d : Int} {n : Nat} (f : Nat → Int × Int) (hl : H1 l = none) (hn : n < 1000)
    (hte : ∀ (i : Nat) (H2 : Hp) (R : VK), i < n → (∀ p, H2 p = none → R (.ref p) (upd H2 p (.tup [.int (f i).1, .int (f i).2]))) → te ((blk0 σ fr 1).set 0 (some (.int (lo + (i : Int) * d)))) H2 R)
    (fin : ∀ (H2 : Hp) (qs : List Addr), Same H1 H2 → H2 l = some (.lst (qs.map V.ref)) → CellsL H2 ((List.range n).map f) qs → Q (.ref l) H2) : CompG (Itrs lo d n) 1 (gName 0) σ fr tTrue te l H1 Q := by
  refine compG_by n (fun i xs H2 => ∃ qs : List Addr, xs = qs.map V.ref ∧ qs.length ≤ i ∧ Same H1 H2 ∧ H2 l = some (.lst xs) ∧ CellsL H2 ((List.range i).map f) qs) ?_ ?_ ?_ ?_
  · exact ⟨[], rfl, Nat.le_refl _, same_upd (Same.refl _) hl, upd_same, .nil⟩
  · rintro i xs H2 lt _
    exact lt
  · rintro i xs H2 v H3 lt ⟨qs, rfl, ql, s2, hl2, cl⟩ ⟨rfl, rfl⟩ N hN
    refine gT_if ?_
    refine hte i _ _ lt fun p hp => ⟨?_, ?_, hN _ _ ⟨qs ++ [p], by simp, by simp; omega, ?_, upd_same, ?_⟩⟩
    · rw [upd_ne (ne_of_none hl2 hp)]
      exact hl2
    · rw [List.length_map]
      exact Nat.lt_of_le_of_lt ql (Nat.lt_trans lt (Nat.lt_of_lt_of_le hn (by decide)))
    · intro b u e
      have nb : b ≠ l := ne_of_none e hl
      rw [upd_ne nb, upd_ne (ne_of_none (s2 _ _ e) hp)]
      exact s2 _ _ e
    · rw [List.range_succ, List.map_append]
      refine CellsL.snoc (CellsL.keep (fun b xs e => ?_) cl) ?_
      · rw [upd_ne (ne_of e hl2 (fun z => nomatch z)), upd_ne (ne_of_none e hp)]
        exact e
      · rw [upd_ne (Ne.symm (ne_of_none hl2 hp))]
        exact upd_same
  · rintro xs H2 ⟨qs, rfl, _, s2, hl2, cl⟩
    exact ⟨Nat.le_refl _, fin H2 qs s2 hl2 cl⟩
def spCells (t : Adr) : Sp := fun vs H Q _ => ∃ (a dp do_ : Addr) (pw ph : Int) (ps : List Pt) (nm : Str) (pt : Pt) (b : Bool) (r : Int), vs = [.ref a, .str nm, .str (sideW b), .int r] ∧ Pic t H a dp do_ pw ph ps ∧ isNm nm = true ∧ ps.find? (fun p => decide (p.nm = nm)) = some pt ∧ 1 ≤ r ∧ r ≤ ph ∧
  (1 ≤ pt.x ∧ pt.x ≤ pw ∧ 1 ≤ pt.y ∧ pt.y ≤ ph) ∧ ∀ H' l qs, Same H H' → H' l = some (.lst (qs.map V.ref)) → CellsL H' (Geo.cells pw pt.x pt.y b r) qs → qs.length < 100 → Q (.ref l) H'
section
variable {P : Program} {w : World} {K : PySem.W.Frag} {mg : Str → Option Value} {base : Heap} {t : Adr}
theorem lno {m : Str} {v : V} (h : (m == ("width" : Str)) = false) : ([("width", v)] : List (Str × V)).lookup m = none := by
  rw [List.lookup_cons, h]
  rfl
theorem ok_cells_of (T : Txt w K mg t) : FnOk true P w K mg base (CXo P w) 6 t.f_cells_of t.d_cells_of ["picture", "name", "side", "row"] (spCells t) := by
  refine T.F_cells_of.okn (k := 5) sc_cells_of (fun vs H Q E h => ?_) (fun cdv A outer s H vs Q E hr h => ?_)
  · obtain ⟨a, dp, do_, pw, ph, ps, nm, pt, b, r, rfl, _⟩ := h
    rfl
  · obtain ⟨a, dp, do_, pw, ph, ps, nm, pt, b, r, rfl, h⟩ := h
    refine ⟨_, pss_cons (ps_expr (pe_meth (pv 0) T.c_Picture T.m_Picture_length (ok_Picture_length T) (hr.mono (by decide)) T.b_Picture_length .nil pass_none (pa_cons (pv 1) (pa_cons (pv 2) (pa_cons (pv 3) (pa_nil))))))
      (pss_cons (ps_asg (pe_meth (pv 0) T.c_Picture T.m_Picture_place_of (ok_Picture_place_of T) (hr.mono (by decide)) T.b_Picture_place_of .nil pass_none (pa_cons (pv 1) (pa_nil))) (pg_tup rfl (pgs_cons (pg_name (i := 4) sc_cells_of.nd rfl (Or.inr rfl)) (pgs_cons (pg_name (i := 5) sc_cells_of.nd rfl (Or.inl rfl)) (pgs_nil)))))
      (pss_cons (ps_set (i := 6) sc_cells_of.nd rfl (Or.inl rfl) (pe_call (ok_side_of T) (hr.mono (by decide)) rfl T.g_side_of T.F_side_of.kp T.b_side_of .nil pass_none (pa_cons (pv 2) (pa_cons (pe_fld (pv 0) rfl) (pa_nil)))))
      (pss_cons (ps_set (i := 7) sc_cells_of.nd rfl (Or.inl rfl) (pe_ifExp (pt_cmpR op_lt (pv 5) (pv 3) (nomark _)) (pe_int) (pe_un un_neg (pe_int))))
      (pss_cons (ps_setcG rfl (blkG_of (zs := ["at"]) (ys := ["x"]) (fr := [4]) (N0 := ["picture", "name", "side", "row", "x", "y", "toward", "down", "upright", "level"]) (sc0 := defScope s_cells_of) (by decide +kernel) rfl rfl rfl) (pi_range3 rfl T.n_range (pa_cons (pv 5) (pa_cons (pv 3) (pa_cons (pv 7) (pa_nil))))) (fun _ _ _ _ _ ow nd => pg_name (i := 0) nd rfl (Or.inl (ow _ (by simp))) (Or.inr (ow _ (by simp)))) (gok_name (by decide)) (fun _ _ _ _ _ => pif_nil) (fun _ _ _ _ _ => pe_tup (pa_cons (pv 1) (pa_cons (pv 0) (pa_nil)))) (j := 8) rfl (Or.inl rfl))
      (pss_cons (ps_setcG rfl (blkG_of (zs := ["at"]) (ys := ["row"]) (fr := [3]) (N0 := ["picture", "name", "side", "row", "x", "y", "toward", "down", "upright", "level"]) (sc0 := defScope s_cells_of) (by decide +kernel) rfl rfl rfl) (pi_range3 rfl T.n_range (pa_cons (pv 4) (pa_cons (pe_op op_add (pe_alt (pe_meth0 (pv 6) T.c_LeftSide T.m_LeftSide_rim (ok_LeftSide_rim T) (hr.mono (by decide)) T.b_LeftSide_rim .nil pass_none) (pe_meth0 (pv 6) T.c_RightSide T.m_RightSide_rim (ok_RightSide_rim T) (hr.mono (by decide)) T.b_RightSide_rim .nil pass_none)) (pe_alt (pe_meth0 (pv 6) T.c_LeftSide T.m_LeftSide_way (ok_LeftSide_way T) (hr.mono (by decide)) T.b_LeftSide_way .nil pass_none) (pe_meth0 (pv 6) T.c_RightSide T.m_RightSide_way (ok_RightSide_way T) (hr.mono (by decide)) T.b_RightSide_way .nil pass_none))) (pa_cons (pe_alt (pe_meth0 (pv 6) T.c_LeftSide T.m_LeftSide_way (ok_LeftSide_way T) (hr.mono (by decide)) T.b_LeftSide_way .nil pass_none) (pe_meth0 (pv 6) T.c_RightSide T.m_RightSide_way (ok_RightSide_way T) (hr.mono (by decide)) T.b_RightSide_way .nil pass_none)) (pa_nil))))) (fun _ _ _ _ _ ow nd => pg_name (i := 0) nd rfl (Or.inl (ow _ (by simp))) (Or.inr (ow _ (by simp)))) (gok_name (by decide)) (fun _ _ _ _ _ => pif_nil) (fun _ _ _ _ _ => pe_tup (pa_cons (pv 0) (pa_cons (pv 1) (pa_nil)))) (j := 9) rfl (Or.inl rfl))
      (pss_one (ps_ret (pe_op op_cat (pv 8) (pv 9))))))))), ?_⟩
    obtain ⟨pic, hn, hf, r1, r2, ⟨x1, x2, y1, y2⟩, q⟩ := h
    obtain ⟨⟨dx, hp⟩, _, w1, w2, h1, h2, _⟩ := id pic
    by_cases hd : pt.y < r <;> cases b
    · -- down right
      refine ⟨_, rfl, a, dx, _, rfl, hp, lk_no (by decide +kernel), _, rfl, _, rfl, _, rfl, a, dp, do_, pw, ph, ps, nm, pt, false, r, rfl, pic, hn, hf, r1, r2, fun H1 s1 => ?_⟩
      refine ⟨_, rfl, a, dx, _, rfl, s1 _ _ hp, lk_no (by decide +kernel), _, rfl, a, dp, do_, pw, ph, ps, nm, pt, rfl, Pic.same s1 pic, hn, hf, fun H2 q2 s2 hq2 => ⟨q2, _, rfl, SqT.of hq2, rfl, _, _, rfl, _, _, rfl, rfl, ?_⟩⟩
      refine ⟨_, rfl, _, rfl, a, _, dx, _, _, rfl, (s2 _ _ (s1 _ _ hp)), T.c_Picture, T.n_Picture_width, lkW, false, pw, rfl, fun p H3 hp3 sd3 s3 => ?_⟩
      refine ⟨_, rfl, _, rfl, _, _, rfl, rfl, _, rfl, ifP (decide_eq_true hd) ?_⟩
      refine ⟨_, rfl, _, rfl, _, rfl, pt.y, r, 1, rfl, ⟨by omega, by omega, by omega, by omega⟩, .inl ⟨rfl, fun l1 hl1 => ?_⟩⟩
      refine comp_cells (fun i => (pt.x, pt.y + (i : Int) * 1)) hl1 (by omega) (fun i H R _ k => ⟨_, rfl, _, rfl, (by show 2 ≤ sizeLine; decide), k⟩) fun H4 qs1 s4 hu4 cu4 => ?_
      obtain ⟨ds, hs⟩ := id sd3
      have hs4 : H4 p = some (.ins t.C_RightSide ds [("width", .int pw)]) := s4 _ _ hs
      have sd4 : SideAt t H4 p false pw := ⟨ds, hs4⟩
      refine ⟨_, rfl, .inr ⟨_, rfl, p, ds, _, rfl, hs4, lno (by decide +kernel), p, pw, rfl, sd4, .inr ⟨_, rfl, p, ds, _, rfl, hs4, lno (by decide +kernel), _, rfl, _, _, rfl, rfl, .inr ⟨_, rfl, p, ds, _, rfl, hs4, lno (by decide +kernel), _, rfl, pt.x, _, 1, rfl, ⟨by omega, by omega, by omega, by omega⟩, .inl ⟨rfl, fun l2 hl2 => ?_⟩⟩⟩⟩⟩
      refine comp_cells (fun i => (pt.x + (i : Int) * 1, r)) hl2 (by omega) (fun i H R _ k => ⟨_, rfl, _, rfl, (by show 2 ≤ sizeLine; decide), k⟩) fun H5 qs2 s5 hu5 cu5 => ?_
      have c1 : CellsL H5 (Geo.upL pt.x pt.y r) qs1 := by
        have e : Geo.upL pt.x pt.y r = (List.range (r - pt.y).toNat).map fun (i : Nat) => (pt.x, pt.y + (i : Int) * 1) := by unfold Geo.upL Geo.upN Geo.dn; rw [if_pos hd, if_pos hd]
        rw [e]
        exact cu4.keep (Same.tups s5)
      have c2 : CellsL H5 (Geo.lvL pw pt.x false r) qs2 := by
        have e : Geo.lvL pw pt.x false r = (List.range (pw + 1 + 1 - pt.x).toNat).map fun (i : Nat) => (pt.x + (i : Int) * 1, r) := by
          unfold Geo.lvL Geo.lvN Geo.wayI
          simp only [if_true, Bool.false_eq_true, if_false]
          rw [show (pw + 2 - pt.x).toNat = (pw + 1 + 1 - pt.x).toNat from by omega]
        rw [e]
        exact cu5
      have l1' := c1.len
      have l2' := c2.len
      have b1 : (Geo.upL pt.x pt.y r).length < 17 := by unfold Geo.upL Geo.upN; rw [List.length_map, List.length_range]; split <;> omega
      have b2 : (Geo.lvL pw pt.x false r).length < 33 := by unfold Geo.lvL Geo.lvN; rw [List.length_map, List.length_range]; split <;> omega
      refine ⟨_, rfl, _, rfl, l1, l2, _, _, rfl, rfl, s5 _ _ hu4, hu5, (by rw [List.length_map, List.length_map]; exact Nat.le_of_lt (Nat.lt_trans (by omega : qs1.length + qs2.length < 100) (by decide))), fun p6 hp6 => ?_⟩
      refine q _ p6 (qs1 ++ qs2) (same_upd (((s1.trans s2).trans s3).trans (s4.trans s5)) hp6) (by rw [List.map_append]; exact upd_same) ((c1.append c2).keep (Same.tups (same_upd (Same.refl _) hp6))) (by rw [List.length_append]; omega)
    · -- down left
      refine ⟨_, rfl, a, dx, _, rfl, hp, lk_no (by decide +kernel), _, rfl, _, rfl, _, rfl, a, dp, do_, pw, ph, ps, nm, pt, true, r, rfl, pic, hn, hf, r1, r2, fun H1 s1 => ?_⟩
      refine ⟨_, rfl, a, dx, _, rfl, s1 _ _ hp, lk_no (by decide +kernel), _, rfl, a, dp, do_, pw, ph, ps, nm, pt, rfl, Pic.same s1 pic, hn, hf, fun H2 q2 s2 hq2 => ⟨q2, _, rfl, SqT.of hq2, rfl, _, _, rfl, _, _, rfl, rfl, ?_⟩⟩
      refine ⟨_, rfl, _, rfl, a, _, dx, _, _, rfl, (s2 _ _ (s1 _ _ hp)), T.c_Picture, T.n_Picture_width, lkW, true, pw, rfl, fun p H3 hp3 sd3 s3 => ?_⟩
      refine ⟨_, rfl, _, rfl, _, _, rfl, rfl, _, rfl, ifP (decide_eq_true hd) ?_⟩
      refine ⟨_, rfl, _, rfl, _, rfl, pt.y, r, 1, rfl, ⟨by omega, by omega, by omega, by omega⟩, .inl ⟨rfl, fun l1 hl1 => ?_⟩⟩
      refine comp_cells (fun i => (pt.x, pt.y + (i : Int) * 1)) hl1 (by omega) (fun i H R _ k => ⟨_, rfl, _, rfl, (by show 2 ≤ sizeLine; decide), k⟩) fun H4 qs1 s4 hu4 cu4 => ?_
      obtain ⟨ds, hs⟩ := id sd3
      have hs4 : H4 p = some (.ins t.C_LeftSide ds [("width", .int pw)]) := s4 _ _ hs
      have sd4 : SideAt t H4 p true pw := ⟨ds, hs4⟩
      refine ⟨_, rfl, .inl ⟨_, rfl, p, ds, _, rfl, hs4, lno (by decide +kernel), _, rfl, .inl ⟨_, rfl, p, ds, _, rfl, hs4, lno (by decide +kernel), _, rfl, _, _, rfl, rfl, .inl ⟨_, rfl, p, ds, _, rfl, hs4, lno (by decide +kernel), _, rfl, pt.x, _, (-1), rfl, ⟨by omega, by omega, by omega, by omega⟩, .inr ⟨rfl, fun l2 hl2 => ?_⟩⟩⟩⟩⟩
      refine comp_cells (fun i => (pt.x + (i : Int) * (-1), r)) hl2 (by omega) (fun i H R _ k => ⟨_, rfl, _, rfl, (by show 2 ≤ sizeLine; decide), k⟩) fun H5 qs2 s5 hu5 cu5 => ?_
      have c1 : CellsL H5 (Geo.upL pt.x pt.y r) qs1 := by
        have e : Geo.upL pt.x pt.y r = (List.range (r - pt.y).toNat).map fun (i : Nat) => (pt.x, pt.y + (i : Int) * 1) := by unfold Geo.upL Geo.upN Geo.dn; rw [if_pos hd, if_pos hd]
        rw [e]
        exact cu4.keep (Same.tups s5)
      have c2 : CellsL H5 (Geo.lvL pw pt.x true r) qs2 := by
        have e : Geo.lvL pw pt.x true r = (List.range (pt.x - (0 + -1)).toNat).map fun (i : Nat) => (pt.x + (i : Int) * (-1), r) := by
          unfold Geo.lvL Geo.lvN Geo.wayI
          simp only [if_true, Bool.false_eq_true, if_false]
          rw [show (pt.x + 1).toNat = (pt.x - (0 + -1)).toNat from by omega]
        rw [e]
        exact cu5
      have l1' := c1.len
      have l2' := c2.len
      have b1 : (Geo.upL pt.x pt.y r).length < 17 := by unfold Geo.upL Geo.upN; rw [List.length_map, List.length_range]; split <;> omega
      have b2 : (Geo.lvL pw pt.x true r).length < 33 := by unfold Geo.lvL Geo.lvN; rw [List.length_map, List.length_range]; split <;> omega
      refine ⟨_, rfl, _, rfl, l1, l2, _, _, rfl, rfl, s5 _ _ hu4, hu5, (by rw [List.length_map, List.length_map]; exact Nat.le_of_lt (Nat.lt_trans (by omega : qs1.length + qs2.length < 100) (by decide))), fun p6 hp6 => ?_⟩
      refine q _ p6 (qs1 ++ qs2) (same_upd (((s1.trans s2).trans s3).trans (s4.trans s5)) hp6) (by rw [List.map_append]; exact upd_same) ((c1.append c2).keep (Same.tups (same_upd (Same.refl _) hp6))) (by rw [List.length_append]; omega)
    · -- up right
      refine ⟨_, rfl, a, dx, _, rfl, hp, lk_no (by decide +kernel), _, rfl, _, rfl, _, rfl, a, dp, do_, pw, ph, ps, nm, pt, false, r, rfl, pic, hn, hf, r1, r2, fun H1 s1 => ?_⟩
      refine ⟨_, rfl, a, dx, _, rfl, s1 _ _ hp, lk_no (by decide +kernel), _, rfl, a, dp, do_, pw, ph, ps, nm, pt, rfl, Pic.same s1 pic, hn, hf, fun H2 q2 s2 hq2 => ⟨q2, _, rfl, SqT.of hq2, rfl, _, _, rfl, _, _, rfl, rfl, ?_⟩⟩
      refine ⟨_, rfl, _, rfl, a, _, dx, _, _, rfl, (s2 _ _ (s1 _ _ hp)), T.c_Picture, T.n_Picture_width, lkW, false, pw, rfl, fun p H3 hp3 sd3 s3 => ?_⟩
      refine ⟨_, rfl, _, rfl, _, _, rfl, rfl, _, rfl, ifN (decide_eq_false hd) ⟨1, rfl, ?_⟩⟩
      refine ⟨_, rfl, _, rfl, _, rfl, pt.y, r, (-1), rfl, ⟨by omega, by omega, by omega, by omega⟩, .inr ⟨rfl, fun l1 hl1 => ?_⟩⟩
      refine comp_cells (fun i => (pt.x, pt.y + (i : Int) * (-1))) hl1 (by omega) (fun i H R _ k => ⟨_, rfl, _, rfl, (by show 2 ≤ sizeLine; decide), k⟩) fun H4 qs1 s4 hu4 cu4 => ?_
      obtain ⟨ds, hs⟩ := id sd3
      have hs4 : H4 p = some (.ins t.C_RightSide ds [("width", .int pw)]) := s4 _ _ hs
      have sd4 : SideAt t H4 p false pw := ⟨ds, hs4⟩
      refine ⟨_, rfl, .inr ⟨_, rfl, p, ds, _, rfl, hs4, lno (by decide +kernel), p, pw, rfl, sd4, .inr ⟨_, rfl, p, ds, _, rfl, hs4, lno (by decide +kernel), _, rfl, _, _, rfl, rfl, .inr ⟨_, rfl, p, ds, _, rfl, hs4, lno (by decide +kernel), _, rfl, pt.x, _, 1, rfl, ⟨by omega, by omega, by omega, by omega⟩, .inl ⟨rfl, fun l2 hl2 => ?_⟩⟩⟩⟩⟩
      refine comp_cells (fun i => (pt.x + (i : Int) * 1, r)) hl2 (by omega) (fun i H R _ k => ⟨_, rfl, _, rfl, (by show 2 ≤ sizeLine; decide), k⟩) fun H5 qs2 s5 hu5 cu5 => ?_
      have c1 : CellsL H5 (Geo.upL pt.x pt.y r) qs1 := by
        have e : Geo.upL pt.x pt.y r = (List.range (pt.y - r).toNat).map fun (i : Nat) => (pt.x, pt.y + (i : Int) * (-1)) := by unfold Geo.upL Geo.upN Geo.dn; rw [if_neg hd, if_neg hd]
        rw [e]
        exact cu4.keep (Same.tups s5)
      have c2 : CellsL H5 (Geo.lvL pw pt.x false r) qs2 := by
        have e : Geo.lvL pw pt.x false r = (List.range (pw + 1 + 1 - pt.x).toNat).map fun (i : Nat) => (pt.x + (i : Int) * 1, r) := by
          unfold Geo.lvL Geo.lvN Geo.wayI
          simp only [if_true, Bool.false_eq_true, if_false]
          rw [show (pw + 2 - pt.x).toNat = (pw + 1 + 1 - pt.x).toNat from by omega]
        rw [e]
        exact cu5
      have l1' := c1.len
      have l2' := c2.len
      have b1 : (Geo.upL pt.x pt.y r).length < 17 := by unfold Geo.upL Geo.upN; rw [List.length_map, List.length_range]; split <;> omega
      have b2 : (Geo.lvL pw pt.x false r).length < 33 := by unfold Geo.lvL Geo.lvN; rw [List.length_map, List.length_range]; split <;> omega
      refine ⟨_, rfl, _, rfl, l1, l2, _, _, rfl, rfl, s5 _ _ hu4, hu5, (by rw [List.length_map, List.length_map]; exact Nat.le_of_lt (Nat.lt_trans (by omega : qs1.length + qs2.length < 100) (by decide))), fun p6 hp6 => ?_⟩
      refine q _ p6 (qs1 ++ qs2) (same_upd (((s1.trans s2).trans s3).trans (s4.trans s5)) hp6) (by rw [List.map_append]; exact upd_same) ((c1.append c2).keep (Same.tups (same_upd (Same.refl _) hp6))) (by rw [List.length_append]; omega)
    · -- up left
      refine ⟨_, rfl, a, dx, _, rfl, hp, lk_no (by decide +kernel), _, rfl, _, rfl, _, rfl, a, dp, do_, pw, ph, ps, nm, pt, true, r, rfl, pic, hn, hf, r1, r2, fun H1 s1 => ?_⟩
      refine ⟨_, rfl, a, dx, _, rfl, s1 _ _ hp, lk_no (by decide +kernel), _, rfl, a, dp, do_, pw, ph, ps, nm, pt, rfl, Pic.same s1 pic, hn, hf, fun H2 q2 s2 hq2 => ⟨q2, _, rfl, SqT.of hq2, rfl, _, _, rfl, _, _, rfl, rfl, ?_⟩⟩
      refine ⟨_, rfl, _, rfl, a, _, dx, _, _, rfl, (s2 _ _ (s1 _ _ hp)), T.c_Picture, T.n_Picture_width, lkW, true, pw, rfl, fun p H3 hp3 sd3 s3 => ?_⟩
      refine ⟨_, rfl, _, rfl, _, _, rfl, rfl, _, rfl, ifN (decide_eq_false hd) ⟨1, rfl, ?_⟩⟩
      refine ⟨_, rfl, _, rfl, _, rfl, pt.y, r, (-1), rfl, ⟨by omega, by omega, by omega, by omega⟩, .inr ⟨rfl, fun l1 hl1 => ?_⟩⟩
      refine comp_cells (fun i => (pt.x, pt.y + (i : Int) * (-1))) hl1 (by omega) (fun i H R _ k => ⟨_, rfl, _, rfl, (by show 2 ≤ sizeLine; decide), k⟩) fun H4 qs1 s4 hu4 cu4 => ?_
      obtain ⟨ds, hs⟩ := id sd3
      have hs4 : H4 p = some (.ins t.C_LeftSide ds [("width", .int pw)]) := s4 _ _ hs
      have sd4 : SideAt t H4 p true pw := ⟨ds, hs4⟩
      refine ⟨_, rfl, .inl ⟨_, rfl, p, ds, _, rfl, hs4, lno (by decide +kernel), _, rfl, .inl ⟨_, rfl, p, ds, _, rfl, hs4, lno (by decide +kernel), _, rfl, _, _, rfl, rfl, .inl ⟨_, rfl, p, ds, _, rfl, hs4, lno (by decide +kernel), _, rfl, pt.x, _, (-1), rfl, ⟨by omega, by omega, by omega, by omega⟩, .inr ⟨rfl, fun l2 hl2 => ?_⟩⟩⟩⟩⟩
      refine comp_cells (fun i => (pt.x + (i : Int) * (-1), r)) hl2 (by omega) (fun i H R _ k => ⟨_, rfl, _, rfl, (by show 2 ≤ sizeLine; decide), k⟩) fun H5 qs2 s5 hu5 cu5 => ?_
      have c1 : CellsL H5 (Geo.upL pt.x pt.y r) qs1 := by
        have e : Geo.upL pt.x pt.y r = (List.range (pt.y - r).toNat).map fun (i : Nat) => (pt.x, pt.y + (i : Int) * (-1)) := by unfold Geo.upL Geo.upN Geo.dn; rw [if_neg hd, if_neg hd]
        rw [e]
        exact cu4.keep (Same.tups s5)
      have c2 : CellsL H5 (Geo.lvL pw pt.x true r) qs2 := by
        have e : Geo.lvL pw pt.x true r = (List.range (pt.x - (0 + -1)).toNat).map fun (i : Nat) => (pt.x + (i : Int) * (-1), r) := by
          unfold Geo.lvL Geo.lvN Geo.wayI
          simp only [if_true, Bool.false_eq_true, if_false]
          rw [show (pt.x + 1).toNat = (pt.x - (0 + -1)).toNat from by omega]
        rw [e]
        exact cu5
      have l1' := c1.len
      have l2' := c2.len
      have b1 : (Geo.upL pt.x pt.y r).length < 17 := by unfold Geo.upL Geo.upN; rw [List.length_map, List.length_range]; split <;> omega
      have b2 : (Geo.lvL pw pt.x true r).length < 33 := by unfold Geo.lvL Geo.lvN; rw [List.length_map, List.length_range]; split <;> omega
      refine ⟨_, rfl, _, rfl, l1, l2, _, _, rfl, rfl, s5 _ _ hu4, hu5, (by rw [List.length_map, List.length_map]; exact Nat.le_of_lt (Nat.lt_trans (by omega : qs1.length + qs2.length < 100) (by decide))), fun p6 hp6 => ?_⟩
      refine q _ p6 (qs1 ++ qs2) (same_upd (((s1.trans s2).trans s3).trans (s4.trans s5)) hp6) (by rw [List.map_append]; exact upd_same) ((c1.append c2).keep (Same.tups (same_upd (Same.refl _) hp6))) (by rw [List.length_append]; omega)
end
end S51
set_option maxRecDepth 100000
set_option maxHeartbeats 4000000
namespace S51
open PySem L2 XL PyProof.Rows
theorem comp_wrap {K : PySem.W.Frag} {σ : L2.St} {fr : List Nat} {te : TE} {l l1 : Addr} {H1 : Hp} {Q : VK} {qs : List Addr} (hl1 : H1 l1 = some (.lst (qs.map V.ref))) (hl : H1 l = none) (hn : qs.length < 1000)
    (hte : ∀ (q : Addr) (H2 : Hp) (R : VK), (∀ p, H2 p = none → R (.ref p) (upd H2 p (.tup [.ref q, .bl true]))) → te ((blk0 σ fr 1).set 0 (some (.ref q))) H2 R)
    (fin : ∀ (H2 : Hp) (ws : List (Addr × V × V)), Same H1 H2 → H2 l = some (.lst (ws.map fun p => .ref p.1)) → ws.map (·.2) = qs.map (fun q => (V.ref q, V.bl true)) → (∀ p ∈ ws, H2 p.1 = some (.tup [p.2.1, p.2.2])) → Q (.ref l) H2) :
    CompG (Itl K l1) 1 (gName 0) σ fr tTrue te l H1 Q := by
  refine compG_by qs.length (fun i xs H2 => ∃ ws : List (Addr × V × V), xs = ws.map (fun p => V.ref p.1) ∧ ws.length ≤ i ∧ Same H1 H2 ∧ H2 l = some (.lst xs) ∧ ws.map (·.2) = (qs.take i).map (fun q => (V.ref q, V.bl true)) ∧ ∀ p ∈ ws, H2 p.1 = some (.tup [p.2.1, p.2.2])) ?_ ?_ ?_ ?_
  · exact ⟨[], rfl, Nat.le_refl _, same_upd (Same.refl _) hl, upd_same, by simp, fun p z => nomatch z⟩
  · rintro i xs H2 lt ⟨ws, _, _, s2, _⟩
    exact ⟨_, .ref qs[i], SqL.of (s2 _ _ hl1), by simp [lt]⟩
  · rintro i xs H2 v H3 lt ⟨ws, rfl, wl, s2, hl2, he, hw⟩ ⟨rfl, hv⟩ N hN
    have hv' := hv _ (SqL.of (s2 _ _ hl1))
    rw [List.getElem?_map] at hv'
    obtain ⟨q, hq, rfl⟩ := Option.map_eq_some_iff.mp hv'
    refine gT_if ?_
    refine hte q _ _ fun p hp => ⟨?_, ?_, hN _ _ ⟨ws ++ [(p, .ref q, .bl true)], by simp, by simp; omega, ?_, upd_same, ?_, ?_⟩⟩
    · rw [upd_ne (ne_of_none hl2 hp)]
      exact hl2
    · rw [List.length_map]
      exact Nat.lt_of_le_of_lt wl (Nat.lt_trans lt (Nat.lt_of_lt_of_le hn (by decide)))
    · intro b u e
      rw [upd_ne (ne_of_none e hl), upd_ne (ne_of_none (s2 _ _ e) hp)]
      exact s2 _ _ e
    · rw [List.take_add_one, hq, List.map_append, he]
      simp
    · intro p' hp'
      rcases List.mem_append.mp hp' with z | z
      · have e := hw p' z
        rw [upd_ne (ne_of e hl2 (fun z => nomatch z)), upd_ne (ne_of_none e hp)]
        exact e
      · have := List.mem_singleton.mp z
        subst this
        rw [upd_ne (Ne.symm (ne_of_none hl2 hp))]
        exact upd_same
  · rintro xs H2 ⟨ws, rfl, _, s2, hl2, he, hw⟩
    rw [List.take_length] at he
    exact ⟨⟨_, SqL.of (s2 _ _ hl1), by simp⟩, fin H2 ws s2 hl2 he hw⟩
abbrev ck (c : Int × Int) : List Key := [.inl c.1, .inl c.2]
theorem ck_inj {c d : Int × Int} (h : ck c = ck d) : c = d := by
  obtain ⟨a, b⟩ := c
  obtain ⟨a', b'⟩ := d
  simp only [ck, List.cons.injEq, Sum.inl.injEq, and_true] at h
  rw [h.1, h.2]
theorem dputs_cells {d : Addr} {H : Hp} {cs : List (Int × Int)} {qs : List Addr} (cl : CellsL H cs qs) (hd : H d = none) : ∀ (kvs0 : List (List Key × V)), kvs0.length + cs.length < 1000 →
    ∃ kvs, DPuts d (upd H d (.dT kvs0)) (qs.map fun q => (V.ref q, V.bl true)) (upd H d (.dT kvs)) ∧ ∀ c : Int × Int, (valV kvs (ck c)).isSome = true ↔ c ∈ cs ∨ (valV kvs0 (ck c)).isSome = true := by
  induction cl with
  | nil => exact fun kvs0 _ => ⟨kvs0, .nil, fun c => by simp⟩
  | @cons c q cs qs h _ ih =>
    intro kvs0 hl
    have hq : upd H d (.dT kvs0) q = some (.tup ((ck c).map kV)) := by
      rw [upd_ne (ne_of_none h hd)]
      exact h
    have hp := DPut.t (k := ck c) (v := .bl true) (upd_same (H := H) (a := d) (o := .dT kvs0)) hq (Nat.lt_trans (by simp at hl; omega : kvs0.length < 1000) (by decide))
    rw [upd_upd] at hp
    have l2 := length_putK kvs0 (ck c) (.bl true)
    obtain ⟨kvs, dp, mem⟩ := ih (putK kvs0 (ck c) (.bl true)) (by simp at hl; omega)
    refine ⟨kvs, .cons hp dp, fun c' => ?_⟩
    rw [mem c', valV_put]
    by_cases e : ck c' = ck c
    · have := ck_inj e
      subst this
      simp
    · have ne : c' ≠ c := fun z => e (by rw [z])
      rw [if_neg e]
      simp [ne]
def MeetV (H : Hp) (o : Option (Int × Int)) (v : V) : Prop := (o = none ∧ v = .non) ∨ ∃ c q, o = some c ∧ v = .ref q ∧ H q = some (.tup [.int c.1, .int c.2])
def spMeet (t : Adr) : Sp := fun vs H Q _ => ∃ (a dp do_ : Addr) (pw ph : Int) (ps : List Pt) (o1 o2 : Addr) (n1 n2 : Str) (p1 p2 : Pt) (b1 b2 : Bool) (r1 r2 : Int), vs = [.ref a, .ref o1, .ref o2] ∧ Pic t H a dp do_ pw ph ps ∧
  H o1 = some (.tup [.str n1, .str (sideW b1), .int r1]) ∧ H o2 = some (.tup [.str n2, .str (sideW b2), .int r2]) ∧
  (isNm n1 = true ∧ ps.find? (fun p => decide (p.nm = n1)) = some p1 ∧ 1 ≤ r1 ∧ r1 ≤ ph ∧ (1 ≤ p1.x ∧ p1.x ≤ pw ∧ 1 ≤ p1.y ∧ p1.y ≤ ph)) ∧
  (isNm n2 = true ∧ ps.find? (fun p => decide (p.nm = n2)) = some p2 ∧ 1 ≤ r2 ∧ r2 ≤ ph ∧ (1 ≤ p2.x ∧ p2.x ≤ pw ∧ 1 ≤ p2.y ∧ p2.y ≤ ph)) ∧
  ∀ H' v, Same H H' → MeetV H' (Geo.meet (Geo.cells pw p1.x p1.y b1 r1) (Geo.cells pw p2.x p2.y b2 r2)) v → Q v H'
section
variable {P : Program} {w : World} {K : PySem.W.Frag} {mg : Str → Option Value} {base : Heap} {t : Adr}
theorem ok_meeting (T : Txt w K mg t) : FnOk true P w K mg base (CXo P w) 7 t.f_meeting t.d_meeting ["picture", "one", "other"] (spMeet t) := by
  refine T.F_meeting.okn (k := 6) sc_meeting (fun vs H Q E h => ?_) (fun cdv A outer s H vs Q E hr h => ?_)
  · obtain ⟨a, dp, do_, pw, ph, ps, o1, o2, n1, n2, p1, p2, b1, b2, r1, r2, rfl, _⟩ := h
    rfl
  · obtain ⟨a, dp, do_, pw, ph, ps, o1, o2, n1, n2, p1, p2, b1, b2, r1, r2, rfl, h⟩ := h
    refine ⟨_, pss_cons (ps_asg (pv 2) (pg_tup rfl (pgs_cons (pg_name (i := 3) sc_meeting.nd rfl (Or.inl rfl)) (pgs_cons (pg_name (i := 4) sc_meeting.nd rfl (Or.inl rfl)) (pgs_cons (pg_name (i := 5) sc_meeting.nd rfl (Or.inl rfl)) (pgs_nil))))))
      (pss_cons (ps_set (i := 6) sc_meeting.nd rfl (Or.inl rfl) (pe_callTy (call_dictOf rfl (hu3_of hr)) rfl T.n_dict boot_dict (pa_cons (pe_compG rfl (blkG_of (zs := ["cell"]) (ys := []) (fr := []) (N0 := ["picture", "one", "other", "name", "side", "row", "theirs", "cell"]) (sc0 := defScope s_meeting) (by decide +kernel) rfl rfl rfl) (pi_list (pe_call (ok_cells_of T) (hr.mono (by decide)) rfl T.g_cells_of T.F_cells_of.kp T.b_cells_of .nil pass_none (pa_cons (pv 0) (pa_cons (pv 3) (pa_cons (pv 4) (pa_cons (pv 5) (pa_nil))))))) (fun _ _ _ _ _ ow nd => pg_name (i := 0) nd rfl (Or.inl (ow _ (by simp))) (Or.inr (ow _ (by simp)))) (gok_name (by decide)) (fun _ _ _ _ _ => pif_nil) (fun _ _ _ _ _ => pe_tup (pa_cons (pv 0) (pa_cons (pe_bl) (pa_nil))))) (pa_nil))))
      (pss_cons (ps_asg (pv 1) (pg_tup rfl (pgs_cons (pg_name (i := 3) sc_meeting.nd rfl (Or.inl rfl)) (pgs_cons (pg_name (i := 4) sc_meeting.nd rfl (Or.inl rfl)) (pgs_cons (pg_name (i := 5) sc_meeting.nd rfl (Or.inl rfl)) (pgs_nil))))))
      (pss_cons (ps_for PassesOwn.never rfl (pi_list (pe_call (ok_cells_of T) (hr.mono (by decide)) rfl T.g_cells_of T.F_cells_of.kp T.b_cells_of .nil pass_none (pa_cons (pv 0) (pa_cons (pv 3) (pa_cons (pv 4) (pa_cons (pv 5) (pa_nil))))))) (pg_name (i := 7) sc_meeting.nd rfl (Or.inl rfl)) (pss_one (ps_if (pt_cmp (pc_din (hu_of hr) (pv 7) (pv 6))) (pss_one (ps_ret (pv 7))) (pss_nil))))
      (pss_one (ps_ret (pe_non)))))), ?_⟩
    obtain ⟨pic, ho1, ho2, ⟨m1, f1, u1, v1, g1⟩, ⟨m2, f2, u2, v2, g2⟩, q⟩ := h
    refine ⟨_, rfl, o2, _, rfl, SqT.of ho2, rfl, _, _, rfl, _, _, rfl, _, _, rfl, rfl, ?_⟩
    refine ⟨_, rfl, _, rfl, _, rfl, _, rfl, a, dp, do_, pw, ph, ps, n2, p2, b2, r2, rfl, pic, m2, f2, u2, v2, g2, fun H1 l1 qs s1 hl1 cl1 ql1 => ⟨l1, rfl, ⟨_, SqL.of hl1⟩, fun l hl => ?_⟩⟩
    refine comp_wrap hl1 hl (by omega) (fun q H2 R k => ⟨_, rfl, (by show 2 ≤ sizeLine; decide), k⟩) fun H2 ws s2 hl2 he hw => ?_
    refine ⟨l, ws, rfl, hl2, hw, fun d hd => ?_⟩
    obtain ⟨kvs, dps, mem⟩ := dputs_cells (cl1.keep (Same.tups s2)) hd [] (by have := cl1.len; simp; omega)
    refine ⟨.dT [], _, .inr rfl, (by rw [he]; exact dps), ?_⟩
    have s3 : Same H (upd H2 d (.dT kvs)) := same_upd (s1.trans s2) hd
    refine ⟨_, rfl, o1, _, rfl, SqT.of (s3 _ _ ho1), rfl, _, _, rfl, _, _, rfl, _, _, rfl, rfl, ?_⟩
    refine ⟨_, rfl, _, rfl, _, rfl, _, rfl, a, dp, do_, pw, ph, ps, n1, p1, b1, r1, rfl, Pic.same s3 pic, m1, f1, u1, v1, g1, fun H4 l4 qs4 s4 hl4 cl4 ql4 => ⟨l4, rfl, ⟨_, SqL.of hl4⟩, ?_⟩⟩
    have hd4 : H4 d = some (.dT kvs) := s4 _ _ upd_same
    refine for_list (xs := qs4.map V.ref) (Pv := fun i σ H5 => ∃ v7 : Option V, σ = [some (.ref a), some (.ref o1), some (.ref o2), some (.str n1), some (.str (sideW b1)), some (.int r1), some (.ref d), v7] ∧ H4 = H5 ∧
      ∀ c ∈ (Geo.cells pw p1.x p1.y b1 r1).take i, c ∉ Geo.cells pw p2.x p2.y b2 r2) ⟨_, rfl, rfl, by simp⟩ (fun _ _ _ _ ⟨_, _, z, _⟩ => by rw [← z]; exact SqL.of hl4) ?_ ?_
    · rintro i v σ _ hv ⟨v7, rfl, rfl, no⟩
      rw [List.getElem?_map] at hv
      obtain ⟨q7, hq7, rfl⟩ := Option.map_eq_some_iff.mp hv
      obtain ⟨c, hc, hcq⟩ := cl4.get hq7
      have mm := mem c
      refine ⟨_, rfl, _, rfl, d, _, rfl, DGet.t (k := ck c) hd4 hcq, _, rfl, ite2 (fun z => ?_) (fun z => ?_)⟩
      · have hm : c ∈ Geo.cells pw p2.x p2.y b2 r2 := by
          rcases mm.mp z with y | y
          · exact y
          · simp [valV] at y
        exact ⟨_, rfl, q _ _ (s3.trans s4) (.inr ⟨c, q7, Geo.meet_at hc no hm, rfl, hcq⟩)⟩
      · refine ⟨_, rfl, rfl, fun c' hc' => ?_⟩
        rw [List.take_add_one, hc] at hc'
        rcases List.mem_append.mp hc' with y | y
        · exact no c' y
        · have : c' = c := by simpa using y
          subst this
          exact fun y => z (mm.mpr (.inl y))
    · rintro σ _ ⟨v7, rfl, rfl, no⟩
      rw [List.length_map, cl4.len, List.take_length] at no
      exact q _ _ (s3.trans s4) (.inl ⟨Geo.meet_no no, rfl⟩)
end
end S51
set_option maxRecDepth 100000
set_option maxHeartbeats 4000000
namespace S51
open PySem L2 XL PyProof.Rows
theorem lkO {w h : Int} {dp do_ : Addr} : (picF w h dp do_).lookup ("opened" : Str) = some (.ref do_) := by
  unfold picF
  rw [List.lookup_cons, show (("opened" : Str) == "width") = false from by decide +kernel]
  show List.lookup ("opened" : Str) [("height", V.int h), ("placed", V.ref dp), ("opened", V.ref do_)] = _
  rw [List.lookup_cons, show (("opened" : Str) == "height") = false from by decide +kernel]
  show List.lookup ("opened" : Str) [("placed", V.ref dp), ("opened", V.ref do_)] = _
  rw [List.lookup_cons, show (("opened" : Str) == "placed") = false from by decide +kernel]
  show List.lookup ("opened" : Str) [("opened", V.ref do_)] = _
  rw [List.lookup_cons, show (("opened" : Str) == "opened") = true from by decide +kernel]
abbrev Seat := Bool × Int
def seatK (s : Seat) : List Key := [.inr (sideW s.1), .inl s.2]
def seatV (s : Seat) : List V := [.str (sideW s.1), .int s.2]
theorem sideW_inj {a b : Bool} (h : sideW a = sideW b) : a = b := by
  cases a <;> cases b <;> first | rfl | exact absurd h (by decide +kernel)
theorem seatK_inj {s t : Seat} (h : seatK s = seatK t) : s = t := by
  simp only [seatK, List.cons.injEq, Sum.inr.injEq, Sum.inl.injEq] at h
  exact Prod.ext (sideW_inj h.1) h.2.1
def Sts (H : Hp) (do_ : Addr) (ss : List Seat) : Prop := ∃ kvs : List (List Key × V), H do_ = some (.dT kvs) ∧ kvs.map (·.1) = ss.map seatK ∧ ss.Nodup ∧ ss.length ≤ 32
theorem Sts.same {H H' : Hp} {do_ : Addr} {ss : List Seat} (s : Same H H') (h : Sts H do_ ss) : Sts H' do_ ss := let ⟨k, e, r⟩ := h; ⟨k, s _ _ e, r⟩
theorem val_no {kvs : List (List Key × V)} {ss : List Seat} (e : kvs.map (·.1) = ss.map seatK) {s : Seat} (h : s ∉ ss) : valV kvs (seatK s) = none := by
  cases z : valV kvs (seatK s) with
  | none => rfl
  | some v =>
    obtain ⟨i, hi⟩ := valV_ix z
    have m : seatK s ∈ kvs.map (·.1) := List.mem_map.mpr ⟨_, List.mem_of_getElem? hi, rfl⟩
    rw [e] at m
    obtain ⟨t, ht, et⟩ := List.mem_map.mp m
    exact absurd ht (by rw [seatK_inj et]; exact h)
theorem val_yes {kvs : List (List Key × V)} {ss : List Seat} (e : kvs.map (·.1) = ss.map seatK) {s : Seat} (h : s ∈ ss) : ∃ v, valV kvs (seatK s) = some v := by
  cases z : valV kvs (seatK s) with
  | some v => exact ⟨v, rfl⟩
  | none =>
    have m : seatK s ∈ kvs.map (·.1) := by rw [e]; exact List.mem_map.mpr ⟨s, h, rfl⟩
    obtain ⟨p, hp, ep⟩ := List.mem_map.mp m
    have a := valV_any (seatK s) kvs
    rw [z] at a
    have : (kvs.any fun kv => decide (kv.1 = seatK s)) = true := List.any_eq_true.mpr ⟨p, hp, by simpa using ep⟩
    rw [this] at a
    cases a
inductive SeatsL (H : Hp) : List Seat → List Addr → Prop
  | nil : SeatsL H [] []
  | cons {s : Seat} {q : Addr} {ss : List Seat} {qs : List Addr} (h : H q = some (.tup (seatV s))) (r : SeatsL H ss qs) : SeatsL H (s :: ss) (q :: qs)
theorem SeatsL.keep {H H' : Hp} (k : Tups H H') {ss : List Seat} {qs : List Addr} (h : SeatsL H ss qs) : SeatsL H' ss qs := by
  induction h with
  | nil => exact .nil
  | cons h _ ih => exact .cons (k _ _ h) ih
theorem SeatsL.len {H : Hp} {ss : List Seat} {qs : List Addr} (h : SeatsL H ss qs) : qs.length = ss.length := by
  induction h with
  | nil => rfl
  | cons _ _ ih => simp [ih]
def spOpen (t : Adr) : Sp := fun vs H Q _ => ∃ (a dp do_ : Addr) (pw ph : Int) (ps : List Pt) (ss : List Seat) (b : Bool) (r : Int), vs = [.ref a, .str (sideW b), .int r] ∧ Pic t H a dp do_ pw ph ps ∧ Sts H do_ ss ∧ 1 ≤ r ∧ r ≤ ph ∧ (b, r) ∉ ss ∧ ss.length < 32 ∧
  ∀ H', (∀ c u, c ≠ do_ → H c = some u → H' c = some u) → Pic t H' a dp do_ pw ph ps → Sts H' do_ (ss ++ [(b, r)]) → Q .non H'
theorem Pic.but {t : Adr} {H H' : Hp} {a dp do_ : Addr} {w h : Int} {ps : List Pt} {kvs : List (List Key × V)} (e : H do_ = some (.dT kvs)) (s : ∀ c u, c ≠ do_ → H c = some u → H' c = some u) (p : Pic t H a dp do_ w h ps) : Pic t H' a dp do_ w h ps :=
  ⟨let ⟨dx, x⟩ := p.ins; ⟨dx, s _ _ (ne_of x e (fun z => nomatch z)) x⟩, let ⟨k, x, q⟩ := p.pl; ⟨k, s _ _ (ne_of x e (fun z => nomatch z)) x, q.keep fun b xs x => s _ _ (ne_of x e (fun z => nomatch z)) x⟩, p.w1, p.w2, p.h1, p.h2, p.len⟩
section
variable {P : Program} {w : World} {K : PySem.W.Frag} {mg : Str → Option Value} {base : Heap} {t : Adr}
theorem ok_Picture_open_seat (T : Txt w K mg t) : FnOk true P w K mg base (CXo P w) 5 t.f_Picture_open_seat t.d_Picture_open_seat ["self", "side", "row"] (spOpen t) := by
  refine T.F_Picture_open_seat.okn (k := 4) sc_Picture_open_seat (fun vs H Q E h => ?_) (fun cdv A outer s H vs Q E hr h => ?_)
  · obtain ⟨a, dp, do_, pw, ph, ps, ss, b, r, rfl, _⟩ := h
    rfl
  · obtain ⟨a, dp, do_, pw, ph, ps, ss, b, r, rfl, h⟩ := h
    refine ⟨_, pss_cons (ps_expr (pe_meth (pv 0) T.c_Picture T.m_Picture_check_seat (ok_Picture_check_seat T) (hr.mono (by decide)) T.b_Picture_check_seat .nil pass_none (pa_cons (pv 1) (pa_cons (pv 2) (pa_nil)))))
      (pss_cons (ps_if (pt_cmp (pc_din (hu_of hr) (pe_tup (pa_cons (pv 1) (pa_cons (pv 2) (pa_nil)))) (pe_fld (pv 0) rfl))) (pss_one (ps_never)) (pss_nil))
      (pss_one (ps_dput (hu_of hr) (pe_fld (pv 0) rfl) (pe_tup (pa_cons (pv 1) (pa_cons (pv 2) (pa_nil)))) (pe_bl) rfl))), ?_⟩
    obtain ⟨pic, st, r1, r2, no, len, q⟩ := h
    obtain ⟨⟨dx, hp⟩, _, _⟩ := id pic
    obtain ⟨kvs, hk, ek, nd, l32⟩ := id st
    refine ⟨_, rfl, a, dx, _, rfl, hp, lk_no (by decide +kernel), _, rfl, _, rfl, a, dp, do_, pw, ph, ps, b, r, rfl, pic, r1, r2, fun H1 s1 => ?_⟩
    refine ⟨_, rfl, _, rfl, (by show 2 ≤ sizeLine; decide), fun q1 hq1 => ?_⟩
    have s2 : Same H1 (upd H1 q1 (.tup [.str (sideW b), .int r])) := same_upd (Same.refl _) hq1
    have g2 : upd H1 q1 (.tup [.str (sideW b), .int r]) q1 = some (.tup [.str (sideW b), .int r]) := upd_same
    revert s2 g2
    generalize upd H1 q1 (.tup [.str (sideW b), .int r]) = H2
    intro s2 g2
    have hk2 := s2 _ _ (s1 _ _ hk)
    have hp2 := s2 _ _ (s1 _ _ hp)
    have n0 : valV kvs (seatK (b, r)) = none := val_no ek no
    refine ⟨_, rfl, a, _, dx, _, _, rfl, hp2, T.c_Picture, T.n_Picture_opened, lkO, do_, none, rfl, (by rw [← n0]; exact DGet.t (k := seatK (b, r)) hk2 g2), false, rfl, iteF ?_⟩
    refine ⟨_, rfl, a, _, dx, _, _, rfl, hp2, T.c_Picture, T.n_Picture_opened, lkO, _, rfl, _, rfl, (by show 2 ≤ sizeLine; decide), fun q3 hq3 => ?_⟩
    have s3 : Same H2 (upd H2 q3 (.tup [.str (sideW b), .int r])) := same_upd (Same.refl _) hq3
    have g3 : upd H2 q3 (.tup [.str (sideW b), .int r]) q3 = some (.tup [.str (sideW b), .int r]) := upd_same
    revert s3 g3
    generalize upd H2 q3 (.tup [.str (sideW b), .int r]) = H3
    intro s3 g3
    have kl : kvs.length = ss.length := by
      have := congrArg List.length ek
      simpa using this
    refine ⟨do_, _, rfl, DPut.t (k := seatK (b, r)) (s3 _ _ hk2) g3 (Nat.lt_trans (by omega : kvs.length < 33) (by decide)), ?_⟩
    have bt : ∀ c u, c ≠ do_ → H c = some u → upd H3 do_ (.dT (putK kvs (seatK (b, r)) (.bl true))) c = some u := fun c u nc e => by
      rw [upd_ne nc]
      exact s3 _ _ (s2 _ _ (s1 _ _ e))
    refine q _ bt (Pic.but hk bt pic) ⟨_, upd_same, ?_, ?_, ?_⟩
    · rw [putK_new _ n0, List.map_append, List.map_append, ek]
      rfl
    · rw [List.nodup_append]
      exact ⟨nd, by simp, fun x hx y hy => by rw [List.mem_singleton.mp hy]; exact fun e => no (e ▸ hx)⟩
    · rw [List.length_append]
      show ss.length + 1 ≤ 32
      omega
end
end S51
set_option maxRecDepth 100000
set_option maxHeartbeats 4000000
namespace S51
open PySem L2 XL PyProof.Rows
structure PtOk (w h : Int) (p : Pt) : Prop where
  nm : isNm p.nm = true
  x1 : 1 ≤ p.x
  x2 : p.x ≤ w
  y1 : 1 ≤ p.y
  y2 : p.y ≤ h
  sd : p.sd = "left" ∨ p.sd = "right" ∨ p.sd = "both"
  l1 : 1 ≤ p.lo
  l2 : p.lo ≤ p.hi
  l3 : p.hi ≤ h
structure PtsOk (w h : Int) (ps : List Pt) : Prop where
  ok : ∀ p ∈ ps, PtOk w h p
  nn : (ps.map (·.nm)).Nodup
  nx : (ps.map (·.x)).Nodup
  ny : (ps.map (·.y)).Nodup
  le : ps.length ≤ 12
theorem dv_two {K : PySem.W.Frag} {H : Hp} {q : Addr} {a b : Int} (h : H q = some (.tup [.int a, .int b])) : Dv K H 1 (.ref q) (.tup [.int a, .int b]) := by
  refine .tup (SqT.of h) rfl fun j x d h1 h2 => ?_
  match j, h1, h2 with
  | 0, h1, h2 => cases h1; cases h2; exact .int
  | 1, h1, h2 => cases h1; cases h2; exact .int
  | j + 2, h1, h2 => simp at h1
section
variable {P : Program} {w : World} {K : PySem.W.Frag} {mg : Str → Option Value} {base : Heap} {t : Adr}
end
end S51
set_option maxRecDepth 100000
set_option maxHeartbeats 4000000
namespace S51
open PySem L2 XL PyProof.Rows
def SsOk (h : Int) (ss : List Seat) : Prop := ss.Nodup ∧ ss.length ≤ 32 ∧ ∀ s ∈ ss, 1 ≤ s.2 ∧ s.2 ≤ h
theorem SeatsL.get {H : Hp} {ss : List Seat} {qs : List Addr} (h : SeatsL H ss qs) {i : Nat} {q : Addr} (e : qs[i]? = some q) : ∃ s, ss[i]? = some s ∧ H q = some (.tup (seatV s)) := by
  induction h generalizing i with
  | nil => simp at e
  | @cons s q' ss qs h _ ih =>
    cases i with
    | zero =>
      simp at e
      subst e
      exact ⟨s, rfl, h⟩
    | succ j => exact ih (by simpa using e)
theorem SeatsL.snoc {H : Hp} {ss : List Seat} {qs : List Addr} (h : SeatsL H ss qs) {s : Seat} {q : Addr} (e : H q = some (.tup (seatV s))) : SeatsL H (ss ++ [s]) (qs ++ [q]) := by
  induction h with
  | nil => exact .cons e .nil
  | cons h _ ih => exact .cons h ih
def seatD (s : Seat) : DV := .tup [.str (sideW s.1), .int s.2]
theorem seatD_inj {s t : Seat} : seatD s = seatD t ↔ s = t := by
  constructor
  · intro h
    unfold seatD at h
    simp only [DV.tup.injEq, List.cons.injEq, DV.str.injEq, DV.int.injEq, and_true] at h
    exact Prod.ext (sideW_inj h.1) h.2
  · intro h
    rw [h]
theorem dEq_seat (s t : Seat) : dEq (seatD s) (seatD t) = decide (s = t) := dEq_dec rfl rfl seatD_inj
theorem any_seat (ss : List Seat) (s : Seat) : (ss.map seatD).any (fun z => dEq z (seatD s)) = decide (s ∈ ss) := by
  rw [Bool.eq_iff_iff, List.any_eq_true, decide_eq_true_iff]
  constructor
  · rintro ⟨z, hz, e⟩
    obtain ⟨t, ht, rfl⟩ := List.mem_map.mp hz
    rw [dEq_seat, decide_eq_true_iff] at e
    exact e ▸ ht
  · intro h
    exact ⟨_, List.mem_map.mpr ⟨s, h, rfl⟩, dEq_refl _⟩
theorem dv_seat {K : PySem.W.Frag} {H : Hp} {q : Addr} {s : Seat} (h : H q = some (.tup (seatV s))) : Dv K H 1 (.ref q) (seatD s) := by
  refine .tup (SqT.of h) rfl fun j x d h1 h2 => ?_
  match j, h1, h2 with
  | 0, h1, h2 => cases h1; cases h2; exact .str
  | 1, h1, h2 => cases h1; cases h2; exact .int
  | j + 2, h1, h2 => simp [seatV] at h1
theorem SeatsL.dv {K : PySem.W.Frag} {H : Hp} {ss : List Seat} {qs : List Addr} (h : SeatsL H ss qs) {l : Addr} (e : H l = some (.lst (qs.map V.ref))) : Dv K H 2 (.ref l) (.lst (ss.map seatD)) := by
  refine .lst (SqL.of e) (by rw [List.length_map, List.length_map, h.len]) fun j x d h1 h2 => ?_
  rw [List.getElem?_map] at h1 h2
  obtain ⟨q, hq, rfl⟩ := Option.map_eq_some_iff.mp h1
  obtain ⟨p, hp, rfl⟩ := Option.map_eq_some_iff.mp h2
  obtain ⟨p', hp', e'⟩ := h.get hq
  rw [hp] at hp'
  cases hp'
  exact dv_seat e'
theorem SeatsL.pick {H : Hp} : ∀ {ss : List Seat} {ys : List V}, ys.length = ss.length → (∀ (j : Nat) (y : V) (s : Seat), ys[j]? = some y → ss[j]? = some s → ∃ q, y = .ref q ∧ H q = some (.tup (seatV s))) → ∃ rs : List Addr, ys = rs.map V.ref ∧ SeatsL H ss rs
  | [], [], _, _ => ⟨[], rfl, .nil⟩
  | [], _ :: _, h, _ => by cases h
  | _ :: _, [], h, _ => by cases h
  | s :: ss, y :: ys, h, k => by
    obtain ⟨q, e, hq⟩ := k 0 y s rfl rfl
    obtain ⟨rs, e2, r⟩ := SeatsL.pick (ss := ss) (ys := ys) (by simpa using h) fun j y s h1 h2 => k (j + 1) y s (by simpa using h1) (by simpa using h2)
    exact ⟨q :: rs, by rw [e, e2]; rfl, .cons hq r⟩
section
variable {P : Program} {w : World} {K : PySem.W.Frag} {mg : Str → Option Value} {base : Heap} {t : Adr}
end
end S51
set_option maxRecDepth 100000
set_option maxHeartbeats 4000000
namespace S51
open PySem L2 XL PyProof.Rows
def wantB (p : Pt) (s : Seat) : Bool := (decide (p.sd = "both") || decide (p.sd = sideW s.1)) && (decide (p.lo ≤ s.2) && decide (s.2 ≤ p.hi))
theorem inV_sd (sd w : Str) : inV (.str sd) [.str "both", .str w] = (decide (sd = "both") || decide (sd = w)) := by
  have e : ∀ a b : Str, (a == b) = decide (b = a) := fun a b => by
    rw [Bool.eq_iff_iff, beq_iff_eq, decide_eq_true_iff]
    exact eq_comm
  show ((("both" : Str) == sd) || ((w == sd) || false)) = _
  rw [Bool.or_false, e, e]
def spMay8 (t : Adr) : Sp := fun vs H Q _ => ∃ (a dp do_ : Addr) (pw ph : Int) (ps : List Pt) (ss : List Seat) (pt : Pt) (b : Bool) (i : Int), vs = [.ref a, .str pt.nm, .str (sideW b), .int i] ∧ Pic t H a dp do_ pw ph ps ∧ Sts H do_ ss ∧ isNm pt.nm = true ∧ ps.find? (fun p => decide (p.nm = pt.nm)) = some pt ∧ 1 ≤ i ∧ i ≤ ph ∧ ∀ H', Same H H' → Q (.bl (decide ((b, i) ∈ ss) && wantB pt (b, i))) H'
section
variable {P : Program} {w : World} {K : PySem.W.Frag} {mg : Str → Option Value} {base : Heap} {t : Adr}
theorem ok_Picture_may (T : Txt w K mg t) : FnOk true P w K mg base (CXo P w) 5 t.f_Picture_may t.d_Picture_may ["self", "name", "side", "row"] (spMay8 t) := by
  refine T.F_Picture_may.okn (k := 4) sc_Picture_may (fun vs H Q E h => ?_) (fun cdv A outer s H vs Q E hr h => ?_)
  · obtain ⟨a, dp, do_, pw, ph, ps, ss, pt, b, i, rfl, _⟩ := h
    rfl
  · obtain ⟨a, dp, do_, pw, ph, ps, ss, pt, b, i, rfl, h⟩ := h
    refine ⟨_, pss_cons (ps_expr (pe_meth (pv 0) T.c_Picture T.m_Picture_check_name (ok_Picture_check_name T) (hr.mono (by decide)) T.b_Picture_check_name .nil pass_none (pa_cons (pv 1) (pa_nil))))
      (pss_cons (ps_expr (pe_meth (pv 0) T.c_Picture T.m_Picture_check_seat (ok_Picture_check_seat T) (hr.mono (by decide)) T.b_Picture_check_seat .nil pass_none (pa_cons (pv 2) (pa_cons (pv 3) (pa_nil)))))
      (pss_cons (ps_asg (pe_dget (hu_of hr) (pe_fld (pv 0) rfl) (pv 1) (fun _ _ => rfl)) (pg_tup rfl (pgs_cons (pg_name (i := 4) sc_Picture_may.nd rfl (Or.inl rfl)) (pgs_cons (pg_name (i := 5) sc_Picture_may.nd rfl (Or.inl rfl)) (pgs_cons (pg_name (i := 6) sc_Picture_may.nd rfl (Or.inl rfl)) (pgs_cons (pg_name (i := 7) sc_Picture_may.nd rfl (Or.inl rfl)) (pgs_cons (pg_name (i := 8) sc_Picture_may.nd rfl (Or.inl rfl)) (pgs_nil))))))))
      (pss_one (ps_ret (pe_and (pe_cmp (pc_din (hu_of hr) (pe_tup (pa_cons (pv 2) (pa_cons (pv 3) (pa_nil)))) (pe_fld (pv 0) rfl))) (pe_and (pe_cmpR op_in_seq (pv 6) (pe_tup (pa_cons (pe_str) (pa_cons (pv 2) (pa_nil)))) (by rfl)) (pe_one (pe_chain op_le op_le (pv 7) (pv 3) (pv 8))))))))), ?_⟩
    obtain ⟨pic, st, hn, hf, i1, i2, q⟩ := h
    obtain ⟨⟨dx0, hp⟩, ⟨kvs, hk, pl⟩, _⟩ := id pic
    refine ⟨_, rfl, a, dx0, _, rfl, hp, lk_no (by decide +kernel), _, rfl, a, dp, do_, pw, ph, ps, pt.nm, pt, rfl, pic, hn, hf, ?_⟩
    refine ⟨_, rfl, a, dx0, _, rfl, hp, lk_no (by decide +kernel), _, rfl, _, rfl, a, dp, do_, pw, ph, ps, b, i, rfl, pic, i1, i2, fun H1 s1 => ?_⟩
    obtain ⟨q0, e0, hq0⟩ := pl.find hf
    have hp1 := s1 _ _ hp
    have hk1 := s1 _ _ hk
    refine ⟨_, rfl, a, _, _, _, _, rfl, hp1, T.c_Picture, T.n_Picture_placed, lkP, _, rfl, dp, .ref q0, rfl, (by rw [← e0]; exact DGet.k (k := .inr pt.nm) hk1), q0, _, rfl, SqT.of (s1 _ _ hq0), rfl, _, _, rfl, _, _, rfl, _, _, rfl, _, _, rfl, _, _, rfl, rfl, ?_⟩
    refine ⟨_, rfl, _, rfl, (by show 2 ≤ sizeLine; decide), fun q1 hq1 => ?_⟩
    have s2 : Same H1 (upd H1 q1 (.tup [.str (sideW b), .int i])) := same_upd (Same.refl _) hq1
    have g2 : upd H1 q1 (.tup [.str (sideW b), .int i]) q1 = some (.tup [.str (sideW b), .int i]) := upd_same
    revert s2 g2
    generalize upd H1 q1 (.tup [.str (sideW b), .int i]) = H2
    intro s2 g2
    have hp2 := s2 _ _ hp1
    have s02 := s1.trans s2
    obtain ⟨ko, hko, ek, nd, l32⟩ := id st
    have hko2 := s02 _ _ hko
    have qq := q
    by_cases cin : (b, i) ∈ ss
    · obtain ⟨v, hv⟩ := val_yes ek cin
      refine ⟨_, rfl, a, _, _, _, _, rfl, hp2, T.c_Picture, T.n_Picture_opened, lkO, do_, some v, rfl, (by rw [← hv]; exact DGet.t (k := seatK (b, i)) hko2 g2), true, rfl, iteT ?_⟩
      refine ⟨_, rfl, _, rfl, (by show 2 ≤ sizeLine; decide), fun q3 hq3 => ?_⟩
      have s3 : Same H2 (upd H2 q3 (.tup [.str "both", .str (sideW b)])) := same_upd (Same.refl _) hq3
      have g3 : upd H2 q3 (.tup [.str "both", .str (sideW b)]) q3 = some (.tup [.str "both", .str (sideW b)]) := upd_same
      revert s3 g3
      generalize upd H2 q3 (.tup [.str "both", .str (sideW b)]) = H3
      intro s3 g3
      have z := qq H3 (s02.trans s3)
      rw [decide_eq_true cin, Bool.true_and] at z
      unfold wantB at z
      refine ⟨q3, _, rfl, .inr (SqT.of g3), rfl, rfl, _, rfl, ite2 (fun c => ?_) (fun c => ?_)⟩
      · rw [if_neg (by decide), inV_sd] at c
        dsimp only at z
        rw [c, Bool.true_and] at z
        refine ⟨_, rfl, _, rfl, _, _, rfl, rfl, _, rfl, ite2 (fun c2 => ?_) (fun c2 => ?_)⟩
        · rw [c2, Bool.true_and] at z
          exact ⟨_, rfl, _, _, rfl, rfl, z⟩
        · rw [Bool.eq_false_iff.mpr c2, Bool.false_and] at z
          exact z
      · rw [if_neg (by decide), inV_sd] at c
        dsimp only at z
        rw [Bool.eq_false_iff.mpr c, Bool.false_and] at z
        exact z
    · have n0 : valV ko (seatK (b, i)) = none := val_no ek cin
      have z := qq H2 s02
      rw [decide_eq_false cin, Bool.false_and] at z
      exact ⟨_, rfl, a, _, _, _, _, rfl, hp2, T.c_Picture, T.n_Picture_opened, lkO, do_, none, rfl, (by rw [← n0]; exact DGet.t (k := seatK (b, i)) hko2 g2), false, rfl, iteF z⟩
end
end S51
set_option maxRecDepth 100000
set_option maxHeartbeats 4000000
namespace S51
open PySem L2 XL PyProof.Rows
theorem cm_mod {x d : Int} (h : 0 < d) (h2 : d ≤ 4294967296) : -(2 ^ 64) < x % d ∧ x % d < 2 ^ 64 := by
  have a := Int.emod_nonneg x (show d ≠ 0 by omega)
  have b := Int.emod_lt_of_pos x h
  exact ⟨by omega, by omega⟩
theorem mod_in (x : Int) {d : Int} (h : 0 < d) : 0 ≤ x % d ∧ x % d < d := ⟨Int.emod_nonneg _ (by omega), Int.emod_lt_of_pos _ h⟩
def spCell (K : PySem.W.Frag) : Sp := fun vs H Q _ => ∃ (a : Addr) (ns : List Int) (k : Int), vs = [.ref a, .int k] ∧ SqL K H a (ns.map V.int) ∧ 0 ≤ k ∧ k < 2 ^ 62 ∧ ∀ c : Int, Q (.int c) H
def abc : Str := "abcdefghijklmnopqrstuvwxyz"
theorem abc_cps : abc.cps.toList = (List.range 26).map (97 + ·) := by decide +kernel
def ltr (i : Int) : Str := ⟨#[97 + i.toNat]⟩
theorem abc_ltr {i : Int} (h0 : 0 ≤ i) (h1 : i < 26) : atI abc.cps.toList i = some (97 + i.toNat) := by
  obtain ⟨j, rfl⟩ := Int.eq_ofNat_of_zero_le h0
  have lt : j < 26 := by omega
  refine atI_nat ?_
  rw [abc_cps, List.getElem?_map, List.getElem?_range lt]
  rfl
theorem ltr_inj {i j : Int} (hi : 0 ≤ i) (hj : 0 ≤ j) (h : ltr i = ltr j) : i = j := by
  unfold ltr at h
  have := congrArg (fun s : Str => s.cps.toList) h
  simp at this
  omega
theorem isNm_ltr {i : Int} (h0 : 0 ≤ i) (h1 : i < 26) : isNm (ltr i) = true := by
  unfold isNm ltr
  have g1 : ¬ ([97 + i.toNat] < [97]) := by rw [List.cons_lt_cons_iff]; rintro (z | ⟨_, z⟩); omega; cases z
  have g2 : ¬ ([122] < [97 + i.toNat]) := by rw [List.cons_lt_cons_iff]; rintro (z | ⟨_, z⟩); omega; cases z
  show (decide (1 = 1) && (!decide ([97 + i.toNat] < [97]) && !decide ([122] < [97 + i.toNat]))) = true
  rw [decide_eq_false g1, decide_eq_false g2]
  rfl
def steps : List Int := [1, 3, 5, 7, 9, 11, 15, 17, 19, 21, 23, 25]
section
variable {P : Program} {w : World} {K : PySem.W.Frag} {mg : Str → Option Value} {base : Heap} {t : Adr}
theorem ok_law_cell (T : Txt w K mg t) : FnOk true P w K mg base (CXo P w) 1 t.f_law_cell t.d_law_cell ["_law_script", "_law_k"] (spCell K) := by
  refine T.F_law_cell.okn (k := 0) sc_law_cell (fun vs H Q E h => ?_) (fun cdv A outer s H vs Q E hr h => ?_)
  · obtain ⟨a, ns, k, rfl, _⟩ := h
    rfl
  · obtain ⟨a, ns, k, rfl, h⟩ := h
    refine ⟨_, pss_cons (ps_if (pt_cmpR op_lt (pv 1) (pe_callB call_len_seq rfl T.n_len boot_len (pa_cons (pv 0) (pa_nil))) (nomark _)) (pss_one (ps_ret (pe_ix ix_list (pv 0) (pv 1) (fun _ _ => rfl)))) (pss_nil))
      (pss_one (ps_ret (pe_op op_add (pe_op op_mul (pe_int) (pv 1)) (pe_int)))), ?_⟩
    obtain ⟨hs, k0, k1, q⟩ := h
    refine ⟨_, rfl, _, rfl, a, _, rfl, .inl hs, _, _, rfl, rfl, _, rfl, ?_⟩
    refine ite2 (fun c => ?_) (fun c => ?_)
    · have c' : k < (ns.length : Int) := by simpa using c
      obtain ⟨j, rfl⟩ := Int.eq_ofNat_of_zero_le k0
      have lt : j < ns.length := by omega
      exact ⟨_, rfl, _, rfl, a, _, _, _, rfl, rfl, hs, atI_nat (by rw [List.getElem?_map, List.getElem?_eq_getElem lt]; rfl), q _⟩
    · exact ⟨_, rfl, _, _, rfl, rfl, .inl ⟨by decide, by decide⟩, _, _, rfl, rfl, q _⟩
end
end S51
set_option maxRecDepth 100000
set_option maxHeartbeats 4000000
namespace S51
open PySem L2 XL PyProof.Rows
abbrev Pr := Pt × Bool × Int
def prV (p : Pr) : List V := [.str p.1.nm, .str (sideW p.2.1), .int p.2.2]
inductive PrsL (H : Hp) : List Pr → List Addr → Prop
  | nil : PrsL H [] []
  | cons {p : Pr} {q : Addr} {ps : List Pr} {qs : List Addr} (h : H q = some (.tup (prV p))) (r : PrsL H ps qs) : PrsL H (p :: ps) (q :: qs)
theorem PrsL.keep {H H' : Hp} (s : Tups H H') {ps : List Pr} {qs : List Addr} (h : PrsL H ps qs) : PrsL H' ps qs := by
  induction h with
  | nil => exact .nil
  | cons h _ ih => exact .cons (s _ _ h) ih
theorem PrsL.len {H : Hp} {ps : List Pr} {qs : List Addr} (h : PrsL H ps qs) : qs.length = ps.length := by
  induction h with
  | nil => rfl
  | cons _ _ ih => simp [ih]
theorem PrsL.snoc {H : Hp} {ps : List Pr} {qs : List Addr} (h : PrsL H ps qs) {p : Pr} {q : Addr} (e : H q = some (.tup (prV p))) : PrsL H (ps ++ [p]) (qs ++ [q]) := by
  induction h with
  | nil => exact .cons e .nil
  | cons h _ ih => exact .cons h ih
theorem PrsL.get {H : Hp} {ps : List Pr} {qs : List Addr} (h : PrsL H ps qs) {i : Nat} {q : Addr} (e : qs[i]? = some q) : ∃ p, ps[i]? = some p ∧ H q = some (.tup (prV p)) := by
  induction h generalizing i with
  | nil => simp at e
  | @cons p q' ps qs h _ ih =>
    cases i with
    | zero =>
      simp at e
      subst e
      exact ⟨p, rfl, h⟩
    | succ j => exact ih (by simpa using e)
structure PrOk (ps : List Pt) (w h : Int) (p : Pr) : Prop where
  nm : isNm p.1.nm = true
  fd : ps.find? (fun z => decide (z.nm = p.1.nm)) = some p.1
  r1 : 1 ≤ p.2.2
  r2 : p.2.2 ≤ h
  xy : 1 ≤ p.1.x ∧ p.1.x ≤ w ∧ 1 ≤ p.1.y ∧ p.1.y ≤ h
theorem cut_tl (qs : List Addr) (k : Nat) : cutV (qs.map V.ref) (some ((k : Int) + 1)) none = (qs.drop (k + 1)).map V.ref := by
  unfold cutV
  rw [show ((k : Int) + 1) = ((k + 1 : Nat) : Int) by omega, HT.sIx_nat, HT.sIx_none, List.length_map, ← List.map_drop, ← List.map_take]
  congr 1
  by_cases c : k + 1 ≤ qs.length
  · rw [Nat.min_eq_left c, List.take_of_length_le (by simp)]
  · rw [Nat.min_eq_right (by omega), List.drop_length, List.drop_of_length_le (by omega)]
    simp
theorem PrsL.drop {H : Hp} {ps : List Pr} {qs : List Addr} (h : PrsL H ps qs) (k : Nat) : PrsL H (ps.drop k) (qs.drop k) := by
  induction h generalizing k with
  | nil => simpa using PrsL.nil
  | cons h r ih =>
    cases k with
    | zero => exact .cons h r
    | succ k => exact ih k
def cel (w : Int) (p : Pr) : List (Int × Int) := Geo.cells w p.1.x p.1.y p.2.1 p.2.2
abbrev Tr := Str × Str × (Int × Int)
inductive TrL (H : Hp) : List Tr → List Addr → Prop
  | nil : TrL H [] []
  | cons {p : Tr} {t q : Addr} {ps : List Tr} {ts : List Addr} (h : H t = some (.tup [.str p.1, .str p.2.1, .ref q])) (hq : H q = some (.tup [.int p.2.2.1, .int p.2.2.2])) (r : TrL H ps ts) : TrL H (p :: ps) (t :: ts)
theorem TrL.keep {H H' : Hp} (s : Tups H H') {ps : List Tr} {ts : List Addr} (h : TrL H ps ts) : TrL H' ps ts := by
  induction h with
  | nil => exact .nil
  | cons h hq _ ih => exact .cons (s _ _ h) (s _ _ hq) ih
theorem TrL.len {H : Hp} {ps : List Tr} {ts : List Addr} (h : TrL H ps ts) : ts.length = ps.length := by
  induction h with
  | nil => rfl
  | cons _ _ _ ih => simp [ih]
theorem TrL.snoc {H : Hp} {ps : List Tr} {ts : List Addr} (h : TrL H ps ts) {p : Tr} {t q : Addr} (e : H t = some (.tup [.str p.1, .str p.2.1, .ref q])) (eq : H q = some (.tup [.int p.2.2.1, .int p.2.2.2])) : TrL H (ps ++ [p]) (ts ++ [t]) := by
  induction h with
  | nil => exact .cons e eq .nil
  | cons h hq _ ih => exact .cons h hq ih
section
variable {P : Program} {w : World} {K : PySem.W.Frag} {mg : Str → Option Value} {base : Heap} {t : Adr}
end
end S51
set_option maxRecDepth 100000
set_option maxHeartbeats 4000000
namespace S51
open PySem L2 XL PyProof.Rows
def acrI (w : Int) (p : Pr) : Int := if p.2.1 then p.1.x else w + 1 - p.1.x
def uprI (w : Int) (p : Pr) : Int := acrI w p * (if p.1.y - p.2.2 < 0 then -(p.1.y - p.2.2) else p.1.y - p.2.2)
theorem mul_in {a b : Int} (a0 : 0 ≤ a) (a1 : a ≤ 1000) (b0 : 0 ≤ b) (b1 : b ≤ 1000) : 0 ≤ a * b ∧ a * b ≤ 1000000 := by
  refine ⟨Int.mul_nonneg a0 b0, ?_⟩
  have h1 := Int.mul_le_mul_of_nonneg_right a1 b0
  have h2 : 1000 * b ≤ 1000 * 1000 := Int.mul_le_mul_of_nonneg_left b1 (by decide)
  exact Int.le_trans h1 h2
theorem uprI_in {ps : List Pt} {w h : Int} {p : Pr} (o : PrOk ps w h p) (hw : w ≤ 30) (hh : h ≤ 16) : -1000000 ≤ uprI w p ∧ uprI w p ≤ 1000000 := by
  obtain ⟨_, _, r1, r2, x1, x2, y1, y2⟩ := o
  have z := mul_in (a := acrI w p) (b := if p.1.y - p.2.2 < 0 then -(p.1.y - p.2.2) else p.1.y - p.2.2) (by unfold acrI; split <;> omega) (by unfold acrI; split <;> omega) (by split <;> omega) (by split <;> omega)
  unfold uprI
  omega
def spUprOf (t : Adr) : Sp := fun vs H Q _ => ∃ (a dp do_ q0 : Addr) (pw ph : Int) (ps : List Pt) (p : Pr), vs = [.ref a, .ref q0] ∧ Pic t H a dp do_ pw ph ps ∧ H q0 = some (.tup (prV p)) ∧ PrOk ps pw ph p ∧ ∀ H', Same H H' → Q (.int (uprI pw p)) H'
def spUpr (t : Adr) : Sp := fun vs H Q _ => ∃ (a dp do_ l : Addr) (pw ph : Int) (ps : List Pt) (prs : List Pr) (qs : List Addr), vs = [.ref a, .ref l] ∧ Pic t H a dp do_ pw ph ps ∧ H l = some (.lst (qs.map V.ref)) ∧ PrsL H prs qs ∧ (∀ p ∈ prs, PrOk ps pw ph p) ∧ prs.length ≤ 12 ∧
  ∀ H', Same H H' → Q (.int (prs.map (uprI pw)).sum) H'
def mayB (ss : List Seat) (p : Pt) (s : Seat) : Bool := decide (s ∈ ss) && wantB p s
def excB (ss : List Seat) (p p' : Pr) : Bool := mayB ss p.1 p'.2 && mayB ss p'.1 p.2
def spMayEx (t : Adr) : Sp := fun vs H Q _ => ∃ (a dp do_ o1 o2 : Addr) (pw ph : Int) (ps : List Pt) (ss : List Seat) (p p' : Pr), vs = [.ref a, .ref o1, .ref o2] ∧ Pic t H a dp do_ pw ph ps ∧ Sts H do_ ss ∧ H o1 = some (.tup (prV p)) ∧ H o2 = some (.tup (prV p')) ∧ PrOk ps pw ph p ∧ PrOk ps pw ph p' ∧ ∀ H', Same H H' → Q (.bl (excB ss p p')) H'
def canO (w : Int) (ss : List Seat) (p p' : Pr) : Option (Int × Int) := if excB ss p p' then Geo.meet (cel w p) (cel w p') else none
def canF (w : Int) (ss : List Seat) (p : Pr) (r : List Pr) : List Tr := r.filterMap fun p' => (canO w ss p p').map fun c => (p.1.nm, p'.1.nm, c)
def cans (w : Int) (ss : List Seat) : List Pr → List Tr
  | [] => []
  | p :: r => canF w ss p r ++ cans w ss r
theorem canF_le {w : Int} {ss : List Seat} {p : Pr} {r : List Pr} : (canF w ss p r).length ≤ r.length := List.length_filterMap_le _ _
theorem cans_le {w : Int} {ss : List Seat} : ∀ {r : List Pr}, (cans w ss r).length ≤ r.length * r.length
  | [] => Nat.le_refl _
  | p :: r => by
    have h1 := canF_le (w := w) (ss := ss) (p := p) (r := r)
    have h2 := cans_le (w := w) (ss := ss) (r := r)
    show (canF w ss p r ++ cans w ss r).length ≤ (r.length + 1) * (r.length + 1)
    rw [List.length_append, Nat.succ_mul, Nat.mul_succ]
    omega
theorem canF_cons {w : Int} {ss : List Seat} {p p' : Pr} {r : List Pr} : canF w ss p (p' :: r) = (match canO w ss p p' with | some c => [(p.1.nm, p'.1.nm, c)] | none => []) ++ canF w ss p r := by
  unfold canF
  rw [List.filterMap_cons]
  cases canO w ss p p' <;> rfl
def TrV (H : Hp) (o : Option Tr) (v : V) : Prop := (o = none ∧ v = .non) ∨ ∃ c q qc, o = some c ∧ v = .ref q ∧ H q = some (.tup [.str c.1, .str c.2.1, .ref qc]) ∧ H qc = some (.tup [.int c.2.2.1, .int c.2.2.2])
def spExch (t : Adr) : Sp := fun vs H Q _ => ∃ (a dp do_ l : Addr) (pw ph : Int) (ps : List Pt) (ss : List Seat) (prs : List Pr) (qs : List Addr), vs = [.ref a, .ref l] ∧ Pic t H a dp do_ pw ph ps ∧ Sts H do_ ss ∧ H l = some (.lst (qs.map V.ref)) ∧ PrsL H prs qs ∧ (∀ p ∈ prs, PrOk ps pw ph p) ∧
  ∀ H' v, Same H H' → TrV H' (cans pw ss prs).head? v → Q v H'
section
variable {P : Program} {w : World} {K : PySem.W.Frag} {mg : Str → Option Value} {base : Heap} {t : Adr}
theorem ok_upright_of (T : Txt w K mg t) : FnOk true P w K mg base (CXo P w) 6 t.f_upright_of t.d_upright_of ["picture", "pair"] (spUprOf t) := by
  refine T.F_upright_of.okn (k := 5) sc_upright_of (fun vs H Q E h => ?_) (fun cdv A outer s H vs Q E hr h => ?_)
  · obtain ⟨a, dp, do_, q0, pw, ph, ps, p, rfl, _⟩ := h
    rfl
  · obtain ⟨a, dp, do_, q0, pw, ph, ps, p, rfl, h⟩ := h
    refine ⟨_, pss_cons (ps_asg (pv 1) (pg_tup rfl (pgs_cons (pg_name (i := 2) sc_upright_of.nd rfl (Or.inl rfl)) (pgs_cons (pg_name (i := 3) sc_upright_of.nd rfl (Or.inl rfl)) (pgs_cons (pg_name (i := 4) sc_upright_of.nd rfl (Or.inl rfl)) (pgs_nil))))))
      (pss_cons (ps_asg (pe_meth (pv 0) T.c_Picture T.m_Picture_place_of (ok_Picture_place_of T) (hr.mono (by decide)) T.b_Picture_place_of .nil pass_none (pa_cons (pv 2) (pa_nil))) (pg_tup rfl (pgs_cons (pg_name (i := 5) sc_upright_of.nd rfl (Or.inl rfl)) (pgs_cons (pg_name (i := 6) sc_upright_of.nd rfl (Or.inl rfl)) (pgs_nil)))))
      (pss_one (ps_ret (pe_op op_mul (pe_alt (pe_meth (pe_call (ok_side_of T) (hr.mono (by decide)) rfl T.g_side_of T.F_side_of.kp T.b_side_of .nil pass_none (pa_cons (pv 3) (pa_cons (pe_fld (pv 0) rfl) (pa_nil)))) T.c_LeftSide T.m_LeftSide_across (ok_LeftSide_across T) (hr.mono (by decide)) T.b_LeftSide_across .nil pass_none (pa_cons (pv 5) (pa_nil))) (pe_meth (pe_call (ok_side_of T) (hr.mono (by decide)) rfl T.g_side_of T.F_side_of.kp T.b_side_of .nil pass_none (pa_cons (pv 3) (pa_cons (pe_fld (pv 0) rfl) (pa_nil)))) T.c_RightSide T.m_RightSide_across (ok_RightSide_across T) (hr.mono (by decide)) T.b_RightSide_across .nil pass_none (pa_cons (pv 5) (pa_nil)))) (pe_callB call_abs rfl T.n_abs boot_abs (pa_cons (pe_op op_sub (pv 6) (pv 4)) (pa_nil))))))), ?_⟩
    obtain ⟨pic, hq0, ok, q⟩ := h
    obtain ⟨⟨dx0, hp⟩, _, _⟩ := id pic
    refine ⟨_, rfl, q0, _, rfl, SqT.of hq0, rfl, _, _, rfl, _, _, rfl, _, _, rfl, rfl, ?_⟩
    refine ⟨_, rfl, a, dx0, _, rfl, hp, lk_no (by decide +kernel), _, rfl, a, dp, do_, pw, ph, ps, p.1.nm, p.1, rfl, pic, ok.nm, ok.fd, fun H1 q1 s1 hq1 => ⟨q1, _, rfl, SqT.of hq1, rfl, _, _, rfl, _, _, rfl, rfl, ?_⟩⟩
    have hp1 := s1 _ _ hp
    obtain ⟨_, _, r1, r2, x1, x2, y1, y2⟩ := id ok
    have w2 := pic.w2
    have h2 := pic.h2
    have sm : -(2 ^ 64) < acrI pw p ∧ acrI pw p < 2 ^ 64 := by unfold acrI; split <;> omega
    have qq := q
    unfold uprI acrI at qq
    unfold acrI at sm
    cases hb : p.2.1 with
    | true =>
      rw [hb] at qq sm
      refine .inl ⟨_, rfl, _, rfl, a, _, _, _, _, rfl, hp1, T.c_Picture, T.n_Picture_width, lkW, true, pw, rfl, fun p3 H3 hp3 sd3 s3 => ?_⟩
      obtain ⟨ds, hs⟩ := sd3
      exact ⟨p3, ds, _, rfl, hs, (by rw [List.lookup_cons, show (("across" : Str) == "width") = false from by decide +kernel]; rfl), _, rfl, _, _, rfl, _, rfl, _, rfl, _, _, rfl, rfl, _, rfl, _, _, rfl, rfl, .inl sm, qq H3 (s1.trans s3)⟩
    | false =>
      rw [hb] at qq sm
      refine .inr ⟨_, rfl, _, rfl, a, _, _, _, _, rfl, hp1, T.c_Picture, T.n_Picture_width, lkW, false, pw, rfl, fun p3 H3 hp3 sd3 s3 => ?_⟩
      obtain ⟨ds, hs⟩ := id sd3
      exact ⟨p3, ds, _, rfl, hs, (by rw [List.lookup_cons, show (("across" : Str) == "width") = false from by decide +kernel]; rfl), _, rfl, p3, pw, _, rfl, sd3, _, rfl, _, rfl, _, _, rfl, rfl, _, rfl, _, _, rfl, rfl, .inl sm, qq H3 (s1.trans s3)⟩
theorem ok_upright (T : Txt w K mg t) : FnOk true P w K mg base (CXo P w) 7 t.f_upright t.d_upright ["picture", "pairs"] (spUpr t) := by
  refine T.F_upright.okn (k := 6) sc_upright (fun vs H Q E h => ?_) (fun cdv A outer s H vs Q E hr h => ?_)
  · obtain ⟨a, dp, do_, l, pw, ph, ps, prs, qs, rfl, _⟩ := h
    rfl
  · obtain ⟨a, dp, do_, l, pw, ph, ps, prs, qs, rfl, h⟩ := h
    refine ⟨_, pss_one (ps_ret (pe_callB (call_sumL rfl) rfl T.n_sum PyProof.Rows.Boot.«sum» (pa_cons (pe_compG rfl (blkG_of (zs := ["pair"]) (ys := ["picture"]) (fr := [0]) (N0 := ["picture", "pairs"]) (sc0 := defScope s_upright) (by decide +kernel) rfl rfl rfl) (pi_list (pv 1)) (fun _ _ _ _ _ ow nd => pg_name (i := 0) nd rfl (Or.inl (ow _ (by simp))) (Or.inr (ow _ (by simp)))) (gok_name (by decide)) (fun _ _ _ _ _ => pif_nil) (fun _ _ _ _ _ => pe_call (ok_upright_of T) (hr.mono (by decide)) rfl T.g_upright_of T.F_upright_of.kp T.b_upright_of .nil pass_none (pa_cons (pv 1) (pa_cons (pv 0) (pa_nil))))) (pa_nil)))), ?_⟩
    obtain ⟨pic, hl, pr, ok, len, q⟩ := h
    obtain ⟨⟨dx, hp⟩, _, w1, w2, h1, h2, _⟩ := id pic
    refine ⟨_, rfl, l, rfl, ⟨_, SqL.of hl⟩, fun l1 hl1 => ?_⟩
    have ql := pr.len
    refine comp_list (SqL.of hl) (by rw [List.length_map]; exact Nat.lt_trans (by omega : qs.length < 13) (by decide)) hl1 (fun i y H => ∃ p, prs[i]? = some p ∧ y = .int (uprI pw p)) (fun i y H H' tp h => h) (fun i x H2 hx s2 N hN => ?_) (fun ys H2 s2 el ly f => ?_)
    · rw [List.getElem?_map] at hx
      obtain ⟨o, ho, rfl⟩ := Option.map_eq_some_iff.mp hx
      obtain ⟨p, hpp, ep⟩ := pr.get ho
      have okp := ok p (List.mem_of_getElem? hpp)
      exact ⟨_, rfl, _, rfl, a, dp, do_, o, pw, ph, ps, p, rfl, Pic.same s2 pic, s2 _ _ ep, okp, fun H4 s4 => hN _ _ s4 ⟨p, hpp, rfl⟩⟩
    · have ey : ys = (prs.map (uprI pw)).map V.int := by
        rw [List.length_map, ql] at ly
        refine List.ext_getElem? fun i => ?_
        by_cases c : i < ys.length
        · obtain ⟨p, h1, h2⟩ := f i _ (List.getElem?_eq_getElem c)
          rw [List.getElem?_eq_getElem c, List.getElem?_map, List.getElem?_map, h1, h2]
          rfl
        · rw [List.getElem?_eq_none (by omega), List.getElem?_eq_none (by simp; omega)]
      subst ey
      refine ⟨l1, prs.map (uprI pw), rfl, SqL.of el, ⟨by rw [List.length_map]; omega, fun n hn => ?_⟩, q _ s2⟩
      obtain ⟨p, hp', rfl⟩ := List.mem_map.mp hn
      exact uprI_in (ok p hp') w2 h2
theorem ok_may_exchange (T : Txt w K mg t) : FnOk true P w K mg base (CXo P w) 6 t.f_may_exchange t.d_may_exchange ["picture", "one", "other"] (spMayEx t) := by
  refine T.F_may_exchange.okn (k := 5) sc_may_exchange (fun vs H Q E h => ?_) (fun cdv A outer s H vs Q E hr h => ?_)
  · obtain ⟨a, dp, do_, o1, o2, pw, ph, ps, ss, p, p', rfl, _⟩ := h
    rfl
  · obtain ⟨a, dp, do_, o1, o2, pw, ph, ps, ss, p, p', rfl, h⟩ := h
    refine ⟨_, pss_cons (ps_asg (pv 1) (pg_tup rfl (pgs_cons (pg_name (i := 3) sc_may_exchange.nd rfl (Or.inl rfl)) (pgs_cons (pg_name (i := 4) sc_may_exchange.nd rfl (Or.inl rfl)) (pgs_cons (pg_name (i := 5) sc_may_exchange.nd rfl (Or.inl rfl)) (pgs_nil))))))
      (pss_cons (ps_asg (pv 2) (pg_tup rfl (pgs_cons (pg_name (i := 6) sc_may_exchange.nd rfl (Or.inl rfl)) (pgs_cons (pg_name (i := 7) sc_may_exchange.nd rfl (Or.inl rfl)) (pgs_cons (pg_name (i := 8) sc_may_exchange.nd rfl (Or.inl rfl)) (pgs_nil))))))
      (pss_one (ps_ret (pe_and (pe_meth (pv 0) T.c_Picture T.m_Picture_may (ok_Picture_may T) (hr.mono (by decide)) T.b_Picture_may .nil pass_none (pa_cons (pv 3) (pa_cons (pv 7) (pa_cons (pv 8) (pa_nil))))) (pe_one (pe_meth (pv 0) T.c_Picture T.m_Picture_may (ok_Picture_may T) (hr.mono (by decide)) T.b_Picture_may .nil pass_none (pa_cons (pv 6) (pa_cons (pv 4) (pa_cons (pv 5) (pa_nil)))))))))), ?_⟩
    obtain ⟨pic, st, e1, e2, k1, k2, q⟩ := h
    obtain ⟨⟨dx0, hp⟩, _, _⟩ := id pic
    refine ⟨_, rfl, o1, _, rfl, SqT.of e1, rfl, _, _, rfl, _, _, rfl, _, _, rfl, rfl, ?_⟩
    refine ⟨_, rfl, o2, _, rfl, SqT.of e2, rfl, _, _, rfl, _, _, rfl, _, _, rfl, rfl, ?_⟩
    refine ⟨_, rfl, a, dx0, _, rfl, hp, lk_no (by decide +kernel), _, rfl, _, rfl, _, rfl, a, dp, do_, pw, ph, ps, ss, p.1, p'.2.1, p'.2.2, rfl, pic, st, k1.nm, k1.fd, k2.r1, k2.r2, fun H1 s1 => ?_⟩
    refine ⟨_, rfl, ite2 (fun c => ?_) (fun c => ?_)⟩
    · refine ⟨_, rfl, a, dx0, _, rfl, s1 _ _ hp, lk_no (by decide +kernel), _, rfl, _, rfl, _, rfl, a, dp, do_, pw, ph, ps, ss, p'.1, p.2.1, p.2.2, rfl, Pic.same s1 pic, st.same s1, k2.nm, k2.fd, k1.r1, k1.r2, fun H2 s2 => ?_⟩
      have z := q H2 (s1.trans s2)
      unfold excB at z
      rw [show mayB ss p.1 p'.2 = true from c, Bool.true_and] at z
      exact z
    · have z := q H1 s1
      unfold excB at z
      rw [show mayB ss p.1 p'.2 = false from Bool.eq_false_iff.mpr c, Bool.false_and] at z
      exact z
theorem ok_exchangeable (T : Txt w K mg t) : FnOk true P w K mg base (CXo P w) 8 t.f_exchangeable t.d_exchangeable ["picture", "pairs"] (spExch t) := by
  refine T.F_exchangeable.okn (k := 7) sc_exchangeable (fun vs H Q E h => ?_) (fun cdv A outer s H vs Q E hr h => ?_)
  · obtain ⟨a, dp, do_, l, pw, ph, ps, ss, prs, qs, rfl, _⟩ := h
    rfl
  · obtain ⟨a, dp, do_, l, pw, ph, ps, ss, prs, qs, rfl, h⟩ := h
    refine ⟨_, pss_cons (ps_for PassesOwn.never rfl (pi_enumerate rfl T.n_enumerate (pa_cons (pv 1) (pa_nil))) (pg_tup rfl (pgs_cons (pg_name (i := 2) sc_exchangeable.nd rfl (Or.inl rfl)) (pgs_cons (pg_name (i := 3) sc_exchangeable.nd rfl (Or.inl rfl)) (pgs_nil)))) (pss_one (ps_for PassesOwn.never rfl (pi_list (pe_slice sl_list (pv 1) (po_some (pe_op op_add (pv 2) (pe_int))) po_none)) (pg_name (i := 4) sc_exchangeable.nd rfl (Or.inl rfl)) (pss_one (ps_if (pt_val (pe_call (ok_may_exchange T) (hr.mono (by decide)) rfl T.g_may_exchange T.F_may_exchange.kp T.b_may_exchange .nil pass_none (pa_cons (pv 0) (pa_cons (pv 3) (pa_cons (pv 4) (pa_nil)))))) (pss_cons (ps_set (i := 5) sc_exchangeable.nd rfl (Or.inl rfl) (pe_call (ok_meeting T) (hr.mono (by decide)) rfl T.g_meeting T.F_meeting.kp T.b_meeting .nil pass_none (pa_cons (pv 0) (pa_cons (pv 3) (pa_cons (pv 4) (pa_nil))))))
      (pss_one (ps_if (pt_cmpR op_notN (pv 5) (pe_non) (nomark _)) (pss_one (ps_ret (pe_tup (pa_cons (pe_ix ix_tup (pv 3) (pe_int) (fun _ _ => rfl)) (pa_cons (pe_ix ix_tup (pv 4) (pe_int) (fun _ _ => rfl)) (pa_cons (pv 5) (pa_nil))))))) (pss_nil)))) (pss_nil))))))
      (pss_one (ps_ret (pe_non))), ?_⟩
    obtain ⟨pic, st, hl, pr, ok, q⟩ := h
    refine ⟨_, rfl, l, _, rfl, SqL.of hl, ?_⟩
    refine for_enum (xs := qs.map V.ref) (Pv := fun i σ H2 => ∃ (v2 v3 v4 v5 : Option V), σ = [some (.ref a), some (.ref l), v2, v3, v4, v5] ∧ Same H H2 ∧ cans pw ss (prs.drop i) = cans pw ss prs) ⟨_, _, _, _, rfl, Same.refl _, rfl⟩ (fun _ _ _ _ ⟨_, _, _, _, _, z, _⟩ => SqL.of (z _ _ hl)) ?_ ?_
    · rintro i x p σ H2 hx hp ⟨v2, v3, v4, v5, rfl, s2, ea⟩
      rw [List.getElem?_map] at hx
      obtain ⟨o, ho, rfl⟩ := Option.map_eq_some_iff.mp hx
      obtain ⟨P1, hP1, eP1⟩ := pr.get ho
      have ok1 := ok P1 (List.mem_of_getElem? hP1)
      have sp : Same H2 (upd H2 p (.tup [.int i, .ref o])) := same_upd (Same.refl _) hp
      refine ⟨p, _, rfl, SqT.of upd_same, rfl, _, _, rfl, _, _, rfl, rfl, ?_⟩
      refine ⟨_, rfl, _, rfl, _, _, rfl, rfl, (i : Int) + 1, rfl, l, _, rfl, SqL.of (sp _ _ (s2 _ _ hl)), fun p4 hp4 => ?_⟩
      rw [cut_tl]
      have s4 : Same H2 (upd (upd H2 p (.tup [.int i, .ref o])) p4 (.lst ((qs.drop (i + 1)).map V.ref))) := sp.trans (same_upd (Same.refl _) hp4)
      have pr2 := pr.drop (i + 1)
      have ed : prs.drop i = P1 :: prs.drop (i + 1) := by
        obtain ⟨h1, h2⟩ := (List.getElem?_eq_some_iff.mp hP1)
        rw [List.drop_eq_getElem_cons h1, h2]
      rw [ed] at ea
      refine ⟨p4, rfl, ⟨_, SqL.of upd_same⟩, ?_⟩
      refine for_list (xs := (qs.drop (i + 1)).map V.ref) (Pv := fun j σ H5 => ∃ (v4 v5 : Option V), σ = [some (.ref a), some (.ref l), some (.int i), some (.ref o), v4, v5] ∧ Same H H5 ∧ H5 p4 = some (.lst ((qs.drop (i + 1)).map V.ref)) ∧ canF pw ss P1 ((prs.drop (i + 1)).drop j) ++ cans pw ss (prs.drop (i + 1)) = cans pw ss prs)
        ⟨_, _, rfl, s2.trans s4, upd_same, ea⟩ (fun _ _ _ _ ⟨_, _, _, _, z, _⟩ => SqL.of z) ?_ ?_
      · rintro j x σ H5 hx ⟨v4, v5, rfl, s5, hp5, ea5⟩
        rw [List.getElem?_map] at hx
        obtain ⟨o2, ho2, rfl⟩ := Option.map_eq_some_iff.mp hx
        obtain ⟨P2, hP2, eP2⟩ := pr2.get ho2
        have ok2 := ok P2 (List.mem_of_mem_drop (List.mem_of_getElem? hP2))
        have ed2 : (prs.drop (i + 1)).drop j = P2 :: (prs.drop (i + 1)).drop (j + 1) := by
          obtain ⟨h1, h2⟩ := List.getElem?_eq_some_iff.mp hP2
          rw [List.drop_eq_getElem_cons h1, h2]
        rw [ed2, canF_cons] at ea5
        refine ⟨_, rfl, _, rfl, _, rfl, a, dp, do_, o, o2, pw, ph, ps, ss, P1, P2, rfl, Pic.same s5 pic, st.same s5, s5 _ _ eP1, s5 _ _ eP2, ok1, ok2, fun H6 s6 => ?_⟩
        refine ⟨_, rfl, ite2 (fun cx => ?_) (fun cx => ?_)⟩
        · have s56 := s5.trans s6
          refine ⟨_, rfl, _, rfl, _, rfl, a, dp, do_, pw, ph, ps, o, o2, P1.1.nm, P2.1.nm, P1.1, P2.1, P1.2.1, P2.2.1, P1.2.2, P2.2.2, rfl, Pic.same s56 pic, s56 _ _ eP1, s56 _ _ eP2, ⟨ok1.nm, ok1.fd, ok1.r1, ok1.r2, ok1.xy⟩, ⟨ok2.nm, ok2.fd, ok2.r1, ok2.r2, ok2.xy⟩, fun H7 v s7 mv => ?_⟩
          have mv' : MeetV H7 (canO pw ss P1 P2) v := by
            unfold canO
            rw [cx, if_pos rfl]
            exact mv
          rcases mv' with ⟨em, rfl⟩ | ⟨c, q6, em, rfl, hq6⟩
          · rw [em] at ea5
            refine ⟨_, rfl, rfl, _, rfl, ifN (by rfl) ?_⟩
            exact ⟨_, _, rfl, s56.trans s7, s7 _ _ (s6 _ _ hp5), ea5⟩
          · rw [em] at ea5
            refine ⟨_, rfl, rfl, _, rfl, ifP (by rfl) ?_⟩
            have s57 := s56.trans s7
            refine ⟨_, rfl, o, _, 0, _, rfl, rfl, SqT.of (s57 _ _ eP1), rfl, _, rfl, o2, _, 0, _, rfl, rfl, SqT.of (s57 _ _ eP2), rfl, _, rfl, (by show 3 ≤ sizeLine; decide), fun p7 hp7 => ?_⟩
            have s8 : Same H7 (upd H7 p7 (.tup [.str P1.1.nm, .str P2.1.nm, .ref q6])) := same_upd (Same.refl _) hp7
            refine q _ _ (s57.trans s8) (.inr ⟨(P1.1.nm, P2.1.nm, c), p7, q6, ?_, rfl, upd_same, s8 _ _ hq6⟩)
            rw [← ea5]
            rfl
        · have em : canO pw ss P1 P2 = none := by
            unfold canO
            rw [if_neg cx]
          rw [em] at ea5
          exact ⟨_, _, rfl, s5.trans s6, s6 _ _ hp5, ea5⟩
      · rintro σ H5 ⟨v4, v5, rfl, s5, hp5, ea5⟩
        refine ⟨_, _, _, _, rfl, s5, ?_⟩
        rw [List.length_map, List.drop_of_length_le (l := prs.drop (i + 1)) (by rw [pr2.len]; exact Nat.le_refl _)] at ea5
        exact ea5
    · rintro σ H2 ⟨v2, v3, v4, v5, rfl, s2, ea⟩
      rw [List.length_map, pr.len, List.drop_length] at ea
      exact q _ _ s2 (.inl ⟨by rw [← ea]; rfl, rfl⟩)
end
end S51
set_option maxRecDepth 100000
set_option maxHeartbeats 4000000
namespace S51
open PySem L2 XL PyProof.Rows
theorem due_up {x y r s : Int} {n : Nat} (hn : (n : Int) = if r - y < 0 then -(r - y) else r - y) (hs : s = if r < y then -1 else 1) :
    (List.range (n + 1)).map (fun (k : Nat) => (x, y + s * (0 + (k : Int)))) = Geo.upL x y r ++ [(x, r)] := by
  have e : Geo.upL x y r = (List.range n).map (fun (k : Nat) => (x, y + s * (0 + (k : Int)))) := by
    unfold Geo.upL
    have hu : Geo.upN y r = n := by unfold Geo.upN; split <;> split at hn <;> omega
    rw [hu]
    refine List.map_congr_left fun k hk => ?_
    rw [List.mem_range] at hk
    have hd : Geo.dn y r = s := by unfold Geo.dn; rw [hs]; split <;> split <;> (try rfl) <;> (split at hn <;> omega)
    rw [hd, Int.zero_add, Int.mul_comm]
  rw [List.range_succ, List.map_append, ← e]
  have h2 : y + s * (0 + (n : Int)) = r := by
    rw [hs, Int.zero_add]
    split <;> split at hn <;> omega
  show _ ++ [(x, y + s * (0 + (n : Int)))] = _
  rw [h2]
theorem due_left {w x r : Int} (h1 : 1 ≤ x) : Geo.lvL w x true r = (x, r) :: (List.range (x + 1 - 1).toNat).map (fun (k : Nat) => (x - (1 + (k : Int)), r)) := by
  unfold Geo.lvL Geo.lvN Geo.wayI
  rw [if_pos rfl, if_pos rfl, show (x + 1).toNat = (x + 1 - 1).toNat + 1 from by omega, List.range_succ_eq_map, List.map_cons, List.map_map]
  congr 1
  · simp
  · refine List.map_congr_left fun k _ => ?_
    show (x + ((k + 1 : Nat) : Int) * -1, r) = _
    congr 1
    omega
theorem due_right {w x r : Int} (h1 : x ≤ w) : Geo.lvL w x false r = (x, r) :: (List.range (w + 2 - x - 1).toNat).map (fun (k : Nat) => (x + (1 + (k : Int)), r)) := by
  unfold Geo.lvL Geo.lvN Geo.wayI
  rw [if_neg Bool.false_ne_true, if_neg Bool.false_ne_true, show (w + 2 - x).toNat = (w + 2 - x - 1).toNat + 1 from by omega, List.range_succ_eq_map, List.map_cons, List.map_map]
  congr 1
  · simp
  · refine List.map_congr_left fun k _ => ?_
    show (x + ((k + 1 : Nat) : Int) * 1, r) = _
    congr 1
    omega
def spMixK : Sp := fun vs H Q _ => ∃ c k : Int, vs = [.int c, .int k] ∧ 0 ≤ k ∧ ∀ m : Int, 0 ≤ m → Q (.int m) H
def spWholeK : Sp := fun vs H Q _ => ∃ i : Int, vs = [.int i, .int i] ∧ Q (.bl true) H
inductive Lp (H : Hp) : List Pt → List (Key × V) → Prop
  | nil : Lp H [] []
  | cons {p : Pt} {q : Addr} {ps : List Pt} {kvs : List (Key × V)} (h : H q = some (.lst (ptV p))) (r : Lp H ps kvs) : Lp H (p :: ps) ((.inr p.nm, .ref q) :: kvs)
theorem Lp.same {H H' : Hp} (s : Same H H') {ps : List Pt} {kvs : List (Key × V)} (h : Lp H ps kvs) : Lp H' ps kvs := by
  induction h with
  | nil => exact .nil
  | cons h _ ih => exact .cons (s _ _ h) ih
theorem Lp.len {H : Hp} {ps : List Pt} {kvs : List (Key × V)} (h : Lp H ps kvs) : kvs.length = ps.length := by
  induction h with
  | nil => rfl
  | cons _ _ ih => simp [ih]
theorem Lp.find {H : Hp} {ps : List Pt} {kvs : List (Key × V)} (h : Lp H ps kvs) {nm : Str} {pt : Pt} (e : ps.find? (fun p => decide (p.nm = nm)) = some pt) : ∃ q, valV kvs (.inr nm) = some (.ref q) ∧ H q = some (.lst (ptV pt)) := by
  induction h with
  | nil => simp at e
  | @cons p q ps kvs h _ ih =>
    by_cases c : p.nm = nm
    · rw [List.find?_cons_of_pos (by simpa using c)] at e
      cases e
      exact ⟨q, valV_pos (by rw [c]), h⟩
    · rw [List.find?_cons_of_neg (by simpa using c)] at e
      obtain ⟨q', h1, h2⟩ := ih e
      exact ⟨q', by rw [valV_neg (fun z => c (Sum.inr.inj z))]; exact h1, h2⟩
theorem Lp.no {H : Hp} {ps : List Pt} {kvs : List (Key × V)} (h : Lp H ps kvs) {nm : Str} (e : ∀ p ∈ ps, p.nm ≠ nm) : valV kvs (.inr nm) = none := by
  induction h with
  | nil => rfl
  | @cons p q ps kvs h _ ih =>
    rw [valV_neg (fun z => e p List.mem_cons_self (Sum.inr.inj z))]
    exact ih fun p' hp => e p' (List.mem_cons_of_mem _ hp)
theorem Lp.get {H : Hp} {ps : List Pt} {kvs : List (Key × V)} (h : Lp H ps kvs) {i : Nat} {k : Key} {x : V} (e : kvs[i]? = some (k, x)) : ∃ p q, ps[i]? = some p ∧ k = .inr p.nm ∧ x = .ref q ∧ H q = some (.lst (ptV p)) := by
  induction h generalizing i with
  | nil => simp at e
  | @cons p q ps kvs h _ ih =>
    cases i with
    | zero =>
      simp at e
      exact ⟨p, q, rfl, e.1.symm, e.2.symm, h⟩
    | succ j => exact ih (by simpa using e)
theorem Lp.snoc {H : Hp} {ps : List Pt} {kvs : List (Key × V)} (h : Lp H ps kvs) {p : Pt} {q : Addr} (e : H q = some (.lst (ptV p))) : Lp H (ps ++ [p]) (kvs ++ [(.inr p.nm, .ref q)]) := by
  induction h with
  | nil => exact .cons e .nil
  | cons h _ ih => exact .cons h ih
def PD (H : Hp) (d : Addr) (ps : List Pt) : Prop := ∃ kvs, Rd H d (.dK kvs) ∧ Lp H ps kvs
theorem PD.same {H H' : Hp} {d : Addr} {ps : List Pt} (s : Same H H') (h : PD H d ps) : PD H' d ps := by
  obtain ⟨kvs, e, l⟩ := h
  refine ⟨kvs, ?_, l.same s⟩
  rcases e with e | ⟨o, e⟩
  · exact .inl (s _ _ e)
  · exact .inr ⟨o, s _ _ e⟩
theorem PD.get {H : Hp} {d : Addr} {ps : List Pt} (h : PD H d ps) {nm : Str} {pt : Pt} (e : ps.find? (fun p => decide (p.nm = nm)) = some pt) : ∃ q, DGet H d (.str nm) (some (.ref q)) ∧ H q = some (.lst (ptV pt)) := by
  obtain ⟨kvs, ed, l⟩ := h
  obtain ⟨q, h1, h2⟩ := l.find e
  exact ⟨q, .inl ⟨kvs, .inr nm, ed, rfl, h1.symm⟩, h2⟩
def spLMay (K : PySem.W.Frag) : Sp := fun vs H Q _ => ∃ (d ls : Addr) (ps : List Pt) (ss : List Seat) (rs : List Addr) (pt : Pt) (b : Bool) (r : Int), vs = [.ref d, .ref ls, .str pt.nm, .str (sideW b), .int r] ∧ PD H d ps ∧ ps.find? (fun p => decide (p.nm = pt.nm)) = some pt ∧ H ls = some (.lst (rs.map V.ref)) ∧ SeatsL H ss rs ∧ ∀ H', Same H H' → Q (.bl (mayB ss pt (b, r))) H'
def spAcross : Sp := fun vs H Q _ => ∃ (q0 : Addr) (w : Int) (pt : Pt) (b : Bool), vs = [.int w, .ref q0, .str (sideW b)] ∧ H q0 = some (.lst (ptV pt)) ∧ Q (.int (if b then pt.x else w + 1 - pt.x)) H
def spLCel : Sp := fun vs H Q _ => ∃ (q0 : Addr) (w r : Int) (pt : Pt) (b : Bool), vs = [.int w, .ref q0, .str (sideW b), .int r] ∧ H q0 = some (.lst (ptV pt)) ∧ (1 ≤ pt.x ∧ pt.x ≤ w ∧ w ≤ 30) ∧ (1 ≤ pt.y ∧ pt.y ≤ 16) ∧ (1 ≤ r ∧ r ≤ 16) ∧
  ∀ H' l qs, Same H H' → H' l = some (.lst (qs.map V.ref)) → CellsL H' (Geo.cells w pt.x pt.y b r) qs → qs.length < 100 → Q (.ref l) H'
section
variable {P : Program} {w : World} {K : PySem.W.Frag} {mg : Str → Option Value} {base : Heap} {t : Adr}
theorem ok_law_mixed (T : Txt w K mg t) : FnOk true P w K mg base (CXo P w) 1 t.f_law_mixed t.d_law_mixed ["_law_cell_here", "_law_k"] (spMixK) := by
  refine T.F_law_mixed.okn (k := 0) sc_law_mixed (fun vs H Q E h => ?_) (fun cdv A outer s H vs Q E hr h => ?_)
  · obtain ⟨c, k, rfl, _⟩ := h
    rfl
  · obtain ⟨c, k, rfl, h⟩ := h
    refine ⟨_, pss_cons (ps_if (pt_cmpR op_eq (pe_op op_mod (pv 0) (pe_int)) (pe_int) (nomark _)) (pss_one (ps_ret (pe_op op_mod (pe_op op_shr (pv 0) (pe_op op_add (pe_int) (pe_op op_mul (pe_int) (pv 1)))) (pe_op op_pow (pe_int) (pe_int))))) (pss_nil))
      (pss_cons (ps_set (i := 2) sc_law_mixed.nd rfl (Or.inl rfl) (pe_op op_mod (pe_op op_add (pv 0) (pe_op op_mul (pe_int) (pv 1))) (pe_int)))
      (pss_cons (ps_set (i := 2) sc_law_mixed.nd rfl (Or.inl rfl) (pe_op op_mod (pe_op op_add (pe_op op_mul (pv 2) (pe_int)) (pv 1)) (pe_int)))
      (pss_cons (ps_set (i := 2) sc_law_mixed.nd rfl (Or.inl rfl) (pe_op op_mod (pe_op op_mul (pv 2) (pe_op op_add (pv 2) (pe_int))) (pe_int)))
      (pss_one (ps_ret (pe_op op_mod (pe_op op_mul (pv 2) (pe_op op_add (pv 2) (pe_int))) (pe_int))))))), ?_⟩
    obtain ⟨k0, q⟩ := h
    refine ⟨_, rfl, _, _, rfl, rfl, (by show (0 : Int) < 4; decide), rfl, _, rfl, ite2 (fun z => ?_) (fun z => ?_)⟩
    · refine ⟨_, rfl, _, rfl, _, _, rfl, rfl, .inl ⟨by decide, by decide⟩, _, _, rfl, rfl, _, _, rfl, rfl, (by omega), _, _, rfl, rfl, ⟨by decide, by decide, by decide⟩, _, _, rfl, rfl, (by show (0 : Int) < 2 ^ (40 : Int).toNat; decide), ?_⟩
      exact q _ (Int.emod_nonneg _ (by decide))
    refine ⟨_, rfl, _, rfl, _, _, rfl, rfl, .inl ⟨by decide, by decide⟩, _, _, rfl, rfl, _, _, rfl, rfl, (by show (0 : Int) < 2147483647; decide), ?_⟩
    refine ⟨_, rfl, _, _, rfl, rfl, .inr ⟨by decide, by decide⟩, _, rfl, _, _, rfl, rfl, _, _, rfl, rfl, (by show (0 : Int) < 2147483647; decide), ?_⟩
    refine ⟨_, rfl, _, rfl, _, _, rfl, rfl, _, _, rfl, rfl, .inl (cm_mod (by decide) (by decide)), _, _, rfl, rfl, (by show (0 : Int) < 2147483629; decide), ?_⟩
    refine ⟨_, rfl, _, rfl, _, _, rfl, rfl, _, _, rfl, rfl, .inl (cm_mod (by decide) (by decide)), _, _, rfl, rfl, (by show (0 : Int) < 2147483587; decide), ?_⟩
    exact q _ (mod_in _ (by decide)).1
theorem ok_law_whole (T : Txt w K mg t) : FnOk true P w K mg base (CXo P w) 1 t.f_law_whole t.d_law_whole ["_law_found", "_law_due"] (spWholeK) := by
  refine T.F_law_whole.okn (k := 0) sc_law_whole (fun vs H Q E h => ?_) (fun cdv A outer s H vs Q E hr h => ?_)
  · obtain ⟨i, rfl, _⟩ := h
    rfl
  · obtain ⟨i, rfl, h⟩ := h
    refine ⟨_, pss_one (ps_ret (pe_and (pe_callB call_isin rfl T.n_isinstance boot_isinstance (pa_cons (pv 0) (pa_cons (pe_bltn (v := .ty "int") rfl T.n_int boot_int rfl) (pa_nil)))) (pe_and (pe_not (pe_callB call_isin rfl T.n_isinstance boot_isinstance (pa_cons (pv 0) (pa_cons (pe_bltn (v := .ty "bool") rfl T.n_bool boot_bool rfl) (pa_nil))))) (pe_one (pe_cmpR op_eq (pv 0) (pv 1) (nomark _)))))), ?_⟩
    refine ⟨_, rfl, _, _, rfl, .inl ⟨_, _, true, .int i, rfl, kit_same, true, rfl, iteT ?_⟩⟩
    refine ⟨_, rfl, _, _, rfl, .inl ⟨_, _, false, .int i, rfl, (by rfl), false, rfl, true, rfl, iteT ⟨_, rfl, _, rfl, rfl, ?_⟩⟩⟩
    rw [decide_eq_true rfl]
    exact h
theorem ok_law_may (T : Txt w K mg t) : FnOk true P w K mg base (CXo P w) 1 t.f_law_may t.d_law_may ["_law_points", "_law_seats", "_law_name", "_law_side", "_law_row"] (spLMay K) := by
  refine T.F_law_may.okn (k := 0) sc_law_may (fun vs H Q E h => ?_) (fun cdv A outer s H vs Q E hr h => ?_)
  · obtain ⟨d, ls, ps, ss, rs, pt, b, r, rfl, _⟩ := h
    rfl
  · obtain ⟨d, ls, ps, ss, rs, pt, b, r, rfl, h⟩ := h
    refine ⟨_, pss_cons (ps_set (i := 5) sc_law_may.nd rfl (Or.inl rfl) (pe_dget (hu_of hr) (pv 0) (pv 2) (fun _ _ => rfl)))
      (pss_one (ps_ret (pe_and (pe_cmpR (op_inV (hu20_of hr)) (pe_tup (pa_cons (pv 3) (pa_cons (pv 4) (pa_nil)))) (pv 1) (by rfl)) (pe_and (pe_cmpR op_in_seq (pe_ix ix_list (pv 5) (pe_int) (fun _ _ => rfl)) (pe_tup (pa_cons (pe_str) (pa_cons (pv 3) (pa_nil)))) (by rfl)) (pe_one (pe_chain op_le op_le (pe_ix ix_list (pv 5) (pe_int) (fun _ _ => rfl)) (pv 4) (pe_ix ix_list (pv 5) (pe_int) (fun _ _ => rfl)))))))), ?_⟩
    obtain ⟨pd, hf, hls, sl, q⟩ := h
    obtain ⟨q0, dg, hq0⟩ := pd.get hf
    refine ⟨_, rfl, _, rfl, d, _, rfl, dg, ?_⟩
    refine ⟨_, rfl, _, rfl, (by show 2 ≤ sizeLine; decide), fun q1 hq1 => ?_⟩
    have s1 : Same H (upd H q1 (.tup [.str (sideW b), .int r])) := same_upd (Same.refl _) hq1
    have g1 : upd H q1 (.tup [.str (sideW b), .int r]) q1 = some (.tup [.str (sideW b), .int r]) := upd_same
    revert s1 g1
    generalize upd H q1 (.tup [.str (sideW b), .int r]) = H1
    intro s1 g1
    refine ⟨_, rfl, 1, 2, seatD (b, r), ss.map seatD, dv_seat (s := (b, r)) g1, (sl.keep (Same.tups s1)).dv (s1 _ _ hls), by decide, by decide, _, rfl, ite2 (fun c => ?_) (fun c => ?_)⟩
    · rw [if_neg (by decide), any_seat] at c
      refine ⟨_, rfl, q0, _, 2, _, rfl, rfl, SqL.of (s1 _ _ hq0), rfl, _, rfl, (by show 2 ≤ sizeLine; decide), fun q3 hq3 => ?_⟩
      have s3 : Same H1 (upd H1 q3 (.tup [.str "both", .str (sideW b)])) := same_upd (Same.refl _) hq3
      have g3 : upd H1 q3 (.tup [.str "both", .str (sideW b)]) q3 = some (.tup [.str "both", .str (sideW b)]) := upd_same
      revert s3 g3
      generalize upd H1 q3 (.tup [.str "both", .str (sideW b)]) = H3
      intro s3 g3
      have z := q H3 (s1.trans s3)
      unfold mayB at z
      rw [c, Bool.true_and] at z
      unfold wantB at z
      refine ⟨q3, _, rfl, .inr (SqT.of g3), rfl, rfl, _, rfl, ite2 (fun c => ?_) (fun c => ?_)⟩
      · rw [if_neg (by decide), inV_sd] at c
        dsimp only at z
        rw [c, Bool.true_and] at z
        refine ⟨_, rfl, q0, _, 3, _, rfl, rfl, SqL.of (s3 _ _ (s1 _ _ hq0)), rfl, _, rfl, _, _, rfl, rfl, _, rfl, ite2 (fun c2 => ?_) (fun c2 => ?_)⟩
        · rw [c2, Bool.true_and] at z
          exact ⟨_, rfl, q0, _, 4, _, rfl, rfl, SqL.of (s3 _ _ (s1 _ _ hq0)), rfl, _, _, rfl, rfl, z⟩
        · rw [Bool.eq_false_iff.mpr c2, Bool.false_and] at z
          exact z
      · rw [if_neg (by decide), inV_sd] at c
        dsimp only at z
        rw [Bool.eq_false_iff.mpr c, Bool.false_and] at z
        exact z
    · rw [if_neg (by decide), any_seat] at c
      have z := q H1 s1
      unfold mayB at z
      rw [Bool.eq_false_iff.mpr c, Bool.false_and] at z
      exact z
theorem ok_law_across (T : Txt w K mg t) : FnOk true P w K mg base (CXo P w) 1 t.f_law_across t.d_law_across ["_law_width", "_law_point", "_law_side"] (spAcross) := by
  refine T.F_law_across.okn (k := 0) sc_law_across (fun vs H Q E h => ?_) (fun cdv A outer s H vs Q E hr h => ?_)
  · obtain ⟨q0, w, pt, b, rfl, _⟩ := h
    rfl
  · obtain ⟨q0, w, pt, b, rfl, h⟩ := h
    refine ⟨_, pss_cons (ps_if (pt_cmpR op_eq (pv 2) (pe_str) (nomark _)) (pss_one (ps_ret (pe_ix ix_list (pv 1) (pe_int) (fun _ _ => rfl)))) (pss_nil))
      (pss_one (ps_ret (pe_op op_sub (pe_op op_add (pv 0) (pe_int)) (pe_ix ix_list (pv 1) (pe_int) (fun _ _ => rfl))))), ?_⟩
    obtain ⟨hq, q⟩ := h
    cases b with
    | true => exact ⟨_, rfl, rfl, _, rfl, ifP (by decide +kernel) ⟨_, rfl, q0, _, 0, _, rfl, rfl, SqL.of hq, rfl, q⟩⟩
    | false => exact ⟨_, rfl, rfl, _, rfl, ifN (by decide +kernel) ⟨_, rfl, _, _, rfl, rfl, _, rfl, q0, _, 0, _, rfl, rfl, SqL.of hq, rfl, _, _, rfl, rfl, q⟩⟩
end
end S51
set_option maxRecDepth 100000
set_option maxHeartbeats 4000000
namespace S51
open PySem L2 XL PyProof.Rows
theorem at_two {c : Bool} {d : Int} (h : d = if c then -1 else 1) : atI [V.int 1, V.int (-1)] (if c = true then 1 else 0) = some (.int d) := by
  subst h
  cases c <;> rfl
section
variable {P : Program} {w : World} {K : PySem.W.Frag} {mg : Str → Option Value} {base : Heap} {t : Adr}
theorem ok_law_cells (T : Txt w K mg t) : FnOk true P w K mg base (CXo P w) 2 t.f_law_cells t.d_law_cells ["_law_width", "_law_point", "_law_side", "_law_row"] (spLCel) := by
  refine T.F_law_cells.okn (k := 1) sc_law_cells (fun vs H Q E h => ?_) (fun cdv A outer s H vs Q E hr h => ?_)
  · obtain ⟨q0, w, r, pt, b, rfl, _⟩ := h
    rfl
  · obtain ⟨q0, w, r, pt, b, rfl, h⟩ := h
    refine ⟨_, pss_cons (ps_par (i := 4) (j := 5) rfl sc_law_cells.nd rfl rfl (by decide) rfl rfl (pa_cons (pe_ix ix_list (pv 1) (pe_int) (fun _ _ => rfl)) (pa_cons (pe_ix ix_list (pv 1) (pe_int) (fun _ _ => rfl)) (pa_nil))) rfl)
      (pss_cons (ps_set (i := 6) sc_law_cells.nd rfl (Or.inl rfl) (pe_lst (pa_cons (pe_tup (pa_cons (pv 4) (pa_cons (pv 5) (pa_nil)))) (pa_nil))))
      (pss_cons (ps_while PassesOwn.never (pt_cmpR op_ne (pv 5) (pv 3) (nomark _)) (pss_cons (ps_set (i := 5) sc_law_cells.nd rfl (Or.inl rfl) (pe_op op_add (pv 5) (pe_ix ix_list (pe_lst (pa_cons (pe_int) (pa_cons (pe_un un_neg (pe_int)) (pa_nil)))) (pe_callTy call_int1 rfl T.n_int boot_int (pa_cons (pe_cmpR op_lt (pv 3) (pv 5) (nomark _)) (pa_nil))) (fun _ _ => rfl))))
      (pss_one (ps_expr (pe_bm PySem.F.plainAttrs_list PySem.F.slot_list_append PySem.F.type_list_append mt_append (pv 6) (pa_cons (pe_tup (pa_cons (pv 4) (pa_cons (pv 5) (pa_nil)))) (pa_nil)))))))
      (pss_cons (ps_for PassesOwn.never rfl (pi_range1 rfl T.n_range (pa_cons (pe_call (ok_law_across T) (hr.mono (by decide)) rfl T.g_law_across T.F_law_across.kp T.b_law_across .nil pass_none (pa_cons (pv 0) (pa_cons (pv 1) (pa_cons (pv 2) (pa_nil))))) (pa_nil))) (pg_name (i := 7) sc_law_cells.nd rfl (Or.inl rfl)) (pss_cons (ps_set (i := 4) sc_law_cells.nd rfl (Or.inl rfl) (pe_op op_add (pv 4) (pe_ix ix_list (pe_lst (pa_cons (pe_int) (pa_cons (pe_un un_neg (pe_int)) (pa_nil)))) (pe_callTy call_int1 rfl T.n_int boot_int (pa_cons (pe_cmpR op_eq (pv 2) (pe_str) (nomark _)) (pa_nil))) (fun _ _ => rfl))))
      (pss_one (ps_expr (pe_bm PySem.F.plainAttrs_list PySem.F.slot_list_append PySem.F.type_list_append mt_append (pv 6) (pa_cons (pe_tup (pa_cons (pv 4) (pa_cons (pv 5) (pa_nil)))) (pa_nil)))))))
      (pss_one (ps_ret (pv 6)))))), ?_⟩
    obtain ⟨hq, ⟨x1, x2, w2⟩, ⟨y1, y2⟩, ⟨r1, r2⟩, q⟩ := h
    refine ⟨_, rfl, q0, _, 0, _, rfl, rfl, SqL.of hq, rfl, _, rfl, q0, _, 1, _, rfl, rfl, SqL.of hq, rfl, _, _, rfl, ?_⟩
    refine ⟨_, rfl, _, rfl, (by show 2 ≤ sizeLine; decide), fun qb hqb => ?_⟩
    have s2 : Same H (upd H qb (.tup [.int pt.x, .int pt.y])) := same_upd (Same.refl _) hqb
    have g2 : upd H qb (.tup [.int pt.x, .int pt.y]) qb = some (.tup [.int pt.x, .int pt.y]) := upd_same
    revert s2 g2
    generalize upd H qb (.tup [.int pt.x, .int pt.y]) = H2
    intro s2 g2
    refine ⟨(by show 1 ≤ sizeLine; decide), fun l hl => ?_⟩
    have s3 : Same H2 (upd H2 l (.lst [.ref qb])) := same_upd (Same.refl _) hl
    have nl : H l = none := s2.free hl
    obtain ⟨d, hd⟩ : ∃ d : Int, d = if r < pt.y then -1 else 1 := ⟨_, rfl⟩
    obtain ⟨n, hn⟩ : ∃ n : Nat, (n : Int) = if r - pt.y < 0 then -(r - pt.y) else r - pt.y := ⟨(if r - pt.y < 0 then -(r - pt.y) else r - pt.y).toNat, by split <;> omega⟩
    have n16 : n < 17 := by split at hn <;> omega
    refine ⟨fun m σ H4 => ∃ (j : Nat) (qs : List Addr), m = n - j ∧ j ≤ n ∧ σ = [some (.int w), some (.ref q0), some (.str (sideW b)), some (.int r), some (.int pt.x), some (.int (pt.y + d * (j : Int))), some (.ref l), none] ∧ (∀ b u, b ≠ l → H b = some u → H4 b = some u) ∧ H4 l = some (.lst (qs.map V.ref)) ∧ CellsL H4 ((List.range (j + 1)).map fun (k : Nat) => (pt.x, pt.y + d * (0 + (k : Int)))) qs, ⟨n, 0, [qb], rfl, Nat.zero_le _, ?_, fun c u _ e => s3 _ _ (s2 _ _ e), upd_same, .cons ?_ .nil⟩, ?_⟩
    · rw [show pt.y + d * ((0 : Nat) : Int) = pt.y by simp]
      rfl
    · rw [upd_ne (ne_of_none g2 hl)]
      show _ = some (HO.tup [.int pt.x, .int (pt.y + d * (0 + ((0 : Nat) : Int)))])
      rw [show pt.y + d * (0 + ((0 : Nat) : Int)) = pt.y by simp]
      exact g2
    rintro m σ H4 ⟨j, qs, rfl, hj, rfl, k4, hl4, cl4⟩
    have ql := cl4.len
    rw [List.length_map, List.length_range] at ql
    refine ⟨_, rfl, _, rfl, rfl, _, rfl, ite2 (fun c => ?_) (fun c => ?_)⟩
    · have c' : pt.y + d * (j : Int) ≠ r := by simpa using c
      have jn : j < n := by
        rcases Nat.lt_or_ge j n with z | z
        · exact z
        · have e : j = n := by omega
          subst e
          exfalso
          apply c'
          rw [hd]
          split <;> split at hn <;> omega
      have hc : (if r < pt.y + d * (j : Int) then (-1 : Int) else 1) = d := by
        rw [hd]
        split <;> split <;> split at hn <;> omega
      refine ⟨fun σ' H' => ∃ (j' : Nat) (qs : List Addr), j' = j + 1 ∧ σ' = [some (.int w), some (.ref q0), some (.str (sideW b)), some (.int r), some (.int pt.x), some (.int (pt.y + d * (j' : Int))), some (.ref l), none] ∧ (∀ b u, b ≠ l → H b = some u → H' b = some u) ∧ H' l = some (.lst (qs.map V.ref)) ∧ CellsL H' ((List.range (j' + 1)).map fun (k : Nat) => (pt.x, pt.y + d * (0 + (k : Int)))) qs, ?_, ?_⟩
      · rintro σ' H' ⟨j', qs', rfl, e1, e2, e3, e4⟩
        exact ⟨n - (j + 1), by omega, j + 1, qs', rfl, jn, e1, e2, e3, e4⟩
      refine ⟨_, rfl, 1, rfl, (by show 2 ≤ sizeLine; decide), fun l2 hl2 => ?_⟩
      have s5 : Same H4 (upd H4 l2 (.lst [.int 1, .int (-1)])) := same_upd (Same.refl _) hl2
      have g5 : upd H4 l2 (.lst [.int 1, .int (-1)]) l2 = some (.lst [.int 1, .int (-1)]) := upd_same
      revert s5 g5
      generalize upd H4 l2 (.lst [.int 1, .int (-1)]) = H5
      intro s5 g5
      refine ⟨_, rfl, _, rfl, _, _, rfl, rfl, .inr ⟨_, rfl, l2, _, _, .int d, rfl, rfl, SqL.of g5, at_two (hc.symm.trans (by simp)), _, _, rfl, rfl, ?_⟩⟩
      refine ⟨_, rfl, .inl ⟨rfl, _, SqL.of (s5 _ _ hl4)⟩, _, rfl, _, rfl, (by show 2 ≤ sizeLine; decide), fun p6 hp6 => ?_⟩
      have s6 : Same H5 (upd H5 p6 (.tup [.int pt.x, .int (pt.y + d * (j : Int) + d)])) := same_upd (Same.refl _) hp6
      have g6 : upd H5 p6 (.tup [.int pt.x, .int (pt.y + d * (j : Int) + d)]) p6 = some (.tup [.int pt.x, .int (pt.y + d * (j : Int) + d)]) := upd_same
      revert s6 g6
      generalize upd H5 p6 (.tup [.int pt.x, .int (pt.y + d * (j : Int) + d)]) = H6
      intro s6 g6
      have hl6 := s6 _ _ (s5 _ _ hl4)
      refine ⟨l, _, _, rfl, rfl, hl6, ?_, ?_⟩
      · rw [List.length_map]
        exact Nat.lt_trans (by omega : qs.length < 100) (by decide)
      have ej : pt.y + d * (j : Int) + d = pt.y + d * ((j + 1 : Nat) : Int) := by
        rw [show ((j + 1 : Nat) : Int) = (j : Int) + 1 by omega, Int.mul_add, Int.mul_one, Int.add_assoc]
      rw [ej] at g6
      refine ⟨j + 1, qs ++ [p6], rfl, by rw [← ej]; rfl, fun b u nb e => ?_, by rw [upd_same, List.map_append]; rfl, ?_⟩
      · rw [upd_ne nb]
        exact s6 _ _ (s5 _ _ (k4 _ _ nb e))
      · rw [List.range_succ, List.map_append]
        refine CellsL.snoc (CellsL.keep (fun b xs e => ?_) cl4) ?_
        · rw [upd_ne (ne_of e hl4 (fun z => nomatch z))]
          exact s6 _ _ (s5 _ _ e)
        · rw [upd_ne (ne_of g6 hl6 (fun z => nomatch z))]
          show _ = some (HO.tup [.int pt.x, .int (pt.y + d * (0 + ((j + 1 : Nat) : Int)))])
          rw [Int.zero_add]
          exact g6
    · have c' : pt.y + d * (j : Int) = r := by
        have := c
        simpa using this
      have jn : j = n := by
        rw [hd] at c'
        split at c' <;> split at hn <;> omega
      subst jn
      rw [due_up (s := d) hn hd] at cl4
      rw [c']
      refine ⟨_, rfl, _, rfl, _, rfl, q0, w, pt, b, rfl, k4 _ _ (fun z => by rw [z, nl] at hq; cases hq) hq, _, rfl, ?_, ?_, ?_⟩
      · split <;> omega
      · split <;> omega
      obtain ⟨e, he⟩ : ∃ e : Int, e = if decide (V.str (sideW b) = V.str "left") then -1 else 1 := ⟨_, rfl⟩
      have ub : (if b = true then pt.x else w + 1 - pt.x).toNat < 31 := by split <;> omega
      refine for_range (Pv := fun i σ H5 => ∃ (v7 : Option V) (qs : List Addr), σ = [some (.int w), some (.ref q0), some (.str (sideW b)), some (.int r), some (.int (pt.x + e * (i : Int))), some (.int r), some (.ref l), v7] ∧ (∀ b u, b ≠ l → H b = some u → H5 b = some u) ∧ H5 l = some (.lst (qs.map V.ref)) ∧ CellsL H5 (Geo.upL pt.x pt.y r ++ [(pt.x, r)] ++ (List.range i).map fun (k : Nat) => (pt.x + e * (1 + (k : Int)), r)) qs ∧ qs.length ≤ j + 1 + i) ?_ ?_ ?_
      · exact ⟨none, qs, by simp, k4, hl4, by simpa using cl4, by omega⟩
      · rintro i σ H5 hi ⟨v7, qs5, rfl, k5, hl5, cl5, ql5⟩
        refine ⟨_, rfl, 1, rfl, (by show 2 ≤ sizeLine; decide), fun l2 hl2 => ?_⟩
        have s6 : Same H5 (upd H5 l2 (.lst [.int 1, .int (-1)])) := same_upd (Same.refl _) hl2
        have g6 : upd H5 l2 (.lst [.int 1, .int (-1)]) l2 = some (.lst [.int 1, .int (-1)]) := upd_same
        revert s6 g6
        generalize upd H5 l2 (.lst [.int 1, .int (-1)]) = H6
        intro s6 g6
        refine ⟨_, rfl, rfl, .inr ⟨_, rfl, l2, _, _, .int e, rfl, rfl, SqL.of g6, at_two he, _, _, rfl, rfl, ?_⟩⟩
        refine ⟨_, rfl, .inl ⟨rfl, _, SqL.of (s6 _ _ hl5)⟩, _, rfl, _, rfl, (by show 2 ≤ sizeLine; decide), fun p6 hp6 => ?_⟩
        have s7 : Same H6 (upd H6 p6 (.tup [.int (pt.x + e * (i : Int) + e), .int r])) := same_upd (Same.refl _) hp6
        have g7 : upd H6 p6 (.tup [.int (pt.x + e * (i : Int) + e), .int r]) p6 = some (.tup [.int (pt.x + e * (i : Int) + e), .int r]) := upd_same
        revert s7 g7
        generalize upd H6 p6 (.tup [.int (pt.x + e * (i : Int) + e), .int r]) = H7
        intro s7 g7
        have hl7 := s7 _ _ (s6 _ _ hl5)
        refine ⟨l, _, _, rfl, rfl, hl7, ?_, ?_⟩
        · rw [List.length_map]
          exact Nat.lt_trans (by omega : qs5.length < 100) (by decide)
        have ej : pt.x + e * (i : Int) + e = pt.x + e * ((i + 1 : Nat) : Int) := by
          rw [show ((i + 1 : Nat) : Int) = (i : Int) + 1 by omega, Int.mul_add, Int.mul_one, Int.add_assoc]
        rw [ej] at g7
        refine ⟨_, qs5 ++ [p6], by rw [← ej]; rfl, fun b u nb e => ?_, by rw [upd_same, List.map_append]; rfl, ?_, by simp; omega⟩
        · rw [upd_ne nb]
          exact s7 _ _ (s6 _ _ (k5 _ _ nb e))
        · rw [List.range_succ, List.map_append, ← List.append_assoc]
          refine CellsL.snoc (CellsL.keep (fun b xs e => ?_) cl5) ?_
          · rw [upd_ne (ne_of e hl5 (fun z => nomatch z))]
            exact s7 _ _ (s6 _ _ e)
          · rw [upd_ne (ne_of g7 hl7 (fun z => nomatch z))]
            show _ = some (HO.tup [.int (pt.x + e * (1 + (i : Int))), .int r])
            rw [show (1 + (i : Int)) = ((i + 1 : Nat) : Int) by omega]
            exact g7
      · rintro σ H5 ⟨v7, qs5, rfl, k5, hl5, cl5, ql5⟩
        refine ⟨_, rfl, q H5 l qs5 (fun b u e => k5 _ _ (ne_of_none e nl) e) hl5 ?_ (by omega)⟩
        unfold Geo.cells
        rw [List.append_assoc, List.singleton_append] at cl5
        cases b with
        | true =>
          rw [due_left x1]
          have e1 : e = -1 := by rw [he]; decide +kernel
          subst e1
          rw [show (fun (k : Nat) => (pt.x - (1 + (k : Int)), r)) = (fun (k : Nat) => (pt.x + -1 * (1 + (k : Int)), r)) from funext fun k => by congr 1; omega, show (pt.x + 1 - 1).toNat = (if true = true then pt.x else w + 1 - pt.x).toNat by rw [if_pos rfl]; omega]
          exact cl5
        | false =>
          rw [due_right x2]
          have e1 : e = 1 := by rw [he]; decide +kernel
          subst e1
          rw [show (fun (k : Nat) => (pt.x + (1 + (k : Int)), r)) = (fun (k : Nat) => (pt.x + 1 * (1 + (k : Int)), r)) from funext fun k => by congr 1; omega, show (w + 2 - pt.x - 1).toNat = (if false = true then pt.x else w + 1 - pt.x).toNat by rw [if_neg (by decide)]; omega]
          exact cl5
end
end S51
set_option maxRecDepth 100000
set_option maxHeartbeats 4000000
namespace S51
open PySem L2 XL PyProof.Rows
def spLMet : Sp := fun vs H Q _ => ∃ (d o1 o2 : Addr) (w h : Int) (ps : List Pt) (p p' : Pr), vs = [.int w, .ref d, .ref o1, .ref o2] ∧ PD H d ps ∧ H o1 = some (.tup (prV p)) ∧ H o2 = some (.tup (prV p')) ∧ PrOk ps w h p ∧ PrOk ps w h p' ∧ w ≤ 30 ∧ h ≤ 16 ∧ ∀ H' v, Same H H' → MeetV H' (Geo.meet (cel w p) (cel w p')) v → Q v H'
def spLCan (K : PySem.W.Frag) : Sp := fun vs H Q _ => ∃ (d ls o1 o2 : Addr) (w h : Int) (ps : List Pt) (ss : List Seat) (rs : List Addr) (p p' : Pr), vs = [.int w, .ref d, .ref ls, .ref o1, .ref o2] ∧ PD H d ps ∧ H ls = some (.lst (rs.map V.ref)) ∧ SeatsL H ss rs ∧ H o1 = some (.tup (prV p)) ∧ H o2 = some (.tup (prV p')) ∧ PrOk ps w h p ∧ PrOk ps w h p' ∧ w ≤ 30 ∧ h ≤ 16 ∧ ∀ H' v, Same H H' → MeetV H' (canO w ss p p') v → Q v H'
def spLUpr : Sp := fun vs H Q _ => ∃ (d l : Addr) (w h : Int) (ps : List Pt) (prs : List Pr) (qs : List Addr), vs = [.int w, .ref d, .ref l] ∧ PD H d ps ∧ H l = some (.lst (qs.map V.ref)) ∧ PrsL H prs qs ∧ (∀ p ∈ prs, PrOk ps w h p) ∧ w ≤ 30 ∧ h ≤ 16 ∧ Q (.int (prs.map (uprI w)).sum) H
theorem sum_take_succ {α : Type} (f : α → Int) {l : List α} {i : Nat} {x : α} (h : l[i]? = some x) : ((l.take (i + 1)).map f).sum = ((l.take i).map f).sum + f x := by
  rw [List.take_add_one, h, List.map_append, List.sum_append]
  simp
section
variable {P : Program} {w : World} {K : PySem.W.Frag} {mg : Str → Option Value} {base : Heap} {t : Adr}
theorem ok_law_met (T : Txt w K mg t) : FnOk true P w K mg base (CXo P w) 3 t.f_law_met t.d_law_met ["_law_width", "_law_points", "_law_one", "_law_other"] (spLMet) := by
  refine T.F_law_met.okn (k := 2) sc_law_met (fun vs H Q E h => ?_) (fun cdv A outer s H vs Q E hr h => ?_)
  · obtain ⟨d, o1, o2, w, h, ps, p, p', rfl, _⟩ := h
    rfl
  · obtain ⟨d, o1, o2, w, h, ps, p, p', rfl, h⟩ := h
    refine ⟨_, pss_cons (ps_set (i := 4) sc_law_met.nd rfl (Or.inl rfl) (pe_dnewT))
      (pss_cons (ps_for PassesOwn.never rfl (pi_list (pe_call (ok_law_cells T) (hr.mono (by decide)) rfl T.g_law_cells T.F_law_cells.kp T.b_law_cells .nil pass_none (pa_cons (pv 0) (pa_cons (pe_dget (hu_of hr) (pv 1) (pe_ix ix_tup (pv 3) (pe_int) (fun _ _ => rfl)) (fun _ _ => rfl)) (pa_cons (pe_ix ix_tup (pv 3) (pe_int) (fun _ _ => rfl)) (pa_cons (pe_ix ix_tup (pv 3) (pe_int) (fun _ _ => rfl)) (pa_nil))))))) (pg_name (i := 5) sc_law_met.nd rfl (Or.inl rfl)) (pss_one (ps_dput (hu_of hr) (pv 4) (pv 5) (pe_bl) rfl)))
      (pss_cons (ps_for PassesOwn.never rfl (pi_list (pe_call (ok_law_cells T) (hr.mono (by decide)) rfl T.g_law_cells T.F_law_cells.kp T.b_law_cells .nil pass_none (pa_cons (pv 0) (pa_cons (pe_dget (hu_of hr) (pv 1) (pe_ix ix_tup (pv 2) (pe_int) (fun _ _ => rfl)) (fun _ _ => rfl)) (pa_cons (pe_ix ix_tup (pv 2) (pe_int) (fun _ _ => rfl)) (pa_cons (pe_ix ix_tup (pv 2) (pe_int) (fun _ _ => rfl)) (pa_nil))))))) (pg_name (i := 5) sc_law_met.nd rfl (Or.inl rfl)) (pss_one (ps_if (pt_cmp (pc_din (hu_of hr) (pv 5) (pv 4))) (pss_one (ps_ret (pv 5))) (pss_nil))))
      (pss_one (ps_ret (pe_non))))), ?_⟩
    obtain ⟨pd, e1, e2, k1, k2, w2, h2, q⟩ := h
    refine fun dd hdd => ?_
    have s0 : Same H (upd H dd (.dT [])) := same_upd (Same.refl _) hdd
    have g0 : upd H dd (.dT []) dd = some (.dT []) := upd_same
    revert s0 g0
    generalize upd H dd (.dT []) = H0
    intro s0 g0
    obtain ⟨q1, dg1, hq1⟩ := (pd.same s0).get k2.fd
    obtain ⟨x1, x2, y1, y2⟩ := k2.xy
    have kr1 := k2.r1
    have kr2 := k2.r2
    refine ⟨_, rfl, _, rfl, _, rfl, o2, _, 0, _, rfl, rfl, SqT.of (s0 _ _ e2), rfl, d, _, rfl, dg1, _, rfl, o2, _, 1, _, rfl, rfl, SqT.of (s0 _ _ e2), rfl, _, rfl, o2, _, 2, _, rfl, rfl, SqT.of (s0 _ _ e2), rfl, q1, w, p'.2.2, p'.1, p'.2.1, rfl, hq1, ⟨x1, x2, w2⟩, ⟨y1, by omega⟩, ⟨kr1, by omega⟩, fun H1 l1 qs1 s1 hl1 cl1 ql1 => ⟨l1, rfl, ⟨_, SqL.of hl1⟩, ?_⟩⟩
    have g1 := s1 _ _ g0
    refine for_list (xs := qs1.map V.ref) (Pv := fun i σ H5 => ∃ (v5 : Option V) (kvs : List (List Key × V)), σ = [some (.int w), some (.ref d), some (.ref o1), some (.ref o2), some (.ref dd), v5] ∧ (∀ b u, b ≠ dd → H1 b = some u → H5 b = some u) ∧ H5 dd = some (.dT kvs) ∧ kvs.length ≤ i ∧ ∀ c : Int × Int, (valV kvs (ck c)).isSome = true ↔ c ∈ (Geo.cells w p'.1.x p'.1.y p'.2.1 p'.2.2).take i) ⟨_, [], rfl, fun b u _ e => e, g1, Nat.le_refl _, fun c => by simp [valV]⟩ (fun _ _ _ _ ⟨_, _, _, z, _⟩ => SqL.of (z _ _ (ne_of hl1 g1 (fun z => nomatch z)) hl1)) ?_ ?_
    · rintro i v σ H5 hv ⟨v5, kvs, rfl, k5, hd5, kl, mem⟩
      rw [List.getElem?_map] at hv
      obtain ⟨q7, hq7, rfl⟩ := Option.map_eq_some_iff.mp hv
      obtain ⟨c, hc, hcq⟩ := cl1.get hq7
      have hi := (List.getElem?_eq_some_iff.mp hq7).1
      have hcq5 : H5 q7 = some (.tup ((ck c).map kV)) := k5 _ _ (ne_of hcq g1 (fun z => nomatch z)) hcq
      have l2 := length_putK kvs (ck c) (.bl true)
      refine ⟨_, rfl, _, rfl, dd, _, rfl, DPut.t (k := ck c) hd5 hcq5 (Nat.lt_trans (by omega : kvs.length < 1000) (by decide)), _, putK kvs (ck c) (.bl true), rfl, fun b u nb e => ?_, upd_same, by omega, fun c' => ?_⟩
      · rw [upd_ne nb]
        exact k5 _ _ nb e
      · rw [valV_put, List.take_add_one, hc, List.mem_append]
        by_cases e : ck c' = ck c
        · have := ck_inj e
          subst this
          simp
        · have ne : c' ≠ c := fun z => e (by rw [z])
          rw [if_neg e, mem c']
          simp [ne]
    · rintro σ H5 ⟨v5, kvs, rfl, k5, hd5, kl, mem⟩
      rw [List.length_map, cl1.len, List.take_length] at mem
      have s5 : Same H H5 := fun b u e => k5 _ _ (ne_of_none e hdd) (s1 _ _ (s0 _ _ e))
      obtain ⟨q2, dg2, hq2⟩ := (pd.same s5).get k1.fd
      obtain ⟨x3, x4, y3, y4⟩ := k1.xy
      have kr3 := k1.r1
      have kr4 := k1.r2
      refine ⟨_, rfl, _, rfl, _, rfl, o1, _, 0, _, rfl, rfl, SqT.of (s5 _ _ e1), rfl, d, _, rfl, dg2, _, rfl, o1, _, 1, _, rfl, rfl, SqT.of (s5 _ _ e1), rfl, _, rfl, o1, _, 2, _, rfl, rfl, SqT.of (s5 _ _ e1), rfl, q2, w, p.2.2, p.1, p.2.1, rfl, hq2, ⟨x3, x4, w2⟩, ⟨y3, by omega⟩, ⟨kr3, by omega⟩, fun H6 l6 qs6 s6 hl6 cl6 ql6 => ⟨l6, rfl, ⟨_, SqL.of hl6⟩, ?_⟩⟩
      have hd6 := s6 _ _ hd5
      refine for_list (xs := qs6.map V.ref) (Pv := fun i σ H7 => ∃ v5 : Option V, σ = [some (.int w), some (.ref d), some (.ref o1), some (.ref o2), some (.ref dd), v5] ∧ H6 = H7 ∧ ∀ c ∈ (cel w p).take i, c ∉ cel w p') ⟨_, rfl, rfl, by simp⟩ (fun _ _ _ _ ⟨_, _, z, _⟩ => by rw [← z]; exact SqL.of hl6) ?_ ?_
      · rintro i v σ _ hv ⟨v7, rfl, rfl, no⟩
        rw [List.getElem?_map] at hv
        obtain ⟨q7, hq7, rfl⟩ := Option.map_eq_some_iff.mp hv
        obtain ⟨c, hc, hcq⟩ := cl6.get hq7
        refine ⟨_, rfl, _, rfl, dd, _, rfl, DGet.t (k := ck c) hd6 hcq, _, rfl, ite2 (fun z => ?_) (fun z => ?_)⟩
        · exact ⟨_, rfl, q _ _ (s5.trans s6) (.inr ⟨c, q7, Geo.meet_at hc no ((mem c).mp z), rfl, hcq⟩)⟩
        · refine ⟨_, rfl, rfl, fun c' hc' => ?_⟩
          rw [List.take_add_one, show (cel w p)[i]? = some c from hc] at hc'
          rcases List.mem_append.mp hc' with y | y
          · exact no c' y
          · have : c' = c := by simpa using y
            subst this
            exact fun y => z ((mem c').mpr y)
      · rintro σ _ ⟨v7, rfl, rfl, no⟩
        rw [List.length_map, cl6.len, show (Geo.cells w p.1.x p.1.y p.2.1 p.2.2) = cel w p from rfl, List.take_length] at no
        exact q _ _ (s5.trans s6) (.inl ⟨Geo.meet_no no, rfl⟩)
theorem ok_law_can (T : Txt w K mg t) : FnOk true P w K mg base (CXo P w) 4 t.f_law_can t.d_law_can ["_law_width", "_law_points", "_law_seats", "_law_one", "_law_other"] (spLCan K) := by
  refine T.F_law_can.okn (k := 3) sc_law_can (fun vs H Q E h => ?_) (fun cdv A outer s H vs Q E hr h => ?_)
  · obtain ⟨d, ls, o1, o2, w, h, ps, ss, rs, p, p', rfl, _⟩ := h
    rfl
  · obtain ⟨d, ls, o1, o2, w, h, ps, ss, rs, p, p', rfl, h⟩ := h
    refine ⟨_, pss_cons (ps_if (pt_not (pt_val (pe_call (ok_law_may T) (hr.mono (by decide)) rfl T.g_law_may T.F_law_may.kp T.b_law_may .nil pass_none (pa_cons (pv 1) (pa_cons (pv 2) (pa_cons (pe_ix ix_tup (pv 3) (pe_int) (fun _ _ => rfl)) (pa_cons (pe_ix ix_tup (pv 4) (pe_int) (fun _ _ => rfl)) (pa_cons (pe_ix ix_tup (pv 4) (pe_int) (fun _ _ => rfl)) (pa_nil))))))))) (pss_one (ps_ret (pe_non))) (pss_nil))
      (pss_cons (ps_if (pt_not (pt_val (pe_call (ok_law_may T) (hr.mono (by decide)) rfl T.g_law_may T.F_law_may.kp T.b_law_may .nil pass_none (pa_cons (pv 1) (pa_cons (pv 2) (pa_cons (pe_ix ix_tup (pv 4) (pe_int) (fun _ _ => rfl)) (pa_cons (pe_ix ix_tup (pv 3) (pe_int) (fun _ _ => rfl)) (pa_cons (pe_ix ix_tup (pv 3) (pe_int) (fun _ _ => rfl)) (pa_nil))))))))) (pss_one (ps_ret (pe_non))) (pss_nil))
      (pss_one (ps_ret (pe_call (ok_law_met T) (hr.mono (by decide)) rfl T.g_law_met T.F_law_met.kp T.b_law_met .nil pass_none (pa_cons (pv 0) (pa_cons (pv 1) (pa_cons (pv 3) (pa_cons (pv 4) (pa_nil))))))))), ?_⟩
    obtain ⟨pd, hls, sl, e1, e2, k1, k2, w2, h2, q⟩ := h
    refine ⟨_, rfl, _, rfl, _, rfl, o1, _, 0, _, rfl, rfl, SqT.of e1, rfl, _, rfl, o2, _, 1, _, rfl, rfl, SqT.of e2, rfl, _, rfl, o2, _, 2, _, rfl, rfl, SqT.of e2, rfl, d, ls, ps, ss, rs, p.1, p'.2.1, p'.2.2, rfl, pd, k1.fd, hls, sl, fun H1 s1 => ?_⟩
    refine ⟨_, rfl, ite2 (fun c => ?_) (fun c => ?_)⟩
    · have c' : mayB ss p.1 p'.2 = false := by simpa using c
      refine q _ _ s1 (.inl ⟨?_, rfl⟩)
      unfold canO excB
      rw [c', Bool.false_and, if_neg Bool.false_ne_true]
    have c' : mayB ss p.1 p'.2 = true := by simpa using c
    refine ⟨_, rfl, _, rfl, _, rfl, o2, _, 0, _, rfl, rfl, SqT.of (s1 _ _ e2), rfl, _, rfl, o1, _, 1, _, rfl, rfl, SqT.of (s1 _ _ e1), rfl, _, rfl, o1, _, 2, _, rfl, rfl, SqT.of (s1 _ _ e1), rfl, d, ls, ps, ss, rs, p'.1, p.2.1, p.2.2, rfl, pd.same s1, k2.fd, s1 _ _ hls, sl.keep (Same.tups s1), fun H2 s2 => ?_⟩
    refine ⟨_, rfl, ite2 (fun c2 => ?_) (fun c2 => ?_)⟩
    · have c3 : mayB ss p'.1 p.2 = false := by simpa using c2
      refine q _ _ (s1.trans s2) (.inl ⟨?_, rfl⟩)
      unfold canO excB
      rw [c3, Bool.and_false, if_neg Bool.false_ne_true]
    have c3 : mayB ss p'.1 p.2 = true := by simpa using c2
    have s12 := s1.trans s2
    refine ⟨_, rfl, _, rfl, _, rfl, _, rfl, d, o1, o2, w, h, ps, p, p', rfl, pd.same s12, s12 _ _ e1, s12 _ _ e2, k1, k2, w2, h2, fun H3 v s3 mv => ?_⟩
    refine q _ _ (s12.trans s3) ?_
    unfold canO excB
    rw [c', c3, Bool.true_and, if_pos rfl]
    exact mv
theorem ok_law_upright (T : Txt w K mg t) : FnOk true P w K mg base (CXo P w) 2 t.f_law_upright t.d_law_upright ["_law_width", "_law_points", "_law_pairs"] (spLUpr) := by
  refine T.F_law_upright.okn (k := 1) sc_law_upright (fun vs H Q E h => ?_) (fun cdv A outer s H vs Q E hr h => ?_)
  · obtain ⟨d, l, w, h, ps, prs, qs, rfl, _⟩ := h
    rfl
  · obtain ⟨d, l, w, h, ps, prs, qs, rfl, h⟩ := h
    refine ⟨_, pss_cons (ps_set (i := 3) sc_law_upright.nd rfl (Or.inl rfl) (pe_int))
      (pss_cons (ps_for PassesOwn.never rfl (pi_list (pv 2)) (pg_tup rfl (pgs_cons (pg_name (i := 4) sc_law_upright.nd rfl (Or.inl rfl)) (pgs_cons (pg_name (i := 5) sc_law_upright.nd rfl (Or.inl rfl)) (pgs_cons (pg_name (i := 6) sc_law_upright.nd rfl (Or.inl rfl)) (pgs_nil))))) (pss_cons (ps_set (i := 7) sc_law_upright.nd rfl (Or.inl rfl) (pe_dget (hu_of hr) (pv 1) (pv 4) (fun _ _ => rfl)))
      (pss_one (ps_set (i := 3) sc_law_upright.nd rfl (Or.inl rfl) (pe_op op_add (pv 3) (pe_op op_mul (pe_call (ok_law_across T) (hr.mono (by decide)) rfl T.g_law_across T.F_law_across.kp T.b_law_across .nil pass_none (pa_cons (pv 0) (pa_cons (pv 7) (pa_cons (pv 5) (pa_nil))))) (pe_callB (call_max2 rfl) rfl T.n_max boot_max (pa_cons (pe_op op_sub (pv 6) (pe_ix ix_list (pv 7) (pe_int) (fun _ _ => rfl))) (pa_cons (pe_op op_sub (pe_ix ix_list (pv 7) (pe_int) (fun _ _ => rfl)) (pv 6)) (pa_nil))))))))))
      (pss_one (ps_ret (pv 3)))), ?_⟩
    obtain ⟨pd, hl, pr, ok, w2, h2, q⟩ := h
    refine ⟨_, rfl, l, rfl, ⟨_, SqL.of hl⟩, ?_⟩
    refine for_list (xs := qs.map V.ref) (Pv := fun i σ H5 => ∃ (v4 v5 v6 v7 : Option V), σ = [some (.int w), some (.ref d), some (.ref l), some (.int ((prs.take i).map (uprI w)).sum), v4, v5, v6, v7] ∧ H = H5) ⟨_, _, _, _, rfl, rfl⟩ (fun _ _ _ _ ⟨_, _, _, _, _, z⟩ => by rw [← z]; exact SqL.of hl) ?_ ?_
    · rintro i v σ _ hv ⟨v4, v5, v6, v7, rfl, rfl⟩
      rw [List.getElem?_map] at hv
      obtain ⟨o, ho, rfl⟩ := Option.map_eq_some_iff.mp hv
      obtain ⟨p, hp, ep⟩ := pr.get ho
      have okp := ok p (List.mem_of_getElem? hp)
      obtain ⟨q1, dg1, hq1⟩ := pd.get okp.fd
      obtain ⟨x1, x2, y1, y2⟩ := okp.xy
      have kr1 := okp.r1
      have kr2 := okp.r2
      refine ⟨o, _, rfl, SqT.of ep, rfl, _, _, rfl, _, _, rfl, _, _, rfl, rfl, ?_⟩
      refine ⟨_, rfl, _, rfl, d, _, rfl, dg1, ?_⟩
      have sm : -(2 ^ 64) < acrI w p ∧ acrI w p < 2 ^ 64 := by unfold acrI; split <;> omega
      refine ⟨_, rfl, _, rfl, _, rfl, _, rfl, q1, w, p.1, p.2.1, rfl, hq1, ?_⟩
      refine ⟨_, rfl, _, rfl, q1, _, 1, _, rfl, rfl, SqL.of hq1, rfl, _, _, rfl, rfl, _, rfl, q1, _, 1, _, rfl, rfl, SqL.of hq1, rfl, _, rfl, _, _, rfl, rfl, _, _, rfl, _, _, rfl, rfl, .inl sm, _, _, rfl, rfl, some (.str p.1.nm), some (.str (sideW p.2.1)), some (.int p.2.2), some (.ref q1), ?_, rfl⟩
      rw [sum_take_succ _ hp]
      have em : (if p.1.y - p.2.2 > p.2.2 - p.1.y then p.1.y - p.2.2 else p.2.2 - p.1.y) = (if p.1.y - p.2.2 < 0 then -(p.1.y - p.2.2) else p.1.y - p.2.2) := by
        split <;> split <;> omega
      unfold uprI acrI
      rw [← em]
      rfl
    · rintro σ _ ⟨v4, v5, v6, v7, rfl, rfl⟩
      rw [List.length_map, pr.len, List.take_length]
      exact ⟨_, rfl, q⟩
end
end S51
set_option maxRecDepth 100000
set_option maxHeartbeats 4000000
namespace S51
open PySem L2 XL PyProof.Rows
theorem ltr7 {f : Int} {i k : Nat} (h : k < i) (hi : i < 13) : ltr ((f + 7 * (k : Int)) % 26) ≠ ltr ((f + 7 * (0 + (i : Int))) % 26) := fun e => by
  have e' := ltr_inj (mod_in _ (by decide)).1 (mod_in _ (by decide)).1 e
  omega
theorem inV_int {x : Int} {zs : List Int} : inV (.int x) (zs.map V.int) = decide (x ∈ zs) := by
  unfold inV
  rw [Bool.eq_iff_iff, List.any_eq_true, decide_eq_true_iff]
  constructor
  · rintro ⟨y, hy, e⟩
    obtain ⟨z, hz, rfl⟩ := List.mem_map.mp hy
    have : z = x := by simpa [eqV] using e
    exact this ▸ hz
  · intro h
    exact ⟨.int x, List.mem_map.mpr ⟨x, h, rfl⟩, by simp [eqV]⟩
theorem all_flat (zs : List Int) : (zs.map V.int).all flatV = true := by
  rw [List.all_eq_true]
  intro z hz
  obtain ⟨i, _, rfl⟩ := List.mem_map.mp hz
  rfl
theorem PtsOk.snoc {w h : Int} {ps : List Pt} (o : PtsOk w h ps) {p : Pt} (k : PtOk w h p) (n1 : ∀ q ∈ ps, q.nm ≠ p.nm) (n2 : p.x ∉ ps.map (·.x)) (n3 : p.y ∉ ps.map (·.y)) (l : ps.length < 12) : PtsOk w h (ps ++ [p]) := by
  refine ⟨fun q hq => ?_, ?_, ?_, ?_, by rw [List.length_append]; exact l⟩
  · rcases List.mem_append.mp hq with z | z
    · exact o.ok q z
    · rw [List.mem_singleton.mp z]; exact k
  · rw [List.map_append, List.nodup_append]
    refine ⟨o.nn, by simp, fun a ha b hb e => ?_⟩
    obtain ⟨q, hq, rfl⟩ := List.mem_map.mp ha
    simp at hb
    subst hb
    exact n1 q hq e
  · rw [List.map_append, List.nodup_append]
    refine ⟨o.nx, by simp, fun a ha b hb e => ?_⟩
    simp at hb
    subst hb
    exact n2 (e ▸ ha)
  · rw [List.map_append, List.nodup_append]
    refine ⟨o.ny, by simp, fun a ha b hb e => ?_⟩
    simp at hb
    subst hb
    exact n3 (e ▸ ha)
theorem comp_vals {σ : L2.St} {fr : List Nat} {te : TE} {l d : Addr} {H : Hp} {Q : VK} {ob : Obj} {kvs : List (Key × V)}  (zs : List V) (hz : zs.length = kvs.length) (hd : H d = some (.dK kvs)) (hl : upd H d (.frz ob (.dK kvs)) l = none) (hn : kvs.length < 1000)
    (hte : ∀ (i : Nat) (k : Key) (x z : V) (H2 : Hp) (R : VK), kvs[i]? = some (k, x) → zs[i]? = some z → (∀ b u, b ≠ d → H b = some u → H2 b = some u) → R z H2 → te ((blk0 σ fr 1).set 0 (some x)) H2 R)
    (fin : ∀ H2, H2 d = some (.frz ob (.dK kvs)) → Same H (upd H2 d (.dK kvs)) → upd H2 d (.dK kvs) l = some (.lst zs) → Q (.ref l) H2) : CompG (Itw d ob kvs) 1 (gName 0) σ fr tTrue te l (upd H d (.frz ob (.dK kvs))) Q := by
  have nl : l ≠ d := fun z => by
    rw [z, upd_same] at hl
    cases hl
  have hl0 : H l = none := by rwa [upd_ne nl] at hl
  refine compG_by kvs.length (fun i xs H2 => xs = zs.take i ∧ H2 d = some (.frz ob (.dK kvs)) ∧ (∀ b u, b ≠ d → H b = some u → H2 b = some u) ∧ H2 l = some (.lst xs)) ?_ ?_ ?_ ?_
  · refine ⟨by simp, ?_, fun b u nb e => ?_, upd_same⟩
    · rw [upd_ne (Ne.symm nl)]
      exact upd_same
    · rw [upd_ne (ne_of_none e hl0), upd_ne nb]
      exact e
  · rintro i xs H2 lt ⟨_, h1, _⟩
    exact ⟨h1, lt⟩
  · rintro i xs H2 v H3 lt ⟨rfl, h1, k2, hl2⟩ ⟨rfl, k, hk⟩ N hN
    refine gT_if ?_
    have lz : i < zs.length := by omega
    refine hte i k v zs[i] _ _ hk (List.getElem?_eq_getElem lz) k2 ⟨hl2, ?_, hN _ _ ⟨?_, ?_, fun b u nb e => ?_, upd_same⟩⟩
    · rw [List.length_take]
      exact Nat.lt_trans (by omega : min i zs.length < 1000) (by decide)
    · rw [List.take_add_one, List.getElem?_eq_getElem lz]
      rfl
    · rw [upd_ne (Ne.symm nl)]
      exact h1
    · rw [upd_ne (ne_of_none e hl0)]
      exact k2 _ _ nb e
  · rintro xs H2 ⟨rfl, h1, k2, hl2⟩
    refine ⟨⟨h1, Nat.le_refl _⟩, fin _ h1 (fun b u e => ?_) ?_⟩
    · by_cases c : b = d
      · subst c
        rw [upd_same, ← hd]
        exact e
      · rw [upd_ne c]
        exact k2 _ _ c e
    · rw [upd_ne nl, hl2, ← hz, List.take_length]
theorem sd4_at (m : Int) : ∃ x : Str, atI [V.str "both", V.str "both", V.str "left", V.str "right"] (m % 4) = some (.str x) ∧ (x = "left" ∨ x = "right" ∨ x = "both") := by
  obtain ⟨h0, h1⟩ := mod_in m (show (0 : Int) < 4 by decide)
  have : m % 4 = 0 ∨ m % 4 = 1 ∨ m % 4 = 2 ∨ m % 4 = 3 := by omega
  rcases this with e | e | e | e <;> rw [e]
  · exact ⟨"both", rfl, .inr (.inr rfl)⟩
  · exact ⟨"both", rfl, .inr (.inr rfl)⟩
  · exact ⟨"left", rfl, .inl rfl⟩
  · exact ⟨"right", rfl, .inr (.inl rfl)⟩
theorem Lp.keepL {H H' : Hp} (s : ∀ b xs, H b = some (.lst xs) → H' b = some (.lst xs)) {ps : List Pt} {kvs : List (Key × V)} (h : Lp H ps kvs) : Lp H' ps kvs := by
  induction h with
  | nil => exact .nil
  | cons h _ ih => exact .cons (s _ _ h) ih
def spBuilt (t : Adr) : Sp := fun vs H Q _ => ∃ c : Int, vs = [.int c, .int 6, .int 30, .int 16, .bl false] ∧ ∀ (H' : Hp) (tp a dp do_ d : Addr) (w h : Int) (ps : List Pt) (kvs : List (Key × V)), Same H H' → H' tp = some (.tup [.ref a, .ref d]) → Pic t H' a dp do_ w h ps → H' do_ = some (.dT []) → PtsOk w h ps → ps.length ≤ 6 → H' d = some (.dK kvs) → Lp H' ps kvs → d ≠ dp → H d = none → H do_ = none → Q (.ref tp) H'
section
variable {P : Program} {w : World} {K : PySem.W.Frag} {mg : Str → Option Value} {base : Heap} {t : Adr}
theorem ok_law_built (T : Txt w K mg t) : FnOk true P w K mg base (CXo P w) 5 t.f_law_built t.d_law_built ["_law_cell_here", "_law_most", "_law_wide", "_law_high", "_law_free"] (spBuilt t) := by
  refine T.F_law_built.okn (k := 4) sc_law_built (fun vs H Q E h => ?_) (fun cdv A outer s H vs Q E hr h => ?_)
  · obtain ⟨c, rfl, _⟩ := h
    rfl
  · obtain ⟨c, rfl, h⟩ := h
    refine ⟨_, pss_cons (ps_set (i := 5) sc_law_built.nd rfl (Or.inl rfl) (pe_make T.k_Picture (ok_Picture_init T) (hr.mono (by decide)) rfl T.g_Picture T.b_Picture_init .nil pass_none (pa_cons (pe_op op_add (pe_int) (pe_op op_mod (pe_call (ok_law_mixed T) (hr.mono (by decide)) rfl T.g_law_mixed T.F_law_mixed.kp T.b_law_mixed .nil pass_none (pa_cons (pv 0) (pa_cons (pe_int) (pa_nil)))) (pv 2))) (pa_cons (pe_op op_add (pe_int) (pe_op op_mod (pe_call (ok_law_mixed T) (hr.mono (by decide)) rfl T.g_law_mixed T.F_law_mixed.kp T.b_law_mixed .nil pass_none (pa_cons (pv 0) (pa_cons (pe_int) (pa_nil)))) (pv 3))) (pa_nil)))))
      (pss_cons (ps_set (i := 6) sc_law_built.nd rfl (Or.inl rfl) (pe_dnewK))
      (pss_cons (ps_set (i := 7) sc_law_built.nd rfl (Or.inl rfl) (pe_call (ok_law_mixed T) (hr.mono (by decide)) rfl T.g_law_mixed T.F_law_mixed.kp T.b_law_mixed .nil pass_none (pa_cons (pv 0) (pa_cons (pe_int) (pa_nil)))))
      (pss_cons (ps_for PassesOwn.never rfl (pi_range1 rfl T.n_range (pa_cons (pe_op op_mod (pe_call (ok_law_mixed T) (hr.mono (by decide)) rfl T.g_law_mixed T.F_law_mixed.kp T.b_law_mixed .nil pass_none (pa_cons (pv 0) (pa_cons (pe_int) (pa_nil)))) (pe_op op_add (pv 1) (pe_int))) (pa_nil))) (pg_name (i := 8) sc_law_built.nd rfl (Or.inl rfl)) (pss_cons (ps_set (i := 9) sc_law_built.nd rfl (Or.inl rfl) (pe_op op_add (pe_int) (pe_op op_mod (pe_call (ok_law_mixed T) (hr.mono (by decide)) rfl T.g_law_mixed T.F_law_mixed.kp T.b_law_mixed .nil pass_none (pa_cons (pv 0) (pa_cons (pe_op op_add (pe_int) (pe_op op_mul (pe_int) (pv 8))) (pa_nil)))) (pe_fld (pv 5) rfl))))
      (pss_cons (ps_set (i := 10) sc_law_built.nd rfl (Or.inl rfl) (pe_op op_add (pe_int) (pe_op op_mod (pe_call (ok_law_mixed T) (hr.mono (by decide)) rfl T.g_law_mixed T.F_law_mixed.kp T.b_law_mixed .nil pass_none (pa_cons (pv 0) (pa_cons (pe_op op_add (pe_int) (pe_op op_mul (pe_int) (pv 8))) (pa_nil)))) (pe_fld (pv 5) rfl))))
      (pss_cons (ps_set (i := 11) sc_law_built.nd rfl (Or.inl rfl) (pe_call (ok_law_mixed T) (hr.mono (by decide)) rfl T.g_law_mixed T.F_law_mixed.kp T.b_law_mixed .nil pass_none (pa_cons (pv 0) (pa_cons (pe_op op_add (pe_int) (pe_op op_mul (pe_int) (pv 8))) (pa_nil)))))
      (pss_cons (ps_set (i := 12) sc_law_built.nd rfl (Or.inl rfl) (pe_op op_add (pe_int) (pe_op op_mod (pe_op op_fdiv (pv 11) (pe_int)) (pe_fld (pv 5) rfl))))
      (pss_cons (ps_set (i := 13) sc_law_built.nd rfl (Or.inl rfl) (pe_lst (pa_cons (pv 9) (pa_cons (pv 10) (pa_cons (pe_ix ix_list (pe_lst (pa_cons (pe_str) (pa_cons (pe_str) (pa_cons (pe_str) (pa_cons (pe_str) (pa_nil)))))) (pe_op op_mod (pv 11) (pe_int)) (fun _ _ => rfl)) (pa_cons (pv 12) (pa_cons (pe_op op_add (pv 12) (pe_op op_mod (pe_op op_fdiv (pv 11) (pe_int)) (pe_fld (pv 5) rfl))) (pa_nil))))))))
      (pss_cons (ps_asg (pe_callB (call_min2 rfl) rfl T.n_min boot_min (pa_cons (pe_ix ix_list (pv 13) (pe_int) (fun _ _ => rfl)) (pa_cons (pe_fld (pv 5) rfl) (pa_nil)))) (pg_sub (pv 13) (pe_int) set_list))
      (pss_cons (ps_mid (ps_if (PW.pt (pw_or (pt_val (pv 4)) (pw_or1 (pt_cmpR op_gt (pe_op op_mod (pe_op op_fdiv (pv 11) (pe_int)) (pe_int)) (pe_int) (nomark _))))) (pss_cons (ps_asg (pe_int) (pg_sub (pv 13) (pe_int) set_list))
      (pss_one (ps_asg (pe_fld (pv 5) rfl) (pg_sub (pv 13) (pe_int) set_list)))) (pss_nil)))
      (pss_cons (ps_mid (ps_if (pt_val (pv 4)) (pss_one (ps_asg (pe_str) (pg_sub (pv 13) (pe_int) set_list))) (pss_nil)))
      (pss_one (ps_mid (ps_if (PW.pt (pw_and (pt_cmpR op_notIn_seq (pv 9) (pe_thaw (pe_compG rfl (blkG_of (zs := ["_law_one"]) (ys := []) (fr := []) (N0 := ["_law_cell_here", "_law_most", "_law_wide", "_law_high", "_law_free", "_law_picture", "_law_points", "_law_first", "_law_k", "_law_x", "_law_y", "_law_number", "_law_low", "_law_point", "_law_name"]) (sc0 := defScope s_law_built) (by decide +kernel) rfl rfl rfl) (pi_values (pv 6)) (fun _ _ _ _ _ ow nd => pg_name (i := 0) nd rfl (Or.inl (ow _ (by simp))) (Or.inr (ow _ (by simp)))) (gok_name (by decide)) (fun _ _ _ _ _ => pif_nil) (fun _ _ _ _ _ => pe_ix (r := rIxL K) ix_list (pv 0) (pe_int) (fun _ _ => rfl)))) (by rfl)) (pw_and1 (pt_cmpR op_notIn_seq (pv 10) (pe_thaw (pe_compG rfl (blkG_of (zs := ["_law_one"]) (ys := []) (fr := []) (N0 := ["_law_cell_here", "_law_most", "_law_wide", "_law_high", "_law_free", "_law_picture", "_law_points", "_law_first", "_law_k", "_law_x", "_law_y", "_law_number", "_law_low", "_law_point", "_law_name"]) (sc0 := defScope s_law_built) (by decide +kernel) rfl rfl rfl) (pi_values (pv 6)) (fun _ _ _ _ _ ow nd => pg_name (i := 0) nd rfl (Or.inl (ow _ (by simp))) (Or.inr (ow _ (by simp)))) (gok_name (by decide)) (fun _ _ _ _ _ => pif_nil) (fun _ _ _ _ _ => pe_ix (r := rIxL K) ix_list (pv 0) (pe_int) (fun _ _ => rfl)))) (by rfl))))) (pss_cons (ps_set (i := 14) sc_law_built.nd rfl (Or.inl rfl) (pe_ix ix_str (pe_str) (pe_op op_mod (pe_op op_add (pv 7) (pe_op op_mul (pe_int) (pv 8))) (pe_int)) (fun _ _ => rfl)))
      (pss_cons (ps_expr (pe_meth (pv 5) T.c_Picture T.m_Picture_put (ok_Picture_put T) (hr.mono (by decide)) T.b_Picture_put .nil pass_none (pa_consP (pv 14) (pa_consP (pv 9) (pa_consP (pv 10) (pa_consP (pe_ix ix_list (pv 13) (pe_int) (fun _ _ => rfl)) (pa_consP (pe_ix ix_list (pv 13) (pe_int) (fun _ _ => rfl)) (pa_consP (pe_ix ix_list (pv 13) (pe_int) (fun _ _ => rfl)) (pa_nil) rfl) rfl) rfl) rfl) rfl) rfl)))
      (pss_one (ps_dput (hu_of hr) (pv 6) (pv 14) (pv 13) rfl)))) (pss_nil)))))))))))))
      (pss_one (ps_ret (pe_tup (pa_cons (pv 5) (pa_cons (pv 6) (pa_nil))))))))), ?_⟩
    refine ⟨_, rfl, c, 0, rfl, by decide, fun m1 a1 => ⟨_, rfl, _, _, rfl, rfl, (by show (0 : Int) < 30; decide), _, _, rfl, rfl, ?_⟩⟩
    refine ⟨_, rfl, c, 1, rfl, by decide, fun m2 a2 => ⟨_, rfl, _, _, rfl, rfl, (by show (0 : Int) < 16; decide), _, _, rfl, rfl, ?_⟩⟩
    have wb := mod_in m1 (show (0 : Int) < 30 by decide)
    have hb := mod_in m2 (show (0 : Int) < 16 by decide)
    obtain ⟨w, ew⟩ : ∃ w, w = 1 + m1 % 30 := ⟨_, rfl⟩
    obtain ⟨ph, eh⟩ : ∃ h, h = 1 + m2 % 16 := ⟨_, rfl⟩
    dsimp only
    rw [← ew, ← eh]
    have w1 : 1 ≤ w := by omega
    have w2 : w ≤ 30 := by omega
    have h1 : 1 ≤ ph := by omega
    have h2 : ph ≤ 16 := by omega
    refine fun a dx hx hdx ne => ⟨a, dx, w, ph, rfl, upd_same, w1, w2, h1, h2, fun H5 dp do_ hdp5 hdo5 s6 pic5 hdt => ⟨rfl, ?_⟩⟩
    have k5 : Same H H5 := fun b u e => s6 b u (ne_of_none e hx) (by rw [upd_ne (ne_of_none e hx), upd_ne (ne_of_none e hdx)]; exact e)
    have up : ∀ b, upd (upd H dx (.own a)) a (.ins t.C_Picture dx []) b = none → H b = none := fun b z => by
      cases e : H b with
      | none => rfl
      | some u => rw [upd_ne (ne_of_none e hx), upd_ne (ne_of_none e hdx), e] at z; cases z
    have fdp := up _ hdp5
    have fdo := up _ hdo5
    refine fun l hl5 => ?_
    have fl := k5.free hl5
    have s5l : Same H5 (upd H5 l (.dK [])) := same_upd (Same.refl _) hl5
    have ldp : l ≠ dp := fun z => by
      obtain ⟨kv, e, _⟩ := pic5.pl
      rw [← z, hl5] at e
      cases e
    refine ⟨_, rfl, c, 2, rfl, by decide, fun f f0 => ?_⟩
    refine ⟨_, rfl, c, 3, rfl, by decide, fun m3 a3 => ⟨_, rfl, _, _, rfl, rfl, _, _, rfl, rfl, (by show (0 : Int) < 6 + 1; decide), m3 % 7, rfl, ?_, ?_, ?_⟩⟩
    · have := mod_in m3 (show (0 : Int) < 7 by decide); omega
    · have := mod_in m3 (show (0 : Int) < 7 by decide); omega
    have nb := mod_in m3 (show (0 : Int) < 7 by decide)
    refine for_range (Pv := fun i σ H6 => ∃ (v8 v9 v10 v11 v12 v13 v14 : Option V) (ps : List Pt) (kvs : List (Key × V)), σ = [some (.int c), some (.int 6), some (.int 30), some (.int 16), some (.bl false), some (.ref a), some (.ref l), some (.int f), v8, v9, v10, v11, v12, v13, v14] ∧ Same H H6 ∧ Pic t H6 a dp do_ w ph ps ∧ H6 do_ = some (.dT []) ∧ H6 l = some (.dK kvs) ∧ Lp H6 ps kvs ∧ PtsOk w ph ps ∧ ps.length ≤ i ∧ ∀ p ∈ ps, ∃ k : Nat, k < i ∧ p.nm = ltr ((f + 7 * (k : Int)) % 26)) ?_ ?_ ?_
    · exact ⟨_, _, _, _, _, _, _, [], [], rfl, k5.trans s5l, Pic.same s5l pic5, s5l _ _ hdt, upd_same, .nil, ⟨fun p hp => (nomatch hp), List.nodup_nil, List.nodup_nil, List.nodup_nil, Nat.zero_le _⟩, Nat.le_refl _, fun p hp => (nomatch hp)⟩
    · rintro i σ H6 hi ⟨v8, v9, v10, v11, v12, v13, v14, ps, kvs, rfl, s7, pic6, hdt6, hl6, lp6, pok6, ple, pnm⟩
      have hi' : i < 13 := by omega
      have ql := lp6.len
      obtain ⟨dx6, hp6⟩ := pic6.ins
      refine ⟨_, rfl, _, rfl, _, _, rfl, rfl, .inl ⟨by decide, by decide⟩, _, _, rfl, rfl, c, _, rfl, (by omega), fun mx mx0 => ⟨_, rfl, a, _, _, _, _, rfl, hp6, T.c_Picture, T.n_Picture_width, lkW, _, _, rfl, rfl, (by show 0 < w; omega), _, _, rfl, rfl, ?_⟩⟩
      refine ⟨_, rfl, _, rfl, _, _, rfl, rfl, .inl ⟨by decide, by decide⟩, _, _, rfl, rfl, c, _, rfl, (by omega), fun my my0 => ⟨_, rfl, a, _, _, _, _, rfl, hp6, T.c_Picture, T.n_Picture_height, lkH, _, _, rfl, rfl, (by show 0 < ph; omega), _, _, rfl, rfl, ?_⟩⟩
      have bx := mod_in mx (show 0 < w by omega)
      have bY := mod_in my (show 0 < ph by omega)
      obtain ⟨x, ex⟩ : ∃ x, x = 1 + mx % w := ⟨_, rfl⟩
      obtain ⟨y, ey⟩ : ∃ y, y = 1 + my % ph := ⟨_, rfl⟩
      dsimp only
      rw [← ex, ← ey]
      refine ⟨_, rfl, _, rfl, _, _, rfl, rfl, .inl ⟨by decide, by decide⟩, _, _, rfl, rfl, c, _, rfl, (by omega), fun nr n0 => ?_⟩
      refine ⟨_, rfl, _, _, rfl, rfl, ⟨by decide, by decide⟩, _, rfl, a, _, _, _, _, rfl, hp6, T.c_Picture, T.n_Picture_height, lkH, _, _, rfl, rfl, (by show 0 < ph; omega), _, _, rfl, rfl, ?_⟩
      have bl := mod_in (nr / 16) (show 0 < ph by omega)
      obtain ⟨lo, elo⟩ : ∃ lo, lo = 1 + nr / 16 % ph := ⟨_, rfl⟩
      dsimp only
      rw [← elo]
      obtain ⟨sd, esd, hsd⟩ := sd4_at nr
      have bh := mod_in (nr / 300) (show 0 < ph by omega)
      obtain ⟨hi0, ehi⟩ : ∃ h, h = lo + nr / 300 % ph := ⟨_, rfl⟩
      refine ⟨_, rfl, _, rfl, (by show 4 ≤ sizeLine; decide), fun q3 hq3 => ?_⟩
      have s8 : Same H6 (upd H6 q3 (.lst [.str "both", .str "both", .str "left", .str "right"])) := same_upd (Same.refl _) hq3
      have g8 : upd H6 q3 (.lst [.str "both", .str "both", .str "left", .str "right"]) q3 = some (.lst [.str "both", .str "both", .str "left", .str "right"]) := upd_same
      revert s8 g8
      generalize upd H6 q3 (.lst [.str "both", .str "both", .str "left", .str "right"]) = H8
      intro s8 g8
      have hp8 := s8 _ _ hp6
      refine ⟨_, rfl, _, _, rfl, rfl, (by show (0 : Int) < 4; decide), q3, _, _, .str sd, rfl, rfl, SqL.of g8, esd, _, rfl, _, rfl, _, rfl, _, _, rfl, rfl, ⟨by decide, by decide⟩, _, rfl, a, _, _, _, _, rfl, hp8, T.c_Picture, T.n_Picture_height, lkH, _, _, rfl, rfl, (by show 0 < ph; omega), _, _, rfl, rfl, (by show 5 ≤ sizeLine; decide), fun q hq9 => ?_⟩
      dsimp only
      rw [← ehi]
      have s9 : Same H8 (upd H8 q (.lst [.int x, .int y, .str sd, .int lo, .int hi0])) := same_upd (Same.refl _) hq9
      have g9 : upd H8 q (.lst [.int x, .int y, .str sd, .int lo, .int hi0]) q = some (.lst [.int x, .int y, .str sd, .int lo, .int hi0]) := upd_same
      revert s9 g9
      generalize upd H8 q (.lst [.int x, .int y, .str sd, .int lo, .int hi0]) = H9
      intro s9 g9
      have s69 : Same H6 H9 := s8.trans s9
      have hp9 := s69 _ _ hp6
      have fq : H6 q = none := s8.free hq9
      refine ⟨_, rfl, q, _, 4, _, rfl, rfl, SqL.of g9, rfl, _, rfl, a, _, _, _, _, rfl, hp9, T.c_Picture, T.n_Picture_height, lkH, _, _, rfl, _, rfl, q, _, 4, 4, rfl, rfl, g9, rfl, ?_⟩
      obtain ⟨h9, eh9⟩ : ∃ z : Int, z = if ph < hi0 then ph else hi0 := ⟨_, rfl⟩
      have keepq : ∀ (Hz : Hp) (o : HO), Same H6 Hz → Same H6 (upd Hz q o) := fun Hz o s b u e => by
        rw [upd_ne (ne_of_none e fq)]
        exact s _ _ e
      have g10 : upd H9 q (.lst [.int x, .int y, .str sd, .int lo, .int h9]) q = some (.lst [.int x, .int y, .str sd, .int lo, .int h9]) := upd_same
      have s10 := keepq H9 (.lst [.int x, .int y, .str sd, .int lo, .int h9]) s69
      rw [show ([V.int x, .int y, .str sd, .int lo, .int hi0].set 4 (V.int (if ph < hi0 then ph else hi0))) = [.int x, .int y, .str sd, .int lo, .int h9] from by rw [eh9]; rfl]
      revert g10 s10
      generalize upd H9 q (.lst [.int x, .int y, .str sd, .int lo, .int h9]) = H10
      intro g10 s10
      have hp10 := s10 _ _ hp6
      refine ⟨fun σ' H' => σ' = [some (V.int c), some (.int 6), some (.int 30), some (.int 16), some (.bl false), some (.ref a), some (.ref l), some (.int f), some (.int (0 + (i : Int))), some (.int x), some (.int y), some (.int nr), some (.int lo), some (.ref q), v14] ∧ ∃ lo2 hi2, 1 ≤ lo2 ∧ lo2 ≤ hi2 ∧ hi2 ≤ ph ∧ H' q = some (.lst [.int x, .int y, .str sd, .int lo2, .int hi2]) ∧ Same H6 H', ?_, ?_⟩
      · refine ⟨_, rfl, _, rfl, iteF ⟨_, rfl, _, _, rfl, rfl, ⟨by decide, by decide⟩, _, _, rfl, rfl, (by show (0 : Int) < 4; decide), _, _, rfl, rfl, _, rfl, ite2 (fun cc => ?_) (fun cc => ?_)⟩⟩
        · refine ⟨_, rfl, q, _, 3, 3, rfl, rfl, g10, rfl, ?_⟩
          have g11 : upd H10 q (.lst [.int x, .int y, .str sd, .int 1, .int h9]) q = some (.lst [.int x, .int y, .str sd, .int 1, .int h9]) := upd_same
          have hp11 := keepq H10 (.lst [.int x, .int y, .str sd, .int 1, .int h9]) s10 _ _ hp6
          refine ⟨_, rfl, a, _, _, _, _, rfl, hp11, T.c_Picture, T.n_Picture_height, lkH, _, rfl, q, _, 4, 4, rfl, rfl, g11, rfl, rfl, 1, ph, by omega, by omega, by omega, upd_same, ?_⟩
          exact keepq _ _ (keepq _ _ s10)
        · exact ⟨rfl, lo, h9, by omega, by rw [eh9]; split <;> omega, by rw [eh9]; split <;> omega, g10, s10⟩
      rintro σ' H11 ⟨rfl, lo2, hi2, q1, q2, q3', g11, s11⟩
      refine ⟨fun σ' H' => σ' = [some (V.int c), some (.int 6), some (.int 30), some (.int 16), some (.bl false), some (.ref a), some (.ref l), some (.int f), some (.int (0 + (i : Int))), some (.int x), some (.int y), some (.int nr), some (.int lo), some (.ref q), v14] ∧ H11 = H', ⟨_, rfl, _, rfl, iteF ⟨rfl, rfl⟩⟩, ?_⟩
      rintro σ' _ ⟨rfl, rfl⟩
      refine ⟨_, ?_, fun _ _ z => z⟩
      have hl11 := s11 _ _ hl6
      have lp11 := lp6.same s11
      have pass : ∀ HB, Same H11 HB → ∃ v8 v9 v10 v11 v12 v13 v14' ps kvs, [some (V.int c), some (.int 6), some (.int 30), some (.int 16), some (.bl false), some (.ref a), some (.ref l), some (.int f), some (.int (0 + (i : Int))), some (.int x), some (.int y), some (.int nr), some (.int lo), some (.ref q), v14] = [some (V.int c), some (.int 6), some (.int 30), some (.int 16), some (.bl false), some (.ref a), some (.ref l), some (.int f), v8, v9, v10, v11, v12, v13, v14'] ∧ Same H HB ∧ Pic t HB a dp do_ w ph ps ∧ HB do_ = some (.dT []) ∧ HB l = some (.dK kvs) ∧ Lp HB ps kvs ∧ PtsOk w ph ps ∧ ps.length ≤ i + 1 ∧ ∀ p ∈ ps, ∃ k : Nat, k < i + 1 ∧ p.nm = ltr ((f + 7 * (k : Int)) % 26) := fun HB sB => by
        have s6B := s11.trans sB
        exact ⟨_, _, _, _, _, _, _, ps, kvs, rfl, s7.trans s6B, Pic.same s6B pic6, s6B _ _ hdt6, s6B _ _ hl6, lp6.same s6B, pok6, by omega, fun p hp => let ⟨k, h1, h2⟩ := pnm p hp; ⟨k, by omega, h2⟩⟩
      refine ⟨_, rfl, _, rfl, l, kvs, rfl, hl11, fun ob nf lx hlx => ?_⟩
      refine comp_vals ((ps.map (·.x)).map V.int) (by simp [ql]) hl11 hlx (by omega) (fun i k v z H2 R h1 h2 k2 r => ?_) (fun H2 e2 sA elA => ⟨l, ob, _, e2, nf, ?_⟩)
      · obtain ⟨p, o, e1, e2, rfl, e3⟩ := lp11.get h1
        rw [List.getElem?_map, List.getElem?_map, e1] at h2
        cases h2
        have no : o ≠ l := ne_of e3 hl11 (fun z => nomatch z)
        exact ⟨_, rfl, o, _, 0, _, rfl, rfl, SqL.of (k2 _ _ no e3), rfl, r⟩
      revert sA elA
      generalize upd H2 l (.dK kvs) = HA
      intro sA elA
      refine ⟨lx, _, rfl, .inl (SqL.of elA), rfl, all_flat _, _, rfl, ?_⟩
      refine ite2 (fun cx => ?_) (fun cx => ?_)
      · rw [if_pos rfl, inV_int] at cx
        have nx : x ∉ ps.map (·.x) := by simpa using cx
        have hlA := sA _ _ hl11
        have lpA := lp11.same sA
        refine ⟨_, rfl, _, rfl, l, kvs, rfl, hlA, fun ob nf ly hly => ?_⟩
        refine comp_vals ((ps.map (·.y)).map V.int) (by simp [ql]) hlA hly (by omega) (fun i k v z H2 R h1 h2 k2 r => ?_) (fun H2 e2 sB elB => ⟨l, ob, _, e2, nf, ?_⟩)
        · obtain ⟨p, o, e1, e2, rfl, e3⟩ := lpA.get h1
          rw [List.getElem?_map, List.getElem?_map, e1] at h2
          cases h2
          have no : o ≠ l := ne_of e3 hlA (fun z => nomatch z)
          exact ⟨_, rfl, o, _, 1, _, rfl, rfl, SqL.of (k2 _ _ no e3), rfl, r⟩
        revert sB elB
        generalize upd H2 l (.dK kvs) = HB
        intro sB elB
        refine ⟨ly, _, rfl, .inl (SqL.of elB), rfl, all_flat _, _, rfl, ?_⟩
        refine ite2 (fun cy => ?_) (fun cy => ?_)
        · rw [if_pos rfl, inV_int] at cy
          have ny : y ∉ ps.map (·.y) := by simpa using cy
          have sAB := sA.trans sB
          have s6B := s11.trans sAB
          have picB := Pic.same s6B pic6
          obtain ⟨dxB, hpB⟩ := picB.ins
          have gB := sAB _ _ g11
          obtain ⟨nm, enm⟩ : ∃ nm, nm = ltr ((f + 7 * (0 + (i : Int))) % 26) := ⟨_, rfl⟩
          have isn : isNm nm = true := by rw [enm]; exact isNm_ltr (mod_in _ (by decide)).1 (mod_in _ (by decide)).2
          refine ⟨_, rfl, _, rfl, _, _, rfl, rfl, .inl ⟨by decide, by decide⟩, _, _, rfl, rfl, _, _, rfl, rfl, (by show (0 : Int) < 26; decide), abc, _, _, rfl, rfl, (by decide +kernel), abc_ltr (mod_in _ (by decide)).1 (mod_in _ (by decide)).2, ?_⟩
          rw [show (⟨#[97 + ((f + 7 * (0 + (i : Int))) % 26).toNat]⟩ : Str) = nm from enm.symm]
          have nn : ∀ q ∈ ps, q.nm ≠ nm := fun q hq => by
            obtain ⟨k, hk, e⟩ := pnm q hq
            rw [e, enm]
            exact ltr7 hk hi'
          have len : ps.length < 12 := by omega
          refine ⟨_, rfl, a, dxB, _, rfl, hpB, lk_no (by decide +kernel), _, rfl, _, rfl, _, rfl, _, rfl, q, _, 2, _, rfl, rfl, SqL.of gB, rfl, _, rfl, q, _, 3, _, rfl, rfl, SqL.of gB, rfl, _, rfl, q, _, 4, _, rfl, rfl, SqL.of gB, rfl, ?_⟩
          refine ⟨a, dp, do_, w, ph, ps, nm, x, y, sd, lo2, hi2, .int _, rfl, picB, .inr rfl, isn, by omega, by omega, by omega, by omega, hsd, by omega, by omega, by omega, fun p hp => ⟨nn p hp, fun e => nx (e ▸ List.mem_map.mpr ⟨p, hp, rfl⟩), fun e => ny (e ▸ List.mem_map.mpr ⟨p, hp, rfl⟩)⟩, len, fun HC kC picC => ?_⟩
          obtain ⟨kv0, hk, _⟩ := picB.pl
          have ndp : ∀ b u, H b = some u → b ≠ dp := fun b u e => ne_of_none e fdp
          have hlC := kC _ _ ldp (s6B _ _ hl6)
          have gC := kC _ _ (ne_of gB hk (fun z => nomatch z)) gB
          have lpC : Lp HC ps kvs := Lp.keepL (fun b xs e => kC _ _ (ne_of e hk (fun z => nomatch z)) e) (lp6.same s6B)
          refine ⟨_, rfl, _, rfl, _, rfl, l, _, rfl, DPut.k (k := .inr nm) hlC (Nat.lt_trans (by omega : kvs.length < 13) (by decide)), ?_⟩
          rw [putK_new _ (lpC.no nn)]
          have bt : ∀ b u, b ≠ l → HC b = some u → upd HC l (.dK (kvs ++ [(.inr nm, .ref q)])) b = some u := fun b u nb e => by
            rw [upd_ne nb]
            exact e
          have tL : Tups HC (upd HC l (.dK (kvs ++ [(.inr nm, .ref q)]))) := fun b xs e => bt _ _ (ne_of e hlC (fun z => nomatch z)) e
          have tl2 : ∀ b xs, HC b = some (.lst xs) → upd HC l (.dK (kvs ++ [(.inr nm, .ref q)])) b = some (.lst xs) := fun b xs e => bt _ _ (ne_of e hlC (fun z => nomatch z)) e
          have picL : Pic t (upd HC l (.dK (kvs ++ [(.inr nm, .ref q)]))) a dp do_ w ph (ps ++ [⟨nm, x, y, sd, lo2, hi2⟩]) :=
            ⟨let ⟨d, e⟩ := picC.ins; ⟨d, bt _ _ (ne_of e hlC (fun z => nomatch z)) e⟩, let ⟨k, e, q⟩ := picC.pl; ⟨k, bt _ _ (Ne.symm ldp) e, q.keep tL⟩, picC.w1, picC.w2, picC.h1, picC.h2, picC.len⟩
          refine ⟨_, _, _, _, _, _, _, ps ++ [⟨nm, x, y, sd, lo2, hi2⟩], kvs ++ [(.inr nm, .ref q)], rfl, fun b u e => bt _ _ (ne_of_none e fl) (kC _ _ (ndp _ _ e) (s6B _ _ (s7 _ _ e))), picL, ?_, upd_same, ?_, ?_, ?_, ?_⟩
          · have e := kC _ _ (ne_of (s6B _ _ hdt6) hk (fun z => nomatch z)) (s6B _ _ hdt6)
            exact bt _ _ (ne_of e hlC (fun z => nomatch z)) e
          · exact Lp.snoc (p := ⟨nm, x, y, sd, lo2, hi2⟩) (Lp.keepL tl2 lpC) (tl2 _ _ gC)
          · exact PtsOk.snoc pok6 ⟨isn, by show 1 ≤ x; omega, by show x ≤ w; omega, by show 1 ≤ y; omega, by show y ≤ ph; omega, hsd, by show 1 ≤ lo2; omega, by show lo2 ≤ hi2; omega, by show hi2 ≤ ph; omega⟩ nn nx ny len
          · rw [List.length_append]
            show ps.length + 1 ≤ i + 1
            omega
          · intro p hp
            rcases List.mem_append.mp hp with z | z
            · obtain ⟨k, h1, h2⟩ := pnm p z
              exact ⟨k, by omega, h2⟩
            · rw [List.mem_singleton.mp z]
              exact ⟨i, by omega, by rw [← Int.zero_add (i : Int)]; exact enm⟩
        · exact pass HB (sA.trans sB)
      · exact pass HA sA
    · rintro σ H6 ⟨v8, v9, v10, v11, v12, v13, v14, ps, kvs, rfl, s7, pic6, hdt6, hl6, lp6, pok6, ple, pnm⟩
      refine ⟨_, rfl, _, rfl, (by show 2 ≤ sizeLine; decide), fun tp htp => ?_⟩
      have s8 : Same H6 (upd H6 tp (.tup [.ref a, .ref l])) := same_upd (Same.refl _) htp
      exact h _ tp a dp do_ l w ph ps kvs (s7.trans s8) upd_same (Pic.same s8 pic6) (s8 _ _ hdt6) pok6 (by omega) (s8 _ _ hl6) (lp6.same s8) ldp fl fdo
end
end S51
set_option maxRecDepth 100000
set_option maxHeartbeats 4000000
namespace S51
open PySem L2 XL PyProof.Rows
def Bef (i j : Nat) (s : Seat) : Prop := (if s.1 then 0 else 1) < i ∨ ((if s.1 then 0 else 1) = i ∧ s.2 ≤ j)
def spOpened (t : Adr) : Sp := fun vs H Q _ => ∃ (a dp do_ : Addr) (pw ph c : Int) (ps : List Pt), vs = [.ref a, .int c] ∧ Pic t H a dp do_ pw ph ps ∧ H do_ = some (.dT []) ∧
  ∀ (H' : Hp) (l : Addr) (ss : List Seat) (rs : List Addr), (∀ b u, b ≠ do_ → H b = some u → H' b = some u) → H l = none → Pic t H' a dp do_ pw ph ps → Sts H' do_ ss → SsOk ph ss → H' l = some (.lst (rs.map V.ref)) → SeatsL H' ss rs → Q (.ref l) H'
theorem bits_at {a b : Int} (x y : Int) (k : Int) (h0 : 0 ≤ k) (h1 : k < 4) : ∃ z : Int, atI [V.int a, V.int b, V.int x, V.int y] k = some (.int z) := by
  have : k = 0 ∨ k = 1 ∨ k = 2 ∨ k = 3 := by omega
  rcases this with e | e | e | e <;> rw [e]
  · exact ⟨a, rfl⟩
  · exact ⟨b, rfl⟩
  · exact ⟨x, rfl⟩
  · exact ⟨y, rfl⟩
section
variable {P : Program} {w : World} {K : PySem.W.Frag} {mg : Str → Option Value} {base : Heap} {t : Adr}
theorem ok_law_opened (T : Txt w K mg t) : FnOk true P w K mg base (CXo P w) 6 t.f_law_opened t.d_law_opened ["_law_picture", "_law_cell_here"] (spOpened t) := by
  refine T.F_law_opened.okn (k := 5) sc_law_opened (fun vs H Q E h => ?_) (fun cdv A outer s H vs Q E hr h => ?_)
  · obtain ⟨a, dp, do_, pw, ph, c, ps, rfl, _⟩ := h
    rfl
  · obtain ⟨a, dp, do_, pw, ph, c, ps, rfl, h⟩ := h
    refine ⟨_, pss_cons (ps_set (i := 2) sc_law_opened.nd rfl (Or.inl rfl) (pe_lst (pa_nil)))
      (pss_cons (ps_for PassesOwn.never rfl (pi_enumerate rfl T.n_enumerate (pa_cons (pe_lst (pa_cons (pe_str) (pa_cons (pe_str) (pa_nil)))) (pa_nil))) (pg_tup rfl (pgs_cons (pg_name (i := 3) sc_law_opened.nd rfl (Or.inl rfl)) (pgs_cons (pg_name (i := 4) sc_law_opened.nd rfl (Or.inl rfl)) (pgs_nil)))) (pss_cons (ps_set (i := 5) sc_law_opened.nd rfl (Or.inl rfl) (pe_call (ok_law_mixed T) (hr.mono (by decide)) rfl T.g_law_mixed T.F_law_mixed.kp T.b_law_mixed .nil pass_none (pa_cons (pv 1) (pa_cons (pv 3) (pa_nil)))))
      (pss_cons (ps_set (i := 6) sc_law_opened.nd rfl (Or.inl rfl) (pe_ix ix_list (pe_lst (pa_cons (pe_op op_mod (pe_op op_fdiv (pv 5) (pe_int)) (pe_int)) (pa_cons (pe_op op_mod (pe_op op_fdiv (pv 5) (pe_int)) (pe_int)) (pa_cons (pe_int) (pa_cons (pe_int) (pa_nil)))))) (pe_callB (call_max2 rfl) rfl T.n_max boot_max (pa_cons (pe_int) (pa_cons (pe_op op_sub (pe_op op_mod (pv 5) (pe_int)) (pe_int)) (pa_nil)))) (fun _ _ => rfl)))
      (pss_one (ps_for PassesOwn.never rfl (pi_range2 rfl T.n_range (pa_cons (pe_int) (pa_cons (pe_op op_add (pe_fld (pv 0) rfl) (pe_int)) (pa_nil)))) (pg_name (i := 7) sc_law_opened.nd rfl (Or.inl rfl)) (pss_one (ps_if (pt_cmpR op_eq (pe_op op_and (pe_op op_shr (pv 6) (pe_op op_sub (pv 7) (pe_int))) (pe_int)) (pe_int) (nomark _)) (pss_cons (ps_expr (pe_meth (pv 0) T.c_Picture T.m_Picture_open_seat (ok_Picture_open_seat T) (hr.mono (by decide)) T.b_Picture_open_seat .nil pass_none (pa_cons (pv 4) (pa_cons (pv 7) (pa_nil)))))
      (pss_one (ps_expr (pe_bm PySem.F.plainAttrs_list PySem.F.slot_list_append PySem.F.type_list_append mt_append (pv 2) (pa_cons (pe_tup (pa_cons (pv 4) (pa_cons (pv 7) (pa_nil)))) (pa_nil)))))) (pss_nil))))))))
      (pss_one (ps_ret (pv 2)))), ?_⟩
    obtain ⟨pic, hdt, q⟩ := h
    obtain ⟨⟨dx, hp⟩, _, w1, w2, h1, h2, _⟩ := id pic
    refine ⟨(by show 0 ≤ sizeLine; exact Nat.zero_le _), fun l hl => ?_⟩
    have sl : Same H (upd H l (.lst [])) := same_upd (Same.refl _) hl
    refine ⟨(by show 2 ≤ sizeLine; decide), fun e0 he0 => ?_⟩
    have se : Same (upd H l (.lst [])) (upd (upd H l (.lst [])) e0 (.lst [.str "left", .str "right"])) := same_upd (Same.refl _) he0
    have nle : l ≠ e0 := ne_of_none upd_same he0
    refine ⟨e0, _, rfl, SqL.of upd_same, ?_⟩
    have Q0 := fun (b : Addr) (u : HO) (nb : b ≠ do_) (e : H b = some u) => e
    refine for_enum (xs := [.str "left", .str "right"]) (Pv := fun i σ H6 => ∃ (v3 v4 v5 v6 v7 : Option V) (ss : List Seat) (rs : List Addr), σ = [some (.ref a), some (.int c), some (.ref l), v3, v4, v5, v6, v7] ∧ (∀ b u, b ≠ do_ → H b = some u → H6 b = some u) ∧ H6 e0 = some (.lst [.str "left", .str "right"]) ∧ Pic t H6 a dp do_ pw ph ps ∧ Sts H6 do_ ss ∧ SsOk ph ss ∧ ss.length ≤ i * 16 ∧ (∀ s ∈ ss, Bef i 0 s) ∧ H6 l = some (.lst (rs.map V.ref)) ∧ SeatsL H6 ss rs) ?_ ?_ ?_ ?_
    · refine ⟨_, _, _, _, _, [], [], rfl, fun b u _ e => se _ _ (sl _ _ e), upd_same, Pic.same se (Pic.same sl pic), ⟨[], se _ _ (sl _ _ hdt), rfl, List.nodup_nil, Nat.zero_le _⟩, ⟨List.nodup_nil, Nat.zero_le _, fun s hs => (nomatch hs)⟩, Nat.zero_le _, fun s hs => (nomatch hs), se _ _ upd_same, .nil⟩
    · rintro i σ H6 hi ⟨v3, v4, v5, v6, v7, ss, rs, rfl, k6, he6, _⟩
      exact SqL.of he6
    · rintro i x p σ H6 hx hp6 ⟨v3, v4, v5, v6, v7, ss, rs, rfl, k6, he6, pic6, st6, sok6, sle, sbef, hl6, sts6⟩
      have hi : i < 2 := by
        have := (List.getElem?_eq_some_iff.mp hx).1
        simpa using this
      obtain ⟨sb, esb, isb⟩ : ∃ sb : Bool, x = .str (sideW sb) ∧ (if sb then 0 else 1) = i := by
        have : i = 0 ∨ i = 1 := by omega
        rcases this with e | e <;> subst e
        · exact ⟨true, (Option.some.inj hx).symm, rfl⟩
        · exact ⟨false, (Option.some.inj hx).symm, rfl⟩
      subst esb
      have s7 : Same H6 (upd H6 p (.tup [.int i, .str (sideW sb)])) := same_upd (Same.refl _) hp6
      have g7 : upd H6 p (.tup [.int i, .str (sideW sb)]) p = some (.tup [.int i, .str (sideW sb)]) := upd_same
      revert s7 g7
      generalize upd H6 p (.tup [.int i, .str (sideW sb)]) = H7
      intro s7 g7
      refine ⟨p, _, rfl, SqT.of g7, rfl, _, _, rfl, _, _, rfl, rfl, ?_⟩
      refine ⟨_, rfl, _, rfl, c, _, rfl, (by omega), fun nr n0 => ?_⟩
      refine ⟨_, rfl, _, _, rfl, rfl, ⟨by decide, by decide⟩, _, _, rfl, rfl, (by show (0 : Int) < 65536; decide), _, rfl, _, _, rfl, rfl, ⟨by decide, by decide⟩, _, _, rfl, rfl, (by show (0 : Int) < 65536; decide), (by show 4 ≤ sizeLine; decide), fun q4 hq4 => ?_⟩
      dsimp only
      have s8 : Same H7 (upd H7 q4 (.lst [.int (nr / 8 % 65536), .int (nr / 8 % 65536), .int 65535, .int 0])) := same_upd (Same.refl _) hq4
      have g8 : upd H7 q4 (.lst [.int (nr / 8 % 65536), .int (nr / 8 % 65536), .int 65535, .int 0]) q4 = some (.lst [.int (nr / 8 % 65536), .int (nr / 8 % 65536), .int 65535, .int 0]) := upd_same
      revert s8 g8
      generalize upd H7 q4 (.lst [.int (nr / 8 % 65536), .int (nr / 8 % 65536), .int 65535, .int 0]) = H8
      intro s8 g8
      have mb := mod_in nr (show (0 : Int) < 8 by decide)
      have ixb : 0 ≤ (if nr % 8 - 4 > 0 then nr % 8 - 4 else 0) ∧ (if nr % 8 - 4 > 0 then nr % 8 - 4 else 0) < 4 := by
        split <;> omega
      obtain ⟨bits, ebits⟩ := bits_at (a := nr / 8 % 65536) (b := nr / 8 % 65536) 65535 0 _ ixb.1 ixb.2
      refine ⟨_, rfl, _, _, rfl, rfl, (by show (0 : Int) < 8; decide), _, _, rfl, rfl, _, _, rfl, q4, _, _, .int bits, rfl, rfl, SqL.of g8, ebits, ?_⟩
      have s68 : Same H6 H8 := s7.trans s8
      have pic8 := Pic.same s68 pic6
      obtain ⟨dx8, hp8⟩ := pic8.ins
      refine ⟨_, rfl, a, _, _, _, _, rfl, hp8, T.c_Picture, T.n_Picture_height, lkH, _, _, rfl, rfl, 1, ph + 1, rfl, ⟨by decide, by decide, by omega, by omega⟩, ?_⟩
      refine for_range (Pv := fun j σ H9 => ∃ (v7 : Option V) (s9 : List Seat) (rs9 : List Addr), σ = [some (.ref a), some (.int c), some (.ref l), some (.int i), some (.str (sideW sb)), some (.int nr), some (.int bits), v7] ∧ (∀ b u, b ≠ do_ → H b = some u → H9 b = some u) ∧ H9 e0 = some (.lst [.str "left", .str "right"]) ∧ Pic t H9 a dp do_ pw ph ps ∧ Sts H9 do_ s9 ∧ SsOk ph s9 ∧ s9.length ≤ i * 16 + j ∧ (∀ s ∈ s9, Bef i j s) ∧ H9 l = some (.lst (rs9.map V.ref)) ∧ SeatsL H9 s9 rs9) ?_ ?_ ?_
      · exact ⟨_, ss, rs, rfl, fun b u nb e => s68 _ _ (k6 b u nb e), s68 _ _ he6, pic8, st6.same s68, sok6, by omega, sbef, s68 _ _ hl6, sts6.keep (Same.tups s68)⟩
      · rintro j σ H9 hj ⟨v7, s9, rs9, rfl, k9, he9, pic9, st9, sok9, sle9, sbef9, hl9, sts9⟩
        have hj' : (j : Int) < ph := by omega
        obtain ⟨dx9, hp9⟩ := pic9.ins
        refine ⟨_, rfl, _, rfl, _, _, rfl, rfl, _, _, rfl, rfl, (by show (0 : Int) ≤ 1 + (j : Int) - 1; omega), _, _, rfl, rfl, rfl, _, rfl, ite2 (fun cb => ?_) (fun cb => ?_)⟩
        · have nin : (sb, 1 + (j : Int)) ∉ s9 := fun hm => by
            rcases sbef9 _ hm with z | ⟨_, z⟩
            · dsimp only at z
              omega
            · dsimp only at z
              omega
          refine ⟨_, rfl, a, dx9, _, rfl, hp9, lk_no (by decide +kernel), _, rfl, _, rfl, ?_⟩
          refine ⟨a, dp, do_, pw, ph, ps, s9, sb, 1 + (j : Int), rfl, pic9, st9, by omega, by omega, nin, by omega, fun HA kA picA stA => ?_⟩
          obtain ⟨kvs, hk, _⟩ := id st9
          have hlA := kA _ _ (ne_of hl9 hk (fun z => nomatch z)) hl9
          refine ⟨_, rfl, .inl ⟨rfl, _, SqL.of hlA⟩, _, rfl, _, rfl, (by show 2 ≤ sizeLine; decide), fun r hr9 => ?_⟩
          dsimp only
          have sB : Same HA (upd HA r (.tup [.str (sideW sb), .int (1 + (j : Int))])) := same_upd (Same.refl _) hr9
          have gB : upd HA r (.tup [.str (sideW sb), .int (1 + (j : Int))]) r = some (.tup [.str (sideW sb), .int (1 + (j : Int))]) := upd_same
          revert sB gB
          generalize upd HA r (.tup [.str (sideW sb), .int (1 + (j : Int))]) = HB
          intro sB gB
          have hlB := sB _ _ hlA
          have rl9 := sts9.len
          refine ⟨l, _, _, rfl, rfl, hlB, ?_, ?_⟩
          · rw [List.length_map]
            exact Nat.lt_trans (by omega : rs9.length < 33) (by decide)
          have bt : ∀ b u, b ≠ l → HB b = some u → upd HB l (.lst (rs9.map V.ref ++ [.ref r])) b = some u := fun b u nb e => by
            rw [upd_ne nb]
            exact e
          have tA : Tups H9 HA := fun b xs e => kA _ _ (ne_of e hk (fun z => nomatch z)) e
          have tL : Tups HB (upd HB l (.lst (rs9.map V.ref ++ [.ref r]))) := fun b xs e => bt _ _ (ne_of e hlB (fun z => nomatch z)) e
          refine ⟨_, s9 ++ [(sb, 1 + (j : Int))], rs9 ++ [r], rfl, fun b u nb e => bt _ _ (ne_of_none e hl) (sB _ _ (kA _ _ nb (k9 b u nb e))), ?_, ?_, ?_, ?_, ?_, ?_, ?_, ?_⟩
          · refine bt _ _ (Ne.symm nle) (sB _ _ (kA _ _ (ne_of he9 hk (fun z => nomatch z)) he9))
          · have picB := Pic.same sB picA
            exact ⟨let ⟨d, e⟩ := picB.ins; ⟨d, bt _ _ (ne_of e hlB (fun z => nomatch z)) e⟩, let ⟨k, e, q⟩ := picB.pl; ⟨k, bt _ _ (ne_of e hlB (fun z => nomatch z)) e, q.keep tL⟩, picB.w1, picB.w2, picB.h1, picB.h2, picB.len⟩
          · obtain ⟨k2, e2, r2⟩ := stA.same sB
            exact ⟨k2, bt _ _ (ne_of e2 hlB (fun z => nomatch z)) e2, r2⟩
          · obtain ⟨nd, le, rw9⟩ := sok9
            refine ⟨?_, ?_, fun s hs => ?_⟩
            · rw [List.nodup_append]
              exact ⟨nd, by simp, fun x hx y hy e => nin (by rw [List.mem_singleton.mp hy] at e; exact e ▸ hx)⟩
            · rw [List.length_append]
              show s9.length + 1 ≤ 32
              omega
            · rcases List.mem_append.mp hs with z | z
              · exact rw9 s z
              · rw [List.mem_singleton.mp z]
                exact ⟨by show 1 ≤ 1 + (j : Int); omega, by show 1 + (j : Int) ≤ ph; omega⟩
          · rw [List.length_append]
            show s9.length + 1 ≤ i * 16 + (j + 1)
            omega
          · intro s hs
            rcases List.mem_append.mp hs with z | z
            · rcases sbef9 s z with y | ⟨y1, y2⟩
              · exact .inl y
              · exact .inr ⟨y1, by omega⟩
            · rw [List.mem_singleton.mp z]
              exact .inr ⟨isb, by show 1 + (j : Int) ≤ ((j + 1 : Nat) : Int); omega⟩
          · rw [upd_same, List.map_append]
            rfl
          · exact SeatsL.snoc (sts9.keep fun b xs e => tL _ _ (sB _ _ (tA _ _ e))) (tL _ _ gB)
        · refine ⟨_, s9, rs9, rfl, k9, he9, pic9, st9, sok9, by omega, fun s hs => ?_, hl9, sts9⟩
          rcases sbef9 s hs with y | ⟨y1, y2⟩
          · exact .inl y
          · exact .inr ⟨y1, by omega⟩
      · rintro σ H9 ⟨v7, s9, rs9, rfl, k9, he9, pic9, st9, sok9, sle9, sbef9, hl9, sts9⟩
        refine ⟨_, _, _, _, _, s9, rs9, rfl, k9, he9, pic9, st9, sok9, by omega, fun s hs => ?_, hl9, sts9⟩
        rcases sbef9 s hs with y | ⟨y1, y2⟩
        · exact .inl (by omega)
        · exact .inl (by omega)
    · rintro σ H6 ⟨v3, v4, v5, v6, v7, ss, rs, rfl, k6, he6, pic6, st6, sok6, sle, sbef, hl6, sts6⟩
      exact ⟨_, rfl, q H6 l ss rs k6 hl pic6 st6 sok6 hl6 sts6⟩
end
end S51
set_option maxRecDepth 100000
set_option maxHeartbeats 4000000
namespace S51
open PySem L2 XL PyProof.Rows
theorem mem_cut {xs : List V} {a b : Option Int} {y : V} (h : y ∈ cutV xs a b) : y ∈ xs := by
  unfold cutV at h
  first | exact List.mem_of_mem_drop (List.mem_of_mem_take h) | exact List.mem_of_mem_take (List.mem_of_mem_drop h)
theorem len_cut {xs : List V} {a b : Option Int} : (cutV xs a b).length ≤ xs.length := by
  unfold cutV
  simp
  omega
theorem find_pt {ps : List Pt} (nd : (ps.map (·.nm)).Nodup) {p : Pt} (h : p ∈ ps) : ps.find? (fun z => decide (z.nm = p.nm)) = some p := by
  induction ps with
  | nil => cases h
  | cons q ps ih =>
    rw [List.map_cons, List.nodup_cons] at nd
    rcases List.mem_cons.mp h with rfl | z
    · exact List.find?_cons_of_pos (by simp)
    · rw [List.find?_cons_of_neg]
      · exact ih nd.2 z
      · intro e
        exact nd.1 (List.mem_map.mpr ⟨p, z, (of_decide_eq_true e).symm⟩)
theorem seats_some {H : Hp} {ss : List Seat} : ∀ {ys : List V}, (∀ y ∈ ys, ∃ s q, s ∈ ss ∧ y = .ref q ∧ H q = some (.tup (seatV s))) → ∃ s8 rs8, ys = rs8.map V.ref ∧ SeatsL H s8 rs8 ∧ ∀ s ∈ s8, s ∈ ss
  | [], _ => ⟨[], [], rfl, .nil, fun s h => nomatch h⟩
  | y :: ys, h => by
    obtain ⟨s, q, h1, h2, h3⟩ := h y List.mem_cons_self
    obtain ⟨s8, rs8, e1, e2, e3⟩ := seats_some (ys := ys) fun y' hy => h y' (List.mem_cons_of_mem _ hy)
    refine ⟨s :: s8, q :: rs8, by rw [e1, h2]; rfl, .cons h3 e2, fun s' hs' => ?_⟩
    rcases List.mem_cons.mp hs' with rfl | z
    · exact h1
    · exact e3 _ z
theorem prs_some {H : Hp} {prs : List Pr} : ∀ {ys : List V}, (∀ y ∈ ys, ∃ p q, p ∈ prs ∧ y = .ref q ∧ H q = some (.tup (prV p))) → ∃ s8 rs8, ys = rs8.map V.ref ∧ PrsL H s8 rs8 ∧ ∀ s ∈ s8, s ∈ prs
  | [], _ => ⟨[], [], rfl, .nil, fun s h => nomatch h⟩
  | y :: ys, h => by
    obtain ⟨s, q, h1, h2, h3⟩ := h y List.mem_cons_self
    obtain ⟨s8, rs8, e1, e2, e3⟩ := prs_some (ys := ys) fun y' hy => h y' (List.mem_cons_of_mem _ hy)
    refine ⟨s :: s8, q :: rs8, by rw [e1, h2]; rfl, .cons h3 e2, fun s' hs' => ?_⟩
    rcases List.mem_cons.mp hs' with rfl | z
    · exact h1
    · exact e3 _ z
theorem PrsL.mem {H : Hp} {ps : List Pr} {qs : List Addr} (h : PrsL H ps qs) {y : V} (hy : y ∈ qs.map V.ref) : ∃ p q, p ∈ ps ∧ y = .ref q ∧ H q = some (.tup (prV p)) := by
  obtain ⟨q, hq, rfl⟩ := List.mem_map.mp hy
  obtain ⟨i, hi⟩ := List.mem_iff_getElem?.mp hq
  obtain ⟨p, hp, e⟩ := h.get hi
  exact ⟨p, q, List.mem_of_getElem? hp, rfl, e⟩
def freeIx (ss ts : List Seat) (pt : Pt) (i : Nat) : Bool := match ss[i]? with | some s => !decide (s ∈ ts) && mayB ss pt s | none => false
theorem freeIx_of {ss ts : List Seat} {pt : Pt} {i : Nat} {s : Seat} (h : ss[i]? = some s) : freeIx ss ts pt i = (!decide (s ∈ ts) && mayB ss pt s) := by
  unfold freeIx
  rw [h]
theorem ix_mod {rs : List Addr} {m : Int} (h : 0 < rs.length) : ∃ (j : Nat) (q : Addr), rs[j]? = some q ∧ m % (rs.length : Int) = (j : Int) ∧ j < rs.length ∧ atI (rs.map V.ref) (m % (rs.length : Int)) = some (.ref q) := by
  obtain ⟨a, b⟩ := mod_in m (show (0 : Int) < (rs.length : Int) by omega)
  obtain ⟨j, hj⟩ := Int.eq_ofNat_of_zero_le a
  rw [hj] at b ⊢
  have lt : j < rs.length := by omega
  exact ⟨j, rs[j], List.getElem?_eq_getElem lt, rfl, lt, atI_nat (by rw [List.getElem?_map, List.getElem?_eq_getElem lt]; rfl)⟩
def spGiven : Sp := fun vs H Q _ => ∃ (d ls : Addr) (c w h : Int) (ps : List Pt) (kvs : List (Key × V)) (ss : List Seat) (rs : List Addr), vs = [.ref d, .ref ls, .int c] ∧ H d = some (.dK kvs) ∧ Lp H ps kvs ∧ ps.length ≤ 6 ∧ PtsOk w h ps ∧ H ls = some (.lst (rs.map V.ref)) ∧ SeatsL H ss rs ∧ SsOk h ss ∧
  ∀ ob H' l prs qs, Same (upd H d (.frz ob (.dK kvs))) H' → H' l = some (.lst (qs.map V.ref)) → PrsL H' prs qs → (∀ p ∈ prs, PrOk ps w h p) → prs.length ≤ 12 → Q (.ref l) H'
section
variable {P : Program} {w : World} {K : PySem.W.Frag} {mg : Str → Option Value} {base : Heap} {t : Adr}
theorem ok_law_given (T : Txt w K mg t) : FnOk true P w K mg base (CXo P w) 3 t.f_law_given t.d_law_given ["_law_points", "_law_seats", "_law_cell_here"] (spGiven) := by
  refine T.F_law_given.okn (k := 2) sc_law_given (fun vs H Q E h => ?_) (fun cdv A outer s H vs Q E hr h => ?_)
  · obtain ⟨d, ls, c, w, h, ps, kvs, ss, rs, rfl, _⟩ := h
    rfl
  · obtain ⟨d, ls, c, w, h, ps, kvs, ss, rs, rfl, h⟩ := h
    refine ⟨_, pss_cons (ps_set (i := 3) sc_law_given.nd rfl (Or.inl rfl) (pe_lst (pa_nil)))
      (pss_cons (ps_set (i := 4) sc_law_given.nd rfl (Or.inr rfl) (pe_lst (pa_nil)))
      (pss_cons (ps_for PassesOwn.never rfl (pi_enumD rfl T.n_enumerate (pa_cons (pv 0) (pa_nil))) (pg_tup rfl (pgs_cons (pg_name (i := 5) sc_law_given.nd rfl (Or.inl rfl)) (pgs_cons (pg_name (i := 6) sc_law_given.nd rfl (Or.inr rfl)) (pgs_nil)))) (pss_cons (ps_set (i := 7) sc_law_given.nd rfl (Or.inl rfl) (pe_call (ok_law_mixed T) (hr.mono (by decide)) rfl T.g_law_mixed T.F_law_mixed.kp T.b_law_mixed .nil pass_none (pa_cons (pv 2) (pa_cons (pe_op op_add (pe_int) (pv 5)) (pa_nil)))))
      (pss_cons (ps_setcG rfl (blkG_of (zs := ["_law_seat"]) (ys := ["_law_taken", "_law_points", "_law_seats", "_law_name"]) (fr := [4, 0, 1, 6]) (N0 := ["_law_points", "_law_seats", "_law_cell_here", "_law_pairs", "_law_taken", "_law_k", "_law_name", "_law_number", "_law_some", "_law_seat", "_law_turn"]) (sc0 := defScope s_law_given) (by decide +kernel) rfl rfl rfl) (pi_list (pv 1)) (fun _ _ _ _ _ ow nd => pg_name (i := 0) nd rfl (Or.inl (ow _ (by simp))) (Or.inr (ow _ (by simp)))) (gok_name (by decide)) (fun _ _ _ _ _ => pif_one (PW.pt (pw_and (pt_cmpR (r := rInV K true) (op_notInV (hu20_of hr)) (pv 0) (pv 1) (by rfl)) (pw_and1 (pt_val (pe_call (ok_law_may T) (hr.mono (by decide)) rfl T.g_law_may T.F_law_may.kp T.b_law_may .nil pass_none (pa_cons (pv 2) (pa_cons (pv 3) (pa_cons (pv 4) (pa_cons (pe_ix (r := rIxT K) ix_tup (pv 0) (pe_int) (fun _ _ => rfl)) (pa_cons (pe_ix (r := rIxT K) ix_tup (pv 0) (pe_int) (fun _ _ => rfl)) (pa_nil)))))))))))) (fun _ _ _ _ _ => pv 0) (j := 8) rfl (Or.inl rfl))
      (pss_one (ps_mid (ps_if (PW.pt (pw_and (pt_cmpR (op_neV (hu20_of hr)) (pv 8) (pe_lst (pa_nil)) (nomark _)) (pw_and1 (pt_cmpR op_gt (pe_op op_mod (pv 7) (pe_int)) (pe_int) (nomark _))))) (pss_cons (ps_set (i := 9) sc_law_given.nd rfl (Or.inl rfl) (pe_ix ix_list (pv 8) (pe_op op_mod (pe_op op_fdiv (pv 7) (pe_int)) (pe_callB call_len_seq rfl T.n_len boot_len (pa_cons (pv 8) (pa_nil)))) (fun _ _ => rfl)))
      (pss_cons (ps_expr (pe_bm PySem.F.plainAttrs_list PySem.F.slot_list_append PySem.F.type_list_append mt_append (pv 4) (pa_cons (pv 9) (pa_nil))))
      (pss_one (ps_expr (pe_bm PySem.F.plainAttrs_list PySem.F.slot_list_append PySem.F.type_list_append mt_append (pv 3) (pa_cons (pe_tup (pa_cons (pv 6) (pa_cons (pe_ix ix_tup (pv 9) (pe_int) (fun _ _ => rfl)) (pa_cons (pe_ix ix_tup (pv 9) (pe_int) (fun _ _ => rfl)) (pa_nil))))) (pa_nil))))))) (pss_nil)))))))
      (pss_cons (ps_set (i := 10) sc_law_given.nd rfl (Or.inl rfl) (pe_op op_mod (pe_call (ok_law_mixed T) (hr.mono (by decide)) rfl T.g_law_mixed T.F_law_mixed.kp T.b_law_mixed .nil pass_none (pa_cons (pv 2) (pa_cons (pe_int) (pa_nil)))) (pe_op op_add (pe_callB call_len_seq rfl T.n_len boot_len (pa_cons (pv 3) (pa_nil))) (pe_int))))
      (pss_one (ps_ret (pe_op op_cat (pe_slice sl_list (pv 3) (po_some (pv 10)) po_none) (pe_listRev rfl rfl T.n_list rfl T.n_reversed (pa_cons (pe_slice sl_list (pv 3) po_none (po_some (pv 10))) (pa_nil))))))))), ?_⟩
    obtain ⟨hd, lp, p6, pok, hls, sl, sok, q⟩ := h
    have rl := sl.len
    have sl32 := sok.2.1
    refine ⟨(by show 0 ≤ sizeLine; exact Nat.zero_le _), fun lq hlq => ?_⟩
    have s1 : Same H (upd H lq (.lst [])) := same_upd (Same.refl _) hlq
    have g1 : upd H lq (.lst []) lq = some (.lst []) := upd_same
    revert s1 g1
    generalize upd H lq (.lst []) = H1
    intro s1 g1
    refine ⟨(by show 0 ≤ sizeLine; exact Nat.zero_le _), fun lt hlt => ?_⟩
    have s2 : Same H1 (upd H1 lt (.lst [])) := same_upd (Same.refl _) hlt
    have g2 : upd H1 lt (.lst []) lt = some (.lst []) := upd_same
    revert s2 g2
    generalize upd H1 lt (.lst []) = H2
    intro s2 g2
    have hd2 := s2 _ _ (s1 _ _ hd)
    have nlt : lt ≠ lq := Ne.symm (ne_of_none g1 hlt)
    have flt : H lt = none := s1.free hlt
    have dq : lq ≠ d := fun z => by rw [← z, hlq] at hd; cases hd
    have dt : lt ≠ d := fun z => by rw [← z, flt] at hd; cases hd
    refine ⟨_, rfl, d, kvs, rfl, .inl ⟨hd2, fun ob => ?_⟩⟩
    obtain ⟨B0, eB0⟩ : ∃ B0, B0 = upd H d (.frz ob (.dK kvs)) := ⟨_, rfl⟩
    have nq : B0 lq = none := by rw [eB0, upd_ne dq]; exact hlq
    have nt : B0 lt = none := by rw [eB0, upd_ne dt]; exact flt
    have b0 : ∀ b u, b ≠ d → H b = some u → B0 b = some u := fun b u nb e => by rw [eB0, upd_ne nb]; exact e
    have hdB : B0 d = some (.frz ob (.dK kvs)) := by rw [eB0]; exact upd_same
    have lpB : Lp B0 ps kvs := Lp.keepL (fun b xs e => b0 _ _ (ne_of e hd (fun z => nomatch z)) e) lp
    have hlsB := b0 _ _ (ne_of hls hd (fun z => nomatch z)) hls
    have slB : SeatsL B0 ss rs := sl.keep fun b xs e => b0 _ _ (ne_of e hd (fun z => nomatch z)) e
    have pdB : PD B0 d ps := ⟨kvs, .inr ⟨ob, hdB⟩, lpB⟩
    have s3 : Same B0 (upd H2 d (.frz ob (.dK kvs))) := fun b u e => by
      by_cases c : b = d
      · subst c
        rw [upd_same, ← hdB]
        exact e
      · rw [eB0, upd_ne c] at e
        rw [upd_ne c]
        exact s2 _ _ (s1 _ _ e)
    refine for_enumD (Pv := fun i σ H5 => ∃ (v5 v6 v7 v8 v9 : Option V) (prs : List Pr) (qs : List Addr) (ts : List Seat) (tq : List Addr), σ = [some (.ref d), some (.ref ls), some (.int c), some (.ref lq), some (.ref lt), v5, v6, v7, v8, v9, none] ∧ Same B0 H5 ∧ H5 lq = some (.lst (qs.map V.ref)) ∧ PrsL H5 prs qs ∧ (∀ p ∈ prs, PrOk ps w h p) ∧ prs.length ≤ i ∧ H5 lt = some (.lst (tq.map V.ref)) ∧ SeatsL H5 ts tq ∧ ts.length ≤ i) ?_ (fun _ _ _ _ ⟨_, _, _, _, _, _, _, _, _, _, z, _⟩ => z _ _ hdB) ?_ ?_
    · refine ⟨_, _, _, _, _, [], [], [], [], rfl, s3, ?_, .nil, fun p hp => (nomatch hp), Nat.le_refl _, ?_, .nil, Nat.le_refl _⟩
      · rw [upd_ne dq]
        exact s2 _ _ g1
      · rw [upd_ne dt]
        exact g2
    · rintro i k x p5 σ H5 hkx hp5 ⟨v5, v6, v7, v8, v9, prs, qs, ts, tq, rfl, s5, hq5, pr5, ok5, le5, ht5, ts5, tl5⟩
      obtain ⟨pt, o, e1, rfl, rfl, e3⟩ := lpB.get hkx
      have ilt := (List.getElem?_eq_some_iff.mp e1).1
      have mpt := List.mem_of_getElem? e1
      have fd := find_pt pok.nn mpt
      have okp := pok.ok _ mpt
      have ql5 := pr5.len
      have tl5' := ts5.len
      rw [show kV (Sum.inr pt.nm) = V.str pt.nm from rfl]
      have s6 : Same H5 (upd H5 p5 (.tup [.int i, .str pt.nm])) := same_upd (Same.refl _) hp5
      have g6 : upd H5 p5 (.tup [.int i, .str pt.nm]) p5 = some (.tup [.int i, .str pt.nm]) := upd_same
      revert s6 g6
      generalize upd H5 p5 (.tup [.int i, .str pt.nm]) = H6
      intro s6 g6
      refine ⟨p5, _, rfl, SqT.of g6, rfl, _, _, rfl, _, _, rfl, rfl, ?_⟩
      refine ⟨_, rfl, _, rfl, _, _, rfl, rfl, c, _, rfl, (by omega), fun nr n0 => ?_⟩
      have s56 := s5.trans s6
      have hls6 := s56 _ _ hlsB
      have sl6 := slB.keep (Same.tups s56)
      have ts6 := ts5.keep (Same.tups s6)
      have ht6 := s6 _ _ ht5
      refine ⟨_, rfl, ls, rfl, ⟨_, SqL.of hls6⟩, fun l8 hl8 => ?_⟩
      refine comp_listF (SqL.of hls6) (by rw [List.length_map]; exact Nat.lt_trans (by omega : rs.length < 33) (by decide)) hl8 (freeIx ss ts pt) (fun i y H => ∃ s q, ss[i]? = some s ∧ y = .ref q ∧ H q = some (.tup (seatV s))) (fun i y H H' tp ⟨s, q, a1, a2, a3⟩ => ⟨s, q, a1, a2, tp _ _ a3⟩) (fun i x H7 hx s7 N M hN hM => ?_) (fun ys H7 s7 el7 ly f7 => ?_)
      · rw [List.getElem?_map] at hx
        obtain ⟨o, ho, rfl⟩ := Option.map_eq_some_iff.mp hx
        obtain ⟨s0, hs0, es0⟩ := (sl6.keep (Same.tups s7)).get ho
        have s67 := s56.trans s7
        refine ⟨_, rfl, _, rfl, 1, 2, seatD s0, ts.map seatD, dv_seat es0, (ts6.keep (Same.tups s7)).dv (s7 _ _ ht6), by decide, by decide, _, rfl, ite2 (fun c1 => ?_) (fun c1 => ?_)⟩
        · rw [if_pos rfl, any_seat] at c1
          refine ⟨_, rfl, _, rfl, _, rfl, _, rfl, o, _, 0, _, rfl, rfl, SqT.of es0, rfl, _, rfl, o, _, 1, _, rfl, rfl, SqT.of es0, rfl, d, ls, ps, ss, rs, pt, s0.1, s0.2, rfl, pdB.same s67, fd, s67 _ _ hlsB, slB.keep (Same.tups s67), fun H8 s8 => ?_⟩
          refine ⟨_, rfl, ite2 (fun c2 => ?_) (fun c2 => ?_)⟩
          · exact ⟨_, rfl, hN _ _ s8 (by rw [freeIx_of hs0, c1, c2]; rfl) ⟨s0, o, hs0, rfl, s8 _ _ es0⟩⟩
          · exact hM _ s8 (by rw [freeIx_of hs0, Bool.eq_false_iff.mpr c2, Bool.and_false])
        · rw [if_pos rfl, any_seat] at c1
          exact iteF (hM _ (Same.refl _) (by rw [freeIx_of hs0, Bool.eq_false_iff.mpr c1, Bool.false_and]))
      obtain ⟨s8, rs8, rfl, sl8, mem8⟩ := seats_some (H := H7) (ss := ss) (ys := ys) fun y hy => by
        obtain ⟨j, hj⟩ := List.mem_iff_getElem?.mp hy
        have lj := (List.getElem?_eq_some_iff.mp hj).1
        rw [ly] at lj
        obtain ⟨s, q, a1, a2, a3⟩ := f7 j y _ hj (List.getElem?_eq_getElem lj)
        exact ⟨s, q, List.mem_of_getElem? a1, a2, a3⟩
      have rl8 := sl8.len
      have s57 := s56.trans s7
      have hq7 := s7 _ _ (s6 _ _ hq5)
      have ht7 := s7 _ _ ht6
      have pr7 := (pr5.keep (Same.tups s6)).keep (Same.tups s7)
      have ts7 := ts6.keep (Same.tups s7)
      refine ⟨_, ?_, fun _ _ z => z⟩
      refine ⟨_, rfl, (by show 0 ≤ sizeLine; exact Nat.zero_le _), fun l9 hl9 => ?_⟩
      have s9 : Same H7 (upd H7 l9 (.lst [])) := same_upd (Same.refl _) hl9
      have g9 : upd H7 l9 (.lst []) l9 = some (.lst []) := upd_same
      revert s9 g9
      generalize upd H7 l9 (.lst []) = H9
      intro s9 g9
      have s59 := s57.trans s9
      have no : ∀ Hx, Same H9 Hx → ∃ (w5 w6 w7 w8 w9 : Option V) (prs : List Pr) (qs : List Addr) (ts : List Seat) (tq : List Addr), [some (V.ref d), some (V.ref ls), some (V.int c), some (V.ref lq), some (V.ref lt), some (.int i), some (.str pt.nm), some (.int nr), some (.ref l8), v9, none] = [some (V.ref d), some (V.ref ls), some (V.int c), some (V.ref lq), some (V.ref lt), w5, w6, w7, w8, w9, none] ∧ Same B0 Hx ∧ Hx lq = some (.lst (qs.map V.ref)) ∧ PrsL Hx prs qs ∧ (∀ p ∈ prs, PrOk ps w h p) ∧ prs.length ≤ i + 1 ∧ Hx lt = some (.lst (tq.map V.ref)) ∧ SeatsL Hx ts tq ∧ ts.length ≤ i + 1 := fun Hx sx =>
        ⟨_, _, _, _, _, prs, qs, ts, tq, rfl, s59.trans sx, sx _ _ (s9 _ _ hq7), (pr7.keep (Same.tups s9)).keep (Same.tups sx), ok5, by omega, sx _ _ (s9 _ _ ht7), (ts7.keep (Same.tups s9)).keep (Same.tups sx), by omega⟩
      refine ⟨2, 1, .lst (s8.map seatD), .lst [], (sl8.keep (Same.tups s9)).dv (s9 _ _ el7), .lst (SqL.of g9) rfl (fun j x d h1 h2 => by simp at h1), by decide, by decide, _, rfl, ite2 (fun c1 => ?_) (fun c1 => ?_)⟩
      · have n8 : 0 < rs8.length := by
          rcases Nat.eq_zero_or_pos rs8.length with z | z
          · rw [rl8] at z
            have e := List.eq_nil_of_length_eq_zero z
            rw [e] at c1
            exact absurd c1 (by decide)
          · exact z
        refine ⟨_, rfl, _, _, rfl, rfl, (by show (0 : Int) < 7; decide), _, _, rfl, rfl, _, rfl, ite2 (fun c2 => ?_) (fun c2 => ?_)⟩
        · obtain ⟨j, qa, hja, _, _, atj⟩ := ix_mod (m := nr / 7) n8
          obtain ⟨sa, hsa, eqa⟩ := (sl8.keep (Same.tups s9)).get hja
          have msa := mem8 _ (List.mem_of_getElem? hsa)
          obtain ⟨sr1, sr2⟩ := sok.2.2 sa msa
          refine ⟨_, rfl, _, rfl, _, _, rfl, rfl, ⟨by decide, by decide⟩, _, rfl, l8, _, rfl, .inl (SqL.of (s9 _ _ el7)), _, _, rfl, rfl, (by rw [List.length_map]; omega), l8, _, _, .ref qa, rfl, rfl, SqL.of (s9 _ _ el7), (by rw [List.length_map]; exact atj), ?_⟩
          have ht9 := s9 _ _ ht7
          have hq9 := s9 _ _ hq7
          refine ⟨_, rfl, .inl ⟨rfl, _, SqL.of ht9⟩, _, rfl, lt, _, _, rfl, rfl, ht9, ?_, ?_⟩
          · rw [List.length_map]
            exact Nat.lt_trans (by omega : tq.length < 13) (by decide)
          have bt : ∀ b u, b ≠ lt → H9 b = some u → upd H9 lt (.lst (tq.map V.ref ++ [.ref qa])) b = some u := fun b u nb e => by rw [upd_ne nb]; exact e
          have eqa2 := bt _ _ (ne_of eqa ht9 (fun z => nomatch z)) eqa
          have hqA := bt _ _ (Ne.symm nlt) hq9
          refine ⟨_, rfl, .inl ⟨rfl, _, SqL.of hqA⟩, _, rfl, _, rfl, qa, _, 0, _, rfl, rfl, SqT.of eqa2, rfl, _, rfl, qa, _, 1, _, rfl, rfl, SqT.of eqa2, rfl, (by show 3 ≤ sizeLine; decide), fun pb hpb => ?_⟩
          have fpb : H9 pb = none := by
            cases e : H9 pb with
            | none => rfl
            | some u =>
              by_cases z : pb = lt
              · rw [z, upd_same] at hpb; cases hpb
              · rw [upd_ne z, e] at hpb; cases hpb
          have nbt : lt ≠ pb := fun z => by rw [← z, upd_same] at hpb; cases hpb
          have nbq : lq ≠ pb := ne_of_none hqA hpb
          have sB := same_upd (o := .tup [.str pt.nm, .str (sideW sa.1), .int sa.2]) (Same.refl _) hpb
          refine ⟨lq, _, _, rfl, rfl, sB _ _ hqA, ?_, ?_⟩
          · rw [List.length_map]
            exact Nat.lt_trans (by omega : qs.length < 13) (by decide)
          have up : ∀ b u, b ≠ lt → b ≠ lq → H9 b = some u → upd (upd (upd H9 lt (.lst (tq.map V.ref ++ [.ref qa]))) pb (.tup [.str pt.nm, .str (sideW sa.1), .int sa.2])) lq (.lst (qs.map V.ref ++ [.ref pb])) b = some u := fun b u n1 n2 e => by
            rw [upd_ne n2]
            exact sB _ _ (bt _ _ n1 e)
          have upT : Tups H9 (upd (upd (upd H9 lt (.lst (tq.map V.ref ++ [.ref qa]))) pb (.tup [.str pt.nm, .str (sideW sa.1), .int sa.2])) lq (.lst (qs.map V.ref ++ [.ref pb]))) := fun b xs e => up _ _ (ne_of e ht9 (fun z => nomatch z)) (ne_of e hq9 (fun z => nomatch z)) e
          refine ⟨_, _, _, _, _, prs ++ [(pt, sa)], qs ++ [pb], ts ++ [sa], tq ++ [qa], rfl, fun b u e => up _ _ (ne_of_none e nt) (ne_of_none e nq) (s59 _ _ e), ?_, ?_, fun p hp => ?_, ?_, ?_, ?_, ?_⟩
          · rw [upd_same, List.map_append]
            rfl
          · refine PrsL.snoc ((pr7.keep (Same.tups s9)).keep upT) ?_
            rw [upd_ne (Ne.symm nbq)]
            exact upd_same
          · rcases List.mem_append.mp hp with z | z
            · exact ok5 p z
            · rw [List.mem_singleton.mp z]
              exact ⟨okp.nm, fd, sr1, sr2, okp.x1, okp.x2, okp.y1, okp.y2⟩
          · rw [List.length_append]
            show prs.length + 1 ≤ i + 1
            omega
          · rw [upd_ne nlt, upd_ne nbt, upd_same, List.map_append]
            rfl
          · exact SeatsL.snoc ((ts7.keep (Same.tups s9)).keep upT) (upT _ _ eqa)
          · rw [List.length_append]
            show ts.length + 1 ≤ i + 1
            omega
        · exact no _ (Same.refl _)
      · exact iteF (no _ (Same.refl _))
    · rintro σ H5 ⟨v5, v6, v7, v8, v9, prs, qs, ts, tq, rfl, s5, hq5, pr5, ok5, le5, ht5, ts5, tl5⟩
      have ql5 := pr5.len
      rw [lp.len] at le5
      refine ⟨_, rfl, c, 0, rfl, by decide, fun m m0 => ⟨_, rfl, lq, _, rfl, .inl (SqL.of hq5), _, _, rfl, rfl, _, _, rfl, rfl, (by show (0 : Int) < ((qs.map V.ref).length : Int) + 1; omega), ?_⟩⟩
      dsimp only
      generalize m % (((qs.map V.ref).length : Int) + 1) = tn
      refine ⟨_, rfl, _, rfl, tn, rfl, lq, _, rfl, SqL.of hq5, fun pa hpa => ?_⟩
      have s6 : Same H5 (upd H5 pa (.lst (cutV (qs.map V.ref) (some tn) none))) := same_upd (Same.refl _) hpa
      have g6 : upd H5 pa (.lst (cutV (qs.map V.ref) (some tn) none)) pa = some (.lst (cutV (qs.map V.ref) (some tn) none)) := upd_same
      revert s6 g6
      generalize upd H5 pa (.lst (cutV (qs.map V.ref) (some tn) none)) = H6
      intro s6 g6
      have hq6 := s6 _ _ hq5
      refine ⟨_, rfl, _, rfl, tn, rfl, lq, _, rfl, SqL.of hq6, fun pb hpb => ?_⟩
      have s7 : Same H6 (upd H6 pb (.lst (cutV (qs.map V.ref) none (some tn)))) := same_upd (Same.refl _) hpb
      have g7 : upd H6 pb (.lst (cutV (qs.map V.ref) none (some tn))) pb = some (.lst (cutV (qs.map V.ref) none (some tn))) := upd_same
      revert s7 g7
      generalize upd H6 pb (.lst (cutV (qs.map V.ref) none (some tn))) = H7
      intro s7 g7
      refine ⟨pb, _, rfl, SqL.of g7, fun pc hpc => ?_⟩
      have s8 : Same H7 (upd H7 pc (.lst (cutV (qs.map V.ref) none (some tn)).reverse)) := same_upd (Same.refl _) hpc
      have g8 : upd H7 pc (.lst (cutV (qs.map V.ref) none (some tn)).reverse) pc = some (.lst (cutV (qs.map V.ref) none (some tn)).reverse) := upd_same
      revert s8 g8
      generalize upd H7 pc (.lst (cutV (qs.map V.ref) none (some tn)).reverse) = H8
      intro s8 g8
      have l1 := len_cut (xs := qs.map V.ref) (a := some tn) (b := none)
      have l2 := len_cut (xs := qs.map V.ref) (a := none) (b := some tn)
      rw [List.length_map] at l1 l2
      have lle : (cutV (qs.map V.ref) (some tn) none).length + (cutV (qs.map V.ref) none (some tn)).reverse.length ≤ 12 := by
        rw [List.length_reverse]
        omega
      refine ⟨pa, pc, _, _, rfl, rfl, s8 _ _ (s7 _ _ g6), g8, Nat.le_trans lle (by decide), fun pd hpd => ?_⟩
      have s58 := (s6.trans s7).trans s8
      obtain ⟨prs', qs', eq, pl, mm⟩ := prs_some (H := H8) (prs := prs) (ys := cutV (qs.map V.ref) (some tn) none ++ (cutV (qs.map V.ref) none (some tn)).reverse) fun y hy => by
        have hy' : y ∈ qs.map V.ref := by
          rcases List.mem_append.mp hy with z | z
          · exact mem_cut z
          · exact mem_cut (List.mem_reverse.mp z)
        exact (pr5.keep (Same.tups s58)).mem hy'
      have l3 := congrArg List.length eq
      rw [List.length_append, List.length_map, pl.len] at l3
      rw [eq]
      have s9 := same_upd (o := .lst (qs'.map V.ref)) (Same.refl _) hpd
      refine q ob _ pd prs' qs' ?_ upd_same (pl.keep (Same.tups s9)) (fun p hp => ok5 p (mm p hp)) (by omega)
      rw [← eB0]
      exact (s5.trans s58).trans s9
end
end S51
set_option maxRecDepth 100000
set_option maxHeartbeats 4000000
namespace S51
open PySem L2 XL PyProof.Rows
def prD (p : Pr) : DV := .tup [.str p.1.nm, .str (sideW p.2.1), .int p.2.2]
theorem dv_pr {K : PySem.W.Frag} {H : Hp} {q : Addr} {p : Pr} (h : H q = some (.tup (prV p))) : Dv K H 1 (.ref q) (prD p) := by
  refine .tup (SqT.of h) rfl fun j x d h1 h2 => ?_
  match j, h1, h2 with
  | 0, h1, h2 => cases h1; cases h2; exact .str
  | 1, h1, h2 => cases h1; cases h2; exact .str
  | 2, h1, h2 => cases h1; cases h2; exact .int
  | j + 3, h1, h2 => simp [prV] at h1
theorem PrsL.dv {K : PySem.W.Frag} {H : Hp} {ps : List Pr} {qs : List Addr} (h : PrsL H ps qs) {l : Addr} (e : H l = some (.lst (qs.map V.ref))) : Dv K H 2 (.ref l) (.lst (ps.map prD)) := by
  refine .lst (SqL.of e) (by rw [List.length_map, List.length_map, h.len]) fun j x d h1 h2 => ?_
  rw [List.getElem?_map] at h1 h2
  obtain ⟨q, hq, rfl⟩ := Option.map_eq_some_iff.mp h1
  obtain ⟨p, hp, rfl⟩ := Option.map_eq_some_iff.mp h2
  obtain ⟨p', hp', e'⟩ := h.get hq
  rw [hp] at hp'
  cases hp'
  exact dv_pr e'
def trD (p : Tr) : DV := .tup [.str p.1, .str p.2.1, .tup [.int p.2.2.1, .int p.2.2.2]]
theorem dv_tr {K : PySem.W.Frag} {H : Hp} {t q : Addr} {p : Tr} (h : H t = some (.tup [.str p.1, .str p.2.1, .ref q])) (hq : H q = some (.tup [.int p.2.2.1, .int p.2.2.2])) : Dv K H 2 (.ref t) (trD p) := by
  refine .tup (SqT.of h) rfl fun j x d h1 h2 => ?_
  match j, h1, h2 with
  | 0, h1, h2 => cases h1; cases h2; exact .str
  | 1, h1, h2 => cases h1; cases h2; exact .str
  | 2, h1, h2 => cases h1; cases h2; exact dv_two hq
  | j + 3, h1, h2 => simp at h1
theorem TrL.get {H : Hp} {ps : List Tr} {ts : List Addr} (h : TrL H ps ts) {i : Nat} {t : Addr} (e : ts[i]? = some t) : ∃ p q, ps[i]? = some p ∧ H t = some (.tup [.str p.1, .str p.2.1, .ref q]) ∧ H q = some (.tup [.int p.2.2.1, .int p.2.2.2]) := by
  induction h generalizing i with
  | nil => simp at e
  | @cons p t' q ps ts h hq _ ih =>
    cases i with
    | zero =>
      simp at e
      subst e
      exact ⟨p, q, rfl, h, hq⟩
    | succ j => exact ih (by simpa using e)
theorem TrL.dv {K : PySem.W.Frag} {H : Hp} {ps : List Tr} {ts : List Addr} (h : TrL H ps ts) {l : Addr} (e : H l = some (.lst (ts.map V.ref))) : Dv K H 3 (.ref l) (.lst (ps.map trD)) := by
  refine .lst (SqL.of e) (by rw [List.length_map, List.length_map, h.len]) fun j x d h1 h2 => ?_
  rw [List.getElem?_map] at h1 h2
  obtain ⟨q, hq, rfl⟩ := Option.map_eq_some_iff.mp h1
  obtain ⟨p, hp, rfl⟩ := Option.map_eq_some_iff.mp h2
  obtain ⟨p', q', hp', e', e2⟩ := h.get hq
  rw [hp] at hp'
  cases hp'
  exact dv_tr e' e2
def spRight51 (t : Adr) : Sp := fun vs H Q _ => ∃ (a dp do_ d ls lp : Addr) (pw ph : Int) (ps : List Pt) (ss : List Seat) (rs : List Addr) (prs : List Pr) (qs : List Addr), vs = [.ref a, .ref d, .ref ls, .ref lp] ∧ Pic t H a dp do_ pw ph ps ∧ Sts H do_ ss ∧ PD H d ps ∧ H ls = some (.lst (rs.map V.ref)) ∧ SeatsL H ss rs ∧ H lp = some (.lst (qs.map V.ref)) ∧ PrsL H prs qs ∧ (∀ p ∈ prs, PrOk ps pw ph p) ∧ prs.length ≤ 12 ∧ ∀ H', Same H H' → Q (.bl true) H'
section
variable {P : Program} {w : World} {K : PySem.W.Frag} {mg : Str → Option Value} {base : Heap} {t : Adr}
theorem ok_law_right (T : Txt w K mg t) : FnOk true P w K mg base (CXo P w) 9 t.f_law_right t.d_law_right ["_law_picture", "_law_points", "_law_seats", "_law_pairs"] (spRight51 t) := by
  refine T.F_law_right.okn (k := 8) sc_law_right (fun vs H Q E h => ?_) (fun cdv A outer s H vs Q E hr h => ?_)
  · obtain ⟨a, dp, do_, d, ls, lp, pw, ph, ps, ss, rs, prs, qs, rfl, _⟩ := h
    rfl
  · obtain ⟨a, dp, do_, d, ls, lp, pw, ph, ps, ss, rs, prs, qs, rfl, h⟩ := h
    refine ⟨_, pss_cons (ps_set (i := 4) sc_law_right.nd rfl (Or.inl rfl) (pe_callTy call_list_of rfl T.n_list boot_list (pa_cons (pv 3) (pa_nil))))
      (pss_cons (ps_if (pt_not (pt_val (pe_call (ok_law_whole T) (hr.mono (by decide)) rfl T.g_law_whole T.F_law_whole.kp T.b_law_whole .nil pass_none (pa_cons (pe_call (ok_upright T) (hr.mono (by decide)) rfl T.g_upright T.F_upright.kp T.b_upright .nil pass_none (pa_cons (pv 0) (pa_cons (pv 4) (pa_nil)))) (pa_cons (pe_call (ok_law_upright T) (hr.mono (by decide)) rfl T.g_law_upright T.F_law_upright.kp T.b_law_upright .nil pass_none (pa_cons (pe_fld (pv 0) rfl) (pa_cons (pv 1) (pa_cons (pv 3) (pa_nil))))) (pa_nil)))))) (pss_one (ps_ret (pe_bl))) (pss_nil))
      (pss_cons (ps_set (i := 5) sc_law_right.nd rfl (Or.inl rfl) (pe_call (ok_exchangeable T) (hr.mono (by decide)) rfl T.g_exchangeable T.F_exchangeable.kp T.b_exchangeable .nil pass_none (pa_cons (pv 0) (pa_cons (pv 4) (pa_nil)))))
      (pss_cons (ps_if (pt_cmpR (op_neV (hu20_of hr)) (pv 4) (pv 3) (nomark _)) (pss_one (ps_ret (pe_bl))) (pss_nil))
      (pss_cons (ps_set (i := 6) sc_law_right.nd rfl (Or.inl rfl) (pe_lst (pa_nil)))
      (pss_cons (ps_for PassesOwn.never rfl (pi_enumerate rfl T.n_enumerate (pa_cons (pv 3) (pa_nil))) (pg_tup rfl (pgs_cons (pg_name (i := 7) sc_law_right.nd rfl (Or.inl rfl)) (pgs_cons (pg_name (i := 8) sc_law_right.nd rfl (Or.inl rfl)) (pgs_nil)))) (pss_one (ps_for PassesOwn.never rfl (pi_list (pe_slice sl_list (pv 3) (po_some (pe_op op_add (pv 7) (pe_int))) po_none)) (pg_name (i := 9) sc_law_right.nd rfl (Or.inl rfl)) (pss_cons (ps_set (i := 10) sc_law_right.nd rfl (Or.inl rfl) (pe_call (ok_law_can T) (hr.mono (by decide)) rfl T.g_law_can T.F_law_can.kp T.b_law_can .nil pass_none (pa_cons (pe_fld (pv 0) rfl) (pa_cons (pv 1) (pa_cons (pv 2) (pa_cons (pv 8) (pa_cons (pv 9) (pa_nil))))))))
      (pss_one (ps_if (pt_cmpR op_notN (pv 10) (pe_non) (nomark _)) (pss_one (ps_expr (pe_bm PySem.F.plainAttrs_list PySem.F.slot_list_append PySem.F.type_list_append mt_append (pv 6) (pa_cons (pe_tup (pa_cons (pe_ix ix_tup (pv 8) (pe_int) (fun _ _ => rfl)) (pa_cons (pe_ix ix_tup (pv 9) (pe_int) (fun _ _ => rfl)) (pa_cons (pv 10) (pa_nil))))) (pa_nil))))) (pss_nil)))))))
      (pss_cons (ps_if (pt_cmpR (op_eqV (hu20_of hr)) (pv 6) (pe_lst (pa_nil)) (nomark _)) (pss_one (ps_ret (pe_cmpR op_isN (pv 5) (pe_non) (nomark _)))) (pss_nil))
      (pss_one (ps_ret (pe_and (pe_callB call_isin rfl T.n_isinstance boot_isinstance (pa_cons (pv 5) (pa_cons (pe_bltn (v := .ty "tuple") rfl T.n_tuple boot_tuple rfl) (pa_nil)))) (pe_and (pe_cmpR (op_inV (hu20_of hr)) (pv 5) (pv 6) (by rfl)) (pe_one (pe_callB call_isin rfl T.n_isinstance boot_isinstance (pa_cons (pe_ix ix_tup (pv 5) (pe_int) (fun _ _ => rfl)) (pa_cons (pe_bltn (v := .ty "tuple") rfl T.n_tuple boot_tuple rfl) (pa_nil))))))))))))))), ?_⟩
    obtain ⟨pic, st, pd, hls, sl, hl, pr, ok, len, q⟩ := h
    obtain ⟨⟨dx0, hp⟩, _, w1, w2, h1, h2, _⟩ := id pic
    refine ⟨_, rfl, lp, _, rfl, .inl (SqL.of hl), fun lh hlh => ?_⟩
    have s1 : Same H (upd H lh (.lst (qs.map V.ref))) := same_upd (Same.refl _) hlh
    have g1 : upd H lh (.lst (qs.map V.ref)) lh = some (.lst (qs.map V.ref)) := upd_same
    revert s1 g1
    generalize upd H lh (.lst (qs.map V.ref)) = H1
    intro s1 g1
    refine ⟨_, rfl, _, rfl, a, dp, do_, lh, pw, ph, ps, prs, qs, rfl, Pic.same s1 pic, g1, pr.keep (Same.tups s1), ok, len, fun H2 s2 => ?_⟩
    have s02 := s1.trans s2
    have hp2 := s02 _ _ hp
    refine ⟨_, rfl, a, _, _, _, _, rfl, hp2, T.c_Picture, T.n_Picture_width, lkW, _, rfl, _, rfl, d, lp, pw, ph, ps, prs, qs, rfl, pd.same s02, s02 _ _ hl, pr.keep (Same.tups s02), ok, w2, h2, ?_⟩
    refine ⟨_, rfl, _, rfl, ifN (by decide) ?_⟩
    refine ⟨_, rfl, _, rfl, a, dp, do_, lh, pw, ph, ps, ss, prs, qs, rfl, Pic.same s02 pic, st.same s02, s2 _ _ g1, pr.keep (Same.tups s02), ok, fun H3 v s3 tv => ?_⟩
    have s03 := s02.trans s3
    have gh3 := s3 _ _ (s2 _ _ g1)
    refine ⟨_, rfl, _, rfl, 2, 2, .lst (prs.map prD), .lst (prs.map prD), (pr.keep (Same.tups s03)).dv gh3, (pr.keep (Same.tups s03)).dv (s03 _ _ hl), by decide, by decide, _, rfl, ifN (by rw [dEq_refl]; decide) ?_⟩
    refine ⟨(by show 0 ≤ sizeLine; exact Nat.zero_le _), fun tl htl => ?_⟩
    have htl0 : H tl = none := s03.free htl
    have s4 : Same H3 (upd H3 tl (.lst [])) := same_upd (Same.refl _) htl
    have g4 : upd H3 tl (.lst []) tl = some (.lst []) := upd_same
    revert s4 g4
    generalize upd H3 tl (.lst []) = H4
    intro s4 g4
    have s04 := s03.trans s4
    have ml := cans_le (w := pw) (ss := ss) (r := prs)
    have ml2 : prs.length * prs.length ≤ 144 := Nat.le_trans (Nat.mul_le_mul len len) (by decide)
    refine ⟨_, rfl, lp, _, rfl, SqL.of (s04 _ _ hl), ?_⟩
    refine for_enum (xs := qs.map V.ref) (Pv := fun i σ H5 => ∃ (v7 v8 v9 v10 : Option V) (acc : List Tr) (ts : List Addr), σ = [some (.ref a), some (.ref d), some (.ref ls), some (.ref lp), some (.ref lh), some v, some (.ref tl), v7, v8, v9, v10] ∧ Same H3 H5 ∧ H5 tl = some (.lst (ts.map V.ref)) ∧ TrL H5 acc ts ∧ acc ++ cans pw ss (prs.drop i) = cans pw ss prs) ⟨_, _, _, _, [], [], rfl, s4, g4, .nil, rfl⟩ (fun _ _ _ _ ⟨_, _, _, _, _, _, _, z, _⟩ => SqL.of (z _ _ (s03 _ _ hl))) ?_ ?_
    · rintro i x p σ H5 hx hp5 ⟨v7, v8, v9, v10, acc, ts, rfl, s5, ht, tr, ea⟩
      rw [List.getElem?_map] at hx
      obtain ⟨o, ho, rfl⟩ := Option.map_eq_some_iff.mp hx
      obtain ⟨P1, hP1, eP1⟩ := pr.get ho
      have ok1 := ok P1 (List.mem_of_getElem? hP1)
      have s05 := s03.trans s5
      have sp : Same H5 (upd H5 p (.tup [.int i, .ref o])) := same_upd (Same.refl _) hp5
      refine ⟨p, _, rfl, SqT.of upd_same, rfl, _, _, rfl, _, _, rfl, rfl, ?_⟩
      refine ⟨_, rfl, _, rfl, _, _, rfl, rfl, (i : Int) + 1, rfl, lp, _, rfl, SqL.of (sp _ _ (s05 _ _ hl)), fun p4 hp4 => ?_⟩
      rw [cut_tl]
      have s6 : Same H5 (upd (upd H5 p (.tup [.int i, .ref o])) p4 (.lst ((qs.drop (i + 1)).map V.ref))) := sp.trans (same_upd (Same.refl _) hp4)
      have n4 : tl ≠ p4 := ne_of_none (sp _ _ ht) hp4
      have pr2 := pr.drop (i + 1)
      have ed : prs.drop i = P1 :: prs.drop (i + 1) := by
        obtain ⟨h1, h2⟩ := (List.getElem?_eq_some_iff.mp hP1)
        rw [List.drop_eq_getElem_cons h1, h2]
      rw [ed] at ea
      refine ⟨p4, rfl, ⟨_, SqL.of upd_same⟩, ?_⟩
      refine for_list (xs := (qs.drop (i + 1)).map V.ref) (Pv := fun j σ H7 => ∃ (v9 v10 : Option V) (ac : List Tr) (t5 : List Addr), σ = [some (.ref a), some (.ref d), some (.ref ls), some (.ref lp), some (.ref lh), some v, some (.ref tl), some (.int i), some (.ref o), v9, v10] ∧ Same H3 H7 ∧ H7 p4 = some (.lst ((qs.drop (i + 1)).map V.ref)) ∧ H7 tl = some (.lst (t5.map V.ref)) ∧ TrL H7 ac t5 ∧ ac ++ (canF pw ss P1 ((prs.drop (i + 1)).drop j) ++ cans pw ss (prs.drop (i + 1))) = cans pw ss prs)
        ⟨_, _, acc, ts, rfl, s5.trans s6, upd_same, s6 _ _ ht, tr.keep (Same.tups s6), ea⟩ (fun _ _ _ _ ⟨_, _, _, _, _, _, z, _⟩ => SqL.of z) ?_ ?_
      · rintro j x σ H7 hx ⟨v9, v10, ac, t5, rfl, s7, hp7, ht7, tr7, ea7⟩
        rw [List.getElem?_map] at hx
        obtain ⟨o2, ho2, rfl⟩ := Option.map_eq_some_iff.mp hx
        obtain ⟨P2, hP2, eP2⟩ := pr2.get ho2
        have ok2 := ok P2 (List.mem_of_mem_drop (List.mem_of_getElem? hP2))
        have ed2 : (prs.drop (i + 1)).drop j = P2 :: (prs.drop (i + 1)).drop (j + 1) := by
          obtain ⟨h1, h2⟩ := List.getElem?_eq_some_iff.mp hP2
          rw [List.drop_eq_getElem_cons h1, h2]
        rw [ed2, canF_cons] at ea7
        have s07 := s03.trans s7
        have hpp7 := s07 _ _ hp
        refine ⟨_, rfl, a, _, _, _, _, rfl, hpp7, T.c_Picture, T.n_Picture_width, lkW, _, rfl, _, rfl, _, rfl, _, rfl, d, ls, o, o2, pw, ph, ps, ss, rs, P1, P2, rfl, pd.same s07, s07 _ _ hls, sl.keep (Same.tups s07), s07 _ _ eP1, s07 _ _ eP2, ok1, ok2, w2, h2, fun H8 v8' s8 mv => ?_⟩
        rcases mv with ⟨em, rfl⟩ | ⟨c, q6, em, rfl, hq6⟩
        · rw [em] at ea7
          refine ⟨_, rfl, rfl, _, rfl, ifN (by rfl) ?_⟩
          exact ⟨_, _, ac, t5, rfl, s7.trans s8, s8 _ _ hp7, s8 _ _ ht7, tr7.keep (Same.tups s8), ea7⟩
        · rw [em] at ea7
          refine ⟨_, rfl, rfl, _, rfl, ifP (by rfl) ?_⟩
          have tl7 := tr7.len
          have al : ac.length < 145 := by
            have := congrArg List.length ea7
            simp at this
            omega
          refine ⟨_, rfl, .inl ⟨rfl, _, SqL.of (s8 _ _ ht7)⟩, _, rfl, o, _, 0, _, rfl, rfl, SqT.of (s8 _ _ (s07 _ _ eP1)), rfl, _, rfl, o2, _, 0, _, rfl, rfl, SqT.of (s8 _ _ (s07 _ _ eP2)), rfl, _, rfl, (by show 3 ≤ sizeLine; decide), fun p9 hp9 => ?_⟩
          have s9 : Same H8 (upd H8 p9 (.tup [.str P1.1.nm, .str P2.1.nm, .ref q6])) := same_upd (Same.refl _) hp9
          refine ⟨tl, _, _, rfl, rfl, s9 _ _ (s8 _ _ ht7), ?_, ?_⟩
          · rw [List.length_map]
            exact Nat.lt_trans (by omega : t5.length < 200) (by decide)
          have up : ∀ b u, b ≠ tl → H8 b = some u → upd (upd H8 p9 (.tup [.str P1.1.nm, .str P2.1.nm, .ref q6])) tl (.lst (t5.map V.ref ++ [.ref p9])) b = some u := fun b u nb e => by
            rw [upd_ne nb]
            exact s9 _ _ e
          have nt : p9 ≠ tl := Ne.symm (ne_of_none (s8 _ _ ht7) hp9)
          refine ⟨_, _, ac ++ [(P1.1.nm, P2.1.nm, c)], t5 ++ [p9], rfl, fun b u e => up _ _ (ne_of_none e htl) (s8 _ _ (s7 _ _ e)), up _ _ (Ne.symm n4) (s8 _ _ hp7), (by rw [upd_same, List.map_append]; rfl), TrL.snoc (q := q6) (TrL.keep (fun b xs e => up _ _ (ne_of e (s8 _ _ ht7) (fun z => nomatch z)) e) (tr7.keep (Same.tups s8))) ?_ ?_, ?_⟩
          · rw [upd_ne nt]
            exact upd_same
          · exact up _ _ (ne_of hq6 (s8 _ _ ht7) (fun z => nomatch z)) hq6
          · rw [← ea7]
            simp
      · rintro σ H7 ⟨v9, v10, ac, t5, rfl, s7, hp7, ht7, tr7, ea7⟩
        refine ⟨_, _, _, _, ac, t5, rfl, s7, ht7, tr7, ?_⟩
        rw [List.length_map, List.drop_of_length_le (l := prs.drop (i + 1)) (by rw [pr2.len]; exact Nat.le_refl _)] at ea7
        exact ea7
    · rintro σ H5 ⟨v7, v8, v9, v10, acc, ts, rfl, s5, ht, tr, ea⟩
      rw [List.length_map, pr.len, List.drop_length] at ea
      have ea' : acc = cans pw ss prs := by
        rw [← ea]
        simp [cans]
      rw [ea'] at tr
      have s05 := s03.trans s5
      refine ⟨_, rfl, (by show 0 ≤ sizeLine; exact Nat.zero_le _), fun l9 hl9 => ?_⟩
      have s6 : Same H5 (upd H5 l9 (.lst [])) := same_upd (Same.refl _) hl9
      have g6 : upd H5 l9 (.lst []) l9 = some (.lst []) := upd_same
      revert s6 g6
      generalize upd H5 l9 (.lst []) = H6
      intro s6 g6
      have s36 := s5.trans s6
      refine ⟨3, 1, .lst ((cans pw ss prs).map trD), .lst [], (tr.keep (Same.tups s6)).dv (s6 _ _ ht), .lst (SqL.of g6) rfl (fun j x d h1 h2 => by simp at h1), by decide, by decide, _, rfl, ite2 (fun c1 => ?_) (fun c1 => ?_)⟩
      · have e0 : cans pw ss prs = [] := by
          cases e : cans pw ss prs with
          | nil => rfl
          | cons z zs =>
            rw [e] at c1
            exact absurd c1 (by simp [dEq, dEqs])
        rw [e0] at tv
        rcases tv with ⟨_, rfl⟩ | ⟨cc, _, _, ee, _⟩
        · refine ⟨_, rfl, rfl, ?_⟩
          rw [decide_eq_true rfl]
          exact q _ (s05.trans s6)
        · cases ee
      · have ne : cans pw ss prs ≠ [] := fun e => by
          rw [e] at c1
          exact c1 (dEq_refl _)
        rcases tv with ⟨ee, _⟩ | ⟨cc, qf, qc, ee, rfl, hqf, hqc⟩
        · rw [List.head?_eq_none_iff] at ee
          exact absurd ee ne
        · have hqf6 := s36 _ _ hqf
          have hqc6 := s36 _ _ hqc
          have mcc : cc ∈ cans pw ss prs := List.mem_of_mem_head? ee
          refine ⟨_, rfl, _, _, rfl, .inl ⟨_, _, true, .tup hqf6, rfl, kit_same, true, rfl, iteT ?_⟩⟩
          refine ⟨_, rfl, _, rfl, 2, 3, trD cc, (cans pw ss prs).map trD, dv_tr hqf6 hqc6, (tr.keep (Same.tups s6)).dv (s6 _ _ ht), by decide, by decide, true, ?_, iteT ?_⟩
          · rw [if_neg (by decide)]
            congr 1
            rw [List.any_eq_true]
            exact ⟨trD cc, List.mem_map.mpr ⟨cc, mcc, rfl⟩, dEq_refl _⟩
          · exact ⟨_, rfl, qf, _, 2, _, rfl, rfl, SqT.of hqf6, rfl, _, _, rfl, .inl ⟨_, _, true, .tup hqc6, rfl, kit_same, q _ (s05.trans s6)⟩⟩
end
end S51
set_option maxRecDepth 100000
set_option maxHeartbeats 4000000
namespace S51
open PySem L2 XL PyProof.Rows
theorem ixN_nat {n k : Nat} (h : k < n) : ixN n (k : Int) = some k := by
  unfold ixN
  rw [if_pos (by omega), if_pos (by omega)]
  simp
theorem PrsL.set {H : Hp} {ps : List Pr} {qs : List Addr} (h : PrsL H ps qs) (j : Nat) {p : Pr} {q : Addr} (e : H q = some (.tup (prV p))) : PrsL H (ps.set j p) (qs.set j q) := by
  induction h generalizing j with
  | nil => exact .nil
  | cons h r ih =>
    cases j with
    | zero => exact .cons e r
    | succ j => exact .cons h (ih j)
def spChg : Sp := fun vs H Q _ => ∃ (d ls lp : Addr) (n w h : Int) (ps : List Pt) (ss : List Seat) (rs : List Addr) (prs : List Pr) (qs : List Addr), vs = [.ref d, .ref ls, .ref lp, .int n] ∧ PD H d ps ∧ H ls = some (.lst (rs.map V.ref)) ∧ SeatsL H ss rs ∧ SsOk h ss ∧ H lp = some (.lst (qs.map V.ref)) ∧ PrsL H prs qs ∧ (∀ p ∈ prs, PrOk ps w h p) ∧ prs.length ≤ 12 ∧
  ∀ H' l prs' qs', Same H H' → H' l = some (.lst (qs'.map V.ref)) → PrsL H' prs' qs' → (∀ p ∈ prs', PrOk ps w h p) → prs'.length ≤ 12 → Q (.ref l) H'
section
variable {P : Program} {w : World} {K : PySem.W.Frag} {mg : Str → Option Value} {base : Heap} {t : Adr}
theorem ok_law_changed (T : Txt w K mg t) : FnOk true P w K mg base (CXo P w) 3 t.f_law_changed t.d_law_changed ["_law_points", "_law_seats", "_law_pairs", "_law_number"] (spChg) := by
  refine T.F_law_changed.okn (k := 2) sc_law_changed (fun vs H Q E h => ?_) (fun cdv A outer s H vs Q E hr h => ?_)
  · obtain ⟨d, ls, lp, n, w, h, ps, ss, rs, prs, qs, rfl, _⟩ := h
    rfl
  · obtain ⟨d, ls, lp, n, w, h, ps, ss, rs, prs, qs, rfl, h⟩ := h
    refine ⟨_, pss_cons (ps_mid (ps_if (pt_cmpR (op_eqV (hu20_of hr)) (pv 2) (pe_lst (pa_nil)) (nomark _)) (pss_one (ps_ret (pv 2))) (pss_nil)))
      (pss_cons (ps_set (i := 4) sc_law_changed.nd rfl (Or.inl rfl) (pe_op op_mod (pe_op op_fdiv (pv 3) (pe_int)) (pe_callB call_len_seq rfl T.n_len boot_len (pa_cons (pv 2) (pa_nil)))))
      (pss_cons (ps_asg (pe_ix ix_list (pv 2) (pv 4) (fun _ _ => rfl)) (pg_tup rfl (pgs_cons (pg_name (i := 5) sc_law_changed.nd rfl (Or.inr rfl)) (pgs_cons (pg_name (i := 6) sc_law_changed.nd rfl (Or.inl rfl)) (pgs_cons (pg_name (i := 7) sc_law_changed.nd rfl (Or.inl rfl)) (pgs_nil))))))
      (pss_cons (ps_set (i := 8) sc_law_changed.nd rfl (Or.inl rfl) (pe_callTy call_list_of rfl T.n_list boot_list (pa_cons (pv 2) (pa_nil))))
      (pss_cons (ps_mid (ps_if (pt_cmpR op_eq (pe_op op_mod (pv 3) (pe_int)) (pe_int) (nomark _)) (pss_cons (ps_set (i := 9) sc_law_changed.nd rfl (Or.inr rfl) (pe_compG rfl (blkG_of (zs := ["_law_pair"]) (ys := []) (fr := []) (N0 := ["_law_points", "_law_seats", "_law_pairs", "_law_number", "_law_at", "_law_name", "_law_side", "_law_row", "_law_found", "_law_taken", "_law_some", "_law_seat", "_law_other"]) (sc0 := defScope s_law_changed) (by decide +kernel) rfl rfl rfl) (pi_list (pv 2)) (fun _ _ _ _ _ ow nd => pg_name (i := 0) nd rfl (Or.inl (ow _ (by simp))) (Or.inr (ow _ (by simp)))) (gok_name (by decide)) (fun _ _ _ _ _ => pif_nil) (fun _ _ _ _ _ => pe_tup (pa_cons (pe_ix (r := rIxT K) ix_tup (pv 0) (pe_int) (fun _ _ => rfl)) (pa_cons (pe_ix (r := rIxT K) ix_tup (pv 0) (pe_int) (fun _ _ => rfl)) (pa_nil))))))
      (pss_cons (ps_setcG rfl (blkG_of (zs := ["_law_seat"]) (ys := ["_law_taken", "_law_points", "_law_seats", "_law_name"]) (fr := [9, 0, 1, 5]) (N0 := ["_law_points", "_law_seats", "_law_pairs", "_law_number", "_law_at", "_law_name", "_law_side", "_law_row", "_law_found", "_law_taken", "_law_some", "_law_seat", "_law_other"]) (sc0 := defScope s_law_changed) (by decide +kernel) rfl rfl rfl) (pi_list (pv 1)) (fun _ _ _ _ _ ow nd => pg_name (i := 0) nd rfl (Or.inl (ow _ (by simp))) (Or.inr (ow _ (by simp)))) (gok_name (by decide)) (fun _ _ _ _ _ => pif_one (PW.pt (pw_and (pt_cmpR (r := rInV K true) (op_notInV (hu20_of hr)) (pv 0) (pv 1) (by rfl)) (pw_and1 (pt_val (pe_call (ok_law_may T) (hr.mono (by decide)) rfl T.g_law_may T.F_law_may.kp T.b_law_may .nil pass_none (pa_cons (pv 2) (pa_cons (pv 3) (pa_cons (pv 4) (pa_cons (pe_ix (r := rIxT K) ix_tup (pv 0) (pe_int) (fun _ _ => rfl)) (pa_cons (pe_ix (r := rIxT K) ix_tup (pv 0) (pe_int) (fun _ _ => rfl)) (pa_nil)))))))))))) (fun _ _ _ _ _ => pv 0) (j := 10) rfl (Or.inl rfl))
      (pss_cons (ps_mid (ps_if (pt_cmpR (op_neV (hu20_of hr)) (pv 10) (pe_lst (pa_nil)) (nomark _)) (pss_cons (ps_set (i := 11) sc_law_changed.nd rfl (Or.inl rfl) (pe_ix ix_list (pv 10) (pe_op op_mod (pe_op op_fdiv (pv 3) (pe_int)) (pe_callB call_len_seq rfl T.n_len boot_len (pa_cons (pv 10) (pa_nil)))) (fun _ _ => rfl)))
      (pss_one (ps_asg (pe_tup (pa_cons (pv 5) (pa_cons (pe_ix ix_tup (pv 11) (pe_int) (fun _ _ => rfl)) (pa_cons (pe_ix ix_tup (pv 11) (pe_int) (fun _ _ => rfl)) (pa_nil))))) (pg_sub (pv 8) (pv 4) set_list)))) (pss_nil)))
      (pss_one (ps_ret (pv 8)))))) (pss_nil)))
      (pss_cons (ps_set (i := 12) sc_law_changed.nd rfl (Or.inl rfl) (pe_ix ix_list (pv 2) (pe_op op_mod (pe_op op_fdiv (pv 3) (pe_int)) (pe_callB call_len_seq rfl T.n_len boot_len (pa_cons (pv 2) (pa_nil)))) (fun _ _ => rfl)))
      (pss_cons (ps_mid (ps_if (PW.pt (pw_and (pt_val (pe_call (ok_law_may T) (hr.mono (by decide)) rfl T.g_law_may T.F_law_may.kp T.b_law_may .nil pass_none (pa_cons (pv 0) (pa_cons (pv 1) (pa_cons (pv 5) (pa_cons (pe_ix ix_tup (pv 12) (pe_int) (fun _ _ => rfl)) (pa_cons (pe_ix ix_tup (pv 12) (pe_int) (fun _ _ => rfl)) (pa_nil)))))))) (pw_and1 (pt_val (pe_call (ok_law_may T) (hr.mono (by decide)) rfl T.g_law_may T.F_law_may.kp T.b_law_may .nil pass_none (pa_cons (pv 0) (pa_cons (pv 1) (pa_cons (pe_ix ix_tup (pv 12) (pe_int) (fun _ _ => rfl)) (pa_cons (pv 6) (pa_cons (pv 7) (pa_nil))))))))))) (pss_cons (ps_asg (pe_tup (pa_cons (pe_ix ix_tup (pv 12) (pe_int) (fun _ _ => rfl)) (pa_cons (pv 6) (pa_cons (pv 7) (pa_nil))))) (pg_sub (pv 8) (pe_op op_mod (pe_op op_fdiv (pv 3) (pe_int)) (pe_callB call_len_seq rfl T.n_len boot_len (pa_cons (pv 2) (pa_nil)))) set_list))
      (pss_one (ps_asg (pe_tup (pa_cons (pv 5) (pa_cons (pe_ix ix_tup (pv 12) (pe_int) (fun _ _ => rfl)) (pa_cons (pe_ix ix_tup (pv 12) (pe_int) (fun _ _ => rfl)) (pa_nil))))) (pg_sub (pv 8) (pv 4) set_list)))) (pss_nil)))
      (pss_one (ps_ret (pv 8))))))))), ?_⟩
    obtain ⟨pd, hls, sl, sok, hl, pr, ok, len, q⟩ := h
    have ql := pr.len
    have rl := sl.len
    have sl32 := sok.2.1
    refine ⟨fun σ' H' => σ' = [some (.ref d), some (.ref ls), some (.ref lp), some (.int n), none, none, none, none, none, none, none, none, none] ∧ Same H H' ∧ prs ≠ [], ?_, ?_⟩
    · refine ⟨_, rfl, (by show 0 ≤ sizeLine; exact Nat.zero_le _), fun l0 hl0 => ?_⟩
      have s1 : Same H (upd H l0 (.lst [])) := same_upd (Same.refl _) hl0
      have g1 : upd H l0 (.lst []) l0 = some (.lst []) := upd_same
      revert s1 g1
      generalize upd H l0 (.lst []) = H1
      intro s1 g1
      refine ⟨2, 1, .lst (prs.map prD), .lst [], (pr.keep (Same.tups s1)).dv (s1 _ _ hl), .lst (SqL.of g1) rfl (fun j x d h1 h2 => by simp at h1), by decide, by decide, _, rfl, ite2 (fun c1 => ?_) (fun c1 => ?_)⟩
      · exact ⟨_, rfl, q H1 lp prs qs s1 (s1 _ _ hl) (pr.keep (Same.tups s1)) ok len⟩
      · refine ⟨rfl, s1, fun e => ?_⟩
        rw [e] at c1
        exact c1 (dEq_refl _)
    rintro σ' H1 ⟨rfl, s1, ne⟩
    have hl1 := s1 _ _ hl
    have pr1 := pr.keep (Same.tups s1)
    have qn : 0 < qs.length := by
      rw [ql]
      exact List.length_pos_iff.mpr ne
    obtain ⟨ja, qa, hja, eja, lja, atja⟩ := ix_mod (m := n / 2) qn
    obtain ⟨pa, hpa, eqa⟩ := pr1.get hja
    have oka := ok pa (List.mem_of_getElem? hpa)
    refine ⟨_, rfl, _, _, rfl, rfl, ⟨by decide, by decide⟩, _, rfl, lp, _, rfl, .inl (SqL.of hl1), _, _, rfl, rfl, (by rw [List.length_map]; omega), ?_⟩
    dsimp only
    rw [List.length_map, eja]
    rw [eja] at atja
    refine ⟨_, rfl, _, rfl, lp, _, _, .ref qa, rfl, rfl, SqL.of hl1, atja, qa, _, rfl, SqT.of eqa, rfl, _, _, rfl, _, _, rfl, _, _, rfl, rfl, ?_⟩
    refine ⟨_, rfl, lp, _, rfl, .inl (SqL.of hl1), fun lf hlf => ?_⟩
    have s2 : Same H1 (upd H1 lf (.lst (qs.map V.ref))) := same_upd (Same.refl _) hlf
    have g2 : upd H1 lf (.lst (qs.map V.ref)) lf = some (.lst (qs.map V.ref)) := upd_same
    revert s2 g2
    generalize upd H1 lf (.lst (qs.map V.ref)) = H2
    intro s2 g2
    have s02 := s1.trans s2
    have hl2 := s2 _ _ hl1
    have pr2 := pr1.keep (Same.tups s2)
    have flf : H lf = none := s1.free hlf
    refine ⟨fun σ' H' => σ' = [some (.ref d), some (.ref ls), some (.ref lp), some (.int n), some (.int (ja : Int)), some (.str pa.1.nm), some (.str (sideW pa.2.1)), some (.int pa.2.2), some (.ref lf), none, none, none, none] ∧ H2 = H', ⟨_, rfl, _, _, rfl, rfl, (by show (0 : Int) < 2; decide), rfl, _, rfl, ite2 (fun c => ?_) (fun c => ⟨rfl, rfl⟩)⟩, ?_⟩
    · refine ⟨_, rfl, lp, rfl, ⟨_, SqL.of hl2⟩, fun l3 hl3 => ?_⟩
      refine comp_list (SqL.of hl2) (by rw [List.length_map]; exact Nat.lt_trans (by omega : qs.length < 13) (by decide)) hl3 (fun i y H => ∃ p q, prs[i]? = some p ∧ y = .ref q ∧ H q = some (.tup (seatV p.2))) (fun i y H H' tp ⟨p, q, a1, a2, a3⟩ => ⟨p, q, a1, a2, tp _ _ a3⟩) (fun i x H3 hx s3 N hN => ?_) (fun ys H3 s3 el3 ly f3 => ?_)
      · rw [List.getElem?_map] at hx
        obtain ⟨o, ho, rfl⟩ := Option.map_eq_some_iff.mp hx
        obtain ⟨p, hpp, ep⟩ := (pr2.keep (Same.tups s3)).get ho
        exact ⟨_, rfl, o, _, 1, _, rfl, rfl, SqT.of ep, rfl, _, rfl, o, _, 2, _, rfl, rfl, SqT.of ep, rfl, (by show 2 ≤ sizeLine; decide), fun q hq => hN _ _ (same_upd (Same.refl _) hq) ⟨p, q, hpp, rfl, upd_same⟩⟩
      rw [List.length_map, ql] at ly
      obtain ⟨tq, rfl, ts3⟩ := SeatsL.pick (H := H3) (ss := prs.map (·.2)) (ys := ys) (by rw [ly, List.length_map]) (fun j y s hy hs => by
        obtain ⟨p, q', a1, a2, a3⟩ := f3 j y hy
        rw [List.getElem?_map, a1] at hs
        cases hs
        exact ⟨q', a2, a3⟩)
      have s03 := s02.trans s3
      have hls3 := s03 _ _ hls
      have sl3 := sl.keep (Same.tups s03)
      refine ⟨_, rfl, ls, rfl, ⟨_, SqL.of hls3⟩, fun l8 hl8 => ?_⟩
      refine comp_listF (SqL.of hls3) (by rw [List.length_map]; exact Nat.lt_trans (by omega : rs.length < 33) (by decide)) hl8 (freeIx ss (prs.map (·.2)) pa.1) (fun i y H => ∃ s q, ss[i]? = some s ∧ y = .ref q ∧ H q = some (.tup (seatV s))) (fun i y H H' tp ⟨s, q, a1, a2, a3⟩ => ⟨s, q, a1, a2, tp _ _ a3⟩) (fun i x H7 hx s7 N M hN hM => ?_) (fun ys H7 s7 el7 ly f7 => ?_)
      · rw [List.getElem?_map] at hx
        obtain ⟨o, ho, rfl⟩ := Option.map_eq_some_iff.mp hx
        obtain ⟨s0, hs0, es0⟩ := (sl3.keep (Same.tups s7)).get ho
        have s67 := s03.trans s7
        refine ⟨_, rfl, _, rfl, 1, 2, seatD s0, (prs.map (·.2)).map seatD, dv_seat es0, (ts3.keep (Same.tups s7)).dv (s7 _ _ el3), by decide, by decide, _, rfl, ite2 (fun c1 => ?_) (fun c1 => ?_)⟩
        · rw [if_pos rfl, any_seat] at c1
          refine ⟨_, rfl, _, rfl, _, rfl, _, rfl, o, _, 0, _, rfl, rfl, SqT.of es0, rfl, _, rfl, o, _, 1, _, rfl, rfl, SqT.of es0, rfl, d, ls, ps, ss, rs, pa.1, s0.1, s0.2, rfl, pd.same s67, oka.fd, s67 _ _ hls, sl.keep (Same.tups s67), fun H8 s8 => ?_⟩
          refine ⟨_, rfl, ite2 (fun c2 => ?_) (fun c2 => ?_)⟩
          · exact ⟨_, rfl, hN _ _ s8 (by rw [freeIx_of hs0, c1, c2]; rfl) ⟨s0, o, hs0, rfl, s8 _ _ es0⟩⟩
          · exact hM _ s8 (by rw [freeIx_of hs0, Bool.eq_false_iff.mpr c2, Bool.and_false])
        · rw [if_pos rfl, any_seat] at c1
          exact iteF (hM _ (Same.refl _) (by rw [freeIx_of hs0, Bool.eq_false_iff.mpr c1, Bool.false_and]))
      obtain ⟨s8, rs8, rfl, sl8, mem8⟩ := seats_some (H := H7) (ss := ss) (ys := ys) fun y hy => by
        obtain ⟨j, hj⟩ := List.mem_iff_getElem?.mp hy
        have lj := (List.getElem?_eq_some_iff.mp hj).1
        rw [ly] at lj
        obtain ⟨s, q, a1, a2, a3⟩ := f7 j y _ hj (List.getElem?_eq_getElem lj)
        exact ⟨s, q, List.mem_of_getElem? a1, a2, a3⟩
      have rl8 := sl8.len
      have s27 := s3.trans s7
      have s07 := s03.trans s7
      refine ⟨fun σ' H' => ∃ (v9 v10 v11 : Option V) (prs' : List Pr) (qs' : List Addr), σ' = [some (.ref d), some (.ref ls), some (.ref lp), some (.int n), some (.int (ja : Int)), some (.str pa.1.nm), some (.str (sideW pa.2.1)), some (.int pa.2.2), some (.ref lf), v9, v10, v11, none] ∧ Same H H' ∧ H' lf = some (.lst (qs'.map V.ref)) ∧ PrsL H' prs' qs' ∧ (∀ p ∈ prs', PrOk ps w h p) ∧ prs'.length ≤ 12, ?_, ?_⟩
      · refine ⟨_, rfl, (by show 0 ≤ sizeLine; exact Nat.zero_le _), fun l9 hl9 => ?_⟩
        have s9 : Same H7 (upd H7 l9 (.lst [])) := same_upd (Same.refl _) hl9
        have g9 : upd H7 l9 (.lst []) l9 = some (.lst []) := upd_same
        revert s9 g9
        generalize upd H7 l9 (.lst []) = H9
        intro s9 g9
        have s29 := s27.trans s9
        have s09 := s02.trans s29
        have glf := s29 _ _ g2
        refine ⟨2, 1, .lst (s8.map seatD), .lst [], (sl8.keep (Same.tups s9)).dv (s9 _ _ el7), .lst (SqL.of g9) rfl (fun j x d h1 h2 => by simp at h1), by decide, by decide, _, rfl, ite2 (fun c1 => ?_) (fun c1 => ?_)⟩
        · have n8 : 0 < rs8.length := by
            rcases Nat.eq_zero_or_pos rs8.length with z | z
            · rw [rl8] at z
              have e := List.eq_nil_of_length_eq_zero z
              rw [e] at c1
              exact absurd c1 (by decide)
            · exact z
          obtain ⟨j, qb, hjb, _, _, atj⟩ := ix_mod (m := n / 64) n8
          obtain ⟨sa, hsa, eqb⟩ := (sl8.keep (Same.tups s9)).get hjb
          have msa := mem8 _ (List.mem_of_getElem? hsa)
          obtain ⟨sr1, sr2⟩ := sok.2.2 sa msa
          refine ⟨_, rfl, _, rfl, _, _, rfl, rfl, ⟨by decide, by decide⟩, _, rfl, l8, _, rfl, .inl (SqL.of (s9 _ _ el7)), _, _, rfl, rfl, (by rw [List.length_map]; omega), l8, _, _, .ref qb, rfl, rfl, SqL.of (s9 _ _ el7), (by rw [List.length_map]; exact atj), ?_⟩
          refine ⟨_, rfl, _, rfl, qb, _, 0, _, rfl, rfl, SqT.of eqb, rfl, _, rfl, qb, _, 1, _, rfl, rfl, SqT.of eqb, rfl, (by show 3 ≤ sizeLine; decide), fun pn hpn => ?_⟩
          have sN := same_upd (o := .tup [.str pa.1.nm, .str (sideW sa.1), .int sa.2]) (Same.refl _) hpn
          have glfN := sN _ _ glf
          refine ⟨_, rfl, _, rfl, lf, _, _, ja, rfl, rfl, glfN, ixN_nat (by rw [List.length_map]; exact lja), ?_⟩
          have up : ∀ b u (o : HO), b ≠ lf → H9 b = some u → upd (upd H9 pn (.tup [.str pa.1.nm, .str (sideW sa.1), .int sa.2])) lf o b = some u := fun b u o nb e => by
            rw [upd_ne nb]
            exact sN _ _ e
          have npn : pn ≠ lf := Ne.symm (ne_of_none glf hpn)
          refine ⟨_, _, _, prs.set ja (pa.1, sa), qs.set ja pn, rfl, fun b u e => up _ _ _ (ne_of_none e flf) (s09 _ _ e), ?_, ?_, fun p hp => ?_, by rw [List.length_set]; exact len⟩
          · rw [upd_same, List.map_set]
          · refine PrsL.set ((pr2.keep (Same.tups s29)).keep fun b xs e => up _ _ _ (ne_of e glf (fun z => nomatch z)) e) ja ?_
            rw [upd_ne npn]
            exact upd_same
          · rcases List.mem_or_eq_of_mem_set hp with z | z
            · exact ok p z
            · rw [z]
              exact ⟨oka.nm, oka.fd, sr1, sr2, oka.xy⟩
        · exact ⟨_, _, _, prs, qs, rfl, s09, glf, pr2.keep (Same.tups s29), ok, len⟩
      · rintro σ' H' ⟨v9, v10, v11, prs', qs', rfl, sH, hlf', pr', ok', len'⟩
        exact ⟨_, rfl, q _ _ _ _ sH hlf' pr' ok' len'⟩
    rintro σ' _ ⟨rfl, rfl⟩
    obtain ⟨jb, qb, hjb, ejb, ljb, atjb⟩ := ix_mod (m := n / 64) qn
    obtain ⟨pb, hpb, eqb⟩ := pr2.get hjb
    have okb := ok pb (List.mem_of_getElem? hpb)
    refine ⟨_, rfl, _, rfl, _, _, rfl, rfl, ⟨by decide, by decide⟩, _, rfl, lp, _, rfl, .inl (SqL.of hl2), _, _, rfl, rfl, (by rw [List.length_map]; omega), lp, _, _, .ref qb, rfl, rfl, SqL.of hl2, (by rw [List.length_map]; exact atjb), ?_⟩
    refine ⟨fun σ' H' => ∃ (prs' : List Pr) (qs' : List Addr), σ' = [some (.ref d), some (.ref ls), some (.ref lp), some (.int n), some (.int (ja : Int)), some (.str pa.1.nm), some (.str (sideW pa.2.1)), some (.int pa.2.2), some (.ref lf), none, none, none, some (.ref qb)] ∧ Same H H' ∧ H' lf = some (.lst (qs'.map V.ref)) ∧ PrsL H' prs' qs' ∧ (∀ p ∈ prs', PrOk ps w h p) ∧ prs'.length ≤ 12, ?_, ?_⟩
    · refine ⟨_, rfl, _, rfl, _, rfl, _, rfl, qb, _, 1, _, rfl, rfl, SqT.of eqb, rfl, _, rfl, qb, _, 2, _, rfl, rfl, SqT.of eqb, rfl, d, ls, ps, ss, rs, pa.1, pb.2.1, pb.2.2, rfl, pd.same s02, oka.fd, s02 _ _ hls, sl.keep (Same.tups s02), fun H3 s3 => ?_⟩
      have s03 := s02.trans s3
      refine ⟨_, rfl, ite2 (fun c1 => ?_) (fun c1 => ?_)⟩
      · refine ⟨_, rfl, _, rfl, _, rfl, qb, _, 0, _, rfl, rfl, SqT.of (s3 _ _ eqb), rfl, _, rfl, _, rfl, d, ls, ps, ss, rs, pb.1, pa.2.1, pa.2.2, rfl, pd.same s03, okb.fd, s03 _ _ hls, sl.keep (Same.tups s03), fun H4 s4 => ?_⟩
        have s04 := s03.trans s4
        have s24 := s3.trans s4
        have glf := s24 _ _ g2
        have eqb4 := s24 _ _ eqb
        refine ⟨_, rfl, ite2 (fun c2 => ?_) (fun c2 => ?_)⟩
        · refine ⟨_, rfl, qb, _, 0, _, rfl, rfl, SqT.of eqb4, rfl, _, rfl, _, rfl, (by show 3 ≤ sizeLine; decide), fun p1 hp1 => ?_⟩
          have sN := same_upd (o := .tup [.str pb.1.nm, .str (sideW pa.2.1), .int pa.2.2]) (Same.refl _) hp1
          have glfN := sN _ _ glf
          have hlN := sN _ _ (s24 _ _ hl2)
          refine ⟨_, rfl, _, rfl, _, _, rfl, rfl, ⟨by decide, by decide⟩, _, rfl, lp, _, rfl, .inl (SqL.of hlN), _, _, rfl, rfl, (by rw [List.length_map]; omega), lf, _, _, jb, rfl, rfl, glfN, ?_, ?_⟩
          · rw [List.length_map, ejb]
            exact ixN_nat ljb
          have up : ∀ b u (o : HO), b ≠ lf → H4 b = some u → upd (upd H4 p1 (.tup [.str pb.1.nm, .str (sideW pa.2.1), .int pa.2.2])) lf o b = some u := fun b u o nb e => by
            rw [upd_ne nb]
            exact sN _ _ e
          have np1 : p1 ≠ lf := Ne.symm (ne_of_none glf hp1)
          have e5 : upd (upd H4 p1 (.tup [.str pb.1.nm, .str (sideW pa.2.1), .int pa.2.2])) lf (.lst ((qs.map V.ref).set jb (.ref p1))) lf = some (.lst ((qs.set jb p1).map V.ref)) := by rw [upd_same, List.map_set]
          have k5 : ∀ b u, b ≠ lf → H4 b = some u → upd (upd H4 p1 (.tup [.str pb.1.nm, .str (sideW pa.2.1), .int pa.2.2])) lf (.lst ((qs.map V.ref).set jb (.ref p1))) b = some u := fun b u nb e => up _ _ _ nb e
          have e6 : upd (upd H4 p1 (.tup [.str pb.1.nm, .str (sideW pa.2.1), .int pa.2.2])) lf (.lst ((qs.map V.ref).set jb (.ref p1))) p1 = some (.tup [.str pb.1.nm, .str (sideW pa.2.1), .int pa.2.2]) := by
            rw [upd_ne np1]
            exact upd_same
          revert e5 k5 e6
          generalize upd (upd H4 p1 (.tup [.str pb.1.nm, .str (sideW pa.2.1), .int pa.2.2])) lf (.lst ((qs.map V.ref).set jb (.ref p1))) = H5
          intro e5 k5 e6
          have eqb5 := k5 _ _ (ne_of eqb4 glf (fun z => nomatch z)) eqb4
          refine ⟨_, rfl, _, rfl, qb, _, 1, _, rfl, rfl, SqT.of eqb5, rfl, _, rfl, qb, _, 2, _, rfl, rfl, SqT.of eqb5, rfl, (by show 3 ≤ sizeLine; decide), fun p2 hp2 => ?_⟩
          have sM := same_upd (o := .tup [.str pa.1.nm, .str (sideW pb.2.1), .int pb.2.2]) (Same.refl _) hp2
          have e7 := sM _ _ e5
          refine ⟨_, rfl, _, rfl, lf, _, _, ja, rfl, rfl, e7, ixN_nat (by rw [List.length_map, List.length_set]; exact lja), ?_⟩
          have np2 : p2 ≠ lf := Ne.symm (ne_of_none e5 hp2)
          refine ⟨(prs.set jb (pb.1, pa.2)).set ja (pa.1, pb.2), (qs.set jb p1).set ja p2, rfl, fun b u e => ?_, ?_, ?_, fun p hp => ?_, by rw [List.length_set, List.length_set]; exact len⟩
          · rw [upd_ne (ne_of_none e flf)]
            exact sM _ _ (k5 _ _ (ne_of_none e flf) (s04 _ _ e))
          · rw [upd_same]
            simp only [List.map_set]
          · have tM : ∀ (o : HO) b xs, H5 b = some (.tup xs) → upd (upd H5 p2 (.tup [.str pa.1.nm, .str (sideW pb.2.1), .int pb.2.2])) lf o b = some (.tup xs) := fun o b xs e => by
              rw [upd_ne (ne_of e e5 (fun z => nomatch z))]
              exact sM _ _ e
            refine PrsL.set (PrsL.set (PrsL.keep (tM _) (PrsL.keep (fun b xs e => k5 _ _ (ne_of e glf (fun z => nomatch z)) e) (pr2.keep (Same.tups s24)))) jb (tM _ _ _ e6)) ja ?_
            rw [upd_ne np2]
            exact upd_same
          · rcases List.mem_or_eq_of_mem_set hp with z | z
            · rcases List.mem_or_eq_of_mem_set z with z | z
              · exact ok p z
              · rw [z]
                exact ⟨okb.nm, okb.fd, oka.r1, oka.r2, okb.xy⟩
            · rw [z]
              exact ⟨oka.nm, oka.fd, okb.r1, okb.r2, oka.xy⟩
        · exact ⟨prs, qs, rfl, s04, glf, pr2.keep (Same.tups s24), ok, len⟩
      · exact iteF ⟨prs, qs, rfl, s03, s3 _ _ g2, pr2.keep (Same.tups s3), ok, len⟩
    · rintro σ' H' ⟨prs', qs', rfl, sH, hlf', pr', ok', len'⟩
      exact ⟨_, rfl, q _ _ _ _ sH hlf' pr' ok' len'⟩
end
end S51
set_option maxRecDepth 100000
set_option maxHeartbeats 4000000
namespace S51
open PySem L2 XL PyProof.Rows
def spLaw (K : PySem.W.Frag) : Sp := fun vs H Q _ => ∃ (a : Addr) (ns : List Int), vs = [.ref a] ∧ SqL K H a (ns.map V.int) ∧ ns.length ≤ 63 ∧ ∀ H', Q (.bl true) H'
section
variable {P : Program} {w : World} {K : PySem.W.Frag} {mg : Str → Option Value} {base : Heap} {t : Adr}
theorem ok_law (T : Txt w K mg t) : FnOk true P w K mg base (CXo P w) 10 t.f_law t.d_law ["_law_script"] (spLaw K) := by
  refine T.F_law.okn (k := 9) sc_law (fun vs H Q E h => ?_) (fun cdv A outer s H vs Q E hr h => ?_)
  · obtain ⟨sc, ns, rfl, _⟩ := h
    rfl
  · obtain ⟨sc, ns, rfl, h⟩ := h
    refine ⟨_, pss_cons (ps_asg (pe_call (ok_law_built T) (hr.mono (by decide)) rfl T.g_law_built T.F_law_built.kp T.b_law_built .nil pass_none (pa_cons (pe_call (ok_law_cell T) (hr.mono (by decide)) rfl T.g_law_cell T.F_law_cell.kp T.b_law_cell .nil pass_none (pa_cons (pv 0) (pa_cons (pe_int) (pa_nil)))) (pa_cons (pe_int) (pa_cons (pe_int) (pa_cons (pe_int) (pa_cons (pe_bl) (pa_nil))))))) (pg_tup rfl (pgs_cons (pg_name (i := 1) sc_law.nd rfl (Or.inl rfl)) (pgs_cons (pg_name (i := 2) sc_law.nd rfl (Or.inl rfl)) (pgs_nil)))))
      (pss_cons (ps_set (i := 3) sc_law.nd rfl (Or.inl rfl) (pe_call (ok_law_opened T) (hr.mono (by decide)) rfl T.g_law_opened T.F_law_opened.kp T.b_law_opened .nil pass_none (pa_cons (pv 1) (pa_cons (pe_call (ok_law_cell T) (hr.mono (by decide)) rfl T.g_law_cell T.F_law_cell.kp T.b_law_cell .nil pass_none (pa_cons (pv 0) (pa_cons (pe_int) (pa_nil)))) (pa_nil)))))
      (pss_cons (ps_set (i := 4) sc_law.nd rfl (Or.inl rfl) (pe_call (ok_law_given T) (hr.mono (by decide)) rfl T.g_law_given T.F_law_given.kp T.b_law_given .nil pass_none (pa_cons (pv 2) (pa_cons (pv 3) (pa_cons (pe_call (ok_law_cell T) (hr.mono (by decide)) rfl T.g_law_cell T.F_law_cell.kp T.b_law_cell .nil pass_none (pa_cons (pv 0) (pa_cons (pe_int) (pa_nil)))) (pa_nil))))))
      (pss_cons (ps_if (pt_not (pt_val (pe_call (ok_law_right T) (hr.mono (by decide)) rfl T.g_law_right T.F_law_right.kp T.b_law_right .nil pass_none (pa_cons (pv 1) (pa_cons (pv 2) (pa_cons (pv 3) (pa_cons (pv 4) (pa_nil)))))))) (pss_one (ps_ret (pe_bl))) (pss_nil))
      (pss_cons (ps_for PassesOwn.never rfl (pi_range2 rfl T.n_range (pa_cons (pe_int) (pa_cons (pe_callB (call_min2 rfl) rfl T.n_min boot_min (pa_cons (pe_callB call_len_seq rfl T.n_len boot_len (pa_cons (pv 0) (pa_nil))) (pa_cons (pe_int) (pa_nil)))) (pa_nil)))) (pg_name (i := 5) sc_law.nd rfl (Or.inl rfl)) (pss_cons (ps_set (i := 4) sc_law.nd rfl (Or.inl rfl) (pe_call (ok_law_changed T) (hr.mono (by decide)) rfl T.g_law_changed T.F_law_changed.kp T.b_law_changed .nil pass_none (pa_cons (pv 2) (pa_cons (pv 3) (pa_cons (pv 4) (pa_cons (pe_call (ok_law_mixed T) (hr.mono (by decide)) rfl T.g_law_mixed T.F_law_mixed.kp T.b_law_mixed .nil pass_none (pa_cons (pe_ix ix_list (pv 0) (pv 5) (fun _ _ => rfl)) (pa_cons (pe_int) (pa_nil)))) (pa_nil)))))))
      (pss_one (ps_if (pt_not (pt_val (pe_call (ok_law_right T) (hr.mono (by decide)) rfl T.g_law_right T.F_law_right.kp T.b_law_right .nil pass_none (pa_cons (pv 1) (pa_cons (pv 2) (pa_cons (pv 3) (pa_cons (pv 4) (pa_nil)))))))) (pss_one (ps_ret (pe_bl))) (pss_nil)))))
      (pss_one (ps_ret (pe_call (ok_law_right T) (hr.mono (by decide)) rfl T.g_law_right T.F_law_right.kp T.b_law_right .nil pass_none (pa_cons (pv 1) (pa_cons (pv 2) (pa_cons (pv 3) (pa_cons (pe_lst (pa_nil)) (pa_nil)))))))))))), ?_⟩
    obtain ⟨hs, n63, q⟩ := h
    refine ⟨_, rfl, sc, ns, 0, rfl, hs, by decide, by decide, fun c0 => ⟨c0, rfl, fun H1 tp a dp do_ d w h ps kvs s1 htp pic hdt pok p6 hd lp ndp fd fdo => ⟨tp, _, rfl, SqT.of htp, rfl, _, _, rfl, _, _, rfl, rfl, ?_⟩⟩⟩
    have hs1 := Same.seqL s1 hs
    refine ⟨_, rfl, _, rfl, sc, ns, 1, rfl, hs1, by decide, by decide, fun c1 => ⟨a, dp, do_, w, h, c1, ps, rfl, pic, hdt, fun H2 ls ss rs k2 fls pic2 st2 sok hls sl => ?_⟩⟩
    have s02 : Same H H2 := fun b u e => k2 _ _ (ne_of_none e fdo) (s1 _ _ e)
    have hs2 := Same.seqL s02 hs
    have hd2 := k2 _ _ (ne_of hd hdt (fun z => nomatch z)) hd
    have lp2 : Lp H2 ps kvs := Lp.keepL (fun b xs e => k2 _ _ (ne_of e hdt (fun z => nomatch z)) e) lp
    refine ⟨_, rfl, _, rfl, _, rfl, sc, ns, 2, rfl, hs2, by decide, by decide, fun c2 => ⟨d, ls, c2, w, h, ps, kvs, ss, rs, rfl, hd2, lp2, p6, pok, hls, sl, sok, fun ob H3 lq prs qs s3 hlq pr3 ok3 len3 => ?_⟩⟩
    have k3 : ∀ b u, b ≠ d → H2 b = some u → H3 b = some u := fun b u nb e => s3 _ _ (by rw [upd_ne nb]; exact e)
    have t3 : Tups H2 H3 := fun b xs e => k3 _ _ (ne_of e hd2 (fun z => nomatch z)) e
    have pic3 : Pic t H3 a dp do_ w h ps := by
      obtain ⟨⟨dx, e1⟩, ⟨kv, e2, e3⟩, r1, r2, r3, r4, r5⟩ := pic2
      exact ⟨⟨dx, k3 _ _ (ne_of e1 hd2 (fun z => nomatch z)) e1⟩, ⟨kv, k3 _ _ (Ne.symm ndp) e2, e3.keep t3⟩, r1, r2, r3, r4, r5⟩
    have st3 : Sts H3 do_ ss := by
      obtain ⟨kv, e, r⟩ := st2
      exact ⟨kv, k3 _ _ (ne_of e hd2 (fun z => nomatch z)) e, r⟩
    have pd3 : PD H3 d ps := ⟨kvs, .inr ⟨ob, s3 _ _ upd_same⟩, Lp.keepL (fun b xs e => k3 _ _ (ne_of e hd2 (fun z => nomatch z)) e) lp2⟩
    have hls3 := k3 _ _ (ne_of hls hd2 (fun z => nomatch z)) hls
    have sl3 := sl.keep t3
    have s03 : Same H H3 := fun b u e => k3 _ _ (ne_of_none e fd) (s02 _ _ e)
    refine ⟨_, rfl, _, rfl, _, rfl, _, rfl, a, dp, do_, d, ls, lq, w, h, ps, ss, rs, prs, qs, rfl, pic3, st3, pd3, hls3, sl3, hlq, pr3, ok3, len3, fun H4 s4 => ⟨_, rfl, ifN (by decide) ?_⟩⟩
    have hs4 := Same.seqL (s03.trans s4) hs
    refine ⟨_, rfl, sc, _, rfl, .inl hs4, _, _, rfl, 3, _, rfl, ⟨by decide, by decide, ?_, ?_⟩, ?_⟩
    · rw [List.length_map]
      split <;> omega
    · rw [List.length_map]
      split <;> omega
    rw [List.length_map]
    have nb : ∀ i : Nat, i < ((if (13 : Int) < (ns.length : Int) then (13 : Int) else (ns.length : Int)) - 3).toNat → 3 + i < ns.length := fun i hi => by
      split at hi <;> omega
    refine for_range (Pv := fun i σ H5 => ∃ (v5 : Option V) (lq : Addr) (prs : List Pr) (qs : List Addr), σ = [some (.ref sc), some (.ref a), some (.ref d), some (.ref ls), some (.ref lq), v5] ∧ Same H3 H5 ∧ H5 lq = some (.lst (qs.map V.ref)) ∧ PrsL H5 prs qs ∧ (∀ p ∈ prs, PrOk ps w h p) ∧ prs.length ≤ 12) ⟨_, lq, prs, qs, rfl, s4, s4 _ _ hlq, pr3.keep (Same.tups s4), ok3, len3⟩ ?_ ?_
    · rintro i σ H5 hi ⟨v5, l5, prs5, qs5, rfl, s5, hl5, pr5, ok5, len5⟩
      have lt := nb i hi
      have hs5 := Same.seqL (s03.trans s5) hs
      have hat : atI (ns.map V.int) (3 + (i : Int)) = some (.int ns[3 + i]) := by
        rw [show (3 + (i : Int)) = ((3 + i : Nat) : Int) by omega]
        exact atI_nat (by rw [List.getElem?_map, List.getElem?_eq_getElem lt]; rfl)
      refine ⟨_, rfl, _, rfl, _, rfl, _, rfl, _, rfl, sc, _, _, _, rfl, rfl, hs5, hat, _, 0, rfl, by decide, fun m m0 => ⟨d, ls, l5, m, w, h, ps, ss, rs, prs5, qs5, rfl, pd3.same s5, s5 _ _ hls3, sl3.keep (Same.tups s5), sok, hl5, pr5, ok5, len5, fun H6 l6 prs6 qs6 s6 hl6 pr6 ok6 len6 => ?_⟩⟩
      have s36 := s5.trans s6
      refine ⟨_, rfl, _, rfl, _, rfl, _, rfl, a, dp, do_, d, ls, l6, w, h, ps, ss, rs, prs6, qs6, rfl, Pic.same s36 pic3, st3.same s36, pd3.same s36, s36 _ _ hls3, sl3.keep (Same.tups s36), hl6, pr6, ok6, len6, fun H7 s7 => ⟨_, rfl, ifN (by decide) ?_⟩⟩
      exact ⟨_, l6, prs6, qs6, rfl, s36.trans s7, s7 _ _ hl6, pr6.keep (Same.tups s7), ok6, len6⟩
    · rintro σ H5 ⟨v5, l5, prs5, qs5, rfl, s5, hl5, pr5, ok5, len5⟩
      refine ⟨_, rfl, _, rfl, _, rfl, (by show 0 ≤ sizeLine; exact Nat.zero_le _), fun l0 hl0 => ?_⟩
      have s6 := same_upd (o := .lst []) (Same.refl _) hl0
      have s36 := s5.trans s6
      exact ⟨a, dp, do_, d, ls, l0, w, h, ps, ss, rs, [], [], rfl, Pic.same s36 pic3, st3.same s36, pd3.same s36, s36 _ _ hls3, sl3.keep (Same.tups s36), upd_same, .nil, fun p hp => (nomatch hp), Nat.zero_le _, fun H' _ => q H'⟩
end
end S51
namespace PySem.W.Fast
def tw17693309174074649584:=0
def tw5890205814626922397:=0
def tw18100757396484240920:=0
def tw13167807938138419052:=0
def tw8817234008392905069:=0
def tw14874168810813554704:=0
def tw9830921576267844354:=0
def tw14084062704781070127:=0
def tw12794403496665586353:=0
def tw14597285216318760598:=0
def tw13636475812329986458:=0
def tw6897895601019357781:=0
def tw11012618157910779726:=0
def tw13948892383128227982:=0
def tw6953025207153993060:=0
def tw5153850287105625890:=0
def tw7700884432515850026:=0
def tw6892492905652964722:=0
def tw12227050523477805401:=0
def tw10264766813706187237:=0
def tw4318515448319425614:=0
def tw11138148740322760638:=0
def tw4736642545798223123:=0
def tw3693996355105871874:=0
def tw7226172462721687552:=0
def tw1552140445625937598:=0
def tw7612690803895401684:=0
def tw7802626819990001968:=0
def tw9181484143403086450:=0
def tw13192367940867403336:=0
def tw17305461371252112106:=0
def tw7119652059797797187:=0
def tw8633088570250677508:=0
def tw6257366024645165380:=0
def tw12344553324209650399:=0
def tw68628728041938692:=0
def tw14331721215646991225:=0
def tw13785666079457469345:=0
def tw15016779846790965753:=0
def tw12162649760041016537:=0
def tw14836393417487812941:=0
def tw3394542091946753956:=0
def tw8577507010605827598:=0
def tw16796405021652386113:=0
def tw4025720763456709622:=0
def tw16442971777096426605:=0
def tw10614885485492516427:=0
def tw5425719734898424407:=0
def tw5481843094610775819:=0
def tw14516584518831425583:=0
def tw10049384184680047951:=0
def tw9090648563207475383:=0
def tw12677848828931496985:=0
def tw15133918938765496845:=0
def tw2885272411189312125:=0
def tw4274274055643418683:=0
def tw15254890234779607951:=0
def tw8605775589474592620:=0
def tw16563811992755509578:=0
def tw11142180668513783983:=0
def tw2658631057377474034:=0
def tw17116203640250443066:=0
def tw7926820885149948267:=0
def tw3732679653456536427:=0
def tw14296023565086906403:=0
def tw2075161577983414012:=0
def tw10809664220275560771:=0
def tw10755505860119922235:=0
def tw6254930866258642247:=0
def tw6774968926276505241:=0
def tw1410567563875926475:=0
def tw6950930023737486122:=0
def tw7682972066079805185:=0
def tw4003126647596361972:=0
def tw2173690689182641034:=0
def tw2920230319952433844:=0
def tw6061331563171596005:=0
def tw8589688696425622799:=0
def tw13335524539511071090:=0
def tw6992006819441884711:=0
def tw10649990897753448317:=0
def tw11210355035061445407:=0
def tw14501850804777393157:=0
def tw5336372662216854826:=0
def tw4582373550803160120:=0
def tw18409294185539642258:=0
def tw10654769270530311855:=0
def tw10597543096350197066:=0
def tw16803628041245098423:=0
def tw8665098425910861317:=0
def tw15598064411253520052:=0
def tw7837218848009094955:=0
def tw17759127556140228259:=0
def tw16962029895295727253:=0
def tw7188077588334034965:=0
def tw334495165767500371:=0
def tw8220314863742608094:=0
def tw9820433446376880609:=0
def tw161747238737947702:=0
def tw13145408647554007789:=0
def tw6813280277625445862:=0
def tw2863367065056575279:=0
def tw5788929393471276846:=0
def tw15972955743942329462:=0
def tw11387895648168922148:=0
def tw17581236600023260344:=0
def tw10632978016468687751:=0
def tw7310284067586397625:=0
def tw3245129006976091552:=0
def tw10930174509164083560:=0
def tw4146762615631198031:=0
def tw4564337714533331349:=0
def tw7862489351514624182:=0
def tw12454666588309649273:=0
def tw2877424036071943448:=0
def tw16907216432691382003:=0
def tw18224755159288112967:=0
def tw12407605048405319040:=0
def tw9563192960095528247:=0
def tw15027215751657091935:=0
def tw7066620296874789143:=0
def tw182199251291473629:=0
def tw10170261767641018982:=0
def tw14773584303041734518:=0
def tw16775968081572123871:=0
def tw4130363736281400813:=0
def tw2343236162497448636:=0
def tw9925828721906677682:=0
def tw16496509585545280751:=0
def tw7058872621879988274:=0
def tw2994922689716320701:=0
def tw15779424122902507020:=0
def tw3360661121810246558:=0
def tw3915496963951398667:=0
def tw11188002177829686508:=0
def tw12358165899914105543:=0
def tw14624473363972964171:=0
def tw17730564004170335311:=0
def tw14123999888892370364:=0
def tw16100972213926846188:=0
def tw5455579491898777484:=0
def tw11896591811053867231:=0
def tw8567443237346255066:=0
def tw8695526297584401825:=0
def tw14233243094825560678:=0
def tw12840840105947015708:=0
def tw7299670881058424430:=0
def tw257629750286144304:=0
def tw9462170700081466470:=0
def tw1435922661109983198:=0
def tw10252383329787356817:=0
def tw14553121019407917864:=0
def tw15661634237954806322:=0
def tw18153362986195176501:=0
def tw12612804039457479700:=0
def tw3726900197448628131:=0
def tw7472848253676326857:=0
def tw17805448059825515119:=0
def tw16623293753407801399:=0
def tw13862949962202813600:=0
def tw4509157406165588420:=0
def tw16726844907418407857:=0
def tw13875158067165885907:=0
def tw13499532177740421295:=0
def tw1978918789731676004:=0
def tw2149149479273676406:=0
def tw1012385744526826264:=0
def tw2021068672168127564:=0
def tw11603370511489199600:=0
def tw13367572492650779286:=0
def tw7657060483580372948:=0
def tw16430456230716091996:=0
def tw9138871642643702296:=0
def tw3966534081269968709:=0
def tw12180604830916150278:=0
def tw10994265168196924656:=0
def tw12978060451003209338:=0
def tw6930751737343391184:=0
def tw14981784651997584419:=0
def tw13827012632904932435:=0
def tw3615583795809939652:=0
def tw15175637072444949474:=0
def tw17710867260416734380:=0
def tw10453250692658675818:=0
def tw15171628926633004300:=0
def tw9258182509942084681:=0
def tw2289164598267454576:=0
def tw3734514386557042498:=0
def tw16650392089644514295:=0
def tw9998804177421045540:=0
def tw10724490024899501365:=0
def tw16288965516562793202:=0
def tw4889971219761290105:=0
def tw12633084594117358056:=0
def tw12396753181282453716:=0
def tw16389288749599797605:=0
def tw11645860640357940554:=0
def tw9349356772026469992:=0
def tw261200909005471288:=0
def tw1705036412706654374:=0
def tw15498006985801978912:=0
def tw7222439011097495295:=0
def tw6753576631080223727:=0
def tw3256849187628056635:=0
def tw16667584397990944355:=0
def tw1105179505230722849:=0
def tw11148539902158008365:=0
def tw12261853817069452713:=0
def tw9165687473084633747:=0
def tw15027532006140568231:=0
def tw15898236294844422587:=0
def tw4191172392804765708:=0
def tw10261077582871829333:=0
def tw8950128390423160198:=0
def tw2322159533749986520:=0
def tw3473276648290647273:=0
def tw9656379818800155843:=0
def tw1109195687658860386:=0
def tw5252079174162519217:=0
def tw8934908603834790014:=0
def tw4359580237730867787:=0
def tw16275459148051656314:=0
def tw8763101917205488820:=0
def tw1583522623254580443:=0
def tw14501912194830949217:=0
def tw5577028977526906701:=0
def tw5330382959074318013:=0
def tw1900693408991435749:=0
def tw3034767093692856821:=0
def tw17938613533862838245:=0
def tw9819171347897086764:=0
def tw4663592127676445381:=0
def tw5013972387295183259:=0
def tw5236670910915217605:=0
def tw11639280701672405589:=0
def tw15205423909209877138:=0
def tw13070646949431590688:=0
def tw14208114385600811765:=0
def tw123812914052133329:=0
def tw8237630052416984796:=0
def tw14031876063534067847:=0
def tw16190002014787142163:=0
def tw11807005005201715646:=0
def tw10252732975704102255:=0
def tw13200293168902253285:=0
def tw913097539783298626:=0
def tw5009839525695657322:=0
def tw13710148537478085374:=0
def tw18137481828940761907:=0
def tw6583508998371264081:=0
def tw8701299284343015628:=0
def tw9403765492500847315:=0
def tw9501201141981648920:=0
def tw89003879084131067:=0
def tw9077820331294714986:=0
def tw1974910137376979813:=0
def tw10866414049237341305:=0
def tw2777939263196266936:=0
def tw4743368726451953056:=0
def tw16866030478650124046:=0
def tw10191449753219187912:=0
def tw1667709068616969351:=0
def tw16616209114034559152:=0
def tw13107756635961152995:=0
def tw12345320127868563037:=0
def tw11835269964715623236:=0
def tw15595854356769878738:=0
def tw339897518028554860:=0
def tw13036806073532038298:=0
def tw1701799573015354173:=0
def tw8614021787081139908:=0
def tw15426473795558895677:=0
def tw7038128020195733693:=0
def tw5761653630814299544:=0
def tw9295334198644857842:=0
def tw9936084733864147280:=0
def tw6301523474575540311:=0
def tw2670150600294858444:=0
def tw16148205175254535582:=0
def tw9969613210142684407:=0
def tw11548313321837475248:=0
def tw17243114758785014029:=0
def tw12263873714228862800:=0
def tw10376364312110937914:=0
def tw4167693873552005244:=0
def tw14756569037838759557:=0
def tw14872857101092229232:=0
def tw11193677714923777945:=0
def tw10928571278042490062:=0
def tw17717630316758362745:=0
def tw7839580074205438151:=0
def tw6090485636085480061:=0
def tw3994698093326627257:=0
def tw927944731642953945:=0
def tw4835891777317372943:=0
def tw9121110475352521773:=0
def tw17171252625122146609:=0
def tw3651396303179147989:=0
def tw4432301455689744554:=0
def tw11294892762787545067:=0
def tw16010684692966430779:=0
def tw9589291201652832852:=0
def tw6375099569735947618:=0
def tw13531777024274530082:=0
def tw5736779053163273861:=0
def tw12963621176114883133:=0
def tw1259999174006096223:=0
def tw6142708403420385311:=0
def tw14579048027868807961:=0
def tw15925235616735165121:=0
def tw12650111449686832418:=0
def tw17932608968269311760:=0
def tw11954887679873199813:=0
def tw522904037304061929:=0
def tw4345225819396343656:=0
def tw950997505075403826:=0
def tw17871791171629452510:=0
def tw13777221348847867094:=0
def tw17888308718258960756:=0
def tw298218731744578388:=0
def tw2320569030233011271:=0
def tw13510409428287216099:=0
def tw14468109030189271461:=0
def tw9326583769161682219:=0
def tw6175178879591746192:=0
def tw8034825863275827664:=0
def tw11245265092544104415:=0
def tw8205138932953553049:=0
def tw2868171727366038509:=0
def tw15171390463148786466:=0
def tw17699040219193121145:=0
def tw15529291828169325493:=0
def tw6192389904570438153:=0
def tw8313486349234009414:=0
def tw12909318918598112937:=0
def tw13221017731964448990:=0
def tw9799799350995369830:=0
def tw15485063456613291382:=0
def tw2386640383013666786:=0
def tw4917584310720250450:=0
def tw17244341596130122727:=0
def tw12058883136722908930:=0
def tw13878395532286127046:=0
def tw11017490086892667907:=0
def tw12413084692151980488:=0
def tw17472105833201722748:=0
def tw11561677208560855665:=0
def tw14696194092249815708:=0
def tw15794099599814419762:=0
def tw7542037447873735085:=0
def tw16776012462915831300:=0
def tw17684621712252991150:=0
def tw5523631713799334087:=0
def tw546224271293445158:=0
def tw12424926147744230176:=0
def tw12090525417336354552:=0
def tw8109324212285542784:=0
def tw14239618892928275609:=0
def tw7539976275167026306:=0
def tw2756847074881738681:=0
def tw6313529589991855721:=0
def tw7623412742138862375:=0
def tw1125607010252490145:=0
def tw3802262443095553004:=0
def tw11815797862735869585:=0
def tw3164263424075613673:=0
def tw14892404363721446303:=0
def tw3397581457076526340:=0
def tw9842229156795098243:=0
def tw17286431144056753170:=0
def tw1703950310567013205:=0
def tw3434345317086382816:=0
def tw8079590032311196336:=0
def tw15572682163286758348:=0
def tw12747278278806997874:=0
def tw3696563298475909920:=0
def tw18278220175022485731:=0
def tw6463959910308007923:=0
def tw11351534167579230691:=0
def tw14816302602302812963:=0
def tw14146409575044851882:=0
def tw2170514855736384852:=0
def tw7518998854274847619:=0
def tw5798628931573271394:=0
def tw4279677781243055434:=0
def tw6926163753637542843:=0
def tw13189237085257291006:=0
def tw1850726215598676748:=0
def tw17472764574254797454:=0
def tw2975157380133945889:=0
def tw8208595572886218286:=0
def tw187538469215777908:=0
def tw647343920941179287:=0
def tw15855796374685716768:=0
def tw15540799295048117119:=0
def tw5625697443787825831:=0
def tw9660957668918335043:=0
def tw2664196910997493985:=0
def tw8023583272078523454:=0
def tw6372043267189549724:=0
def tw11254219265127205177:=0
def tw10683756855487356222:=0
def tw14398346517514953677:=0
def tw15957670671967597724:=0
def tw11624808079193439795:=0
def tw8291925941108042415:=0
def tw11908116646921737888:=0
def tw10033132232452430354:=0
def tw2651400243192974403:=0
def tw519322420384548223:=0
def tw8157901210594060133:=0
def tw18111254819892486793:=0
def tw8127139616605022582:=0
def tw5364309714800455578:=0
def tw10250118047565784362:=0
def tw17724695037897597312:=0
def tw17551638942144175875:=0
def tw9296734271850549690:=0
def tw2336909873235928139:=0
def tw402205515295577492:=0
def tw17394897032153070463:=0
def tw5020819654122410423:=0
def tw13063408126855306072:=0
def tw330656283012150296:=0
def tw8686308259076239072:=0
def tw14370903088251670386:=0
def tw5165269353558709189:=0
def tw10695421249065413044:=0
def tw5398189085568331257:=0
def tw15996473283718643324:=0
def tw441678948943151233:=0
def tw4081240594767156927:=0
def tw18152818245888433342:=0
def tw1898667636510644650:=0
def tw15473839566433139676:=0
def tw9486101937981084369:=0
def tw11490510612012310020:=0
def tw9404508282573909175:=0
def tw5467801315824968912:=0
def tw12700457214369364786:=0
def tw6136205958206877923:=0
def tw7273247089608695971:=0
def tw16686717156161381340:=0
def tw9952836563410512695:=0
def tw4401619822965709305:=0
def tw16417091146037260817:=0
def tw14021758091546449371:=0
def tw497731896151369483:=0
def tw14568177165123733506:=0
def tw6225712681639661862:=0
def tw3132025148829446996:=0
def tw16681613029083197739:=0
def tw11269774799693948859:=0
def tw9208305658983172832:=0
def tw601436467786663342:=0
def tw820684051828735824:=0
def tw8787920512689664709:=0
def tw6193789473217538763:=0
def tw4421856497289568507:=0
def tw63596916031878221:=0
def tw9402467323633480101:=0
def tw17091722845168997799:=0
def tw11077815555162148449:=0
def tw9621861439946089116:=0
def tw7130576071553997877:=0
def tw8413614948837066206:=0
def tw8431569880448128:=0
def tw5286786759577168981:=0
def tw4024908379401392133:=0
def tw6346370697403163667:=0
def tw3933976889387492621:=0
def tw5761047256177156925:=0
def tw874636722383223502:=0
def tw15810665065795959252:=0
def tw2735005142717217637:=0
def tw4311276020736725896:=0
def tw9203053987378469573:=0
def tw10783621817936191261:=0
def tw15515121457827281922:=0
def tw14345209945812758097:=0
def tw4347759316057026107:=0
def tw7952900074955766739:=0
def tw15315807581740246658:=0
def tw15822773970757998309:=0
def tw2782863484972922706:=0
def tw17927299698364578048:=0
def tw13104018717554708753:=0
def tw442416488599475471:=0
def tw9092420173549841310:=0
def tw6714457693752410726:=0
def tw10287032082344816932:=0
def tw9097223442297783116:=0
def tw11368117687228064900:=0
def tw12751225222273516254:=0
def tw4477895381227916259:=0
def tw7987824013384880482:=0
def tw14825947558648491024:=0
def tw12845076323826979178:=0
def tw9713273647652081882:=0
def tw1462319935527101080:=0
def tw164463746237090195:=0
def tw1489383918948004482:=0
def tw510032915933297085:=0
def tw8121993674308374145:=0
def tw12046689742199107973:=0
def tw13679683246671008086:=0
def tw12383937982729071364:=0
def tw10381764091709706861:=0
def tw450575229990766336:=0
def tw9608843321205975344:=0
def tw8097298571316108323:=0
def tw1502218893855732119:=0
def tw12945428922522210145:=0
def tw766640638677146209:=0
def tw7878065845775121325:=0
def tw4712592901077611650:=0
def tw9794932083603436359:=0
def tw9489558935754374162:=0
def tw16868433890634013876:=0
def tw5764072665749136180:=0
def tw11318885002663588976:=0
def tw17438201718457984101:=0
def tw11026992240131707886:=0
def tw5886487675099993043:=0
def tw8943324230068258276:=0
def tw12067638861757008153:=0
def tw7992927662615040389:=0
def tw17517007685987992486:=0
def tw13387514028289895698:=0
def tw7586176510722789730:=0
def tw5615543186202985624:=0
def tw13332396202400651075:=0
def tw9302509955686087033:=0
def tw16451908367602753354:=0
def tw6261496313610418933:=0
def tw7312729197654677856:=0
def tw13022547354466358458:=0
def tw6762048549948128543:=0
def tw6489526397663297600:=0
def tw9042656307865520571:=0
def tw1290591238744529094:=0
def tw9955737871725700248:=0
def tw14370492626641472616:=0
def tw8239320077199949051:=0
def tw2661987874598433855:=0
def tw8090097186095503750:=0
def tw1249315281225814124:=0
def tw1720658049926145632:=0
def tw14884157719679685318:=0
def tw17037469180811415170:=0
def tw13504482945947401731:=0
def tw11922886434016313073:=0
def tw1493217159218277873:=0
def tw2908879914606715801:=0
def tw14138194488304701034:=0
def tw7208955231470900518:=0
def tw8901316909476406522:=0
def tw1299686338577656066:=0
def tw3234035356325510800:=0
def tw8385702494048851328:=0
def tw12784906604464625341:=0
def tw13483670073123863009:=0
def tw1115865676117144825:=0
def tw7137577746795038119:=0
def tw6281568935900181911:=0
def tw1094241142228339083:=0
def tw12563389564805367992:=0
def tw2362988051514485812:=0
def tw16649755563930987317:=0
def tw12908683997745815630:=0
def tw12865462991970579453:=0
def tw3980107778409821927:=0
def tw13861786949015070106:=0
def tw1789964045757035224:=0
def tw1919080233900663537:=0
def tw11611271078309871020:=0
def tw4937604895673624969:=0
def tw6042573231214411084:=0
def tw1079070573051254702:=0
def tw12025138719223263298:=0
def tw14660668382862228176:=0
def tw5648097050638818362:=0
def tw13196664233723430606:=0
def tw11372937642060408878:=0
def tw15307951207286855803:=0
def tw1490915249224406474:=0
def tw2195748054755444032:=0
def tw4567818862538752906:=0
def tw11858077761586705864:=0
def tw16635521002532414983:=0
def tw3640440038853629387:=0
def tw1549155818990657772:=0
def tw1447920521859180734:=0
def tw3689376235641062637:=0
def tw5206979318343616516:=0
def tw17764443008414095198:=0
def tw785357100613129328:=0
def tw4015663697148279164:=0
def tw13093693338923631972:=0
def tw15844801404436309829:=0
def tw11906375604776758711:=0
def tw8209410651791968549:=0
def tw7617344264092963666:=0
def tw11855102370260614958:=0
def tw17818014157574163650:=0
def tw2139643952678044988:=0
def tw2175231745813120892:=0
def tw18359110054607953763:=0
def tw16515468037355501334:=0
def tw8997736894983901139:=0
def tw1095535141600660941:=0
def tw10972352042214713321:=0
def tw15218419041608892400:=0
def tw10606070224867285028:=0
def tw5566226075843182419:=0
def tw4364345558903770142:=0
def tw15575837591133311745:=0
def tw13432253316624301170:=0
def tw8342842277714687174:=0
def tw4158159805148012999:=0
def tw3424612910779894369:=0
def tw6196000513734538802:=0
def tw2744444246311746200:=0
def tw2796947274144926987:=0
def tw15285967985510288089:=0
def tw7737664845835709937:=0
def tw6527724098146035848:=0
def tw15209442546067358138:=0
def tw12924132013562988322:=0
def tw12407217143853748540:=0
def tw3344613143692455790:=0
def tw14937312670073502748:=0
def tw16397205107626190852:=0
def tw11173421708227657588:=0
def tw15078772711468666192:=0
def tw1359849570823358309:=0
def tw12089897318845827035:=0
def tw11079696193722106141:=0
def tw1489139005246186619:=0
def tw15676103461390976958:=0
def tw7871967142447871004:=0
def tw282876208947439175:=0
def tw4897640275309778942:=0
def tw16966830230816688131:=0
def tw15676529260503027943:=0
def tw12820804927428560083:=0
def tw17289073498827511707:=0
def tw4258334187849425934:=0
def tw1055329845956097425:=0
def tw15050663635680799953:=0
def tw14626354848968518689:=0
def tw12342965394346057621:=0
def tw2930856219589246505:=0
def tw17975139486666676878:=0
def tw13492522992887479709:=0
def tw4864030886270374051:=0
def tw13539807367013040404:=0
def tw8430102849870061077:=0
def tw2320145087384042603:=0
def tw1048909061321080478:=0
def tw11672897344205511217:=0
def tw11288464150853081383:=0
def tw8216145955328942220:=0
def tw16991995702905700760:=0
def tw6789469734474119657:=0
def tw5662987161077152902:=0
def tw10307282113731995387:=0
def tw2042016895968079664:=0
def tw4583099574608051422:=0
def tw2379480134987194015:=0
def tw12016699623465113875:=0
def tw8953332871667484101:=0
def tw1134068491622784261:=0
def tw14457208841620066308:=0
def tw617571282537115680:=0
def tw18390619718024164457:=0
def tw9015529718725031943:=0
def tw17484548420281627513:=0
def tw11284423233484381900:=0
def tw4765354088190380352:=0
def tw18328823180100871708:=0
def tw16700892618081601549:=0
def tw1693167743090511388:=0
def tw4263955767718928848:=0
def tw17872102038166706758:=0
def tw15318527495497435599:=0
def tw5610295903954802581:=0
def tw8088403166202495629:=0
def tw10649807523329567205:=0
def tw1790376355034389851:=0
def tw4344629759264472935:=0
def tw17915960692816023395:=0
def tw680498279821313949:=0
def tw8275242065490525915:=0
def tw17816165824163649031:=0
def tw17878126108339899814:=0
def tw15240366476996751417:=0
def tw6173280466299332367:=0
def tw8073189635157223312:=0
def tw1484951419420774291:=0
def tw5092402842115596306:=0
def tw15947860040662780028:=0
def tw15146063478491399200:=0
def tw16162885989831768637:=0
def tw9650997402337531164:=0
def tw244298986426218749:=0
def tw5231018940775256571:=0
def tw312602395841999269:=0
def tw15256303195552692533:=0
end PySem.W.Fast
namespace S51
open PySem L2 XL
theorem walk {l : PySem.W.OpenLaw} {q : Program} {loose : List Str} {XP : (Str → Option Value) → Heap → Prop} {YP : World → Heap → Prop} {d : DefRec} {K : Params → PySem.W.Frag} (hn : l.most = some 63) (hdf : d.params.defaults = [])
    (hY : ∀ (w : World) (h : Heap), YP w h → (K w.params).In h)
    (F : ∀ (w : World) (mg : Str → Option Value) (fa : Addr) (h : Heap), (K w.params).In h → h.Ns mainGlobals mg → mg d.name = some (.ref fa) →
      ∃ fd : FuncData, (∀ (s : Shared) (u : Value), BindsTo s fd ⟨[u], []⟩ [("_law_script", u)]) ∧ ∀ base : Heap, (K w.params).In base → base.Ns mainGlobals mg → FnOk true l.prog w (K w.params) mg base (CXo l.prog w) 10 fa fd ["_law_script"] (spLaw (K w.params))) :
    PySem.W.WalkO q loose XP YP l.row.toRowW d [] (fun f vs => PySem.call f vs) :=
  L2.walk_of (q0 := true) (n := 63) (k := 10) (x := "_law_script") (CX := fun w => CXo l.prog w) (sp := fun w => spLaw (K w.params)) hn (by decide) hdf ⟨fun _ => rfl, by decide, by decide⟩ hY F (fun _ _ a ns hl _ hS => ⟨a, ns, rfl, hS, hl, fun _ => rfl⟩)
    fun w H s e s' z => by obtain ⟨_, _, _, _, _, _, _, _, _, _, _, _, _, _, q⟩ := z; exact q
theorem all_mk {l : PySem.W.OpenLaw} {w : World} {K : PySem.W.Frag} {h : Heap} {mg : Str → Option Value} {fa : Addr} (hfa : mg "law" = some (.ref fa)) (TT : ∃ t, Txt w K mg t) :
    ∃ fd : FuncData, (∀ (s : Shared) (v : Value), BindsTo s fd ⟨[v], []⟩ [("_law_script", v)]) ∧ ∀ base : Heap, K.In base → base.Ns mainGlobals mg → FnOk true l.prog w K mg base (CXo l.prog w) 10 fa fd ["_law_script"] (spLaw K) := by
  obtain ⟨t, T⟩ := TT
  have e := hfa.symm.trans T.g_law
  cases e
  refine ⟨t.d_law, fun s v => ?_, fun base _ _ => ok_law T⟩
  obtain ⟨oc, od, kV, doc, pm, an, cdv, ct, osl, e, lk, hcd⟩ := T.F_law.ex
  rw [e]
  exact .of_eq rfl
end S51
open PySem PySem.W PyProof.Rows
set_option maxRecDepth 100000 in
set_option maxHeartbeats 0 in
theorem PySem.Challenge.cw_rimnotes_k51_exchanges_found_holds : PySem.Challenge.rw_rimnotes_k51_exchanges_found.Holds := by
  w_on; o_law; k_head; (case hw => w_witness2)
  k_fill
  refine S51.walk (l := PySem.Challenge.rw_rimnotes_k51_exchanges_found) rfl rfl (fun w h Y => PySem.W.kIn_of Y) ?F
  case F =>
    intro w mg fa h KX G hmg
    refine S51.all_mk (h := h) hmg ?TT
    refine' S51.txt_mk (w := w) KX G ?g_Side ?g_LeftSide ?g_RightSide ?g_Picture ?a_Side_init ?l_Side_init ?c_Side_init ?k_Side_init ?i_Side_init ?a_LeftSide_rim ?l_LeftSide_rim ?c_LeftSide_rim ?k_LeftSide_rim ?i_LeftSide_rim ?a_LeftSide_way ?l_LeftSide_way ?c_LeftSide_way ?k_LeftSide_way ?i_LeftSide_way ?a_LeftSide_across ?l_LeftSide_across ?c_LeftSide_across ?k_LeftSide_across ?i_LeftSide_across ?a_RightSide_rim ?l_RightSide_rim ?c_RightSide_rim ?k_RightSide_rim ?i_RightSide_rim ?a_RightSide_way ?l_RightSide_way ?c_RightSide_way ?k_RightSide_way ?i_RightSide_way ?a_RightSide_across ?l_RightSide_across ?c_RightSide_across ?k_RightSide_across ?i_RightSide_across ?a_side_of ?l_side_of ?c_side_of ?k_side_of ?i_side_of ?a_cells_of ?l_cells_of ?c_cells_of ?k_cells_of ?i_cells_of ?a_meeting ?l_meeting ?c_meeting ?k_meeting ?i_meeting ?a_upright ?l_upright ?c_upright ?k_upright ?i_upright ?a_upright_of ?l_upright_of ?c_upright_of ?k_upright_of ?i_upright_of ?a_exchangeable ?l_exchangeable ?c_exchangeable ?k_exchangeable ?i_exchangeable ?a_may_exchange ?l_may_exchange ?c_may_exchange ?k_may_exchange ?i_may_exchange ?a_is_whole ?l_is_whole ?c_is_whole ?k_is_whole ?i_is_whole ?a_is_name ?l_is_name ?c_is_name ?k_is_name ?i_is_name ?a_Picture_init ?l_Picture_init ?c_Picture_init ?k_Picture_init ?i_Picture_init ?a_Picture_put ?l_Picture_put ?c_Picture_put ?k_Picture_put ?i_Picture_put ?t_Picture_put ?a_Picture_open_seat ?l_Picture_open_seat ?c_Picture_open_seat ?k_Picture_open_seat ?i_Picture_open_seat ?a_Picture_points ?l_Picture_points ?c_Picture_points ?k_Picture_points ?i_Picture_points ?a_Picture_place_of ?l_Picture_place_of ?c_Picture_place_of ?k_Picture_place_of ?i_Picture_place_of ?a_Picture_may ?l_Picture_may ?c_Picture_may ?k_Picture_may ?i_Picture_may ?a_Picture_length ?l_Picture_length ?c_Picture_length ?k_Picture_length ?i_Picture_length ?a_Picture_check_name ?l_Picture_check_name ?c_Picture_check_name ?k_Picture_check_name ?i_Picture_check_name ?a_Picture_check_cell ?l_Picture_check_cell ?c_Picture_check_cell ?k_Picture_check_cell ?i_Picture_check_cell ?a_Picture_check_lines ?l_Picture_check_lines ?c_Picture_check_lines ?k_Picture_check_lines ?i_Picture_check_lines ?a_Picture_check_seat ?l_Picture_check_seat ?c_Picture_check_seat ?k_Picture_check_seat ?i_Picture_check_seat ?a_law_cell ?l_law_cell ?c_law_cell ?k_law_cell ?i_law_cell ?a_law_mixed ?l_law_mixed ?c_law_mixed ?k_law_mixed ?i_law_mixed ?a_law_built ?l_law_built ?c_law_built ?k_law_built ?i_law_built ?a_law_opened ?l_law_opened ?c_law_opened ?k_law_opened ?i_law_opened ?a_law_may ?l_law_may ?c_law_may ?k_law_may ?i_law_may ?a_law_given ?l_law_given ?c_law_given ?k_law_given ?i_law_given ?a_law_across ?l_law_across ?c_law_across ?k_law_across ?i_law_across ?a_law_cells ?l_law_cells ?c_law_cells ?k_law_cells ?i_law_cells ?a_law_met ?l_law_met ?c_law_met ?k_law_met ?i_law_met ?a_law_whole ?l_law_whole ?c_law_whole ?k_law_whole ?i_law_whole ?a_law_can ?l_law_can ?c_law_can ?k_law_can ?i_law_can ?a_law_upright ?l_law_upright ?c_law_upright ?k_law_upright ?i_law_upright ?a_law_right ?l_law_right ?c_law_right ?k_law_right ?i_law_right ?a_law_changed ?l_law_changed ?c_law_changed ?k_law_changed ?i_law_changed ?a_law ?l_law ?c_law ?k_law ?i_law ?kc_Side ?pg_Side ?hd_Side ?po_Side ?sa_Side ?mk_Side ?ca_Side ?mo_Side ?kc_LeftSide ?pg_LeftSide ?hd_LeftSide ?po_LeftSide ?sa_LeftSide ?mk_LeftSide ?ca_LeftSide ?mo_LeftSide ?a_LeftSide_init ?kc_RightSide ?pg_RightSide ?hd_RightSide ?po_RightSide ?sa_RightSide ?mk_RightSide ?ca_RightSide ?mo_RightSide ?a_RightSide_init ?kc_Picture ?pg_Picture ?hd_Picture ?po_Picture ?sa_Picture ?mk_Picture ?ca_Picture ?mo_Picture ?cg ?ct ?n_RightSide_width ?n_Picture_placed ?n_Picture_height ?n_Picture_width ?n_Picture_opened ?n_Side_width ?n_LeftSide_width ?n_abs ?n_bool ?n_dict ?n_enumerate ?n_int ?n_isinstance ?n_len ?n_list ?n_max ?n_min ?n_range ?n_reversed ?n_str ?n_sum ?n_tuple ?v_MOST_ROWS ?v_MOST_COLUMNS ?v_MOST_POINTS ?g_MIRRORED_SIDES ?l_MIRRORED_SIDES ?ns_MIRRORED_SIDES
    (case g_Side => k_is)
    (case g_LeftSide => k_is)
    (case g_RightSide => k_is)
    (case g_Picture => k_is)
    (case a_Side_init => k_is)
    (case l_Side_init => k_is)
    (case c_Side_init => k_is)
    (case k_Side_init => k_is)
    (case i_Side_init => k_is)
    (case a_LeftSide_rim => k_is)
    (case l_LeftSide_rim => k_is)
    (case c_LeftSide_rim => k_is)
    (case k_LeftSide_rim => k_is)
    (case i_LeftSide_rim => k_is)
    (case a_LeftSide_way => k_is)
    (case l_LeftSide_way => k_is)
    (case c_LeftSide_way => k_is)
    (case k_LeftSide_way => k_is)
    (case i_LeftSide_way => k_is)
    (case a_LeftSide_across => k_is)
    (case l_LeftSide_across => k_is)
    (case c_LeftSide_across => k_is)
    (case k_LeftSide_across => k_is)
    (case i_LeftSide_across => k_is)
    (case a_RightSide_rim => k_is)
    (case l_RightSide_rim => k_is)
    (case c_RightSide_rim => k_is)
    (case k_RightSide_rim => k_is)
    (case i_RightSide_rim => k_is)
    (case a_RightSide_way => k_is)
    (case l_RightSide_way => k_is)
    (case c_RightSide_way => k_is)
    (case k_RightSide_way => k_is)
    (case i_RightSide_way => k_is)
    (case a_RightSide_across => k_is)
    (case l_RightSide_across => k_is)
    (case c_RightSide_across => k_is)
    (case k_RightSide_across => k_is)
    (case i_RightSide_across => k_is)
    (case a_side_of => k_is)
    (case l_side_of => k_is)
    (case c_side_of => k_is)
    (case k_side_of => k_is)
    (case i_side_of => k_is)
    (case a_cells_of => k_is)
    (case l_cells_of => k_is)
    (case c_cells_of => k_is)
    (case k_cells_of => k_is)
    (case i_cells_of => k_is)
    (case a_meeting => k_is)
    (case l_meeting => k_is)
    (case c_meeting => k_is)
    (case k_meeting => k_is)
    (case i_meeting => k_is)
    (case a_upright => k_is)
    (case l_upright => k_is)
    (case c_upright => k_is)
    (case k_upright => k_is)
    (case i_upright => k_is)
    (case a_upright_of => k_is)
    (case l_upright_of => k_is)
    (case c_upright_of => k_is)
    (case k_upright_of => k_is)
    (case i_upright_of => k_is)
    (case a_exchangeable => k_is)
    (case l_exchangeable => k_is)
    (case c_exchangeable => k_is)
    (case k_exchangeable => k_is)
    (case i_exchangeable => k_is)
    (case a_may_exchange => k_is)
    (case l_may_exchange => k_is)
    (case c_may_exchange => k_is)
    (case k_may_exchange => k_is)
    (case i_may_exchange => k_is)
    (case a_is_whole => k_is)
    (case l_is_whole => k_is)
    (case c_is_whole => k_is)
    (case k_is_whole => k_is)
    (case i_is_whole => k_is)
    (case a_is_name => k_is)
    (case l_is_name => k_is)
    (case c_is_name => k_is)
    (case k_is_name => k_is)
    (case i_is_name => k_is)
    (case a_Picture_init => k_is)
    (case l_Picture_init => k_is)
    (case c_Picture_init => k_is)
    (case k_Picture_init => k_is)
    (case i_Picture_init => k_is)
    (case a_Picture_put => k_is)
    (case l_Picture_put => k_is)
    (case c_Picture_put => k_is)
    (case k_Picture_put => k_is)
    (case i_Picture_put => k_is)
    (case t_Picture_put => k_is)
    (case a_Picture_open_seat => k_is)
    (case l_Picture_open_seat => k_is)
    (case c_Picture_open_seat => k_is)
    (case k_Picture_open_seat => k_is)
    (case i_Picture_open_seat => k_is)
    (case a_Picture_points => k_is)
    (case l_Picture_points => k_is)
    (case c_Picture_points => k_is)
    (case k_Picture_points => k_is)
    (case i_Picture_points => k_is)
    (case a_Picture_place_of => k_is)
    (case l_Picture_place_of => k_is)
    (case c_Picture_place_of => k_is)
    (case k_Picture_place_of => k_is)
    (case i_Picture_place_of => k_is)
    (case a_Picture_may => k_is)
    (case l_Picture_may => k_is)
    (case c_Picture_may => k_is)
    (case k_Picture_may => k_is)
    (case i_Picture_may => k_is)
    (case a_Picture_length => k_is)
    (case l_Picture_length => k_is)
    (case c_Picture_length => k_is)
    (case k_Picture_length => k_is)
    (case i_Picture_length => k_is)
    (case a_Picture_check_name => k_is)
    (case l_Picture_check_name => k_is)
    (case c_Picture_check_name => k_is)
    (case k_Picture_check_name => k_is)
    (case i_Picture_check_name => k_is)
    (case a_Picture_check_cell => k_is)
    (case l_Picture_check_cell => k_is)
    (case c_Picture_check_cell => k_is)
    (case k_Picture_check_cell => k_is)
    (case i_Picture_check_cell => k_is)
    (case a_Picture_check_lines => k_is)
    (case l_Picture_check_lines => k_is)
    (case c_Picture_check_lines => k_is)
    (case k_Picture_check_lines => k_is)
    (case i_Picture_check_lines => k_is)
    (case a_Picture_check_seat => k_is)
    (case l_Picture_check_seat => k_is)
    (case c_Picture_check_seat => k_is)
    (case k_Picture_check_seat => k_is)
    (case i_Picture_check_seat => k_is)
    (case a_law_cell => k_is)
    (case l_law_cell => k_is)
    (case c_law_cell => k_is)
    (case k_law_cell => k_is)
    (case i_law_cell => k_is)
    (case a_law_mixed => k_is)
    (case l_law_mixed => k_is)
    (case c_law_mixed => k_is)
    (case k_law_mixed => k_is)
    (case i_law_mixed => k_is)
    (case a_law_built => k_is)
    (case l_law_built => k_is)
    (case c_law_built => k_is)
    (case k_law_built => k_is)
    (case i_law_built => k_is)
    (case a_law_opened => k_is)
    (case l_law_opened => k_is)
    (case c_law_opened => k_is)
    (case k_law_opened => k_is)
    (case i_law_opened => k_is)
    (case a_law_may => k_is)
    (case l_law_may => k_is)
    (case c_law_may => k_is)
    (case k_law_may => k_is)
    (case i_law_may => k_is)
    (case a_law_given => k_is)
    (case l_law_given => k_is)
    (case c_law_given => k_is)
    (case k_law_given => k_is)
    (case i_law_given => k_is)
    (case a_law_across => k_is)
    (case l_law_across => k_is)
    (case c_law_across => k_is)
    (case k_law_across => k_is)
    (case i_law_across => k_is)
    (case a_law_cells => k_is)
    (case l_law_cells => k_is)
    (case c_law_cells => k_is)
    (case k_law_cells => k_is)
    (case i_law_cells => k_is)
    (case a_law_met => k_is)
    (case l_law_met => k_is)
    (case c_law_met => k_is)
    (case k_law_met => k_is)
    (case i_law_met => k_is)
    (case a_law_whole => k_is)
    (case l_law_whole => k_is)
    (case c_law_whole => k_is)
    (case k_law_whole => k_is)
    (case i_law_whole => k_is)
    (case a_law_can => k_is)
    (case l_law_can => k_is)
    (case c_law_can => k_is)
    (case k_law_can => k_is)
    (case i_law_can => k_is)
    (case a_law_upright => k_is)
    (case l_law_upright => k_is)
    (case c_law_upright => k_is)
    (case k_law_upright => k_is)
    (case i_law_upright => k_is)
    (case a_law_right => k_is)
    (case l_law_right => k_is)
    (case c_law_right => k_is)
    (case k_law_right => k_is)
    (case i_law_right => k_is)
    (case a_law_changed => k_is)
    (case l_law_changed => k_is)
    (case c_law_changed => k_is)
    (case k_law_changed => k_is)
    (case i_law_changed => k_is)
    (case a_law => k_is)
    (case l_law => k_is)
    (case c_law => k_is)
    (case k_law => k_is)
    (case i_law => k_is)
    (case kc_Side => k_is)
    (case pg_Side => k_is)
    (case hd_Side => k_is)
    (case po_Side => k_is)
    (case sa_Side => k_is)
    (case mk_Side => first | k_is | kernel_rfl)
    (case ca_Side => k_is)
    (case mo_Side => k_is)
    (case kc_LeftSide => k_is)
    (case pg_LeftSide => k_is)
    (case hd_LeftSide => k_is)
    (case po_LeftSide => k_is)
    (case sa_LeftSide => k_is)
    (case mk_LeftSide => first | k_is | kernel_rfl)
    (case ca_LeftSide => k_is)
    (case mo_LeftSide => k_is)
    (case a_LeftSide_init => k_is)
    (case kc_RightSide => k_is)
    (case pg_RightSide => k_is)
    (case hd_RightSide => k_is)
    (case po_RightSide => k_is)
    (case sa_RightSide => k_is)
    (case mk_RightSide => first | k_is | kernel_rfl)
    (case ca_RightSide => k_is)
    (case mo_RightSide => k_is)
    (case a_RightSide_init => k_is)
    (case kc_Picture => k_is)
    (case pg_Picture => k_is)
    (case hd_Picture => k_is)
    (case po_Picture => k_is)
    (case sa_Picture => k_is)
    (case mk_Picture => first | k_is | kernel_rfl)
    (case ca_Picture => k_is)
    (case mo_Picture => k_is)
    (case cg => k_is)
    (case ct => k_is)
    (case n_RightSide_width => k_is)
    (case n_Picture_placed => k_is)
    (case n_Picture_height => k_is)
    (case n_Picture_width => k_is)
    (case n_Picture_opened => k_is)
    (case n_Side_width => k_is)
    (case n_LeftSide_width => k_is)
    (case n_abs => k_is)
    (case n_bool => k_is)
    (case n_dict => k_is)
    (case n_enumerate => k_is)
    (case n_int => k_is)
    (case n_isinstance => k_is)
    (case n_len => k_is)
    (case n_list => k_is)
    (case n_max => k_is)
    (case n_min => k_is)
    (case n_range => k_is)
    (case n_reversed => k_is)
    (case n_str => k_is)
    (case n_sum => k_is)
    (case n_tuple => k_is)
    (case v_MOST_ROWS => k_is)
    (case v_MOST_COLUMNS => k_is)
    (case v_MOST_POINTS => k_is)
    (case g_MIRRORED_SIDES => k_is)
    (case l_MIRRORED_SIDES => first | k_is | kernel_rfl)
    (case ns_MIRRORED_SIDES => kernel_rfl)
