import PyProof.Rows.All
import Wide.All
import OpenK.AllK
import Wide.FinOn
import Lean
import PyProof.EqAt
import PyProof.EqKinds
import PyProof.TupleCall
import PyProof.StationsW
import PyProof.ExcClass2
import PyProof.RulesAs
import PyProof.ExcBaseAll.ValueError
import OpenK.KDescr
import OpenK.KWalk
import PyProof.ExcAttrAll.ValueError
import PyProof.Comp
import PyProof.ListRange
import PyProof.DictItems
import KE.KPairComp
import KE.KDictOf
import PyProof.AttrMissHeap
import PyProof.Rows.Range3
import KE.KRevIter
import PyProof.ZipIter
import OpenK.KEqL
import PyProof.AutoListH
import PyProof.EnumMake
import PyProof.WalksEnum
import PyProof.NeKinds
import PyProof.MaxThree
import KE.KSortTup
import PyProof.StrLawsIn
import PyProof.DictValues
import PyProof.DictIter
import PyProof.Draws
import PyProof.DictWalks
import PyProof.ListNew
import PyProof.ListStr
import KE.KIntText
import PyProof.Rows.FStr
import PyProof.MeetsStr
import PyProof.Rows.CallKwBuiltin
import PyProof.Rows.StrNews
import PyProof.Rows.StrNews2
import PyProof.StrLawsChain
import PyProof.StrLawsFirst
import PyProof.StrLawsTight
import PyProof.DictUpdate
import PyProof.Rows.SetFrom
import PyProof.DictStraight
import PyProof.SetRoads
import PySem.SetOps
import PyProof.TupleKey
import PySem.Challenge.RW_rimnotes_k13_givings_told
set_option Elab.async false
set_option linter.all false
set_option maxRecDepth 100000
set_option maxHeartbeats 4000000
set_option maxRecDepth 100000
namespace L2
open PySem PySem.Spec PyProof.Rows
variable {q0 : Bool}
abbrev Key := Sum Int Str
def keyIs : Key → Value → Bool
  | .inl k, v => Value.isInt k v
  | .inr x, v => Value.isStrOf x v
def keyH (w : World) : Key → Int
  | .inl k => hashInt k
  | .inr x => hashStr w x
theorem keyIs_shape : ∀ {k : Key} {v : Value}, keyIs k v = true → (∃ i t, k = Sum.inl i ∧ v = Value.int i t) ∨ (∃ x t, k = Sum.inr x ∧ v = Value.str x t)
  | .inl i, v, h => by
    obtain ⟨t, e⟩ := Value.isInt_shape (k := i) (v := v) h
    exact .inl ⟨i, t, rfl, e⟩
  | .inr x, v, h => by
    obtain ⟨t, e⟩ := Value.isStrOf_shape (x := x) (v := v) h
    exact .inr ⟨x, t, rfl, e⟩
theorem keyIs_int (i : Int) (t : Tok) : keyIs (.inl i) (.int i t) = true := by simp [keyIs, Value.isInt]
theorem keyIs_str (x : Str) (t : Tok) : keyIs (.inr x) (.str x t) = true := by simp [keyIs, Value.isStrOf]
theorem key_ll (a b : Int) : decide ((Sum.inl a : Key) = Sum.inl b) = (a == b) := by
  by_cases e : a = b
  · subst e; simp
  · have h : ¬ (Sum.inl a : Key) = Sum.inl b := fun q => e (Sum.inl.inj q)
    rw [decide_eq_false h]
    exact (beq_eq_false_iff_ne.mpr e).symm
theorem key_rr (a b : Str) : decide ((Sum.inr a : Key) = Sum.inr b) = decide (a = b) := by
  by_cases e : a = b
  · subst e; simp
  · have h : ¬ (Sum.inr a : Key) = Sum.inr b := fun q => e (Sum.inr.inj q)
    rw [decide_eq_false h, decide_eq_false e]
theorem key_lr (a : Int) (b : Str) : decide ((Sum.inl a : Key) = Sum.inr b) = false := decide_eq_false (fun q => nomatch q)
theorem key_rl (a : Str) (b : Int) : decide ((Sum.inr a : Key) = Sum.inl b) = false := decide_eq_false (fun q => nomatch q)
def mixKind (prog : Program) (w : World) : PySem.KeyKind prog w Key where
  is := keyIs
  hash := keyH w
  inj := fun v a b ha hb => by
    rcases keyIs_shape ha with ⟨i, t, rfl, rfl⟩ | ⟨x, t, rfl, rfl⟩
    · rcases keyIs_shape hb with ⟨j, u, rfl, e⟩ | ⟨y, u, rfl, e⟩
      · injection e with e1 _; rw [e1]
      · exact nomatch e
    · rcases keyIs_shape hb with ⟨j, u, rfl, e⟩ | ⟨y, u, rfl, e⟩
      · exact nomatch e
      · injection e with e1 _; rw [e1]
  byValue := fun k v h => by
    rcases keyIs_shape h with ⟨i, t, rfl, rfl⟩ | ⟨x, t, rfl, rfl⟩ <;> rfl
  pyHash := fun hv h => by
    rcases keyIs_shape hv with ⟨i, t, rfl, rfl⟩ | ⟨x, t, rfl, rfl⟩
    · exact wpAny_pyHash_int h
    · exact wpAny_pyHash_str h
  eqBool := fun hu hv h => by
    rcases keyIs_shape hu with ⟨i, t, rfl, rfl⟩ | ⟨x, t, rfl, rfl⟩
    · rcases keyIs_shape hv with ⟨j, u, rfl, rfl⟩ | ⟨y, u, rfl, rfl⟩
      · rw [key_ll] at h; exact wpAny_eqBool_int h
      · rw [key_lr] at h; exact SeqAt.EqAt.int_str i t y u _ _ _ _ h
    · rcases keyIs_shape hv with ⟨j, u, rfl, rfl⟩ | ⟨y, u, rfl, rfl⟩
      · rw [key_rl] at h; exact SeqAt.EqAt.str_int x t j u _ _ _ _ h
      · rw [key_rr] at h; exact wpAny_eqBool_str h
  «strs» := fun k x t v h => by
    rcases keyIs_shape h with ⟨i, u, rfl, e⟩ | ⟨y, u, rfl, e⟩
    · exact nomatch e
    · injection e with e1 _
      subst e1
      cases v <;> rfl
theorem mixKind_int (prog : Program) (w : World) (i : Int) (t : Tok) : (mixKind prog w).is (.inl i) (.int i t) = true := keyIs_int i t
theorem mixKind_str (prog : Program) (w : World) (x : Str) (t : Tok) : (mixKind prog w).is (.inr x) (.str x t) = true := keyIs_str x t
end L2
namespace L2
open PySem PySem.Spec PyProof.Rows
variable {q0 : Bool}
inductive V where
  | non | bl (b : Bool) | int (i : Int) | str (x : Str) | byt (b : Array UInt8) | flt (b : UInt64) | ref (a : Addr) | ty (n : String)
  deriving DecidableEq
def RelV : V → Value → Prop
  | .non, u => u = Value.none
  | .bl b, u => u = Value.bool b
  | .int i, u => ∃ t, u = Value.int i t
  | .str x, u => ∃ t, u = Value.str x t
  | .byt b, u => ∃ t, u = Value.bytes b t
  | .flt b, u => ∃ t, u = Value.float b t
  | .ref a, u => u = Value.ref a
  | .ty n, u => u = Value.type n
abbrev Vals : List V → List Value → Prop := Paired RelV
theorem Vals.length {xs : List V} {us : List Value} (r : Vals xs us) : xs.length = us.length := Paired.length r
theorem Vals.get : ∀ {xs : List V} {us : List Value} {i : Nat} {x : V}, Vals xs us → xs[i]? = some x → ∃ u, us[i]? = some u ∧ RelV x u
  | _, _, _, _, .nil, e => by simp at e
  | _, _, 0, _, .cons r _, e => by simp at e; subst e; exact ⟨_, rfl, r⟩
  | _, _, i + 1, x, .cons _ t, e => by
    obtain ⟨u, h1, h2⟩ := Vals.get (i := i) (x := x) t (by simpa using e)
    exact ⟨u, by simpa using h1, h2⟩
theorem Vals.set {x : V} {u : Value} (r : RelV x u) : ∀ {xs : List V} {us : List Value} (i : Nat), Vals xs us → Vals (xs.set i x) (us.set i u)
  | _, _, _, .nil => .nil
  | _, _, 0, .cons _ t => .cons r t
  | _, _, i + 1, .cons q t => .cons q (Vals.set r i t)
theorem Vals.append : ∀ {xs ys : List V} {us ws : List Value}, Vals xs us → Vals ys ws → Vals (xs ++ ys) (us ++ ws)
  | _, _, _, _, .nil, s => s
  | _, _, _, _, .cons r t, s => .cons r (Vals.append t s)
theorem Vals.take : ∀ {xs : List V} {us : List Value} (n : Nat), Vals xs us → Vals (xs.take n) (us.take n)
  | _, _, 0, _ => .nil
  | _, _, _ + 1, .nil => .nil
  | _, _, n + 1, .cons r t => .cons r (Vals.take n t)
theorem Vals.drop : ∀ {xs : List V} {us : List Value} (n : Nat), Vals xs us → Vals (xs.drop n) (us.drop n)
  | _, _, 0, r => r
  | _, _, _ + 1, .nil => .nil
  | _, _, n + 1, .cons _ t => Vals.drop n t
def RelO : Option V → Option Value → Prop
  | some v, some u => RelV v u
  | none, none => True
  | _, _ => False
def KV {κ : Type} : List (κ × V) → List (κ × Value) → Prop := Paired fun (p : κ × V) (q : κ × Value) => p.1 = q.1 ∧ RelV p.2 q.2
def kV : Key → V
  | .inl i => .int i
  | .inr x => .str x
inductive HO where
  /-- a list -/
  | lst (xs : List V)
  /-- a tuple (never changes) -/
  | tup (xs : List V)
  /-- a dict whose keys are ints and texts; one whose keys are tuples of ints and texts (the empty one is both) -/
  | dK (kvs : List (Key × V)) | dT (kvs : List (List Key × V))
  /-- a set of ints: its members, its size -/
  | set (S : Int → Bool) (n : Nat)
  /-- an instance of the class at C, its dict at dx, its attributes -/
  | ins (C dx : Addr) (fs : List (Str × V))
  /-- the dict of the instance at x -/
  | own (x : Addr)
  /-- the dict of an exception -/
  | xd (fs : List (Str × V))
  /-- a bound method, f of x -/
  | met (f x : Addr)
  /-- a range object lo, lo + 1, .. below hi -/
  | rng (lo hi : Int)
  /-- a thing that is known to the object (the script; a dict while a loop walks it): read, never written while it is so -/
  | frz (o : Obj) (u : HO)
  /-- a code object's table -/
  | tbl (ps : Array Value)
  /-- any other thing, by what is true of its one object (a def of one's own: SetO a S n := HO.ext fun h => ..) -/
  | ext (φ : Heap → Prop)
abbrev Hp := Addr → Option HO
def upd (H : Hp) (a : Addr) (o : HO) : Hp := fun b => if b = a then some o else H b
theorem upd_same {H : Hp} {a : Addr} {o : HO} : upd H a o a = some o := by unfold upd; rw [if_pos rfl]
theorem upd_ne {H : Hp} {a b : Addr} {o : HO} (h : b ≠ a) : upd H a o b = H b := by unfold upd; rw [if_neg h]
theorem upd_upd {H : Hp} {a : Addr} {o u : HO} : upd (upd H a o) a u = upd H a u := by
  funext b; unfold upd; split <;> rfl
theorem ne_of {H : Hp} {a b : Addr} {o u : HO} (h : H a = some o) (h' : H b = some u) (d : o ≠ u) : a ≠ b := by
  intro e; subst e; rw [h] at h'; exact d (Option.some.inj h')
theorem ne_of_none {H : Hp} {a b : Addr} {o : HO} (h : H a = some o) (h' : H b = none) : a ≠ b := by
  intro e; subst e; rw [h] at h'; cases h'
section
variable (P : Program) (w : World)
def ObjOk (H : Hp) (h : Heap) (a : Addr) : HO → Prop
  | .lst xs => xs.length ≤ sizeLine ∧ ∃ (its : List Value) (n : Nat), Vals xs its ∧ h.get? a = some { cls := .type "list", data := .seq its.toArray n }
  | .tup xs => xs.length ≤ sizeLine ∧ ∃ its : List Value, Vals xs its ∧ IsTup h a its.toArray
  | .dK kvs => kvs.length ≤ sizeLine ∧ (a == sysModules) = false ∧ ∃ vs, KV kvs vs ∧ h.DictOf (mixKind P w) a vs
  | .dT kvs => kvs.length ≤ sizeLine ∧ (a == sysModules) = false ∧ ∃ xs : List (List Key × Addr × Value),
      Paired (fun (p : List Key × V) (q : List Key × Addr × Value) => p.1 = q.1 ∧ H q.2.1 = some (.tup (p.1.map kV)) ∧ RelV p.2 q.2.2) kvs xs ∧
      ∃ o es ep, h.get? a = some o ∧ o.ExactDict ∧ o.data = .dict es ep ∧ es.toList = xs.map (entryOfKey (tupleKind (mixKind P w))) ∧ (xs.map (·.1)).Nodup
  | .set S n => h.SetOf (intKind P w) a S n
  | .ins C dx fs => H dx = some (.own a) ∧ fs.length ≤ 1000 ∧ dx ≠ a ∧ h.get? a = some (PySem.W.instObj C dx) ∧
      ∃ mA, h.Ns1 dx mA ∧ (∀ f, RelO (fs.lookup f) (mA f)) ∧ PySem.Within mA (fs.map (·.1))
  | .own _ => ∃ o, h.get? a = some o
  | .xd fs => ∃ mA, h.Ns1 a mA ∧ ∀ f, RelO (fs.lookup f) (mA f)
  | .rng lo hi => ∃ t u v, h.get? a = some { cls := .type "range", data := .fields #[.int lo t, .int hi u, .int 1 v] }
  | .frz o u => h.get? a = some o ∧ ObjOk H h a u
  | .tbl ps => h.get? a = some { cls := .none, data := .fields ps }
  | .met f x => h.get? a = some (PySem.W.methodObj (.ref f) (.ref x))
  | .ext φ => φ h ∧ (∃ o, h.get? a = some o) ∧ ∀ h1 h2 : Heap, φ h1 → (∀ o, h1.get? a = some o → h2.get? a = some o) → φ h2
def HOk (H : Hp) (h : Heap) : Prop := ∀ a o, H a = some o → ObjOk P w H h a o
end
section
variable {P : Program} {w : World} {H H' : Hp} {h h' : Heap} {a : Addr} {o : HO}
theorem ObjOk.lt (x : ObjOk P w H h a o) : a < h.objs.size := by
  cases o with
  | lst xs => obtain ⟨_, _, _, _, e⟩ := x; exact Heap.lt_size e
  | tup xs => obtain ⟨_, _, _, p⟩ := x; exact p.lt
  | dK kvs => obtain ⟨_, _, _, _, o, _, _, e, _⟩ := x; exact Heap.lt_size e
  | dT kvs => obtain ⟨_, _, _, _, o, _, _, e, _⟩ := x; exact Heap.lt_size e
  | set S n => obtain ⟨o, _, _, _, e, _⟩ := x; exact Heap.lt_size e
  | ins C dx fs => obtain ⟨_, _, _, e, _⟩ := x; exact Heap.lt_size e
  | own y => obtain ⟨_, e⟩ := x; exact Heap.lt_size e
  | xd fs => obtain ⟨_, ⟨_, _, _, e, _⟩, _⟩ := x; exact Heap.lt_size e
  | rng lo hi => obtain ⟨_, _, _, e⟩ := x; exact Heap.lt_size e
  | frz ob u => obtain ⟨e, _⟩ := x; exact Heap.lt_size e
  | tbl ps => exact Heap.lt_size (show h.get? a = some _ from x)
  | met f y => exact Heap.lt_size (show h.get? a = some _ from x)
  | ext φ => obtain ⟨_, ⟨_, e⟩, _⟩ := x; exact Heap.lt_size e
theorem Paired.mapP {α β : Type} {F G : α → β → Prop} : ∀ {l₁ : List α} {l₂ : List β}, Paired F l₁ l₂ → (∀ a b, F a b → G a b) → Paired G l₁ l₂
  | _, _, .nil, _ => .nil
  | _, _, .cons r t, f => .cons (f _ _ r) (Paired.mapP t f)
theorem ObjOk.stay (x : ObjOk P w H h a o) (k : ∀ b u, (b = a ∨ H b = some (.own a)) → h.get? b = some u → h'.get? b = some u)
    (ho : ∀ b, H b = some (.own a) → H' b = some (.own a)) (ht : ∀ b xs, H b = some (.tup xs) → H' b = some (.tup xs)) : ObjOk P w H' h' a o := by
  induction o with
  | lst xs => obtain ⟨z, its, n, r, e⟩ := x; exact ⟨z, its, n, r, k _ _ (.inl rfl) e⟩
  | tup xs => obtain ⟨z, its, r, ob, e, c⟩ := x; exact ⟨z, its, r, ob, k _ _ (.inl rfl) e, c⟩
  | dK kvs => obtain ⟨z, y, vs, r, ob, es, ep, e, c⟩ := x; exact ⟨z, y, vs, r, ob, es, ep, k _ _ (.inl rfl) e, c⟩
  | dT kvs =>
    obtain ⟨z, y, xs, r, ob, es, ep, e, c⟩ := x
    exact ⟨z, y, xs, Paired.mapP r fun p q z => ⟨z.1, ht _ _ z.2.1, z.2.2⟩, ob, es, ep, k _ _ (.inl rfl) e, c⟩
  | set S n => obtain ⟨ob, es, ep, t, e, c⟩ := x; exact ⟨ob, es, ep, t, k _ _ (.inl rfl) e, c⟩
  | ins C dx fs =>
    obtain ⟨d, z, ne, e, mA, ⟨od, es, ep, e2, c⟩, r⟩ := x
    exact ⟨ho _ d, z, ne, k _ _ (.inl rfl) e, mA, ⟨od, es, ep, k _ _ (.inr d) e2, c⟩, r⟩
  | own y => obtain ⟨ob, e⟩ := x; exact ⟨ob, k _ _ (.inl rfl) e⟩
  | xd fs => obtain ⟨mA, ⟨od, es, ep, e, c⟩, r⟩ := x; exact ⟨mA, ⟨od, es, ep, k _ _ (.inl rfl) e, c⟩, r⟩
  | rng lo hi => obtain ⟨t, u, v, e⟩ := x; exact ⟨t, u, v, k _ _ (.inl rfl) e⟩
  | frz ob u ih => obtain ⟨e, q⟩ := x; exact ⟨k _ _ (.inl rfl) e, ih q⟩
  | tbl ps =>
    have e : h.get? a = some { cls := .none, data := .fields ps } := x
    show h'.get? a = some { cls := .none, data := .fields ps }
    exact k a _ (.inl rfl) e
  | met f y =>
    have e : h.get? a = some (PySem.W.methodObj (.ref f) (.ref y)) := x
    show h'.get? a = some (PySem.W.methodObj (.ref f) (.ref y))
    exact k a _ (.inl rfl) e
  | ext φ => obtain ⟨p, ⟨o, e⟩, st⟩ := x; exact ⟨st _ _ p fun o q => k _ _ (.inl rfl) q, ⟨o, k _ _ (.inl rfl) e⟩, st⟩
theorem HOk.lt (x : HOk P w H h) (e : H a = some o) : a < h.objs.size := (x a o e).lt
theorem HOk.fresh (x : HOk P w H h) (e : h.objs.size ≤ a) : H a = none := by
  cases q : H a with
  | none => rfl
  | some u => exact absurd (Nat.lt_of_lt_of_le (x.lt q) e) (Nat.lt_irrefl _)
theorem HOk.kept (x : HOk P w H h) (k : ∀ b u, h.get? b = some u → h'.get? b = some u) : HOk P w H h' := fun a o e =>
  (x a o e).stay (fun b u _ q => k b u q) (fun _ q => q) fun _ _ q => q
theorem HOk.laid (x : HOk P w H h) (k : ∀ b u, h.get? b = some u → h'.get? b = some u) (hp : h.objs.size ≤ a) (new : ObjOk P w (upd H a o) h' a o) : HOk P w (upd H a o) h' := fun b u e => by
  have hn := x.fresh hp
  by_cases hb : b = a
  · subst hb; rw [upd_same] at e; cases e; exact new
  · rw [upd_ne hb] at e
    exact (x b u e).stay (fun c v _ q => k c v q) (fun c q => by rw [upd_ne (ne_of_none q hn)]; exact q) fun c xs q => by rw [upd_ne (ne_of_none q hn)]; exact q
end
def Rd (H : Hp) (a : Addr) (u : HO) : Prop := H a = some u ∨ ∃ o, H a = some (.frz o u)
theorem Rd.ok {P : Program} {w : World} {H : Hp} {h : Heap} {a : Addr} {u : HO} (r : Rd H a u) (x : HOk P w H h) : ObjOk P w H h a u := by
  rcases r with r | ⟨o, r⟩
  · exact x a u r
  · obtain ⟨_, q⟩ := x a _ r
    exact q
def Mut : Option HO → Prop
  | some (.lst _) => True
  | some (.dK _) => True
  | some (.dT _) => True
  | some (.set _ _) => True
  | some (.ins _ _ _) => True
  | some (.ext _) => True
  | _ => False
section
variable {P : Program} {w : World} {H : Hp} {h h' : Heap} {x e : Addr} {o' : HO}
theorem HOk.write (ok : HOk P w H h) (mu : Mut (H x)) (he : e = x ∨ H e = some (.own x)) (k : ∀ b u, b ≠ e → h.get? b = some u → h'.get? b = some u) (heo : ∃ u, h'.get? e = some u)
    (new : ObjOk P w (upd H x o') h' x o') : HOk P w (upd H x o') h' := fun b u q => by
  have nown : ∀ c y, H c = some (.own y) → c ≠ x := fun c y r z => by subst z; rw [r] at mu; exact mu
  have ntup : ∀ c xs, H c = some (.tup xs) → c ≠ x := fun c xs r z => by subst z; rw [r] at mu; exact mu
  by_cases hb : b = x
  · subst hb; rw [upd_same] at q; cases q; exact new
  · rw [upd_ne hb] at q
    by_cases hbe : b = e
    · have q' : H b = some (.own x) := by
        rcases he with z | z
        · exact absurd (hbe.trans z) hb
        · rw [hbe]; exact z
      rw [q] at q'; cases q'
      obtain ⟨v, hv⟩ := heo
      exact ⟨v, by rw [hbe]; exact hv⟩
    · refine (ok b u q).stay (fun c v hc r => k c v ?_ r) (fun c r => by rw [upd_ne (nown c b r)]; exact r) fun c xs r => by rw [upd_ne (ntup c xs r)]; exact r
      rcases hc with rfl | hc
      · exact hbe
      · rintro rfl
        rcases he with z | z
        · exact nown c b hc z
        · rw [hc] at z; cases z; exact hb rfl
end
structure Un (fs ex : List Addr) (H H' : Hp) (h h' : Heap) : Prop where
  keep : ∀ b o, h.get? b = some o → H b = none → b ∉ fs → b ∉ ex → h'.get? b = some o
  slot : ∀ b o, h.get? b = some o → H b = none → b ∈ fs → b ∉ ex → ∃ sl, h'.get? b = some { o with slots := sl }
  free : ∀ b o, h.get? b = some o → H b = none → b ∉ ex → H' b = none
  there : ∀ b o, h.get? b = some o → b ∉ ex → ∃ o', h'.get? b = some o'
  tups : ∀ b xs, H b = some (.tup xs) → H' b = some (.tup xs)
  frzs : ∀ b o u, H b = some (.frz o u) → H' b = some (.frz o u)
  tbls : ∀ b ps, H b = some (.tbl ps) → ∃ more, H' b = some (.tbl (ps ++ more))
section
variable {fs fs' ex ex' : List Addr} {H H1 H2 : Hp} {h h1 h2 h' : Heap} {a x e : Addr} {o : HO}
theorem Un.any (u : Un fs ex H H1 h h1) {b : Addr} {ob : Obj} (q : h.get? b = some ob) (n : H b = none) (hx : b ∉ ex) : ∃ sl, h1.get? b = some { ob with slots := sl } := by
  by_cases hb : b ∈ fs
  · exact u.slot b ob q n hb hx
  · exact ⟨ob.slots, u.keep b ob q n hb hx⟩
theorem Un.kept (k : ∀ b u, h.get? b = some u → h'.get? b = some u) : Un fs ex H H h h' :=
  ⟨fun b ob q _ _ _ => k b ob q, fun b ob q _ _ _ => ⟨ob.slots, k b ob q⟩, fun _ _ _ n _ => n, fun b ob q _ => ⟨ob, k b ob q⟩, fun _ _ q => q, fun _ _ _ q => q, fun _ ps q => ⟨#[], by rw [q]; simp⟩⟩
theorem Un.refl : Un fs ex H H h h := Un.kept fun _ _ q => q
theorem Un.laid (k : ∀ b u, h.get? b = some u → h'.get? b = some u) (hp : h.objs.size ≤ a) (hn : H a = none) : Un fs ex H (upd H a o) h h' where
  keep := fun b u q _ _ _ => k b u q
  slot := fun b u q _ _ _ => ⟨u.slots, k b u q⟩
  free := fun b u q n _ => by rw [upd_ne (Nat.ne_of_lt (Nat.lt_of_lt_of_le (Heap.lt_size q) hp))]; exact n
  there := fun b u q _ => ⟨u, k b u q⟩
  tups := fun b xs q => by rw [upd_ne (ne_of_none q hn)]; exact q
  frzs := fun b u xs q => by rw [upd_ne (ne_of_none q hn)]; exact q
  tbls := fun b ps q => ⟨#[], by rw [upd_ne (ne_of_none q hn), q]; simp⟩
theorem Un.write (mu : Mut (H x)) (he : e = x ∨ H e = some (.own x)) (k : ∀ b u, b ≠ e → h.get? b = some u → h'.get? b = some u) (heo : ∃ u, h'.get? e = some u) : Un fs ex H (upd H x o) h h' := by
  have hx : ∀ b, H b = none → b ≠ x := fun b n z => by subst z; rw [n] at mu; exact mu
  have hb : ∀ b, H b = none → b ≠ e := fun b n z => by
    subst z
    rcases he with r | r
    · exact hx b n r
    · rw [n] at r; cases r
  have hm : ∀ b u, H b = some u → ¬ Mut (some u) → b ≠ x := fun b u q nm z => by subst z; rw [q] at mu; exact nm mu
  refine ⟨fun b u q n _ _ => k b u (hb b n) q, fun b u q n _ _ => ⟨u.slots, k b u (hb b n) q⟩, fun b u q n _ => by rw [upd_ne (hx b n)]; exact n, fun b u q _ => ?_,
    fun b xs q => by rw [upd_ne (hm b _ q fun z => z)]; exact q, fun b u xs q => by rw [upd_ne (hm b _ q fun z => z)]; exact q, fun b ps q => ⟨#[], by rw [upd_ne (hm b _ q fun z => z), q]; simp⟩⟩
  by_cases hbe : b = e
  · subst hbe; exact heo
  · exact ⟨u, k b u hbe q⟩
end
def trk (h : Heap) (H : Hp) : List Addr := (List.range h.objs.size).filter fun a => (H a).isSome
def hidT (h : Heap) (H : Hp) : Heap := PySem.W.hideAll h (trk h H)
theorem hidT_size (h : Heap) (H : Hp) : (hidT h H).objs.size = h.objs.size := PySem.W.hideAll_size _ _
theorem hidT_get {h : Heap} {H : Hp} {b : Addr} {o : Obj} (e : h.get? b = some o) (n : H b = none) : (hidT h H).get? b = some o :=
  PySem.W.hideAll_get _ e fun hm => by
    have q : (H b).isSome = true := (List.mem_filter.mp hm).2
    rw [n] at q; simp at q
theorem of_hidT {h : Heap} {H : Hp} {b : Addr} {o : Obj} (e : (hidT h H).get? b = some o) : h.get? b = some o ∧ H b = none := by
  have e' : h.get? b = some o := PySem.W.of_hideAll (trk h H) e
  refine ⟨e', ?_⟩
  cases q : H b with
  | none => rfl
  | some x =>
    have hm : b ∈ trk h H := List.mem_filter.mpr ⟨List.mem_range.mpr (Heap.lt_size e'), by simp [q]⟩
    have z : (hidT h H).get? b = none := PySem.W.hideAll_none (trk h H) hm
    rw [z] at e; cases e
def allNews (g h : Heap) (L : Addr) : List (Addr × Obj) := (List.range h.objs.size).filterMap fun a => if a = L ∨ (g.get? a).isSome = true then none else (h.get? a).map fun o => (a, o)
def rest (g h : Heap) (L d : Addr) : List (Addr × Obj) := (allNews g h L).filter fun p => decide (p.1 ≠ d)
end L2
namespace L2
open PySem PySem.Spec PyProof.Rows
variable {q0 : Bool}
structure Mod (K : PySem.W.Frag) (mg : Str → Option Value) (base : Heap) : Prop where
  kin : K.In base
  glob : base.Ns mainGlobals mg
  blt : ∃ mb, base.Ns builtinsNs mb ∧ ∀ x : Str, x ≠ "__name__" → mb x = bootBuiltins x
  nolimit : base.NoLimit
structure Cx where
  prog : Program
  w : World
  K : PySem.W.Frag
  mg : Str → Option Value
  base : Heap
  A : Around
  N : List Str
  s₀ : Shared
  H₀ : Hp
  env : Env
  outer : List Env
  stack : List Env
  ex : List Addr
  fn : Str → Bool
  calm : Bool
  pn : List (Addr × Obj)
  xe : Value → Shared → Prop
def frs (l : List Env) : List Addr := l.filterMap (·.frame)
abbrev Cx.fs (X : Cx) : List Addr := frs X.outer
def Vis (sc : Scope) (x : Str) : Prop := sc.names.lookup x = some .local ∨ sc.names.lookup x = some .cell ∨ sc.names.lookup x = some .free
def Loc (sc : Scope) (x : Str) : Prop := sc.names.lookup x = some .local ∨ sc.names.lookup x = some .cell
def Look (env : Env) (h : Heap) (m : Str → Option Value) (x : Str) (u : Value) : Prop :=
  (env.kindOf x = some .local ∧ m x = some u) ∨ ((env.kindOf x = some .cell ∨ env.kindOf x = some .free) ∧ ∃ c, env.cells.lookup x = some c ∧ h.IsCell c (some u))
structure Cx.Ok (X : Cx) : Prop where
  mod : Mod X.K X.mg X.base
  kind : X.env.scope.kind = .function
  glob : X.env.globals = mainGlobals
  blt : X.env.builtins = builtinsNs
  above : X.s₀.heap.objs.size ≤ X.env.locals
  inj : ∀ x y c, X.env.cells.lookup x = some c → X.env.cells.lookup y = some c → x = y
  has : ∀ x, (X.env.kindOf x = some .cell ∨ X.env.kindOf x = some .free) → ∃ c, X.env.cells.lookup x = some c
  cab : ∀ x c, X.fn x = true → X.env.cells.lookup x = some c → X.s₀.heap.objs.size ≤ c
  hd : X.calm = true → X.A.handled = none
  frames : X.A.frames = some X.stack
  stk : X.stack = X.outer ∨ (X.stack = X.env :: X.outer ∧ X.env.frame = some X.env.locals)
  exf : ∀ b ∈ X.ex, b ≠ X.env.locals ∧ ∀ x c, X.env.cells.lookup x = some c → c ≠ b
  bs : ∀ b o, X.base.get? b = some o → X.s₀.heap.get? b = some o ∧ X.H₀ b = none
  bsz : X.base.objs.size ≤ X.s₀.heap.objs.size
  noex : ∀ b o, X.base.get? b = some o → b ∉ X.ex
  exfs : ∀ b ∈ X.ex, b ∉ X.fs
  funs : X.s₀.heap.FunFrames X.base X.outer
  frf : ∀ b ∈ X.fs, X.H₀ b = none
structure Inv (X : Cx) (pins : List (Addr × Obj)) (σ : List (Option V)) (H : Hp) (s : Shared) : Prop where
  ok : X.Ok
  os : s.os = X.s₀.os
  bare : AllBare s.gens
  base : Un X.fs X.ex X.H₀ H X.s₀.heap s.heap
  loc : ∃ m, s.heap.Ns X.env.locals m ∧ ∀ (i : Nat) (x : Str) (v : V), X.N[i]? = some x → σ[i]? = some (some v) → Vis X.env.scope x → ∃ u, RelV v u ∧ Look X.env s.heap m x u
  cell : ∀ x c, X.env.cells.lookup x = some c → ∃ v, s.heap.IsCell c v
  free : H X.env.locals = none
  freeC : ∀ x c, X.env.cells.lookup x = some c → H c = none
  pin : ∀ p ∈ X.pn ++ pins, s.heap.get? p.1 = some p.2 ∧ H p.1 = none ∧ p.1 ≠ X.env.locals ∧ p.1 ∉ X.fs ∧ ∀ v, p.2.data ≠ .cell v
  hok : HOk X.prog X.w H s.heap
  len : σ.length = X.N.length
section
variable {X : Cx} {pins : List (Addr × Obj)} {σ : List (Option V)} {H H' : Hp} {s : Shared} {h' : Heap}
theorem Cx.Ok.nofr (ok : X.Ok) {b : Addr} {o : Obj} (e : X.base.get? b = some o) : b ∉ X.fs := fun hb => by
  have := (ok.funs.mem hb).1
  rw [e] at this; cases this
theorem Inv.bs (I : Inv X pins σ H s) : ∀ b o, X.base.get? b = some o → s.heap.get? b = some o ∧ H b = none := fun b o e =>
  ⟨I.base.keep b o (I.ok.bs b o e).1 (I.ok.bs b o e).2 (I.ok.nofr e) (I.ok.noex b o e), I.base.free b o (I.ok.bs b o e).1 (I.ok.bs b o e).2 (I.ok.noex b o e)⟩
theorem Inv.bk (I : Inv X pins σ H s) : ∀ b o, X.base.get? b = some o → s.heap.get? b = some o := fun b o e => (I.bs b o e).1
theorem Inv.mod (I : Inv X pins σ H s) : Mod X.K X.mg X.base := I.ok.mod
theorem Inv.kIn (I : Inv X pins σ H s) : X.K.In s.heap := I.ok.mod.kin.keeps I.bk
theorem Inv.fr (I : Inv X pins σ H s) : ∃ m, Fr X.base X.env.locals s.heap m :=
  let ⟨m, hn, _⟩ := I.loc
  ⟨m, hn, I.bk, Nat.le_trans I.ok.bsz I.ok.above⟩
theorem Inv.lt (I : Inv X pins σ H s) : X.env.locals < s.heap.objs.size := let ⟨_, hn, _⟩ := I.loc; hn.lt
theorem Inv.sz (I : Inv X pins σ H s) : X.s₀.heap.objs.size ≤ s.heap.objs.size := Nat.le_trans I.ok.above (Nat.le_of_lt I.lt)
theorem Inv.nofs (I : Inv X pins σ H s) {a : Addr} (h : s.heap.objs.size ≤ a) : a ∉ X.fs := fun hb => by
  obtain ⟨_, o, ho, _⟩ := I.ok.funs.mem hb
  exact absurd (Nat.lt_of_lt_of_le (Heap.lt_size ho) (Nat.le_trans I.sz h)) (Nat.lt_irrefl _)
theorem Inv.cne (I : Inv X pins σ H s) : ∀ x c, X.env.cells.lookup x = some c → c ≠ X.env.locals := fun x c e z => by
  obtain ⟨v, o, ho, hd⟩ := I.cell x c e
  obtain ⟨m, ⟨o', es, ep, ho', hd', _⟩, _⟩ := I.loc
  rw [z, ho'] at ho; cases ho; rw [hd'] at hd; cases hd
theorem Inv.funs (I : Inv X pins σ H s) : s.heap.FunFrames X.base X.outer := by
  have all : ∀ (l : List Env), (∀ b ∈ frs l, b ∈ X.fs) → X.s₀.heap.FunFrames X.base l → s.heap.FunFrames X.base l := by
    intro l
    induction l with
    | nil => intro _ _; trivial
    | cons env r ih =>
      intro hs hl
      obtain ⟨hk, ⟨L, o, hf, hn, ho, hd⟩, hr⟩ := hl
      have hL : L ∈ X.fs := hs L (by unfold frs; rw [List.filterMap_cons, hf]; exact List.mem_cons_self)
      obtain ⟨sl, e⟩ := I.base.slot L o ho (I.ok.frf L hL) hL fun z => I.ok.exfs L z hL
      exact ⟨hk, ⟨L, _, hf, hn, e, hd⟩, ih (fun b hb => hs b (by unfold frs; rw [List.filterMap_cons, hf]; exact List.mem_cons_of_mem _ hb)) hr⟩
  exact all X.outer (fun _ hb => hb) I.ok.funs
theorem Inv.stack (I : Inv X pins σ H s) : s.heap.FunFrames X.base X.stack := by
  rcases I.ok.stk with e | ⟨e, hf⟩
  · rw [e]; exact I.funs
  · rw [e]
    obtain ⟨m, hn, _⟩ := I.loc
    refine .cons (by rw [I.ok.kind]; decide) hf hn ?_ I.funs
    exact Heap.get?_none_of_le (Nat.le_trans I.ok.bsz I.ok.above)
theorem Inv.stkSub (I : Inv X pins σ H s) : ∀ b ∈ frs X.stack, b ∈ X.env.locals :: X.fs := fun b hb => by
  rcases I.ok.stk with e | ⟨e, hf⟩
  · rw [e] at hb; exact List.mem_cons_of_mem _ hb
  · rw [e] at hb
    unfold frs at hb
    rw [List.filterMap_cons, hf] at hb
    exact hb
theorem Inv.stkFree (I : Inv X pins σ H s) : ∀ b ∈ frs X.stack, H b = none := fun b hb => by
  rcases List.mem_cons.mp (I.stkSub b hb) with e | hb
  · rw [e]; exact I.free
  · obtain ⟨_, o, ho, _⟩ := I.ok.funs.mem hb
    exact I.base.free b o ho (I.ok.frf b hb) fun z => I.ok.exfs b z hb
theorem Inv.step {g' : Array GenState} {t' : Nat} {d' : Drawn} {ch : List Addr} (I : Inv X pins σ H s)
    (hch : ∀ b ∈ ch, (b ∈ X.ex ∨ X.s₀.heap.objs.size ≤ b) ∧ b ≠ X.env.locals ∧ (∀ x c, X.env.cells.lookup x = some c → c ≠ b) ∧ ∀ p ∈ X.pn ++ pins, p.1 ≠ b)
    (keep : ∀ b o, b ≠ X.env.locals → b ∉ X.fs → b ∉ ch → s.heap.get? b = some o → H b = none → h'.get? b = some o)
    (slot : ∀ b o, b ≠ X.env.locals → b ∈ X.fs → b ∉ ch → s.heap.get? b = some o → H b = none → ∃ sl, h'.get? b = some { o with slots := sl }) (free : ∀ b o, b ∉ ch → s.heap.get? b = some o → H b = none → H' b = none)
    (there : ∀ b o, b ∉ ch → s.heap.get? b = some o → ∃ o', h'.get? b = some o')
    (tups : ∀ b xs, H b = some (.tup xs) → H' b = some (.tup xs)) (frzs : ∀ b o u, H b = some (.frz o u) → H' b = some (.frz o u)) (tbls : ∀ b ps, H b = some (.tbl ps) → ∃ more, H' b = some (.tbl (ps ++ more)))
    (ns : ∀ m, s.heap.Ns X.env.locals m → h'.Ns X.env.locals m) (hok : HOk X.prog X.w H' h') (hg : AllBare g') :
    Inv X pins σ H' { s with heap := h', gens := g', drawn := d', toks := t' } := by
  have neL : ∀ b o, X.s₀.heap.get? b = some o → b ≠ X.env.locals := fun b o e => Nat.ne_of_lt (Nat.lt_of_lt_of_le (Heap.lt_size e) I.ok.above)
  have neC : ∀ b o, X.s₀.heap.get? b = some o → b ∉ X.ex → b ∉ ch := fun b o e hx hb => by
    rcases (hch b hb).1 with z | z
    · exact hx z
    · exact absurd (Nat.lt_of_lt_of_le (Heap.lt_size e) z) (Nat.lt_irrefl _)
  have cellK : ∀ x c, X.env.cells.lookup x = some c → ∀ v, s.heap.IsCell c v → h'.IsCell c v := fun x c e v ⟨o, ho, hd⟩ => by
    have nch : c ∉ ch := fun z => (hch c z).2.2.1 x c e rfl
    by_cases hc : c ∈ X.fs
    · obtain ⟨sl, q⟩ := slot c o (I.cne x c e) hc nch ho (I.freeC x c e)
      exact ⟨_, q, hd⟩
    · exact ⟨o, keep c o (I.cne x c e) hc nch ho (I.freeC x c e), hd⟩
  refine ⟨I.ok, I.os, hg, ⟨fun b o e n hb hx => ?_, fun b o e n hb hx => ?_, fun b o e n hx => ?_, fun b o e hx => ?_, fun b xs e => tups b xs (I.base.tups b xs e), fun b o xs e => frzs b o xs (I.base.frzs b o xs e), fun b ps e => ?_⟩, ?_, fun x c e => ?_, ?_, fun x c e => ?_, fun p hp => ?_, hok, I.len⟩
  · exact keep b o (neL b o e) hb (neC b o e hx) (I.base.keep b o e n hb hx) (I.base.free b o e n hx)
  · obtain ⟨sl, e1⟩ := I.base.slot b o e n hb hx
    obtain ⟨sl', e2⟩ := slot b _ (neL b o e) hb (neC b o e hx) e1 (I.base.free b o e n hx)
    exact ⟨sl', e2⟩
  · obtain ⟨o', e1⟩ := I.base.there b o e hx
    exact free b o' (neC b o e hx) e1 (I.base.free b o e n hx)
  · obtain ⟨o', e1⟩ := I.base.there b o e hx
    exact there b o' (neC b o e hx) e1
  · obtain ⟨m1, e1⟩ := I.base.tbls b ps e
    obtain ⟨m2, e2⟩ := tbls b _ e1
    exact ⟨m1 ++ m2, by rw [e2, Array.append_assoc]⟩
  · obtain ⟨m, hn, hl⟩ := I.loc
    refine ⟨m, ns m hn, fun i x v e1 e2 e3 => ?_⟩
    obtain ⟨u, r, l⟩ := hl i x v e1 e2 e3
    refine ⟨u, r, ?_⟩
    rcases l with l | ⟨k, c, e, z⟩
    · exact .inl l
    · exact .inr ⟨k, c, e, cellK x c e _ z⟩
  · obtain ⟨v, z⟩ := I.cell x c e
    exact ⟨v, cellK x c e v z⟩
  · obtain ⟨m, ⟨o, _, _, ho, _⟩, _⟩ := I.loc
    exact free _ o (fun z => (hch _ z).2.1 rfl) ho I.free
  · obtain ⟨v, o, ho, hd⟩ := I.cell x c e
    exact free c o (fun z => (hch c z).2.2.1 x c e rfl) ho (I.freeC x c e)
  · obtain ⟨e, n, ne, nf, d⟩ := I.pin p hp
    have nch : p.1 ∉ ch := fun z => (hch p.1 z).2.2.2 p hp rfl
    exact ⟨keep p.1 p.2 ne nf nch e n, free p.1 p.2 nch e n, ne, nf, d⟩
theorem Inv.un {t' : Nat} (I : Inv X pins σ H s) (u : Un X.fs [] H H' s.heap h') (hok : HOk X.prog X.w H' h') : Inv X pins σ H' { s with heap := h', toks := t' } := by
  obtain ⟨m, ⟨o, es, ep, ho, r⟩, _⟩ := id I.loc
  obtain ⟨sl, hL⟩ := u.any ho I.free (by simp)
  exact I.step (g' := s.gens) (d' := s.drawn) (ch := []) (fun _ z => nomatch z) (fun b o _ hb _ e n => u.keep b o e n hb (by simp)) (fun b o _ hb _ e n => u.slot b o e n hb (by simp)) (fun b o _ e n => u.free b o e n (by simp)) (fun b o _ e => u.there b o e (by simp)) u.tups u.frzs u.tbls (fun m' hm => by
    obtain ⟨o', es', ep', ho', r'⟩ := hm
    rw [ho] at ho'; cases ho'
    exact ⟨_, es', ep', hL, r'⟩) hok I.bare
theorem Inv.call {g' : Array GenState} {t' : Nat} {d' : Drawn} {ch : List Addr} (I : Inv X pins σ H s) (u : Un (frs X.stack) ch H H' s.heap h') (hok : HOk X.prog X.w H' h') (hg : AllBare g')
    (hch : ∀ b ∈ ch, (b ∈ X.ex ∨ X.s₀.heap.objs.size ≤ b) ∧ b ≠ X.env.locals ∧ (∀ x c, X.env.cells.lookup x = some c → c ≠ b) ∧ ∀ p ∈ X.pn ++ pins, p.1 ≠ b) :
    Inv X pins σ H' { s with heap := h', gens := g', drawn := d', toks := t' } := by
  obtain ⟨m, ⟨o, es, ep, ho, r⟩, _⟩ := id I.loc
  obtain ⟨sl, hL⟩ := u.any ho I.free fun z => (hch _ z).2.1 rfl
  exact I.step (ch := ch) hch (fun b o hL hb hc e n => u.keep b o e n (fun z => (List.mem_cons.mp (I.stkSub b z)).elim hL hb) hc) (fun b o _ _ hc e n => u.any e n hc) (fun b o hc e n => u.free b o e n hc) (fun b o hc e => u.there b o e hc) u.tups u.frzs u.tbls (fun m' hm => by
    obtain ⟨o', es', ep', ho', r'⟩ := hm
    rw [ho] at ho'; cases ho'
    exact ⟨_, es', ep', hL, r'⟩) hok hg
theorem Inv.turned {t' : Nat} {it : Addr} (I : Inv X pins σ H s) (k : ∀ b o, b ≠ it → s.heap.get? b = some o → h'.get? b = some o) (hn : H it = none) (hL : it ≠ X.env.locals)
    (h1 : it ∈ X.ex ∨ X.s₀.heap.objs.size ≤ it) (h2 : ∀ x c, X.env.cells.lookup x = some c → c ≠ it) (h3 : ∀ p ∈ X.pn ++ pins, p.1 ≠ it) : Inv X pins σ H { s with heap := h', toks := t' } := by
  have nit : ∀ b u, H b = some u → b ≠ it := fun b u e z => by rw [z, hn] at e; cases e
  refine I.step (g' := s.gens) (d' := s.drawn) (ch := [it]) (fun b hb => ?_) (fun b o _ _ hc e _ => k b o (fun z => hc (by simp [z])) e) (fun b o _ _ hc e _ => ⟨o.slots, k b o (fun z => hc (by simp [z])) e⟩) (fun _ _ _ _ n => n)
    (fun b o hc e => ⟨o, k b o (fun z => hc (by simp [z])) e⟩) (fun _ _ e => e) (fun _ _ _ e => e) (fun b ps e => ⟨#[], by rw [e]; simp⟩) (fun m hm => ?_) (fun b u e => ?_) I.bare
  · have e : b = it := by simpa using hb
    subst e
    exact ⟨h1, hL, h2, h3⟩
  · obtain ⟨o, es, ep, ho, r⟩ := hm
    exact ⟨o, es, ep, k _ o (Ne.symm hL) ho, r⟩
  · refine (I.hok b u e).stay (fun c v hc q => k c v ?_ q) (fun _ q => q) fun _ _ q => q
    rcases hc with z | z
    · rw [z]; exact nit b u e
    · exact nit c _ z
theorem Inv.tok (I : Inv X pins σ H s) (t : Nat) : Inv X pins σ H { s with toks := t } := I.un (h' := s.heap) (t' := t) Un.refl I.hok
theorem Inv.kept {t' : Nat} (I : Inv X pins σ H s) (k : ∀ b u, s.heap.get? b = some u → h'.get? b = some u) : Inv X pins σ H { s with heap := h', toks := t' } := I.un (Un.kept k) (I.hok.kept k)
theorem Inv.laid {a : Addr} {o : HO} {t' : Nat} (I : Inv X pins σ H s) (k : ∀ b u, s.heap.get? b = some u → h'.get? b = some u) (hp : s.heap.objs.size ≤ a) (new : ObjOk X.prog X.w (upd H a o) h' a o) :
    Inv X pins σ (upd H a o) { s with heap := h', toks := t' } := I.un (Un.laid k hp (I.hok.fresh hp)) (I.hok.laid k hp new)
theorem Inv.write {x e : Addr} {o : HO} {t' : Nat} (I : Inv X pins σ H s) (mu : Mut (H x)) (he : e = x ∨ H e = some (.own x)) (k : ∀ b u, b ≠ e → s.heap.get? b = some u → h'.get? b = some u) (heo : ∃ u, h'.get? e = some u)
    (new : ObjOk X.prog X.w (upd H x o) h' x o) : Inv X pins σ (upd H x o) { s with heap := h', toks := t' } := I.un (Un.write mu he k heo) (I.hok.write mu he k heo new)
theorem Inv.weak {σ' : List (Option V)} (I : Inv X pins σ H s) (hl : σ'.length = σ.length) (w : ∀ (i : Nat) v, σ'[i]? = some (some v) → σ[i]? = some (some v)) : Inv X pins σ' H s :=
  ⟨I.ok, I.os, I.bare, I.base, let ⟨m, hn, hl'⟩ := I.loc; ⟨m, hn, fun i x v e1 e2 e3 => hl' i x v e1 (w i v e2) e3⟩, I.cell, I.free, I.freeC, I.pin, I.hok, hl.trans I.len⟩
theorem Inv.pins_of {pins' : List (Addr × Obj)} (I : Inv X pins σ H s) (h : ∀ p ∈ pins', s.heap.get? p.1 = some p.2 ∧ H p.1 = none ∧ p.1 ≠ X.env.locals ∧ p.1 ∉ X.fs ∧ ∀ v, p.2.data ≠ .cell v) : Inv X pins' σ H s :=
  ⟨I.ok, I.os, I.bare, I.base, I.loc, I.cell, I.free, I.freeC, fun p hp => (List.mem_append.mp hp).elim (fun z => I.pin p (List.mem_append_left _ z)) (h p), I.hok, I.len⟩
theorem nodup_ix {N : List Str} (hN : N.Nodup) {i j : Nat} {x : Str} (a : N[i]? = some x) (b : N[j]? = some x) : i = j := by
  obtain ⟨h1, e1⟩ := List.getElem?_eq_some_iff.mp a
  obtain ⟨h2, e2⟩ := List.getElem?_eq_some_iff.mp b
  exact (List.getElem_inj hN).mp (e1.trans e2.symm)
theorem store_ok2 {M : Model} {A : Around} {E : Value → Shared → Prop} {i : Nat} {x : Str} {v : V} {u : Value} {Q : Unit → Shared → Prop} (I : Inv X pins σ H s) (hN : X.N.Nodup) (hi : X.N[i]? = some x) (hx : Loc X.env.scope x) (r : RelV v u)
    (h : ∀ s', Inv X pins (σ.set i (some v)) H s' → (∃ a, Heap.SameBut a s.heap s'.heap ∧ (a = X.env.locals ∨ X.env.cells.lookup x = some a)) → Q () s') (hf : X.fn x = true ∨ X.env.scope.names.lookup x = some .local := by first | exact .inl rfl | exact .inr rfl | assumption) : wpAny M A (storeName X.env x u) Q E s := by
  obtain ⟨m, hn, hl⟩ := id I.loc
  have hcls : (X.env.scope.kind == .class || (X.env.scope.kind == .module && X.env.locals != X.env.globals)) = false := by rw [I.ok.kind]; rfl
  have hiσ : i < σ.length := by rw [I.len]; exact (List.getElem?_eq_some_iff.mp hi).1
  have cne := I.cne
  have tracked : ∀ {a : Addr} {h' : Heap}, (∃ o, s.heap.get? a = some o ∧ H a = none) → Heap.SameBut a s.heap h' → HOk X.prog X.w H h' := fun {a h'} ha hs b ob e => by
    obtain ⟨_, _, hfree⟩ := ha
    refine (I.hok b ob e).stay (fun c w' hc q => (hs.2 c ?_).trans q) (fun _ q => q) fun _ _ q => q
    rintro rfl
    rcases hc with rfl | hc
    · rw [hfree] at e; cases e
    · rw [hfree] at hc; cases hc
  rcases hx with hk | hk
  · refine wpAny_storeName_local hk hn (fun h' hn' hs => ?_) hcls
    obtain ⟨oL, _, _, hoL, _⟩ := id hn
    refine h _ ⟨I.ok, I.os, I.bare, ⟨fun b o e n hb hx => ?_, fun b o e n hb hx => ?_, I.base.free, fun b o e hx => ?_, I.base.tups, I.base.frzs, I.base.tbls⟩, ⟨_, hn', fun j y v' e1 e2 e3 => ?_⟩, fun y c e => ?_, I.free, I.freeC, fun p hp => ?_, tracked ⟨oL, hoL, I.free⟩ hs, by simpa using I.len⟩ ⟨_, hs, .inl rfl⟩
    · exact (hs.2 b (Nat.ne_of_lt (Nat.lt_of_lt_of_le (Heap.lt_size e) I.ok.above))).trans (I.base.keep b o e n hb hx)
    · obtain ⟨sl, e1⟩ := I.base.slot b o e n hb hx
      exact ⟨sl, (hs.2 b (Nat.ne_of_lt (Nat.lt_of_lt_of_le (Heap.lt_size e) I.ok.above))).trans e1⟩
    · obtain ⟨o', e1⟩ := I.base.there b o e hx
      exact ⟨o', (hs.2 b (Nat.ne_of_lt (Nat.lt_of_lt_of_le (Heap.lt_size e) I.ok.above))).trans e1⟩
    · by_cases hj : j = i
      · subst hj
        rw [hi] at e1; cases e1
        rw [List.getElem?_set_self hiσ] at e2
        cases e2
        exact ⟨u, r, .inl ⟨hk, by simp⟩⟩
      · rw [List.getElem?_set_ne (Ne.symm hj)] at e2
        obtain ⟨u', r', q⟩ := hl j y v' e1 e2 e3
        refine ⟨u', r', ?_⟩
        rcases q with ⟨k, e⟩ | ⟨k, c, e, z⟩
        · refine .inl ⟨k, ?_⟩
          have : y ≠ x := fun e => hj (nodup_ix hN e1 (e ▸ hi))
          simp [this, e]
        · exact .inr ⟨k, c, e, z.sameBut hs (cne y c e)⟩
    · obtain ⟨w', z⟩ := I.cell y c e
      exact ⟨w', z.sameBut hs (cne y c e)⟩
    · obtain ⟨e, n, ne, nf, d⟩ := I.pin p hp
      exact ⟨(hs.2 p.1 ne).trans e, n, ne, nf, d⟩
  · have hfn : X.fn x = true := by
      rcases hf with z | z
      · exact z
      · rw [z] at hk; cases hk
    obtain ⟨c, hc⟩ := I.ok.has x (.inl hk)
    obtain ⟨w', z⟩ := I.cell x c hc
    refine wpAny_storeName_cell I.ok.kind hk hc z (fun h' hc' hs => ?_)
    obtain ⟨oc, hoc, hocd⟩ := id z
    refine h { s with heap := h' } ⟨I.ok, I.os, I.bare, ⟨fun b o e n hb hx => ?_, fun b o e n hb hx => ?_, I.base.free, fun b o e hx => ?_, I.base.tups, I.base.frzs, I.base.tbls⟩, ⟨m, hn.sameBut hs (Ne.symm (cne x c hc)), fun j y v' e1 e2 e3 => ?_⟩, fun y c' e => ?_, I.free, I.freeC, fun p hp => ?_, tracked ⟨oc, hoc, I.freeC x c hc⟩ hs, by simpa using I.len⟩ ⟨c, hs, .inr hc⟩
    · exact (hs.2 b (Nat.ne_of_lt (Nat.lt_of_lt_of_le (Heap.lt_size e) (I.ok.cab x c hfn hc)))).trans (I.base.keep b o e n hb hx)
    · obtain ⟨sl, e1⟩ := I.base.slot b o e n hb hx
      exact ⟨sl, (hs.2 b (Nat.ne_of_lt (Nat.lt_of_lt_of_le (Heap.lt_size e) (I.ok.cab x c hfn hc)))).trans e1⟩
    · obtain ⟨o', e1⟩ := I.base.there b o e hx
      exact ⟨o', (hs.2 b (Nat.ne_of_lt (Nat.lt_of_lt_of_le (Heap.lt_size e) (I.ok.cab x c hfn hc)))).trans e1⟩
    · by_cases hj : j = i
      · subst hj
        rw [hi] at e1; cases e1
        rw [List.getElem?_set_self hiσ] at e2
        cases e2
        exact ⟨u, r, .inr ⟨.inl hk, c, hc, hc'⟩⟩
      · rw [List.getElem?_set_ne (Ne.symm hj)] at e2
        obtain ⟨u', r', q⟩ := hl j y v' e1 e2 e3
        refine ⟨u', r', ?_⟩
        rcases q with q | ⟨k, c', e, z'⟩
        · exact .inl q
        · refine .inr ⟨k, c', e, z'.sameBut hs ?_⟩
          rintro rfl
          exact hj (nodup_ix hN e1 (I.ok.inj _ _ _ e hc ▸ hi))
    · by_cases hcc : c' = c
      · subst hcc; exact ⟨_, hc'⟩
      · obtain ⟨w2, z2⟩ := I.cell y c' e
        exact ⟨w2, z2.sameBut hs hcc⟩
    · obtain ⟨e, n, ne, nf, d⟩ := I.pin p hp
      refine ⟨(hs.2 p.1 ?_).trans e, n, ne, nf, d⟩
      intro q
      rw [q, hoc] at e
      have q' : oc = p.2 := Option.some.inj e
      exact d w' (by rw [← q']; exact hocd)
theorem store_ok {M : Model} {A : Around} {E : Value → Shared → Prop} {i : Nat} {x : Str} {v : V} {u : Value} {Q : Unit → Shared → Prop} (I : Inv X pins σ H s) (hN : X.N.Nodup) (hi : X.N[i]? = some x) (hx : Loc X.env.scope x) (r : RelV v u)
    (h : ∀ s', Inv X pins (σ.set i (some v)) H s' → Q () s') (hf : X.fn x = true ∨ X.env.scope.names.lookup x = some .local := by first | exact .inl rfl | exact .inr rfl | assumption) : wpAny M A (storeName X.env x u) Q E s :=
  store_ok2 I hN hi hx r (fun s' I' _ => h s' I') hf
theorem Inv.call' {s' : Shared} {ch : List Addr} (I : Inv X pins σ H s) (ho : s'.os = s.os) (u : Un (frs X.stack) ch H H' s.heap s'.heap) (hok : HOk X.prog X.w H' s'.heap) (hg : AllBare s'.gens)
    (hch : ∀ b ∈ ch, (b ∈ X.ex ∨ X.s₀.heap.objs.size ≤ b) ∧ b ≠ X.env.locals ∧ (∀ x c, X.env.cells.lookup x = some c → c ≠ b) ∧ ∀ p ∈ X.pn ++ pins, p.1 ≠ b) : Inv X pins σ H' s' := by
  obtain ⟨h', g', d', t', o'⟩ := s'
  have e : o' = s.os := ho
  subst e
  exact I.call (g' := g') (t' := t') (d' := d') u hok hg hch
end
abbrev XK := Addr → Addr → Hp → Prop
abbrev St := List (Option V)
abbrev VK := V → Hp → Prop
abbrev TE := St → Hp → VK → Prop
abbrev TT := St → Hp → (Bool → Hp → Prop) → Prop
abbrev TA := St → Hp → (List V → Hp → Prop) → Prop
structure Ends where
  nx : St → Hp → Prop
  rt : VK
  bk : St → Hp → Prop := fun _ _ => False
  ct : St → Hp → Prop := fun _ _ => False
abbrev TS := Ends → St → Hp → Prop
def EP (X : Cx) (pins : List (Addr × Obj)) (σ : St) (Q : VK) (u : Value) (s' : Shared) : Prop := ∃ v H', Inv X pins σ H' s' ∧ RelV v u ∧ Q v H'
def TP (X : Cx) (pins : List (Addr × Obj)) (σ : St) (Q : Bool → Hp → Prop) (b : Bool) (s' : Shared) : Prop := ∃ H', Inv X pins σ H' s' ∧ Q b H'
def AP (X : Cx) (pins : List (Addr × Obj)) (σ : St) (Q : List V → Hp → Prop) (us : List Value) (s' : Shared) : Prop := ∃ vs H', Inv X pins σ H' s' ∧ Vals vs us ∧ Q vs H'
def SP (X : Cx) (pins : List (Addr × Obj)) (D : Ends) (f : Flow) (s' : Shared) : Prop :=
  match f with
  | .next => ∃ σ' H', Inv X pins σ' H' s' ∧ D.nx σ' H'
  | .brk => ∃ σ' H', Inv X pins σ' H' s' ∧ D.bk σ' H'
  | .cont => ∃ σ' H', Inv X pins σ' H' s' ∧ D.ct σ' H'
  | .ret u => ∃ v σ' H', Inv X pins σ' H' s' ∧ RelV v u ∧ D.rt v H'
def PE (X : Cx) (e : Expr) (t : TE) : Prop :=
  ∀ (pins : List (Addr × Obj)) (s : Shared) (σ : St) (H : Hp) (Q : VK), Inv X pins σ H s → t σ H Q → wpAny (model X.prog X.w) X.A (eval e X.env) (EP X pins σ Q) X.xe s
def PT (X : Cx) (e : Expr) (t : TT) : Prop :=
  ∀ (pins : List (Addr × Obj)) (s : Shared) (σ : St) (H : Hp) (Q : Bool → Hp → Prop), Inv X pins σ H s → t σ H Q → wpAny (model X.prog X.w) X.A (isTrue e X.env (eval e X.env)) (TP X pins σ Q) X.xe s
def PW (X : Cx) (e : Expr) (t : TT) : Prop :=
  ∀ (whole : Sem Value) (pins : List (Addr × Obj)) (s : Shared) (σ : St) (H : Hp) (Q : Bool → Hp → Prop), Inv X pins σ H s → t σ H Q → wpAny (model X.prog X.w) X.A (isTrue e X.env whole) (TP X pins σ Q) X.xe s
theorem PW.pt {X : Cx} {e : Expr} {t : TT} (h : PW X e t) : PT X e t := h _
def PA (X : Cx) (es : List Expr) (t : TA) : Prop :=
  ∀ (pos : Pos) (pins : List (Addr × Obj)) (s : Shared) (σ : St) (H : Hp) (Q : List V → Hp → Prop), Inv X pins σ H s → t σ H Q → wpAny (model X.prog X.w) X.A (spliced (backTo pos (starEach es X.env))) (AP X pins σ Q) X.xe s
def PS (X : Cx) (st : Stmt) (t : TS) : Prop :=
  ∀ (pins : List (Addr × Obj)) (s : Shared) (σ : St) (H : Hp) (D : Ends), Inv X pins σ H s → t D σ H → wpAny (model X.prog X.w) X.A (exec st X.env) (SP X pins D) X.xe s
def PSs (X : Cx) (st : List Stmt) (t : TS) : Prop :=
  ∀ (pins : List (Addr × Obj)) (s : Shared) (σ : St) (H : Hp) (D : Ends), Inv X pins σ H s → t D σ H → wpAny (model X.prog X.w) X.A (execs st X.env) (SP X pins D) X.xe s
theorem thn {α : Type} {t : Sem α} {Q Q' : α → Shared → Prop} {M : Model} {A : Around} {E : Value → Shared → Prop} {s : Shared} (h : wpAny M A t Q E s) (hQ : ∀ a s, Q a s → Q' a s) : wpAny M A t Q' E s := wpAny_mono h hQ fun _ _ x => x
end L2
namespace L2
open PySem PySem.Spec PyProof.Rows
variable {q0 : Bool}
section
variable {X : Cx}
def tVar (i : Nat) : TE := fun σ H Q => ∃ v, σ[i]? = some (some v) ∧ Q v H
def tC (v : V) : TE := fun _ H Q => Q v H
theorem pe_var {i : Nat} {x : Str} {pos : Pos} (hN : X.N[i]? = some x) (hv : Vis X.env.scope x) (hd : (x == ("__debug__" : Str)) = false := by decide) (hcd : (x == ("__classdict__" : Str)) = false := by decide) : PE X (.Name x pos) (tVar i) := by
  intro pins s σ H Q I h
  obtain ⟨v, e, h⟩ := h
  obtain ⟨m, hn, hl⟩ := I.loc
  obtain ⟨u, r, l⟩ := hl i x v hN e hv
  have fin : EP X pins σ Q u s := ⟨v, H, I, r, h⟩
  rcases l with ⟨hk, hm⟩ | ⟨hk, c, hc, hcell⟩
  · exact wpAny_Name (wpAny_loadName_local I.ok.kind hk hn hm fin) hd
  · rcases hk with hk | hk
    · exact wpAny_Name (wpAny_loadName_cell I.ok.kind hk hc hcell fin) hd
    · exact wpAny_Name (wpAny_loadName_free I.ok.kind hk hc hcell fin hcd) hd
theorem pe_int {i j pos} : PE X (.Constant (.int i) j pos) (tC (.int i)) := fun _ _ _ H _ I h => wpAny_Constant_int ⟨.int i, H, I.tok _, ⟨_, rfl⟩, h⟩
theorem pe_bl {b j pos} : PE X (.Constant (.bool b) j pos) (tC (.bl b)) := fun _ _ _ H _ I h => Constant_bool ⟨.bl b, H, I, rfl, h⟩
theorem pe_non {j pos} : PE X (.Constant .none j pos) (tC .non) := fun _ _ _ H _ I h => Constant_none ⟨.non, H, I, rfl, h⟩
theorem pe_str {x j pos} : PE X (.Constant (.str x) j pos) (tC (.str x)) := fun _ _ _ H _ I h => Calls.Constant_str ⟨.str x, H, I.tok _, ⟨_, rfl⟩, h⟩
def Gl (X : Cx) (x : Str) : Prop := X.env.kindOf x = some .globalImplicit
theorem ld_glob {E : Value → Shared → Prop} {pins : List (Addr × Obj)} {s : Shared} {σ : St} {H : Hp} {x : Str} {u : Value} {pos : Pos} {Q : Value → Shared → Prop} (I : Inv X pins σ H s) (hg : Gl X x) (hm : X.mg x = some u) (h : Q u s)
    (hd : (x == ("__debug__" : Str)) = false := by decide) : wpAny (model X.prog X.w) X.A (eval (.Name x pos) X.env) Q E s :=
  Calls.Name_function_global I.ok.kind hg (Calls.loadGlobal_global (by rw [I.ok.glob]; exact I.mod.glob.keeps I.bk) hm h) hd
theorem ld_blt {E : Value → Shared → Prop} {pins : List (Addr × Obj)} {s : Shared} {σ : St} {H : Hp} {x : Str} {u : Value} {pos : Pos} {Q : Value → Shared → Prop} (I : Inv X pins σ H s) (hg : Gl X x) (hm : X.mg x = none) (hv : bootBuiltins x = some u) (h : Q u s)
    (hn : x ≠ "__name__" := by decide) (hd : (x == ("__debug__" : Str)) = false := by decide) : wpAny (model X.prog X.w) X.A (eval (.Name x pos) X.env) Q E s := by
  obtain ⟨mb, h1, h2⟩ := I.mod.blt
  exact Calls.Name_function_global I.ok.kind hg (Calls.loadGlobal_builtin (by rw [I.ok.glob]; exact I.mod.glob.keeps I.bk) hm (by rw [I.ok.blt]; exact h1.keeps I.bk) ((h2 x hn).trans hv) h) hd
theorem pe_glob {x : Str} {v : V} {u : Value} {pos : Pos} (hg : Gl X x) (hm : X.mg x = some u) (r : RelV v u) (hd : (x == ("__debug__" : Str)) = false := by decide) : PE X (.Name x pos) (tC v) :=
  fun _ _ _ H _ I h => ld_glob I hg hm ⟨v, H, I, r, h⟩ hd
theorem pe_bltn {x : Str} {v : V} {u : Value} {pos : Pos} (hg : Gl X x) (hm : X.mg x = none) (hv : bootBuiltins x = some u) (r : RelV v u) (hn : x ≠ "__name__" := by decide) (hd : (x == ("__debug__" : Str)) = false := by decide) : PE X (.Name x pos) (tC v) :=
  fun _ _ _ H _ I h => ld_blt I hg hm hv ⟨v, H, I, r, h⟩ hn hd
variable {a b : Expr} {ta tb : TE} {pos : Pos}
def PC (X : Cx) (op : CmpOp) (a b : Expr) (t : TE) : Prop :=
  ∀ (pins : List (Addr × Obj)) (s : Shared) (σ : St) (H : Hp) (Q : VK), Inv X pins σ H s → t σ H Q →
    wpAny (model X.prog X.w) X.A (eval a X.env) (fun v s₁ => wpAny (model X.prog X.w) X.A (eval b X.env) (fun u s₂ => wpAny (model X.prog X.w) X.A (compareOp op v u) (EP X pins σ Q) X.xe s₂) X.xe s₁) X.xe s
theorem nobehind (b : Expr) {op : CmpOp} (h : op ≠ .In) (h2 : op ≠ .NotIn) : behindInMarks op b = false := by
  have e1 : (op == CmpOp.In) = false := by cases op <;> first | rfl | exact absurd rfl h
  have e2 : (op == CmpOp.NotIn) = false := by cases op <;> first | rfl | exact absurd rfl h2
  cases b <;> simp [behindInMarks, e1, e2]
def tB (t : TE) : TT := fun σ H Q => t σ H fun x H1 => ∃ c, x = .bl c ∧ Q c H1
theorem pe_cmp {op : CmpOp} {t : TE} (h : PC X op a b t) (h1 : behindInMarks op b = false := by first | exact nobehind _ (by decide) (by decide) | rfl) : PE X (.Compare a [op] [b] pos) t := fun pins s σ H Q I hw => wpAny_Compare1 (h pins s σ H Q I hw) h1
theorem pt_cmp {op : CmpOp} {t : TE} (h : PC X op a b t) (h1 : behindInMarks op b = false := by first | exact nobehind _ (by decide) (by decide) | rfl) : PT X (.Compare a [op] [b] pos) (tB t) := by
  intro pins s σ H Q I hw
  refine wpAny_isTrue_Compare1 (thn (h pins s σ H _ I hw) fun v s1 h1 => thn h1 fun u s2 h2 => thn h2 fun c s3 ⟨x, H1, I1, r1, q1⟩ => ?_) h1
  obtain ⟨d, rfl, q⟩ := q1
  cases r1
  exact wpAny_truthy_bool ⟨H1, I1, q⟩
theorem pt_val {e : Expr} {t : TE} (h : PE X e t) (he : ∀ whole, isTrue e X.env whole = (do let v ← whole; standAt e.pos; holding [v] (truthy v)) := by intro _; rfl) : PT X e (tB t) := by
  intro pins s σ H Q I hw
  refine isTrue_plain (thn (h pins s σ H _ I hw) fun v s1 ⟨x, H1, I1, r1, q1⟩ => ?_) (he _)
  obtain ⟨d, rfl, q⟩ := q1
  cases r1
  exact wpAny_truthy_bool ⟨H1, I1, q⟩
variable {tA tB' : TT} {rest : List Expr}
def tAnd (t u : TT) : TT := fun σ H Q => t σ H fun c H1 => if c = true then u σ H1 Q else Q false H1
def tOr (t u : TT) : TT := fun σ H Q => t σ H fun c H1 => if c = true then Q true H1 else u σ H1 Q
def tNot (t : TT) : TT := fun σ H Q => t σ H fun c H1 => Q (!c) H1
theorem pw_and1 (ha : PT X a tA) : PW X (.BoolOp .And [a] pos) tA := by
  intro wh pins s σ H Q I h
  refine isTrue_and (thn (ha pins s σ H Q I h) fun c s1 e => ?_)
  cases c with
  | true => exact isTrue_and_nil e
  | false => exact e
theorem pw_or1 (ha : PT X a tA) : PW X (.BoolOp .Or [a] pos) tA := by
  intro wh pins s σ H Q I h
  refine isTrue_or (thn (ha pins s σ H Q I h) fun c s1 e => ?_)
  cases c with
  | false => exact isTrue_or_nil e
  | true => exact e
theorem pw_and (ha : PT X a tA) (hb : PW X (.BoolOp .And (b :: rest) pos) tB') : PW X (.BoolOp .And (a :: b :: rest) pos) (tAnd tA tB') := by
  intro wh pins s σ H Q I h
  refine isTrue_and (thn (ha pins s σ H _ I h) fun c s1 ⟨H1, I1, q1⟩ => ?_)
  cases c with
  | true => exact hb wh pins s1 σ H1 Q I1 q1
  | false => exact ⟨H1, I1, q1⟩
theorem pw_or (ha : PT X a tA) (hb : PW X (.BoolOp .Or (b :: rest) pos) tB') : PW X (.BoolOp .Or (a :: b :: rest) pos) (tOr tA tB') := by
  intro wh pins s σ H Q I h
  refine isTrue_or (thn (ha pins s σ H _ I h) fun c s1 ⟨H1, I1, q1⟩ => ?_)
  cases c with
  | true => exact ⟨H1, I1, q1⟩
  | false => exact hb wh pins s1 σ H1 Q I1 q1
theorem pt_not (ha : PT X a tA) : PT X (.UnaryOp .Not a pos) (tNot tA) := by
  intro pins s σ H Q I h
  exact isTrue_not (ha pins s σ H (fun c H1 => Q (!c) H1) I h)
def tAndV (ta tb : TE) : TE := fun σ H Q => ta σ H fun x H1 => ∃ c, x = .bl c ∧ if c = true then tb σ H1 Q else Q (.bl false) H1
def tNotV (ta : TE) : TE := fun σ H Q => ta σ H fun x H1 => ∃ c, x = .bl c ∧ Q (.bl (!c)) H1
theorem pe_one {op} {t : TE} (h : PE X a t) : PE X (.BoolOp op [a] pos) t := fun pins s σ H Q I hw => BoolOp_one (h pins s σ H Q I hw)
theorem pe_and (ha : PE X a ta) (hb : PE X (.BoolOp .And (b :: rest) pos) tb) : PE X (.BoolOp .And (a :: b :: rest) pos) (tAndV ta tb) := by
  intro pins s σ H Q I h
  refine BoolOp_and (thn (ha pins s σ H _ I h) fun v s1 ⟨x, H1, I1, r1, q1⟩ => ?_)
  obtain ⟨c, rfl, q1⟩ := q1
  cases r1
  refine wpAny_truthy_bool ?_
  cases c with
  | true => exact hb pins s1 σ H1 Q I1 q1
  | false => exact ⟨.bl false, H1, I1, rfl, q1⟩
theorem pe_not (ha : PE X a ta) : PE X (.UnaryOp .Not a pos) (tNotV ta) := by
  intro pins s σ H Q I h
  refine UnaryOp_ (thn (ha pins s σ H _ I h) fun v s1 ⟨x, H1, I1, r1, q1⟩ => ?_)
  obtain ⟨c, rfl, q1⟩ := q1
  cases r1
  exact not_of (wpAny_truthy_bool ⟨.bl (!c), H1, I1, rfl, q1⟩)
def tIf (t : TT) (ta tb : TE) : TE := fun σ H Q => t σ H fun c H1 => if c = true then ta σ H1 Q else tb σ H1 Q
theorem pe_ifExp {c : Expr} (hc : PT X c tA) (ha : PE X a ta) (hb : PE X b tb) : PE X (.IfExp c a b pos) (tIf tA ta tb) := by
  intro pins s σ H Q I h
  refine wpAny_IfExp (thn (hc pins s σ H _ I h) fun d s1 ⟨H1, I1, q1⟩ => ?_)
  cases d with
  | true => exact ha pins s1 σ H1 Q I1 q1
  | false => exact hb pins s1 σ H1 Q I1 q1
end
end L2
namespace L2
open PySem PySem.Spec PyProof.Rows
variable {q0 : Bool}
def SqL (K : PySem.W.Frag) (H : Hp) (a : Addr) (xs : List V) : Prop :=
  Rd H a (.lst xs) ∨
    ∃ (o : Obj) (its : Array Value) (n : Nat), K.lookup a = some o ∧ o.cls = .type "list" ∧ o.dict = none ∧ o.data = .seq its n ∧ its.size ≤ sizeLine ∧ Vals xs its.toList
def SqT (K : PySem.W.Frag) (H : Hp) (a : Addr) (xs : List V) : Prop :=
  Rd H a (.tup xs) ∨
    ∃ (o : Obj) (its : Array Value) (n : Nat), K.lookup a = some o ∧ o.cls = .type "tuple" ∧ o.data = .seq its n ∧ its.size ≤ sizeLine ∧ Vals xs its.toList
def absV : Value → Option V
  | .none => some .non
  | .bool b => some (.bl b)
  | .int i _ => some (.int i)
  | .str x _ => some (.str x)
  | .bytes b _ => some (.byt b)
  | .float b _ => some (.flt b)
  | .ref a => some (.ref a)
  | .type n => some (.ty n)
  | _ => none
theorem RelV.abs {x : V} {u : Value} (r : RelV x u) : absV u = some x := by
  cases x with
  | non => cases r; rfl
  | bl _ => cases r; rfl
  | int _ => obtain ⟨t, rfl⟩ := r; rfl
  | str _ => obtain ⟨t, rfl⟩ := r; rfl
  | byt _ => obtain ⟨t, rfl⟩ := r; rfl
  | flt _ => obtain ⟨t, rfl⟩ := r; rfl
  | ref _ => cases r; rfl
  | ty _ => cases r; rfl
theorem RelV.inj {x y : V} {u : Value} (r : RelV x u) (q : RelV y u) : x = y := Option.some.inj (r.abs.symm.trans q.abs)
theorem Vals.inj : ∀ {xs ys : List V} {us : List Value}, Vals xs us → Vals ys us → xs = ys
  | _, _, _, .nil, .nil => rfl
  | _, _, _, .cons r t, .cons r' t' => by rw [r.inj r', Vals.inj t t']
section
variable {X : Cx} {pins : List (Addr × Obj)} {σ : St} {H : Hp} {s : Shared} {a : Addr} {xs ys : List V}
theorem SqL.of {K : PySem.W.Frag} (h : H a = some (.lst xs)) : SqL K H a xs := .inl (.inl h)
theorem SqT.of {K : PySem.W.Frag} (h : H a = some (.tup xs)) : SqT K H a xs := .inl (.inl h)
theorem Inv.list (I : Inv X pins σ H s) (h : SqL X.K H a xs) : ∃ its : List Value, Vals xs its ∧ PlainL s.heap a its.toArray ∧ xs.length ≤ sizeLine := by
  rcases h with h | ⟨o, its, n, hk, hc, hd, hs, hz, r⟩
  · obtain ⟨z, its, n, r, e⟩ := h.ok I.hok
    exact ⟨its, r, ⟨_, n, e, rfl, rfl, rfl⟩, z⟩
  · refine ⟨its.toList, r, ⟨o, n, I.kIn a o hk, hc, hd, by simpa using hs⟩, ?_⟩
    have e := r.length
    simp only [Array.length_toList] at e
    omega
theorem Inv.tuple (I : Inv X pins σ H s) (h : SqT X.K H a xs) : ∃ its : List Value, Vals xs its ∧ IsTup s.heap a its.toArray ∧ xs.length ≤ sizeLine := by
  rcases h with h | ⟨o, its, n, hk, hc, hs, hz, r⟩
  · obtain ⟨z, its, r, p⟩ := h.ok I.hok
    exact ⟨its, r, p, z⟩
  · refine ⟨its.toList, r, ⟨o, I.kIn a o hk, hc, n, by simpa using hs⟩, ?_⟩
    have e := r.length
    simp only [Array.length_toList] at e
    omega
theorem Inv.list_inj (I : Inv X pins σ H s) (h : SqL X.K H a xs) (h' : SqL X.K H a ys) : xs = ys := by
  obtain ⟨its, r, ⟨o, n, e, _, _, d⟩, _⟩ := I.list h
  obtain ⟨its', r', ⟨o', n', e', _, _, d'⟩, _⟩ := I.list h'
  rw [e] at e'; cases e'
  rw [d] at d'
  injection d' with d1 _
  have : its = its' := by simpa using congrArg Array.toList d1
  subst this
  exact r.inj r'
theorem Inv.tuple_inj (I : Inv X pins σ H s) (h : SqT X.K H a xs) (h' : SqT X.K H a ys) : xs = ys := by
  obtain ⟨its, r, ⟨o, e, _, n, d⟩, _⟩ := I.tuple h
  obtain ⟨its', r', ⟨o', e', _, n', d'⟩, _⟩ := I.tuple h'
  rw [e] at e'; cases e'
  rw [d] at d'
  injection d' with d1 _
  have : its = its' := by simpa using congrArg Array.toList d1
  subst this
  exact r.inj r'
end
abbrev Cx.wish (X : Cx) (E : Value → Shared → Prop) : Cx := { X with xe := E }
abbrev Cx.nox (X : Cx) : Cx := X.wish fun _ _ => False
theorem Cx.Ok.wish {X : Cx} (ok : X.Ok) (E : Value → Shared → Prop) : (X.wish E).Ok :=
  ⟨ok.mod, ok.kind, ok.glob, ok.blt, ok.above, ok.inj, ok.has, ok.cab, ok.hd, ok.frames, ok.stk, ok.exf, ok.bs, ok.bsz, ok.noex, ok.exfs, ok.funs, ok.frf⟩
theorem Cx.Ok.unwish {X : Cx} {E : Value → Shared → Prop} (ok : (X.wish E).Ok) : X.Ok :=
  ⟨ok.mod, ok.kind, ok.glob, ok.blt, ok.above, ok.inj, ok.has, ok.cab, ok.hd, ok.frames, ok.stk, ok.exf, ok.bs, ok.bsz, ok.noex, ok.exfs, ok.funs, ok.frf⟩
section
variable {X : Cx} {pins : List (Addr × Obj)} {σ : St} {H : Hp} {s : Shared} {E : Value → Shared → Prop}
theorem Inv.wish (I : Inv X pins σ H s) (E : Value → Shared → Prop) : Inv (X.wish E) pins σ H s := ⟨I.ok.wish E, I.os, I.bare, I.base, I.loc, I.cell, I.free, I.freeC, I.pin, I.hok, I.len⟩
theorem Inv.unwish (I : Inv (X.wish E) pins σ H s) : Inv X pins σ H s := ⟨I.ok.unwish, I.os, I.bare, I.base, I.loc, I.cell, I.free, I.freeC, I.pin, I.hok, I.len⟩
theorem SP.unwish {D : Ends} {f : Flow} {s' : Shared} (h : SP (X.wish E) pins D f s') : SP X pins D f s' := by
  cases f with
  | next => obtain ⟨σ', H', I, q⟩ := h; exact ⟨σ', H', I.unwish, q⟩
  | brk => obtain ⟨σ', H', I, q⟩ := h; exact ⟨σ', H', I.unwish, q⟩
  | cont => obtain ⟨σ', H', I, q⟩ := h; exact ⟨σ', H', I.unwish, q⟩
  | ret u => obtain ⟨v, σ', H', I, r, q⟩ := h; exact ⟨v, σ', H', I.unwish, r, q⟩
theorem PSs.nox {st : List Stmt} {t : TS} (h : PSs X.nox st t) : PSs X st t := fun pins s σ H D I hw =>
  wpAny_mono (h pins s σ H D (I.wish _) hw) (fun _ _ q => q.unwish) fun _ _ z => False.elim z
end
section
variable {X : Cx} {st : Stmt} {rest : List Stmt} {t u : TS} {e : Expr} {te : TE} {pos : Pos}
def tNext : TS := fun D σ H => D.nx σ H
def tSeq (t u : TS) : TS := fun D σ H => t { D with nx := u D } σ H
theorem pss_nil : PSs X [] tNext := fun _ _ σ H _ I h => wpAny_execs_nil ⟨σ, H, I, h⟩
theorem pss_cons (h1 : PS X st t) (h2 : PSs X rest u) : PSs X (st :: rest) (tSeq t u) := by
  intro pins s σ H D I h
  refine wpAny_execs_cons (thn (h1 pins s σ H { D with nx := u D } I h) fun f s1 q => ?_)
  cases f with
  | next =>
    obtain ⟨σ', H', I', q⟩ := q
    exact h2 pins s1 σ' H' D I' q
  | ret v => exact q
  | brk => exact q
  | cont => exact q
theorem pss_one (h1 : PS X st t) : PSs X [st] t := by
  intro pins s σ H D I h
  refine wpAny_execs_cons (thn (h1 pins s σ H D I h) fun f s1 q => ?_)
  cases f with
  | next => exact wpAny_execs_nil q
  | ret v => exact q
  | brk => exact q
  | cont => exact q
theorem Inv.quiet {pins : List (Addr × Obj)} {σ : St} {H : Hp} {s : Shared} (I : Inv X pins σ H s) : interactive X.env = false := by simp [interactive, I.ok.kind]
def tDrop (te : TE) : TS := fun D σ H => te σ H fun _ H1 => D.nx σ H1
theorem ps_expr (he : PE X e te) (hs : swapsWith e none pos.line X.env = pure false := by rfl) : PS X (.Expr e pos) (tDrop te) := by
  intro pins s σ H D I h
  exact wpAny_Expr_any (thn (he pins s σ H _ I h) fun v s1 ⟨x, H1, I1, r1, q1⟩ => ⟨σ, H1, I1, q1⟩) I.quiet hs
def tRet (te : TE) : TS := fun D σ H => te σ H D.rt
theorem ps_ret (he : PE X e te) : PS X (.Return (some e) pos) (tRet te) := by
  intro pins s σ H D I h
  exact wpAny_Return_some (thn (he pins s σ H _ I h) fun v s1 ⟨x, H1, I1, r1, q1⟩ => ⟨x, σ, H1, I1, r1, q1⟩)
def tIfS (c : TT) (t u : TS) : TS := fun D σ H => c σ H fun b H1 => if b = true then t D σ H1 else u D σ H1
theorem ps_if {c : Expr} {a b : List Stmt} {tc : TT} (hc : PT X c tc) (ha : PSs X a t) (hb : PSs X b u) : PS X (.If c a b pos) (tIfS tc t u) := by
  intro pins s σ H D I h
  refine wpAny_If (thn (hc pins s σ H _ I h) fun d s1 ⟨H1, I1, q1⟩ => ?_)
  cases d with
  | true => exact ha pins s1 σ H1 D I1 q1
  | false => exact hb pins s1 σ H1 D I1 q1
def tNever : TS := fun _ _ _ => False
theorem ps_never : PS X st tNever := fun _ _ _ _ _ _ h => h.elim
end
abbrev TG := V → St → Hp → (St → Hp → Prop) → Prop
abbrev TGs := List V → St → Hp → (St → Hp → Prop) → Prop
def PG (X : Cx) (target : Expr) (t : TG) : Prop :=
  ∀ (pins : List (Addr × Obj)) (s : Shared) (σ : St) (H : Hp) (v : V) (u : Value) (Q : St → Hp → Prop), Inv X pins σ H s → RelV v u → t v σ H Q →
    wpAny (model X.prog X.w) X.A (assign target X.env u) (fun _ s' => ∃ σ' H', Inv X pins σ' H' s' ∧ Q σ' H') X.xe s
def PGs (X : Cx) (ts : List Expr) (t : TGs) : Prop :=
  ∀ (pins : List (Addr × Obj)) (s : Shared) (σ : St) (H : Hp) (vs : List V) (us : List Value) (Q : St → Hp → Prop), Inv X pins σ H s → Vals vs us → t vs σ H Q →
    wpAny (model X.prog X.w) X.A (assignInOrder ((assignEach ts X.env).map (·.2)) us) (fun _ s' => ∃ σ' H', Inv X pins σ' H' s' ∧ Q σ' H') X.xe s
abbrev TSet := V → V → V → Hp → (Hp → Prop) → Prop
def PSet (X : Cx) (t : TSet) : Prop :=
  ∀ (pins : List (Addr × Obj)) (s : Shared) (σ : St) (H : Hp) (o i v : V) (ov iv u : Value) (Q : Hp → Prop), Inv X pins σ H s → RelV o ov → RelV i iv → RelV v u → t o i v H Q →
    wpAny (model X.prog X.w) X.A (setItem ov iv u) (fun _ s' => ∃ H', Inv X pins σ H' s' ∧ Q H') X.xe s
section
variable {X : Cx} {pos : Pos}
def gName (i : Nat) : TG := fun v σ H Q => Q (σ.set i (some v)) H
theorem pg_name {i : Nat} {x : Str} (hN : X.N.Nodup) (hi : X.N[i]? = some x) (hx : Loc X.env.scope x) (hf : X.fn x = true ∨ X.env.scope.names.lookup x = some .local := by first | exact .inl rfl | exact .inr rfl | assumption) : PG X (.Name x pos) (gName i) := by
  intro pins s σ H v u Q I r h
  exact wpAny_assign_Name (store_ok I hN hi hx r (fun s' I' => ⟨_, H, I', h⟩) hf)
def gNil : TGs := fun vs σ H Q => vs = [] ∧ Q σ H
def gCons (t : TG) (u : TGs) : TGs := fun vs σ H Q => ∃ v r, vs = v :: r ∧ t v σ H fun σ' H' => u r σ' H' Q
theorem pgs_nil : PGs X [] gNil := by
  intro pins s σ H vs us Q I r h
  obtain ⟨e, h⟩ := h
  subst e
  cases r
  exact assignInOrder_nil ⟨σ, H, I, h⟩
theorem pgs_cons {e : Expr} {es : List Expr} {t : TG} {u : TGs} (h1 : PG X e t) (h2 : PGs X es u)
    (hs : (assignEach (e :: es) X.env).map (·.2) = assign e X.env :: (assignEach es X.env).map (·.2) := by rfl) : PGs X (e :: es) (gCons t u) := by
  intro pins s σ H vs us Q I r h
  obtain ⟨v, vr, e1, h⟩ := h
  subst e1
  cases r with
  | cons r rr =>
    rw [hs]
    refine assignInOrder_cons (thn (h1 pins s σ H _ _ _ I r h) fun _ s1 ⟨σ1, H1, I1, q1⟩ => ?_)
    exact h2 pins s1 σ1 H1 _ _ Q I1 rr q1
def gTup (K : PySem.W.Frag) (n : Nat) (t : TGs) : TG := fun v σ H Q => ∃ a xs, v = .ref a ∧ SqT K H a xs ∧ xs.length = n ∧ t xs σ H Q
theorem pg_tup {es : List Expr} {k : Nat} {t : TGs} {n : Nat} (hc : X.calm = true) (h : PGs X es t)
    (hn : (assignEach es X.env).length = n := by rfl) (hst : (assignEach es X.env).findIdx? (·.1) = none := by rfl) : PG X (.Tuple es k pos) (gTup X.K n t) := by
  intro pins s σ H v u Q I r hw
  obtain ⟨a, xs, e1, hq, hl, hw⟩ := hw
  subst e1
  cases r
  obtain ⟨its, rv, ht, hz⟩ := I.tuple hq
  refine assign_Tuple_tuple (I.ok.hd hc) ht (by simp [hn, ← hl, rv.length]) hst fun h' hx => ?_
  have I1 : Inv X pins σ H { s with heap := h' } := I.kept (t' := s.toks) fun b o e => hx b o (Nat.ne_of_lt (Heap.lt_size e)) e
  exact h pins _ σ H xs _ Q I1 (by simpa using rv) hw
def gSub (to ti : TE) (t : TSet) : TG := fun v σ H Q => to σ H fun o H1 => ti σ H1 fun i H2 => t o i v H2 fun H3 => Q σ H3
theorem pg_sub {o i : Expr} {to ti : TE} {t : TSet} (ho : PE X o to) (hi : PE X i ti) (hs : PSet X t)
    (ha : ∀ v, assign (.Subscript o i pos) X.env v = (do
      let ov ← holding [v] (eval o X.env)
      let iv ← holding [v, ov] (eval i X.env)
      standAt pos
      holding [v, ov, iv] (setItem ov iv v)
      release [v, ov, iv] []) := by intro _; rfl) : PG X (.Subscript o i pos) (gSub to ti t) := by
  intro pins s σ H v u Q I r h
  rw [ha]
  refine wpAny_bind (wpAny_holding (thn (ho pins s σ H _ I h) fun ov s1 ⟨x, H1, I1, r1, q1⟩ => ?_))
  refine wpAny_bind (wpAny_holding (thn (hi pins s1 σ H1 _ I1 q1) fun iv s2 ⟨y, H2, I2, r2, q2⟩ => ?_))
  refine wpAny_bind (wpAny_standAt (wpAny_bind (wpAny_holding (thn (hs pins s2 σ H2 x y v ov iv u _ I2 r1 r2 r q2) fun _ s3 ⟨H3, I3, q3⟩ => ?_))))
  exact wpAny_release ⟨σ, H3, I3, q3⟩
def tAsg (te : TE) (g : TG) : TS := fun D σ H => te σ H fun x H1 => g x σ H1 D.nx
theorem ps_asg {tg e : Expr} {te : TE} {g : TG} (he : PE X e te) (hg : PG X tg g) (hs : swapsWithSole [tg] e pos.line X.env = pure false := by rfl) (hw : swappedStores [tg] e X.env = pure none := by rfl)
    (h1 : (assignEach [tg] X.env).map (·.2) = [assign tg X.env] := by rfl) : PS X (.Assign [tg] e pos) (tAsg te g) := by
  intro pins s σ H D I h
  refine wpAny_Assign_stores (thn (he pins s σ H _ I h) fun v s1 ⟨x, H1, I1, r1, q1⟩ => ?_) hs hw
  rw [h1]
  exact thn (hg pins s1 σ H1 x v _ I1 r1 q1) fun _ s2 q => q
theorem ps_set {i : Nat} {x : Str} {e : Expr} {te : TE} {pos' : Pos} (hN : X.N.Nodup) (hi : X.N[i]? = some x) (hx : Loc X.env.scope x) (he : PE X e te) (hs : swapsWith e (some (.Name x pos')) pos.line X.env = pure false := by rfl) (hf : X.fn x = true ∨ X.env.scope.names.lookup x = some .local := by first | exact .inl rfl | exact .inr rfl | assumption) :
    PS X (.Assign [.Name x pos'] e pos) (tAsg te (gName i)) := by
  intro pins s σ H D I h
  refine wpAny_Assign_Name (thn (he pins s σ H _ I h) fun v s1 ⟨y, H1, I1, r1, q1⟩ => ?_) hs
  exact store_ok I1 hN hi hx r1 (fun s2 I2 => ⟨_, H1, I2, q1⟩) hf
end
section
variable {X : Cx} {pos : Pos}
end
structure It where
  go : Nat → Hp → Prop
  yld : Nat → Hp → V → Hp → Prop
  stop : Nat → Hp → Prop
def FpOk (X : Cx) (pins : List (Addr × Obj)) (H : Hp) (b : Addr) : Prop :=
  H b = none ∧ b ≠ X.env.locals ∧ b ∉ X.fs ∧ (b ∈ X.ex ∨ X.s₀.heap.objs.size ≤ b) ∧ (∀ x c, X.env.cells.lookup x = some c → c ≠ b) ∧ ∀ p ∈ X.pn ++ pins, p.1 ≠ b
theorem Inv.fpOk {X : Cx} {pins : List (Addr × Obj)} {σ : St} {H H' : Hp} {s : Shared} {b : Addr} (I : Inv X pins σ H s) (hb : s.heap.objs.size ≤ b) (hn : H' b = none) : FpOk X pins H' b := by
  refine ⟨hn, Nat.ne_of_gt (Nat.lt_of_lt_of_le I.lt hb), I.nofs hb, .inr (Nat.le_trans I.sz hb), fun x c e z => ?_, fun p hp z => ?_⟩
  · obtain ⟨v, q⟩ := I.cell x c e
    exact absurd (Nat.lt_of_lt_of_le q.lt (by rw [z]; exact hb)) (Nat.lt_irrefl _)
  · exact absurd (Nat.lt_of_lt_of_le (Heap.lt_size (I.pin p hp).1) (by rw [z]; exact hb)) (Nat.lt_irrefl _)
structure Turn (P : Program) (w : World) (K : PySem.W.Frag) (tg : Expr) (J : It) (fp : List Addr) (it : Addr) (tn : Nat → Heap → Prop) : Prop where
  mem : it ∈ fp
  obj : ∀ i h, tn i h → ∀ b ∈ fp, ∃ o, h.get? b = some o ∧ ∀ v, o.data ≠ .cell v
  keep : ∀ i h h', tn i h → (∀ b ∈ fp, ∀ o, h.get? b = some o → h'.get? b = some o) → tn i h'
  item : ∀ (X : Cx), X.prog = P → X.w = w → X.K = K → X.calm = true → ∀ (i : Nat) (pins : List (Addr × Obj)) (s : Shared) (σ : St) (H : Hp) (E : Value → Shared → Prop), Inv X pins σ H s → (∀ b ∈ fp, FpOk X pins H b) → tn i s.heap → J.go i H →
    wpAny (model P w) X.A (pyNext (.ref it)) (fun r s1 => ∃ u, r = some u ∧
      wpAny (model P w) X.A (letOwnedTupleGo tg (.ref it) u) (fun _ s2 => ∃ x H', Inv X pins σ H' s2 ∧ RelV x u ∧ J.yld i H x H' ∧ tn (i + 1) s2.heap ∧ ∀ b ∈ fp, H' b = none) E s1) E s
  done : ∀ (X : Cx), X.prog = P → X.w = w → X.K = K → X.calm = true → ∀ (i : Nat) (pins : List (Addr × Obj)) (s : Shared) (σ : St) (H : Hp) (E : Value → Shared → Prop), Inv X pins σ H s → (∀ b ∈ fp, FpOk X pins H b) → tn i s.heap → J.stop i H →
    wpAny (model P w) X.A (pyNext (.ref it)) (fun r s1 => r = none ∧ Inv X pins σ H s1) E s
  self : ∀ (A : Around) (i : Nat) (s : Shared) (Q : Value → Shared → Prop) (E : Value → Shared → Prop), tn i s.heap → Q (.ref it) s → wpAny (model P w) A (pyIter (.ref it)) Q E s
abbrev TI := St → Hp → (It → Hp → Prop) → Prop
def PIE (X : Cx) (pins : List (Addr × Obj)) (σ : St) (tg : Expr) (R : It → Hp → Prop) (itv : Value) (s2 : Shared) : Prop :=
  ∃ (it : Addr) (fp : List Addr) (tn : Nat → Heap → Prop) (J : It) (H' : Hp), itv = .ref it ∧ Inv X pins σ H' s2 ∧ Turn X.prog X.w X.K tg J fp it tn ∧ tn 0 s2.heap ∧ (∀ b ∈ fp, FpOk X pins H' b) ∧ R J H'
def PI (X : Cx) (tg iter : Expr) (wi : TI) : Prop :=
  ∀ (pins : List (Addr × Obj)) (s : Shared) (σ : St) (H : Hp) (R : It → Hp → Prop), Inv X pins σ H s → wi σ H R →
    wpAny (model X.prog X.w) X.A (eval iter X.env) (fun v s1 => wpAny (model X.prog X.w) X.A (pyIter v) (PIE X pins σ tg R) X.xe s1) X.xe s
theorem go_of {M : Model} {A : Around} {E : Value → Shared → Prop} {s : Shared} {tg : Expr} {it : Addr} {u : Value} {o : Obj} {n : String} {vs : Array Value} {Q : Unit → Shared → Prop} (ho : s.heap.get? it = some o) (hc : o.cls = .type n) (hd : o.data = .fields vs)
    (hn : ["enumerate", "zip", "dict_itemiterator", "dict_reverseitemiterator", "odict_iterator", "itertools.zip_longest", "itertools.pairwise"].contains n = false) (hQ : Q () s) : wpAny M A (letOwnedTupleGo tg (.ref it) u) Q E s := by
  unfold letOwnedTupleGo
  cases tg <;> first
    | exact wpAny_pure hQ
    | (cases u <;> first
        | exact wpAny_pure hQ
        | (refine wpAny_bind (wpAny_load ho ?_)
           rw [hc, hd]
           show wpAny M A (if (["enumerate", "zip", "dict_itemiterator", "dict_reverseitemiterator", "odict_iterator", "itertools.zip_longest", "itertools.pairwise"].contains n && vs[0]? == some (rawInt _)) = true then _ else _) Q E s
           rw [if_neg (by intro h; rw [hn, Bool.false_and] at h; cases h)]
           exact wpAny_pure hQ))
def Itl (K : PySem.W.Frag) (a : Addr) : It :=
  ⟨fun i H => ∃ xs x, SqL K H a xs ∧ xs[i]? = some x, fun i H x H' => H' = H ∧ ∀ xs, SqL K H a xs → xs[i]? = some x, fun i H => ∃ xs, SqL K H a xs ∧ xs.length ≤ i⟩
def Itr (lo : Int) (n : Nat) : It := ⟨fun i _ => i < n, fun i H x H' => H' = H ∧ x = .int (lo + i), fun i _ => n ≤ i⟩
theorem turn_list {P : Program} {w : World} {K : PySem.W.Frag} {tg : Expr} (a it : Addr) : Turn P w K tg (Itl K a) [it] it (fun i h => h.IsListIter it a i) where
  mem := by simp
  obj := fun i h st b hb => by
    have e : b = it := by simpa using hb
    subst e
    obtain ⟨o, e, c, d⟩ := st
    exact ⟨o, e, fun v z => by rw [d] at z; cases z⟩
  keep := fun i h h' st k => st.at fun o e => k it (by simp) o e
  item := by
    intro X hP hw hK hc i pins s σ H E I hf st hg
    subst hP hw hK
    obtain ⟨xs, x, hq, hx⟩ := hg
    obtain ⟨its, rv, p, hz⟩ := I.list hq
    obtain ⟨u, hu, ru⟩ := rv.get hx
    obtain ⟨f0, f1, f2, f3, f4, f5⟩ := hf it (by simp)
    refine wpAny_pyNext_list_item st p.isList (x := u) (by simpa using hu) fun h' st' sb => ?_
    have I1 : Inv X pins σ H { s with heap := h' } := I.turned (t' := s.toks) (fun b o hb e => (sb.2 b hb).trans e) f0 f1 f3 f4 f5
    obtain ⟨o, e, c, d⟩ := id st'
    exact ⟨u, rfl, go_of (s := { s with heap := h' }) e c d (by decide) ⟨x, H, I1, ru, ⟨rfl, fun ys hy => by rw [I.list_inj hy hq]; exact hx⟩, st', fun b hb => (hf b hb).1⟩⟩
  done := by
    intro X hP hw hK hc i pins s σ H E I hf st hg
    subst hP hw hK
    obtain ⟨xs, hq, hx⟩ := hg
    obtain ⟨its, rv, p, hz⟩ := I.list hq
    obtain ⟨f0, f1, f2, f3, f4, f5⟩ := hf it (by simp)
    have hl := rv.length
    exact wpAny_pyNext_list_end (I.ok.hd hc) st p.isList (by simp; omega) fun h' eb => ⟨rfl, I.turned (t' := s.toks) (fun b o hb e => eb b o hb e) f0 f1 f3 f4 f5⟩
  self := fun _ _ _ _ _ st h => wpAny_pyIter_listiter st h
theorem turn_range {P : Program} {w : World} {K : PySem.W.Frag} {tg : Expr} (it : Addr) (lo : Int) (n : Nat) : Turn P w K tg (Itr lo n) [it] it (fun i h => IsRangeIter h it (lo + (i : Nat) * 1) ((n : Int) - (i : Nat)) 1) where
  mem := by simp
  obj := fun i h st b hb => by
    have e : b = it := by simpa using hb
    subst e
    exact ⟨_, st, fun v z => by
      have z' : Data.fields _ = Data.cell v := z
      cases z'⟩
  keep := fun i h h' st k => k it (by simp) _ st
  item := by
    intro X hP hw hK hc i pins s σ H E I hf st hg
    subst hP hw hK
    obtain ⟨f0, f1, f2, f3, f4, f5⟩ := hf it (by simp)
    have W := Walks.range (prog := X.prog) (w := X.w) (I.ok.hd hc) it lo 1 n
    refine W.item i s _ _ hg st fun v h' tk hv st' kk => ?_
    obtain ⟨t, rfl⟩ := hv
    have I1 : Inv X pins σ H { s with heap := h', toks := tk } := I.turned (fun b o hb e => kk b o (by simpa using hb) e) f0 f1 f3 f4 f5
    refine ⟨_, rfl, go_of (s := { s with heap := h', toks := tk }) (n := "range_iterator") st' rfl rfl (by decide) ⟨.int (lo + i), H, I1, ⟨t, ?_⟩, ⟨rfl, rfl⟩, st', fun b hb => (hf b hb).1⟩⟩
    rw [Int.mul_one]
  done := by
    intro X hP hw hK hc i pins s σ H E I hf st hg
    subst hP hw hK
    obtain ⟨f0, f1, f2, f3, f4, f5⟩ := hf it (by simp)
    exact wpAny_pyNext_range_end (I.ok.hd hc) st (by have : n ≤ i := hg; omega) fun h' eb => ⟨rfl, I.turned (t' := s.toks) (fun b o hb e => eb b o hb e) f0 f1 f3 f4 f5⟩
  self := fun _ _ _ _ _ st h => wpAny_pyIter_rangeiter st h
end L2
namespace L2
open PySem PySem.Spec PyProof.Rows
variable {q0 : Bool}
section
variable {X : Cx} {tg : Expr}
def iList (K : PySem.W.Frag) (tl : TE) : TI := fun σ H R => tl σ H fun x H1 => ∃ a, x = .ref a ∧ (∃ xs, SqL K H1 a xs) ∧ R (Itl K a) H1
theorem pi_list {l : Expr} {tl : TE} (hl : PE X l tl) : PI X tg l (iList X.K tl) := by
  intro pins s σ H R I h
  refine thn (hl pins s σ H _ I h) fun v s1 ⟨x, H1, I1, r1, q1⟩ => ?_
  obtain ⟨a, e, ⟨xs, hq⟩, q⟩ := q1
  subst e
  cases r1
  obtain ⟨its, rv, p, hz⟩ := I1.list hq
  refine wpAny_pyIter_list p.isList ?_
  refine ⟨s1.heap.objs.size, [s1.heap.objs.size], _, _, H1, rfl, I1.kept (t' := s1.toks) fun b o e => Heap.get?_push_of_some _ e, turn_list a _, ⟨_, Heap.get?_push_size _ rfl, rfl, rfl⟩, fun b hb => ?_, q⟩
  have e : b = s1.heap.objs.size := by simpa using hb
  subst e
  exact I1.fpOk (Nat.le_refl _) (I1.hok.fresh (Nat.le_refl _))
theorem range_it {pins : List (Addr × Obj)} {σ : St} {H : Hp} {s : Shared} {R : It → Hp → Prop} {E : Value → Shared → Prop} {lo hi : Int} {t u v : Tok} {tk : Nat} (I : Inv X pins σ H s) (h1 : -(2 ^ 62) ≤ lo) (h2 : lo < 2 ^ 62) (h3 : -(2 ^ 62) ≤ hi) (h4 : hi < 2 ^ 62)
    (q : R (Itr lo (hi - lo).toNat) H) : wpAny (model X.prog X.w) X.A (pyIter (.ref s.heap.objs.size)) (PIE X pins σ tg R) E { s with heap := s.heap.push { cls := .type "range", data := .fields #[.int lo t, .int hi u, .int 1 v] }, toks := tk } := by
  refine wpAny_pyIter_range (IsRange.new ..) (small_one h1 h2 h3 h4) ?_
  have I1 : Inv X pins σ H { s with heap := s.heap.push { cls := .type "range", data := .fields #[.int lo t, .int hi u, .int 1 v] }, toks := tk } := I.kept fun b o e => Heap.get?_push_of_some _ e
  refine ⟨(s.heap.push { cls := .type "range", data := .fields #[.int lo t, .int hi u, .int 1 v] }).objs.size, [(s.heap.push { cls := .type "range", data := .fields #[.int lo t, .int hi u, .int 1 v] }).objs.size], _, _, H, rfl,
    I1.kept (t' := tk) fun b o e => Heap.get?_push_of_some _ e, turn_range _ lo (hi - lo).toNat, ?_, fun b hb => ?_, q⟩
  · have e1 : lo + ((0 : Nat) : Int) * 1 = lo := by simp
    have e2 : (((hi - lo).toNat : Nat) : Int) - ((0 : Nat) : Int) = Builtin.Range.rangeSize lo hi 1 := by rw [rangeSize_one]; split <;> omega
    show IsRangeIter _ _ (lo + ((0 : Nat) : Int) * 1) ((((hi - lo).toNat : Nat) : Int) - ((0 : Nat) : Int)) 1
    rw [e1, e2]
    exact Heap.get?_push_size _ rfl
  · have e : b = (s.heap.push { cls := .type "range", data := .fields #[.int lo t, .int hi u, .int 1 v] }).objs.size := by simpa using hb
    subst e
    exact I1.fpOk (Nat.le_refl _) (I1.hok.fresh (Nat.le_refl _))
def iRng1 (ta : TA) : TI := fun σ H R => ta σ H fun vs H1 => ∃ j : Int, vs = [.int j] ∧ -(2 ^ 62) ≤ j ∧ j < 2 ^ 62 ∧ R (Itr 0 j.toNat) H1
def iRng2 (ta : TA) : TI := fun σ H R => ta σ H fun vs H1 => ∃ i j : Int, vs = [.int i, .int j] ∧ (-(2 ^ 62) ≤ i ∧ i < 2 ^ 62 ∧ -(2 ^ 62) ≤ j ∧ j < 2 ^ 62) ∧ R (Itr i (j - i).toNat) H1
theorem pi_range1 {a : Expr} {ta : TA} {p pos : Pos} (hg : Gl X "range") (hm : X.mg "range" = none) (ha : PA X [a] ta) (hs : starEach [a] X.env = [(false, eval a X.env)] := by rfl) : PI X tg (.Call (.Name "range" p) [a] [] pos) (iRng1 ta) := by
  intro pins s σ H R I h
  refine Call_ (ld_blt I hg hm boot_range (PyProof.Rows.callWith_type1 (thn (ha pos pins s σ H _ I h) fun us s1 ⟨vs, H1, I1, r1, q1⟩ => ?_) hs rfl))
  obtain ⟨j, e, q1, q2, q⟩ := q1
  subst e
  cases r1 with
  | cons r rr =>
    cases rr
    obtain ⟨t, rfl⟩ := r
    exact call_range_1 (range_it I1 (by omega) (by omega) q1 q2 (by simpa using q))
theorem pi_range2 {a b : Expr} {ta : TA} {p pos : Pos} (hg : Gl X "range") (hm : X.mg "range" = none) (ha : PA X [a, b] ta) (hs : starEach [a, b] X.env = [(false, eval a X.env), (false, eval b X.env)] := by rfl) (hs2 : starEach [b] X.env = [(false, eval b X.env)] := by rfl) :
    PI X tg (.Call (.Name "range" p) [a, b] [] pos) (iRng2 ta) := by
  intro pins s σ H R I h
  refine Call_ (ld_blt I hg hm boot_range (PyProof.Rows.callWith_type1 (thn (ha pos pins s σ H _ I h) fun us s1 ⟨vs, H1, I1, r1, q1⟩ => ?_) (by rw [hs, hs2]) (by rw [hs2]; rfl)))
  obtain ⟨i, j, e, ⟨q1, q2, q3, q4⟩, q⟩ := q1
  subst e
  cases r1 with
  | cons r rr =>
    cases rr with
    | cons r' rr =>
      cases rr
      obtain ⟨t, rfl⟩ := r
      obtain ⟨t', rfl⟩ := r'
      exact call_range_2 (range_it I1 q1 q2 q3 q4 q)
def tFor (wi : TI) (g : TG) (tb : TS) : TS := fun D σ H => wi σ H fun J H1 => ∃ W : Nat → Nat → St → Hp → Prop, (∃ m, W 0 m σ H1) ∧ ∀ i m σ H, W i m σ H →
  (J.stop i H ∧ D.nx σ H) ∨ (J.go i H ∧ ∃ N : St → Hp → Prop, (∀ σ' H', N σ' H' → ∃ m', m' < m ∧ W (i + 1) m' σ' H') ∧ ∀ x H', J.yld i H x H' → g x σ H' fun σ2 H2 => tb { D with nx := N, ct := N, bk := D.nx } σ2 H2)
def pinsAt (fp : List Addr) (h : Heap) : List (Addr × Obj) := fp.filterMap fun b => (h.get? b).map fun o => (b, o)
theorem mem_pinsAt {fp : List Addr} {h : Heap} {b : Addr} {o : Obj} (hb : b ∈ fp) (e : h.get? b = some o) : (b, o) ∈ pinsAt fp h := List.mem_filterMap.mpr ⟨b, hb, by rw [e]; rfl⟩
theorem of_pinsAt {fp : List Addr} {h : Heap} {p : Addr × Obj} (hp : p ∈ pinsAt fp h) : p.1 ∈ fp ∧ h.get? p.1 = some p.2 := by
  obtain ⟨b, hb, e⟩ := List.mem_filterMap.mp hp
  cases q : h.get? b with
  | none => rw [q] at e; cases e
  | some o =>
    rw [q] at e
    have e' : (b, o) = p := Option.some.inj e
    subst e'
    exact ⟨hb, q⟩
theorem Inv.pinned {pins : List (Addr × Obj)} {σ : St} {H : Hp} {s : Shared} {fp : List Addr} (I : Inv X pins σ H s) (hf : ∀ b ∈ fp, FpOk X pins H b) (ho : ∀ b ∈ fp, ∃ o, s.heap.get? b = some o ∧ ∀ v, o.data ≠ .cell v) : Inv X (pins ++ pinsAt fp s.heap) σ H s :=
  I.pins_of fun p hp => (List.mem_append.mp hp).elim (fun z => I.pin p (List.mem_append_right _ z)) fun z => by
    obtain ⟨hb, e⟩ := of_pinsAt z
    obtain ⟨f0, f1, f2, _⟩ := hf p.1 hb
    obtain ⟨o, e', d⟩ := ho p.1 hb
    rw [e] at e'; cases e'
    exact ⟨e, f0, f1, f2, d⟩
theorem Inv.unpinned {pins pl : List (Addr × Obj)} {σ : St} {H : Hp} {s : Shared} (I : Inv X (pins ++ pl) σ H s) : Inv X pins σ H s := I.pins_of fun p hp => I.pin p (List.mem_append_right _ (List.mem_append_left _ hp))
theorem ps_for {iter : Expr} {body : List Stmt} {wi : TI} {g : TG} {tb : TS} {pos : Pos} (hp : PassesOwn (model X.prog X.w) X.A X.env X.xe) (hc : X.calm = true) (hi : PI X tg iter wi) (hg : PG X tg g) (hb : PSs X body tb)
    (hs : ∀ x, foldedSetIterable iter X.env x = pure x := by intro _; rfl) : PS X (.For tg iter body [] pos) (tFor wi g tb) := by
  intro pins s σ H D I h
  refine wpAny_For (thn (hi pins s σ H _ I h) fun v s1 h1 => thn h1 fun itv s2 h2 => ?_) hs
  obtain ⟨it, fp, tn, J, H2, e, I2, T, st2, f2, W, ⟨m0, w0⟩, turn⟩ := h2
  subst e
  -- what stays true of the iterator's objects through the loop
  have stat : ∀ {H' : Hp}, (∀ b ∈ fp, H' b = none) → ∀ b ∈ fp, FpOk X pins H' b := fun hn b hb => ⟨hn b hb, (f2 b hb).2⟩
  refine codeAny_forLoop_any (fun n s' => ∃ i σ' H', Inv X pins σ' H' s' ∧ tn i s'.heap ∧ (∀ b ∈ fp, H' b = none) ∧ W i n σ' H') ?_ m0 ⟨0, σ, H2, I2, st2, fun b hb => (f2 b hb).1, w0⟩
  rintro n s3 ⟨i, σ3, H3, I3, st3, fr3, w3⟩
  rcases turn i n σ3 H3 w3 with ⟨stop, qn⟩ | ⟨go, N, hN, step⟩
  · refine wpAny_passesOwn hp (thn (T.done X rfl rfl rfl hc i pins s3 σ3 H3 X.xe I3 (stat fr3) st3 stop) fun r s4 ⟨hr, I4⟩ => ?_)
    subst hr
    exact wpAny_execs_nil ⟨σ3, H3, I4, qn⟩
  · refine wpAny_passesOwn hp (thn (T.item X rfl rfl rfl hc i pins s3 σ3 H3 X.xe I3 (stat fr3) st3 go) fun r s4 ⟨u, hr, h4⟩ => ?_)
    subst hr
    refine wpAny_passesOwn hp (thn h4 fun _ s5 ⟨x, H5, I5, r5, y5, st5, fr5⟩ => ?_)
    have I5' := I5.pinned (stat fr5) (T.obj _ _ st5)
    refine wpAny_passesOwn hp (thn (hg _ s5 σ3 H5 x u _ I5' r5 (step x H5 y5)) fun _ s6 ⟨σ6, H6, I6, q6⟩ => ?_)
    refine wpAny_passesOwn hp (thn (hb _ s6 σ6 H6 _ I6 q6) fun f s7 q7 => ?_)
    have again : ∀ {σ7 : St} {H7 : Hp}, Inv X (pins ++ pinsAt fp s5.heap) σ7 H7 s7 → N σ7 H7 → ∃ m, m < n ∧ ∃ i σ' H', Inv X pins σ' H' s7 ∧ tn i s7.heap ∧ (∀ b ∈ fp, H' b = none) ∧ W i m σ' H' := fun {σ7 H7} I7 n7 => by
      obtain ⟨m', hm, w7⟩ := hN σ7 H7 n7
      refine ⟨m', hm, i + 1, σ7, H7, I7.unpinned, T.keep _ _ _ st5 fun b hb o e => (I7.pin (b, o) (List.mem_append_right _ (List.mem_append_right _ (mem_pinsAt hb e)))).1, fun b hb => ?_, w7⟩
      obtain ⟨o, e, d⟩ := T.obj _ _ st5 b hb
      exact (I7.pin (b, o) (List.mem_append_right _ (List.mem_append_right _ (mem_pinsAt hb e)))).2.1
    cases f with
    | next => obtain ⟨σ7, H7, I7, n7⟩ := q7; exact again I7 n7
    | cont => obtain ⟨σ7, H7, I7, n7⟩ := q7; exact again I7 n7
    | brk => obtain ⟨σ7, H7, I7, q7⟩ := q7; exact ⟨σ7, H7, I7.unpinned, q7⟩
    | ret v => obtain ⟨x7, σ7, H7, I7, r7, q7⟩ := q7; exact ⟨x7, σ7, H7, I7.unpinned, r7, q7⟩
end
theorem for_list {K : PySem.W.Frag} {a : Addr} {xs : List V} {g : TG} {tb : TS} {D : Ends} {σ : St} {H : Hp} (Pv : Nat → St → Hp → Prop) (h0 : Pv 0 σ H) (hl : ∀ i σ H, i ≤ xs.length → Pv i σ H → SqL K H a xs)
    (hs : ∀ i x σ H, xs[i]? = some x → Pv i σ H → g x σ H fun σ2 H2 => tb { D with nx := Pv (i + 1), ct := Pv (i + 1), bk := D.nx } σ2 H2) (hd : ∀ σ H, Pv xs.length σ H → D.nx σ H) :
    ∃ W : Nat → Nat → St → Hp → Prop, (∃ m, W 0 m σ H) ∧ ∀ i m σ H, W i m σ H →
      ((Itl K a).stop i H ∧ D.nx σ H) ∨ ((Itl K a).go i H ∧ ∃ N : St → Hp → Prop, (∀ σ' H', N σ' H' → ∃ m', m' < m ∧ W (i + 1) m' σ' H') ∧ ∀ x H', (Itl K a).yld i H x H' → g x σ H' fun σ2 H2 => tb { D with nx := N, ct := N, bk := D.nx } σ2 H2) := by
  refine ⟨fun i m σ H => m = xs.length - i ∧ i ≤ xs.length ∧ Pv i σ H, ⟨xs.length, by simp, Nat.zero_le _, h0⟩, ?_⟩
  rintro i m σ H ⟨rfl, hi, p⟩
  have q := hl i σ H hi p
  by_cases hlt : i < xs.length
  · refine .inr ⟨⟨xs, xs[i], q, by simp [hlt]⟩, Pv (i + 1), fun σ' H' p' => ⟨xs.length - (i + 1), by omega, rfl, hlt, p'⟩, fun x H' y => ?_⟩
    obtain ⟨e, y⟩ := y
    subst e
    exact hs i x σ _ (y xs q) p
  · have e : i = xs.length := by omega
    subst e
    exact .inl ⟨⟨xs, q, Nat.le_refl _⟩, hd σ H p⟩
theorem for_range {lo : Int} {n : Nat} {g : TG} {tb : TS} {D : Ends} {σ : St} {H : Hp} (Pv : Nat → St → Hp → Prop) (h0 : Pv 0 σ H)
    (hs : ∀ i σ H, i < n → Pv i σ H → g (.int (lo + i)) σ H fun σ2 H2 => tb { D with nx := Pv (i + 1), ct := Pv (i + 1), bk := D.nx } σ2 H2) (hd : ∀ σ H, Pv n σ H → D.nx σ H) :
    ∃ W : Nat → Nat → St → Hp → Prop, (∃ m, W 0 m σ H) ∧ ∀ i m σ H, W i m σ H →
      ((Itr lo n).stop i H ∧ D.nx σ H) ∨ ((Itr lo n).go i H ∧ ∃ N : St → Hp → Prop, (∀ σ' H', N σ' H' → ∃ m', m' < m ∧ W (i + 1) m' σ' H') ∧ ∀ x H', (Itr lo n).yld i H x H' → g x σ H' fun σ2 H2 => tb { D with nx := N, ct := N, bk := D.nx } σ2 H2) := by
  refine ⟨fun i m σ H => m = n - i ∧ i ≤ n ∧ Pv i σ H, ⟨n, by simp, Nat.zero_le _, h0⟩, ?_⟩
  rintro i m σ H ⟨rfl, hi, p⟩
  by_cases hlt : i < n
  · refine .inr ⟨hlt, Pv (i + 1), fun σ' H' p' => ⟨n - (i + 1), by omega, rfl, hlt, p'⟩, fun x H' y => ?_⟩
    obtain ⟨e, y⟩ := y
    subst e y
    exact hs i σ _ hlt p
  · have e : i = n := by omega
    subst e
    exact .inl ⟨Nat.le_refl _, hd σ H p⟩
end L2
namespace L2
open PySem PySem.Spec PyProof.Rows
variable {q0 : Bool}
abbrev R2 := V → V → Hp → VK → Prop
def OpR (X : Cx) (f : Value → Value → Sem Value) (r : R2) : Prop :=
  ∀ (pins : List (Addr × Obj)) (s : Shared) (σ : St) (H : Hp) (x y : V) (v u : Value) (Q : VK), Inv X pins σ H s → RelV x v → RelV y u → r x y H Q →
    wpAny (model X.prog X.w) X.A (f v u) (EP X pins σ Q) X.xe s
def CallR (X : Cx) (f : Value) (r : List V → Hp → VK → Prop) : Prop :=
  ∀ (pins : List (Addr × Obj)) (s : Shared) (σ : St) (H : Hp) (xs : List V) (us : List Value) (Q : VK), Inv X pins σ H s → Vals xs us → r xs H Q →
    wpAny (model X.prog X.w) X.A (call f us) (EP X pins σ Q) X.xe s
def tOp (r : R2) (ta tb : TE) : TE := fun σ H Q => ta σ H fun x H1 => tb σ H1 fun y H2 => r x y H2 Q
def rI (C : Int → Int → Prop) (g : Int → Int → V) : R2 := fun x y H Q => ∃ i j, x = .int i ∧ y = .int j ∧ C i j ∧ Q (g i j) H
def rI0 (g : Int → Int → V) : R2 := fun x y H Q => ∃ i j, x = .int i ∧ y = .int j ∧ Q (g i j) H
section
variable {X : Cx} {a b c : Expr} {ta tb tc : TE} {pos : Pos}
theorem binT (ha : PE X a ta) (hb : PE X b tb) {pins : List (Addr × Obj)} {s : Shared} {σ : St} {H : Hp} {R : V → V → Hp → Prop} (I : Inv X pins σ H s)
    (h : ta σ H fun x H1 => tb σ H1 fun y H2 => R x y H2) {Q : Value → Shared → Prop} {f : Value → Value → Sem Value}
    (hf : ∀ v u s2 x y H2, Inv X pins σ H2 s2 → RelV x v → RelV y u → R x y H2 → wpAny (model X.prog X.w) X.A (f v u) Q X.xe s2) :
    wpAny (model X.prog X.w) X.A (eval a X.env) (fun v s₁ => wpAny (model X.prog X.w) X.A (eval b X.env) (fun u s₂ => wpAny (model X.prog X.w) X.A (f v u) Q X.xe s₂) X.xe s₁) X.xe s := by
  refine thn (ha pins s σ H _ I h) fun v s1 ⟨x, H1, I1, r1, q1⟩ => ?_
  refine thn (hb pins s1 σ H1 _ I1 q1) fun u s2 ⟨y, H2, I2, r2, q2⟩ => ?_
  exact hf v u s2 x y H2 I2 r1 r2 q2
theorem pe_op {op : Operator} {r : R2} (ho : OpR X (binaryOp op) r) (ha : PE X a ta) (hb : PE X b tb) : PE X (.BinOp a op b pos) (tOp r ta tb) := by
  intro pins s σ H Q I h
  exact wpAny_BinOp (binT ha hb I h fun v u s2 x y H2 I2 rx ry q => ho pins s2 σ H2 x y v u Q I2 rx ry q)
theorem opI {f : Value → Value → Sem Value} {C : Int → Int → Prop} {g : Int → Int → Int}
    (rule : ∀ (i j : Int) (t u : Tok) (s : Shared) (Q : Value → Shared → Prop) (E : Value → Shared → Prop), C i j → Q (.int (g i j) s.toks) { s with toks := s.toks + 1 } → wpAny (model X.prog X.w) X.A (f (.int i t) (.int j u)) Q E s) :
    OpR X f (rI C fun i j => .int (g i j)) := by
  intro pins s σ H x y v u Q I rx ry h
  obtain ⟨i, j, rfl, rfl, hc, q⟩ := h
  obtain ⟨t, rfl⟩ := rx
  obtain ⟨t', rfl⟩ := ry
  exact rule i j t t' s _ _ hc ⟨.int (g i j), H, I.tok _, ⟨_, rfl⟩, q⟩
theorem opI0 {f : Value → Value → Sem Value} {g : Int → Int → Int}
    (rule : ∀ (i j : Int) (t u : Tok) (s : Shared) (Q : Value → Shared → Prop) (E : Value → Shared → Prop), Q (.int (g i j) s.toks) { s with toks := s.toks + 1 } → wpAny (model X.prog X.w) X.A (f (.int i t) (.int j u)) Q E s) :
    OpR X f (rI0 fun i j => .int (g i j)) := by
  intro pins s σ H x y v u Q I rx ry h
  obtain ⟨i, j, rfl, rfl, q⟩ := h
  obtain ⟨t, rfl⟩ := rx
  obtain ⟨t', rfl⟩ := ry
  exact rule i j t t' s _ _ ⟨.int (g i j), H, I.tok _, ⟨_, rfl⟩, q⟩
theorem opB0 {f : Value → Value → Sem Value} {g : Int → Int → Bool}
    (rule : ∀ (i j : Int) (t u : Tok) (s : Shared) (Q : Value → Shared → Prop) (E : Value → Shared → Prop), Q (.bool (g i j)) s → wpAny (model X.prog X.w) X.A (f (.int i t) (.int j u)) Q E s) :
    OpR X f (rI0 fun i j => .bl (g i j)) := by
  intro pins s σ H x y v u Q I rx ry h
  obtain ⟨i, j, rfl, rfl, q⟩ := h
  obtain ⟨t, rfl⟩ := rx
  obtain ⟨t', rfl⟩ := ry
  exact rule i j t t' s _ _ ⟨.bl (g i j), H, I, rfl, q⟩
def CDiv (i j : Int) : Prop := 0 < j ∧ j < 1073741824
def CMul (i j : Int) : Prop := (-(2 ^ 64) < i ∧ i < 2 ^ 64) ∨ (-(2 ^ 64) < j ∧ j < 2 ^ 64)
theorem CMul.ok {i j : Int} (h : CMul i j) : IntMulOk i j := by
  rcases h with ⟨h1, h2⟩ | ⟨h1, h2⟩
  · exact .of_left (intBits_le_64 h1 h2)
  · exact .of_right (intBits_le_64 h1 h2)
theorem op_add : OpR X (binaryOp .Add) (rI0 fun i j => .int (i + j)) := opI0 fun _ _ _ _ _ _ _ q => add_int q
theorem op_sub : OpR X (binaryOp .Sub) (rI0 fun i j => .int (i - j)) := opI0 fun _ _ _ _ _ _ _ q => sub_int q
theorem op_mul : OpR X (binaryOp .Mult) (rI CMul fun i j => .int (i * j)) := opI fun _ _ _ _ _ _ _ hc q => mul_int q hc.ok
theorem op_fdiv : OpR X (binaryOp .FloorDiv) (rI CDiv fun i j => .int (i / j)) := opI fun i j _ _ _ _ _ hc q => by
  have h1 : (0 : Int) < j := hc.1
  have h2 : j < 1073741824 := hc.2
  exact floordiv_int (by omega) (by rw [Int.fdiv_eq_ediv_of_nonneg i (by omega)]; exact q) (.inl (PyProof.noPylong_small (by omega)))
theorem op_mod : OpR X (binaryOp .Mod) (rI (fun _ j => 0 < j) fun i j => .int (i % j)) := opI fun i j _ _ _ _ _ hc q => by
  have h1 : (0 : Int) < j := hc
  exact mod_int' (by omega) (by rw [Int.fmod_eq_emod_of_nonneg i (by omega)]; exact q)
end
def scal : V → V → Bool
  | .non, .non => true | .non, .int _ => true | .int _, .non => true | .non, .bl _ => true | .bl _, .non => true | .non, .str _ => true | .str _, .non => true
  | .int _, .int _ => true | .bl _, .bl _ => true | .str _, .str _ => true | .byt _, .byt _ => true
  | .int _, .str _ => true | .str _, .int _ => true | .bl _, .str _ => true | .str _, .bl _ => true
  | _, _ => false
def rEq : R2 := fun x y H Q => scal x y = true ∧ Q (.bl (decide (x = y))) H
def rNe : R2 := fun x y H Q => scal x y = true ∧ Q (.bl (!decide (x = y))) H
theorem dec_int {i j : Int} : decide (V.int i = V.int j) = (i == j) := by
  rw [Bool.eq_iff_iff]
  simp
theorem dec_bl {i j : Bool} : decide (V.bl i = V.bl j) = (i == j) := by
  rw [Bool.eq_iff_iff]
  simp
theorem dec_str {i j : Str} : decide (V.str i = V.str j) = (i == j) := by
  rw [Bool.eq_iff_iff]
  simp
theorem dec_byt {i j : Array UInt8} : decide (V.byt i = V.byt j) = (i.toList == j.toList) := by
  rw [Bool.eq_iff_iff]
  cases i
  cases j
  simp
section
variable {X : Cx} {a b c : Expr} {ta tb tc : TE} {pos : Pos}
theorem fin_bl {pins : List (Addr × Obj)} {σ : St} {H : Hp} {s : Shared} {Q : VK} {k k' : Bool} (I : Inv X pins σ H s) (q : Q (.bl k) H) (e : k = k') : EP X pins σ Q (.bool k') s := by
  subst e
  exact ⟨.bl k, H, I, rfl, q⟩
theorem op_eq : OpR X (compareOp .Eq) rEq := by
  intro pins s σ H x y v u Q I rx ry h
  obtain ⟨hs, q⟩ := h
  cases x with
  | non =>
    cases rx
    cases y with
    | non => cases ry; exact PySem.EqNone.eq_none_none (fin_bl I q (by simp))
    | bl j => cases ry; exact PySem.EqNone.eq_none_bool (fin_bl I q (by simp))
    | int j => obtain ⟨t', rfl⟩ := ry; exact PySem.EqNone.eq_none_int (fin_bl I q (by simp))
    | str j => obtain ⟨t', rfl⟩ := ry; exact PySem.EqNone.eq_none_str (fin_bl I q (by simp))
    | _ => exact absurd (show false = true from hs) Bool.false_ne_true
  | bl i =>
    cases rx
    cases y with
    | non => cases ry; exact PySem.EqNone.eq_bool_none (fin_bl I q (by simp))
    | bl j => cases ry; exact eq_bool (fin_bl I q dec_bl)
    | str j => obtain ⟨t', rfl⟩ := ry; exact PySem.EqMixed.eq_bool_str (fin_bl I q (by simp))
    | _ => exact absurd (show false = true from hs) Bool.false_ne_true
  | int i =>
    obtain ⟨t, rfl⟩ := rx
    cases y with
    | non => cases ry; exact PySem.EqNone.eq_int_none (fin_bl I q (by simp))
    | int j => obtain ⟨t', rfl⟩ := ry; exact eq_int (fin_bl I q dec_int)
    | str j => obtain ⟨t', rfl⟩ := ry; exact PySem.EqMixed.eq_int_str (fin_bl I q (by simp))
    | _ => exact absurd (show false = true from hs) Bool.false_ne_true
  | str i =>
    obtain ⟨t, rfl⟩ := rx
    cases y with
    | non => cases ry; exact PySem.EqNone.eq_str_none (fin_bl I q (by simp))
    | bl j => cases ry; exact PySem.EqMixed.eq_str_bool (fin_bl I q (by simp))
    | int j => obtain ⟨t', rfl⟩ := ry; exact PySem.EqMixed.eq_str_int (fin_bl I q (by simp))
    | str j => obtain ⟨t', rfl⟩ := ry; exact eq_str (fin_bl I q dec_str)
    | _ => exact absurd (show false = true from hs) Bool.false_ne_true
  | byt i =>
    obtain ⟨t, rfl⟩ := rx
    cases y with
    | byt j => obtain ⟨t', rfl⟩ := ry; exact PySem.W.eq_bytes (fin_bl I q dec_byt)
    | _ => exact absurd (show false = true from hs) Bool.false_ne_true
  | _ => cases y <;> exact absurd (show false = true from hs) Bool.false_ne_true
theorem op_ne : OpR X (compareOp .NotEq) rNe := by
  intro pins s σ H x y v u Q I rx ry h
  obtain ⟨hs, q⟩ := h
  cases x with
  | non =>
    cases rx
    cases y with
    | non => cases ry; exact PySem.EqNone.ne_none_none (fin_bl I q (by simp))
    | bl j => cases ry; exact PySem.EqNone.ne_none_bool (fin_bl I q (by simp))
    | int j => obtain ⟨t', rfl⟩ := ry; exact PySem.EqNone.ne_none_int (fin_bl I q (by simp))
    | str j => obtain ⟨t', rfl⟩ := ry; exact PySem.EqNone.ne_none_str (fin_bl I q (by simp))
    | _ => exact absurd (show false = true from hs) Bool.false_ne_true
  | bl i =>
    cases rx
    cases y with
    | non => cases ry; exact PySem.EqNone.ne_bool_none (fin_bl I q (by simp))
    | bl j => cases ry; exact ne_bool (fin_bl I q (congrArg not dec_bl))
    | str j => obtain ⟨t', rfl⟩ := ry; exact PySem.EqMixed.ne_bool_str (fin_bl I q (by simp))
    | _ => exact absurd (show false = true from hs) Bool.false_ne_true
  | int i =>
    obtain ⟨t, rfl⟩ := rx
    cases y with
    | non => cases ry; exact PySem.EqNone.ne_int_none (fin_bl I q (by simp))
    | int j => obtain ⟨t', rfl⟩ := ry; exact ne_int (fin_bl I q (congrArg not dec_int))
    | str j => obtain ⟨t', rfl⟩ := ry; exact PySem.EqMixed.ne_int_str (fin_bl I q (by simp))
    | _ => exact absurd (show false = true from hs) Bool.false_ne_true
  | str i =>
    obtain ⟨t, rfl⟩ := rx
    cases y with
    | non => cases ry; exact PySem.EqNone.ne_str_none (fin_bl I q (by simp))
    | bl j => cases ry; exact PySem.EqMixed.ne_str_bool (fin_bl I q (by simp))
    | int j => obtain ⟨t', rfl⟩ := ry; exact PySem.EqMixed.ne_str_int (fin_bl I q (by simp))
    | str j => obtain ⟨t', rfl⟩ := ry; exact ne_str (fin_bl I q (congrArg not dec_str))
    | _ => exact absurd (show false = true from hs) Bool.false_ne_true
  | byt i =>
    obtain ⟨t, rfl⟩ := rx
    cases y with
    | byt j => obtain ⟨t', rfl⟩ := ry; exact PySem.W.ne_bytes (fin_bl I q (congrArg not dec_byt))
    | _ => exact absurd (show false = true from hs) Bool.false_ne_true
  | _ => cases y <;> exact absurd (show false = true from hs) Bool.false_ne_true
theorem op_lt : OpR X (compareOp .Lt) (rI0 fun i j => .bl (decide (i < j))) := opB0 fun _ _ _ _ _ _ _ q => lt_int q
theorem op_le : OpR X (compareOp .LtE) (rI0 fun i j => .bl (decide (i ≤ j))) := opB0 fun _ _ _ _ _ _ _ q => le_int q
theorem op_gt : OpR X (compareOp .Gt) (rI0 fun i j => .bl (decide (j < i))) := opB0 fun _ _ _ _ _ _ _ q => gt_int q
theorem op_ge : OpR X (compareOp .GtE) (rI0 fun i j => .bl (decide (j ≤ i))) := opB0 fun _ _ _ _ _ _ _ q => ge_int q
theorem op_isN : OpR X (compareOp .Is) (fun x y H Q => y = .non ∧ Q (.bl (decide (x = .non))) H) := by
  intro pins s σ H x y v u Q I rx ry h
  obtain ⟨rfl, q⟩ := h
  cases ry
  refine is_none_gen (fin_bl I q ?_)
  cases x <;> first
    | (cases rx; rfl)
    | (obtain ⟨t, rfl⟩ := rx; rfl)
def isObj : HO → Bool
  | .lst _ => true
  | .ins _ _ _ => true
  | _ => false
theorem nomark (b : Expr) {op : CmpOp} (h : op ≠ .In := by decide) (h2 : op ≠ .NotIn := by decide) : behindInMarks op b = false := by
  have e1 : (op == CmpOp.In) = false := by cases op <;> first | rfl | exact absurd rfl h
  have e2 : (op == CmpOp.NotIn) = false := by cases op <;> first | rfl | exact absurd rfl h2
  cases b <;> simp [behindInMarks, e1, e2]
theorem pe_cmpR {op : CmpOp} {r : R2} (ho : OpR X (compareOp op) r) (ha : PE X a ta) (hb : PE X b tb) (hm : behindInMarks op b = false) : PE X (.Compare a [op] [b] pos) (tOp r ta tb) := by
  intro pins s σ H Q I h
  exact wpAny_Compare1 (binT ha hb I h fun v u s2 x y H2 I2 rx ry q => ho pins s2 σ H2 x y v u Q I2 rx ry q) hm
def tTest (t : TE) : TT := fun σ H Q => t σ H fun x H' => ∃ k, x = .bl k ∧ Q k H'
theorem pt_cmpR {op : CmpOp} {r : R2} (ho : OpR X (compareOp op) r) (ha : PE X a ta) (hb : PE X b tb) (hm : behindInMarks op b = false) : PT X (.Compare a [op] [b] pos) (tTest (tOp r ta tb)) := by
  intro pins s σ H Q I h
  refine wpAny_isTrue_Compare1 (thn (ha pins s σ H _ I h) fun v s1 ⟨x, H1, I1, r1, q1⟩ => thn (hb pins s1 σ H1 _ I1 q1) fun u s2 ⟨y, H2, I2, r2, q2⟩ =>
    thn (ho pins s2 σ H2 x y v u _ I2 r1 r2 q2) fun c s3 ⟨z, H3, I3, r3, k, e, q3⟩ => ?_) hm
  subst e
  cases r3
  exact wpAny_truthy_bool ⟨H3, I3, q3⟩
def tChain (r r' : R2) (ta tb tc : TE) : TE := fun σ H Q => ta σ H fun x H1 => tb σ H1 fun y H2 => r x y H2 fun z H3 => ∃ k, z = .bl k ∧
  (if k = true then tc σ H3 fun w' H4 => r' y w' H4 Q else Q (.bl false) H3)
theorem pe_chain {op op' : CmpOp} {r r' : R2} (ho : OpR X (compareOp op) r) (ho' : OpR X (compareOp op') r') (ha : PE X a ta) (hb : PE X b tb) (hc : PE X c tc)
    (hm : lastMarks [op, op'] [b, c] = false := by with_unfolding_all rfl) : PE X (.Compare a [op, op'] [b, c] pos) (tChain r r' ta tb tc) := by
  intro pins s σ H Q I h
  refine Compare_chain (thn (ha pins s σ H _ I h) fun v s1 ⟨x, H1, I1, r1, q1⟩ => chain_link (thn (hb pins s1 σ H1 _ I1 q1) fun u s2 ⟨y, H2, I2, r2, q2⟩ =>
    thn (ho pins s2 σ H2 x y v u _ I2 r1 r2 q2) fun d s3 ⟨z, H3, I3, r3, k, e, q3⟩ => ?_)) hm
  subst e
  cases r3
  refine wpAny_truthy_bool ?_
  cases k with
  | false => exact ite_ff ⟨.bl false, H3, I3, rfl, q3⟩
  | true => exact ite_tt (chain_last (thn (hc pins s3 σ H3 _ I3 q3) fun w' s4 ⟨z', H4, I4, r4, q4⟩ => ho' pins s4 σ H4 y z' u w' Q I4 r2 r4 q4))
theorem line63 : (sizeLine : Nat) < 2 ^ 63 := by rw [sizeLine_eq]; decide
theorem vals1 {x : V} {us : List Value} (r : Vals [x] us) : ∃ u, us = [u] ∧ RelV x u := by
  cases r with
  | cons r1 r2 => cases r2; exact ⟨_, rfl, r1⟩
theorem vals2 {x y : V} {us : List Value} (r : Vals [x, y] us) : ∃ u w', us = [u, w'] ∧ RelV x u ∧ RelV y w' := by
  cases r with
  | cons r1 r2 =>
    cases r2 with
    | cons r3 r4 => cases r4; exact ⟨_, _, rfl, r1, r3⟩
theorem call_int1 : CallR X (.type "int") (fun xs H Q => (∃ i, xs = [.int i] ∧ Q (.int i) H) ∨ ∃ k, xs = [.bl k] ∧ Q (.int (if k then 1 else 0)) H) := by
  intro pins s σ H xs us Q I r h
  rcases h with ⟨i, rfl, q⟩ | ⟨k, rfl, q⟩
  · obtain ⟨u, rfl, t, rfl⟩ := vals1 r
    exact call_int_int ⟨.int i, H, I, ⟨_, rfl⟩, q⟩
  · obtain ⟨u, rfl, r1⟩ := vals1 r
    cases r1
    exact call_int_bool ⟨.int (if k then 1 else 0), H, I.tok _, ⟨_, rfl⟩, q⟩
end
end L2
namespace L2
open PySem PySem.Spec PyProof.Rows
variable {q0 : Bool}
structure ObjM (h : Heap) (x dx C : Addr) (mA : Str → Option Value) : Prop where
  obj : h.get? x = some (PySem.W.instObj C dx)
  ns : h.Ns1 dx mA
  ne : dx ≠ x
theorem lookIn_ns {h : Heap} {dx : Addr} {mA : Str → Option Value} (n : h.Ns1 dx mA) : ∃ od, h.get? dx = some od ∧ ∀ name, PySem.W.lookIn name od = some (mA name) := by
  obtain ⟨o, es, ep, ho, hd, hk, _, hm⟩ := n
  refine ⟨o, ho, fun name => ?_⟩
  have e := hm name
  unfold nsFind findBy at e
  rw [← Array.find?_toList] at e
  unfold PySem.W.lookIn
  rw [hd]
  dsimp only
  split
  · rename_i y q
    rw [q] at e
    exact congrArg some e
  · rename_i q
    rw [q] at e
    have a : es.toList.any (·.refKey) = false := by
      rw [List.any_eq_false]
      intro y hy
      obtain ⟨z, t, hkey⟩ := hk y (Array.mem_toList_iff.mp hy)
      simp [DictEntry.refKey, hkey]
    have a' : ¬ es.toList.any (·.refKey) = true := by rw [a]; exact Bool.false_ne_true
    rw [if_neg a']
    exact congrArg some e
theorem ObjM.look {h : Heap} {x dx C : Addr} {mA : Str → Option Value} (I : ObjM h x dx C mA) : ∃ od, PySem.W.InstAt h x (PySem.W.instObj C dx) C (some od) ∧ ∀ name, PySem.W.lookIn name od = some (mA name) :=
  let ⟨od, ho, hl⟩ := lookIn_ns I.ns
  ⟨od, ⟨I.obj, rfl, rfl, ho⟩, hl⟩
section
variable {prog : Program} {w : World} {A : Around} {E : Value → Shared → Prop} {s : Shared} {K : PySem.W.Frag} {x dx C f : Addr} {mA : Str → Option Value} {name : Str} {v : Value}
theorem get_map {expr : Bool} {Q : Value → Shared → Prop} (X : K.In s.heap) (I : ObjM s.heap x dx C mA) (hg : PySem.W.plainGet K C name = true) (hh : PySem.W.hasDictIn K C = true)
    (ha : PySem.W.findIn K (.ref C) name = some none) (hv : mA name = some v) (hv' : PySem.W.handedIn v = true) (h : Q v { s with toks := s.toks + 1 }) :
    wpAny (model prog w) A (getAttr (.ref x) name expr) Q E s := by
  obtain ⟨od, J, hl⟩ := I.look
  exact PySem.W.get_value X J (PySem.W.plainGet_of hg).1 (PySem.W.findObj_own hh ha rfl (by rw [hl, hv])) hv' h
theorem get_meth {pl : Sem Bool} {Q : Value × List Value → Shared → Prop} (X : K.In s.heap) (I : ObjM s.heap x dx C mA) (hg : PySem.W.plainGet K C name = true)
    (hf : PySem.W.findIn K (.ref C) name = some (some (.ref f))) (ht : PySem.W.isFn K (.ref f) = true) (hv : mA name = none) (h : Q (.ref f, [.ref x]) s) :
    wpAny (model prog w) A (getMethod (.ref x) name pl) Q E s := by
  obtain ⟨od, J, hl⟩ := I.look
  exact PySem.W.method_fn X J (PySem.W.plainGet_of hg).1 (PySem.W.plainGet_of hg).2 hf (beq_iff_eq.mp ht) (by show (PySem.W.lookIn name od).map (·.isSome) = some false; rw [hl, hv]; rfl) h
theorem set_map {ns : List Str} {Q : Unit → Shared → Prop} (X : K.In s.heap) (I : ObjM s.heap x dx C mA)
    (hs : PySem.W.findIn K (.ref C) "__setattr__" = some (some (.builtin "object.__setattr__"))) (hp : PySem.W.plainOver K C = true) (ht : PySem.W.takerIn K C name = some none) (hh : PySem.W.hasDictIn K C = true)
    (hw : PySem.Within mA ns) (hsz : ns.length ≤ sizeLine)
    (h : ∀ h', ObjM h' x dx C (fun y => if y = name then some v else mA y) → Heap.SameBut dx s.heap h' → Q () { s with heap := h', toks := s.toks + 2 }) :
    wpAny (model prog w) A (setAttr (.ref x) name v) Q E s := by
  obtain ⟨od, J, hl⟩ := I.look
  refine PySem.W.set_plain X J hs (PySem.W.osa_open (s := { s with toks := s.toks + 1 }) (r := none) X J hp ht fun b => ?_)
  obtain ⟨cd, hc, hd'⟩ := PySem.W.any_some hh
  have hx : s.heap.get? x = some ⟨.ref C, some dx, .plain, #[]⟩ := I.obj
  refine wpAny_bind (wpAny_pure (wpAny_bind (wpAny_bind (wpAny_loadPart hx (wpAny_bind (PySem.W.Looks.here (s := { s with toks := s.toks + 1 }) (PySem.W.looks_clsIn X hc) ?_))))))
  rw [hd']
  refine wpAny_pure (a := some dx) (wpAny_bind (wpAny_pure (wpAny_bind ?_)))
  refine wpAny_nsSet1 (s := { s with toks := s.toks + 1 }) I.ns fun h' hn2 hs2 => ?_
  obtain ⟨oD, esD, epD, hoD, hdD, hcD⟩ := hn2.count (PySem.Within.cons name v hw)
  refine wpAny_bind (wpAny_lookBehind hoD (by rw [hdD]; exact pastItsLine_dict (Nat.le_trans hcD (by rw [List.length_cons]; omega))) ?_)
  exact wpAny_pure (h _ ⟨(hs2.2 _ (Ne.symm I.ne)).trans I.obj, hn2, I.ne⟩ hs2)
theorem make_map {R : Result → Shared → Prop} {vs : List Value} {kw : List (Str × Value)} (X : K.In s.heap) (hm : PySem.W.makesIn K C = true)
    (hi : PySem.W.findIn K (.ref C) "__init__" = some (some (.ref f))) (hf : PySem.W.typeIn K (.ref f) = some (.type "function"))
    (h : codeAny (model prog w) (A.under (.builtin "type.__call__" ⟨.ref C :: vs, kw⟩)) (.call (.ref f) ⟨.ref (s.heap.objs.size + 1) :: vs, kw⟩) (PySem.W.InitBack (s.heap.objs.size + 1) R)
      { s with heap := (s.heap.push PySem.W.emptyDict).push (PySem.W.instObj C s.heap.objs.size) }) :
    codeAny (model prog w) A (.call (.ref C) ⟨vs, kw⟩) R s := by
  obtain ⟨hh, g, d, t, os⟩ := s
  exact PySem.W.make_core (PySem.W.makes_of X hm) (PySem.W.looks_findIn X hi) (fun self => PySem.W.bind_fn X self hf) (.inl rfl) h
end
def putF (f : Str) (v : V) : List (Str × V) → List (Str × V)
  | [] => [(f, v)]
  | (g, x) :: r => if g = f then (g, v) :: r else (g, x) :: putF f v r
theorem lookup_putF (f g : Str) (v : V) : ∀ fs : List (Str × V), (putF f v fs).lookup g = if g = f then some v else fs.lookup g
  | [] => by
    show List.lookup g [(f, v)] = _
    by_cases h : g = f
    · have hb : (g == f) = true := beq_iff_eq.mpr h
      simp only [List.lookup, hb, if_pos h]
    · have hb : (g == f) = false := beq_eq_false_iff_ne.mpr h
      simp only [List.lookup, hb, if_neg h]
  | (k, x) :: r => by
    have ih := lookup_putF f g v r
    rw [show putF f v ((k, x) :: r) = (if k = f then (k, v) :: r else (k, x) :: putF f v r) from rfl]
    by_cases hk : k = f
    · rw [if_pos hk]
      by_cases h : g = k
      · have hb : (g == k) = true := beq_iff_eq.mpr h
        simp only [List.lookup, hb, if_pos (h.trans hk)]
      · have hb : (g == k) = false := beq_eq_false_iff_ne.mpr h
        simp only [List.lookup, hb, if_neg (fun e : g = f => h (e.trans hk.symm))]
    · rw [if_neg hk]
      by_cases h : g = k
      · have hb : (g == k) = true := beq_iff_eq.mpr h
        simp only [List.lookup, hb, if_neg (fun e : g = f => hk (h.symm.trans e))]
      · have hb : (g == k) = false := beq_eq_false_iff_ne.mpr h
        simp only [List.lookup, hb]
        exact ih
theorem keys_putF (f : Str) (v : V) : ∀ fs : List (Str × V), f ∈ (putF f v fs).map (·.1) ∧ ∀ g, g ∈ fs.map (·.1) → g ∈ (putF f v fs).map (·.1)
  | [] => ⟨by simp [putF], fun g h => by simp at h⟩
  | (k, x) :: r => by
    obtain ⟨i1, i2⟩ := keys_putF f v r
    rw [show putF f v ((k, x) :: r) = (if k = f then (k, v) :: r else (k, x) :: putF f v r) from rfl]
    by_cases hk : k = f
    · rw [if_pos hk]
      subst hk
      exact ⟨by simp, fun g h => by simpa using h⟩
    · rw [if_neg hk]
      refine ⟨?_, fun g h => ?_⟩
      · rw [List.map_cons]
        exact List.mem_cons_of_mem _ i1
      · rw [List.map_cons] at h ⊢
        rcases List.mem_cons.mp h with e | e
        · exact List.mem_cons.mpr (.inl e)
        · exact List.mem_cons_of_mem _ (i2 g e)
theorem length_putF (f : Str) (v : V) : ∀ fs : List (Str × V), (putF f v fs).length ≤ fs.length + 1
  | [] => by simp [putF]
  | (k, x) :: r => by
    have ih := length_putF f v r
    rw [show putF f v ((k, x) :: r) = (if k = f then (k, v) :: r else (k, x) :: putF f v r) from rfl]
    by_cases hk : k = f
    · rw [if_pos hk, List.length_cons, List.length_cons]; omega
    · rw [if_neg hk, List.length_cons, List.length_cons]; omega
theorem RelO.some_of {v : V} {o : Option Value} (r : RelO (some v) o) : ∃ u, o = some u ∧ RelV v u := by
  cases o with
  | none => exact (show False from r).elim
  | some u => exact ⟨u, rfl, r⟩
theorem RelO.none_of {o : Option Value} (r : RelO none o) : o = none := by
  cases o with
  | none => rfl
  | some u => exact (show False from r).elim
theorem handed_of {v : V} {u : Value} (r : RelV v u) : PySem.W.handedIn u = true := by
  cases v with
  | non => cases (show u = Value.none from r); rfl
  | bl b => cases (show u = Value.bool b from r); rfl
  | int i => obtain ⟨t, e⟩ := (show ∃ t, u = Value.int i t from r); cases e; rfl
  | str x => obtain ⟨t, e⟩ := (show ∃ t, u = Value.str x t from r); cases e; rfl
  | byt b => obtain ⟨t, e⟩ := (show ∃ t, u = Value.bytes b t from r); cases e; rfl
  | flt b => obtain ⟨t, e⟩ := (show ∃ t, u = Value.float b t from r); cases e; rfl
  | ref a => cases (show u = Value.ref a from r); rfl
  | ty n => cases (show u = Value.type n from r); rfl
section
variable {P : Program} {w : World} {H H' : Hp} {h h' : Heap} {a C dx : Addr} {fs fs' : List (Str × V)}
theorem ins_get (hok : HOk P w H h) (e : H a = some (.ins C dx fs)) : ∃ mA, ObjM h a dx C mA ∧ (∀ f, RelO (fs.lookup f) (mA f)) ∧ PySem.Within mA (fs.map (·.1)) ∧ fs.length ≤ 1000 ∧ H dx = some (.own a) := by
  obtain ⟨d, z, ne, ob, mA, n, r, q⟩ := (show ObjOk P w H h a (.ins C dx fs) from hok a _ e)
  exact ⟨mA, ⟨ob, n, ne⟩, r, q, z, d⟩
end
structure Cls (K : PySem.W.Frag) (C : Addr) : Prop where
  pg : PySem.W.plainGet K C Str.empty = true
  hd : PySem.W.hasDictIn K C = true
  po : PySem.W.plainOver K C = true
  sa : PySem.W.findIn K (.ref C) "__setattr__" = some (some (.builtin "object.__setattr__"))
theorem Cls.get {K : PySem.W.Frag} {C : Addr} (c : Cls K C) (f : Str) : PySem.W.plainGet K C f = true := c.pg
def NoAttr (K : PySem.W.Frag) (C : Addr) (f : Str) : Prop := PySem.W.findIn K (.ref C) f = some none
theorem NoAttr.taker {K : PySem.W.Frag} {C : Addr} {f : Str} (n : NoAttr K C f) : PySem.W.takerIn K C f = some none := by
  unfold PySem.W.takerIn
  rw [show PySem.W.findIn K (.ref C) f = some none from n]
  rfl
structure Meth (K : PySem.W.Frag) (C : Addr) (m : Str) (f : Addr) : Prop where
  at_ : PySem.W.findIn K (.ref C) m = some (some (.ref f))
  fn : PySem.W.isFn K (.ref f) = true
  kp : PySem.W.keepIn K (.ref f) = true
section
variable {X : Cx} {pins : List (Addr × Obj)} {σ : St} {H : Hp} {s : Shared} {a C dx : Addr} {fs : List (Str × V)} {f : Str} {v : V} {A : Around} {E : Value → Shared → Prop}
theorem getattr_ok {b : Bool} {Q : Value → Shared → Prop} (I : Inv X pins σ H s) (e : H a = some (.ins C dx fs)) (c : Cls X.K C) (n : NoAttr X.K C f) (l : fs.lookup f = some v)
    (h : ∀ u s', Inv X pins σ H s' → RelV v u → Q u s') : wpAny (model X.prog X.w) A (getAttr (.ref a) f b) Q E s := by
  obtain ⟨mA, O, r, _, _, _⟩ := ins_get I.hok e
  obtain ⟨u, hu, ru⟩ := RelO.some_of (v := v) (o := mA f) (by rw [← l]; exact r f)
  exact get_map I.kIn O (c.get f) c.hd n hu (handed_of ru) (h u _ (I.tok _) ru)
theorem getmeth_ok {m : Str} {g : Addr} {pl : Sem Bool} {Q : Value × List Value → Shared → Prop} (I : Inv X pins σ H s) (e : H a = some (.ins C dx fs)) (c : Cls X.K C) (k : Meth X.K C m g) (l : fs.lookup m = none)
    (h : Q (.ref g, [.ref a]) s) : wpAny (model X.prog X.w) A (getMethod (.ref a) m pl) Q E s := by
  obtain ⟨mA, O, r, _, _, _⟩ := ins_get I.hok e
  have hn : mA m = none := RelO.none_of (by rw [← l]; exact r m)
  exact get_meth I.kIn O (c.get m) k.at_ k.fn hn h
theorem setattr_ok {y : V} {u : Value} {Q : Unit → Shared → Prop} (I : Inv X pins σ H s) (e : H a = some (.ins C dx fs)) (c : Cls X.K C) (n : NoAttr X.K C f) (hl : fs.length < 1000) (ry : RelV y u)
    (h : ∀ s', Inv X pins σ (upd H a (.ins C dx (putF f y fs))) s' → Q () s') : wpAny (model X.prog X.w) A (setAttr (.ref a) f u) Q E s := by
  obtain ⟨mA, O, r, wi, _, ho⟩ := ins_get I.hok e
  have hz : (fs.map (·.1)).length ≤ sizeLine := by rw [List.length_map, sizeLine_eq]; omega
  refine set_map I.kIn O c.sa c.po n.taker c.hd wi hz fun h' O' sb => h _ ?_
  have hd : ∃ o, h'.get? dx = some o := let ⟨o, _, _, e', _⟩ := O'.ns; ⟨o, e'⟩
  refine I.write (x := a) (e := dx) (by rw [e]; exact True.intro) (.inr ho) (fun b q hb z => (sb.2 b hb).trans z) hd ?_
  refine ⟨by rw [upd_ne O.ne]; exact ho, ?_, O.ne, O'.obj, _, O'.ns, fun g => ?_, fun g hg => ?_⟩
  · have := length_putF f y fs; omega
  · show RelO ((putF f y fs).lookup g) (if g = f then some u else mA g)
    rw [lookup_putF]
    by_cases q : g = f
    · rw [if_pos q, if_pos q]; exact ry
    · rw [if_neg q, if_neg q]; exact r g
  · by_cases q : g = f
    · rw [q]; exact (keys_putF f y fs).1
    · refine (keys_putF f y fs).2 g (wi g fun z => hg ?_)
      show (if g = f then some u else mA g) = none
      rw [if_neg q]; exact z
theorem Inv.made (I : Inv X pins σ H s) : Inv X pins σ (upd (upd H s.heap.objs.size (.own (s.heap.objs.size + 1))) (s.heap.objs.size + 1) (.ins C s.heap.objs.size []))
    { s with heap := (s.heap.push PySem.W.emptyDict).push (PySem.W.instObj C s.heap.objs.size) } := by
  have e1 : (s.heap.push PySem.W.emptyDict).get? s.heap.objs.size = some PySem.W.emptyDict := Heap.get?_push_size s.heap rfl
  have e2 : ((s.heap.push PySem.W.emptyDict).push (PySem.W.instObj C s.heap.objs.size)).get? (s.heap.objs.size + 1) = some (PySem.W.instObj C s.heap.objs.size) := by
    have := Heap.get?_push_size (s.heap.push PySem.W.emptyDict) (o := PySem.W.instObj C s.heap.objs.size) rfl
    rwa [Heap.size_push] at this
  have e3 : (s.heap.push PySem.W.emptyDict).Ns s.heap.objs.size (fun _ => none) := ⟨PySem.W.emptyDict, #[], _, e1, rfl, (fun e he => absurd he (by simp)), fun _ => rfl⟩
  have I1 := I.laid (a := s.heap.objs.size) (o := .own (s.heap.objs.size + 1)) (h' := s.heap.push PySem.W.emptyDict) (t' := s.toks) (fun b u q => Heap.get?_push_of_some _ q) (Nat.le_refl _) ⟨_, e1⟩
  refine I1.laid (a := s.heap.objs.size + 1) (o := .ins C s.heap.objs.size []) (t' := s.toks) (fun b u q => Heap.get?_push_of_some _ q) (Nat.le_of_eq (Heap.size_push _ _)) ?_
  have ne : s.heap.objs.size ≠ s.heap.objs.size + 1 := Nat.ne_of_lt (Nat.lt_succ_self _)
  refine ⟨by rw [upd_ne ne, upd_same], Nat.zero_le _, ne, e2, fun _ => none, (Heap.Ns1.of_empty e3).at fun o q => Heap.get?_push_of_some _ q, fun _ => True.intro, fun y hy => absurd rfl hy⟩
theorem attr_of {prog : Program} {w : World} {env : Env} {e : Expr} {f : Str} {pos : Pos} {s : Shared} {Q : Value → Shared → Prop} (hb : attributeBase e f env (eval e env) = eval e env)
    (h : wpAny (model prog w) A (eval e env) (fun o s₁ => wpAny (model prog w) A (getAttr o f true) Q E s₁) E s) : wpAny (model prog w) A (eval (.Attribute e f pos) env) Q E s :=
  Attribute_any_ h (by rw [arm_eval_Attribute, hb])
end
def tFld (K : PySem.W.Frag) (ta : TE) (f : Str) : TE := fun σ H Q => ta σ H fun x H1 => ∃ a C dx fs v, x = .ref a ∧ H1 a = some (.ins C dx fs) ∧ Cls K C ∧ NoAttr K C f ∧ fs.lookup f = some v ∧ Q v H1
def sFld (K : PySem.W.Frag) (ta tv : TE) (f : Str) : TS := fun D σ H => tv σ H fun y H1 => ta σ H1 fun x H2 => ∃ a C dx fs, x = .ref a ∧ H2 a = some (.ins C dx fs) ∧ Cls K C ∧ NoAttr K C f ∧ fs.length < 1000 ∧
  D.nx σ (upd H2 a (.ins C dx (putF f y fs)))
section
variable {X : Cx} {o e value : Expr} {f : Str} {pos pos' tpos : Pos} {ta tv : TE}
theorem pe_fld (he : PE X e ta) (hb : attributeBase e f X.env (eval e X.env) = eval e X.env) : PE X (.Attribute e f pos) (tFld X.K ta f) := by
  intro pins s σ H Q I h
  refine attr_of hb (thn (he pins s σ H _ I h) fun u s1 ⟨x, H1, I1, rx, a, C, dx, fs, v, ex, ea, c, n, l, q⟩ => ?_)
  subst ex
  obtain rfl : u = Value.ref a := rx
  exact getattr_ok I1 ea c n l fun u' s2 I2 ru => ⟨v, H1, I2, ru, q⟩
theorem ps_fld (ha : PE X o ta) (hv : PE X value tv) (hs : swapsWith value (some (.Attribute o f pos')) pos.line X.env = pure false) : PS X (.Assign [.Attribute o f pos'] value pos) (sFld X.K ta tv f) := by
  intro pins s σ H D I h
  refine plainObj_wpAny_Assign_Attribute (thn (hv pins s σ H _ I h) fun u s1 ⟨y, H1, I1, ry, q⟩ => thn (ha pins s1 σ H1 _ I1 q) fun ov s2 ⟨x, H2, I2, rx, a, C, dx, fs, ex, ea, c, n, l, q2⟩ => ?_) hs
  subst ex
  obtain rfl : ov = Value.ref a := rx
  exact setattr_ok I2 ea c n l ry fun s3 I3 => ⟨σ, _, I3, q2⟩
end
section
variable {X : Cx} {pins : List (Addr × Obj)} {σ : St} {H : Hp} {s : Shared} {A : Around} {E : Value → Shared → Prop} {Q : Value → Shared → Prop} {c : Value} {b : Bool}
inductive TyOf (K : PySem.W.Frag) (H : Hp) : V → Value → Prop where
  | non : TyOf K H .non (.type "NoneType")
  | bl (x : Bool) : TyOf K H (.bl x) (.type "bool")
  | int (i : Int) : TyOf K H (.int i) (.type "int")
  | str (x : Str) : TyOf K H (.str x) (.type "str")
  | flt (x : UInt64) : TyOf K H (.flt x) (.type "float")
  | lst {a : Addr} {xs : List V} (e : H a = some (.lst xs)) : TyOf K H (.ref a) (.type "list")
  | frz {a : Addr} {o : Obj} {xs : List V} (e : H a = some (.frz o (.lst xs))) : TyOf K H (.ref a) (.type "list")
  | tup {a : Addr} {xs : List V} (e : H a = some (.tup xs)) : TyOf K H (.ref a) (.type "tuple")
  | dK {a : Addr} {kvs : List (Key × V)} (e : H a = some (.dK kvs)) : TyOf K H (.ref a) (.type "dict")
  | dT {a : Addr} {kvs : List (List Key × V)} (e : H a = some (.dT kvs)) : TyOf K H (.ref a) (.type "dict")
  | ins {a C dx : Addr} {fs : List (Str × V)} (e : H a = some (.ins C dx fs)) (cl : Cls K C) (ha : PySem.W.findIn K (.ref C) "__class__" = some (some (.builtin "object.__class__")))
      (hn : PySem.W.specialIn K (.builtin "object.__class__") "__get__" = some (some (.builtin "getset_descriptor.__get__"))) (htk : PySem.W.takesIn K (.builtin "object.__class__") = some true)
      (hm : PySem.W.mroIn K C (.type "object") = some true) : TyOf K H (.ref a) (.ref C)
theorem isinst_ok {x : V} {u t : Value} (I : Inv X pins σ H s) (rx : RelV x u) (ty : TyOf X.K H x t) (e : PySem.W.kitOne X.K t c = some b) (h : ∀ tk, Q (.bool b) { s with toks := tk }) :
    wpAny (model X.prog X.w) A (call (.builtin "isinstance") [u, c]) Q E s := by
  cases ty with
  | non => cases (show u = Value.none from rx); exact PySem.W.kia_one PySem.W.kitx_none I.kIn True.intro e (fun z => nomatch z) h
  | bl y => cases (show u = Value.bool y from rx); exact PySem.W.kia_one PySem.W.kitx_bool I.kIn True.intro e (fun z => nomatch z) h
  | int i => obtain ⟨t, q⟩ := (show ∃ t, u = Value.int i t from rx); cases q; exact PySem.W.kia_one PySem.W.kitx_int I.kIn True.intro e (fun z => nomatch z) h
  | str y => obtain ⟨t, q⟩ := (show ∃ t, u = Value.str y t from rx); cases q; exact PySem.W.kia_one PySem.W.kitx_str I.kIn True.intro e (fun z => nomatch z) h
  | flt y => obtain ⟨t, q⟩ := (show ∃ t, u = Value.float y t from rx); cases q; exact PySem.W.kia_one PySem.W.kitx_float I.kIn True.intro e (fun z => nomatch z) h
  | @lst a xs ea =>
    cases (show u = Value.ref a from rx)
    obtain ⟨_, _, n, _, h1⟩ := (show ObjOk X.prog X.w H s.heap a (.lst xs) from I.hok a _ ea)
    exact PySem.W.kia_one PySem.W.kitx_list I.kIn ⟨_, h1, rfl⟩ e (fun z => nomatch z) h
  | @frz a ob xs ea =>
    cases (show u = Value.ref a from rx)
    obtain ⟨_, _, _, n, _, h1⟩ := (show ObjOk X.prog X.w H s.heap a (.frz ob (.lst xs)) from I.hok a _ ea)
    exact PySem.W.kia_one PySem.W.kitx_list I.kIn ⟨_, h1, rfl⟩ e (fun z => nomatch z) h
  | @tup a xs ea =>
    cases (show u = Value.ref a from rx)
    obtain ⟨_, _, _, p⟩ := (show ObjOk X.prog X.w H s.heap a (.tup xs) from I.hok a _ ea)
    obtain ⟨o, h1, h2, _⟩ := p
    exact PySem.W.kia_one PySem.W.kitx_tuple I.kIn ⟨o, h1, h2⟩ e (fun z => nomatch z) h
  | @dK a kvs ea =>
    cases (show u = Value.ref a from rx)
    obtain ⟨_, _, vs, _, p⟩ := (show ObjOk X.prog X.w H s.heap a (.dK kvs) from I.hok a _ ea)
    obtain ⟨o, es, ep, h1, h2, _⟩ := p
    exact PySem.W.kia_one PySem.W.kitx_dict I.kIn ⟨o, h1, h2.1⟩ e (fun z => nomatch z) h
  | @dT a kvs ea =>
    cases (show u = Value.ref a from rx)
    obtain ⟨_, _, xs, _, o, es, ep, h1, h2, _⟩ := (show ObjOk X.prog X.w H s.heap a (.dT kvs) from I.hok a _ ea)
    exact PySem.W.kia_one PySem.W.kitx_dict I.kIn ⟨o, h1, h2.1⟩ e (fun z => nomatch z) h
  | @ins a C dx fs ea cl ha hn htk hm =>
    cases (show u = Value.ref a from rx)
    obtain ⟨mA, O, _⟩ := ins_get I.hok ea
    obtain ⟨od, J, _⟩ := O.look
    exact PySem.W.kia_one (PySem.W.kitx_own (cl.get _) cl.hd ha hn htk hm) I.kIn J e (fun z => nomatch z) h
end
end L2
namespace L2
open PySem PySem.Spec PyProof.Rows
variable {q0 : Bool}
structure Room (q0 : Bool) (k : Nat) (A : Around) : Prop where
  hd : q0 = true → A.handled = none
  dp : A.depth + 3 * k + 5 < recursionLimit
  un : A.units + 16 * k + 200 < cLine
theorem Room.mono {j k : Nat} {A : Around} (r : Room q0 k A) (h : j ≤ k) : Room q0 j A := ⟨r.hd, by have := r.dp; omega, by have := r.un; omega⟩
theorem Room.deeper {k : Nat} {A : Around} (r : Room q0 (k + 1) A) (env : Env) : Room q0 k (A.deeper env) :=
  ⟨r.hd, by have := r.dp; show A.depth + 1 + 3 * k + 5 < _; omega, by have := r.un; show A.units + 3 + 16 * k + 200 < _; omega⟩
theorem make_depth {A : Around} {C : Addr} {us : List Value} {kw : List (Str × Value)} : (A.under (.builtin "type.__call__" ⟨.ref C :: us, kw⟩)).depth = A.depth + 1 := by
  first | rfl | simp [Around.under, Code.weight, Code.isCreation, Code.isGuard, Code.isCaller, Code.frames, Code.isFrame, guardIds]
theorem make_units {A : Around} {C : Addr} {us : List Value} {kw : List (Str × Value)} : (A.under (.builtin "type.__call__" ⟨.ref C :: us, kw⟩)).units = A.units + 1 := by
  first | rfl | simp [Around.under, Code.cUnits, Code.frames, Code.isFrame]
theorem Room.make {k : Nat} {A : Around} (r : Room q0 (k + 1) A) (C : Addr) (us : List Value) (kw : List (Str × Value)) : Room q0 k (A.under (.builtin "type.__call__" ⟨.ref C :: us, kw⟩)) :=
  ⟨r.hd, by have := r.dp; rw [make_depth]; omega, by have := r.un; rw [make_units]; omega⟩
theorem Room.depth {k : Nat} {A : Around} (r : Room q0 k A) : A.depth < recursionLimit := by have := r.dp; omega
theorem Room.units {k : Nat} {A : Around} (r : Room q0 k A) : A.units + 64 < cLine := by have := r.un; omega
def tNil : TA := fun _ H Q => Q [] H
def tCons (ta : TE) (tr : TA) : TA := fun σ H Q => ta σ H fun x H1 => tr σ H1 fun xs H2 => Q (x :: xs) H2
section
variable {X : Cx} {e : Expr} {es : List Expr} {te : TE} {t : TA} {pos : Pos}
theorem pa_nil : PA X [] tNil := fun _ _ _ _ H Q I h => Calls.spliced_nil ⟨[], H, I, .nil, h⟩
theorem pa_cons (ha : PE X e te) (hr : PA X es t) (hs : starEach (e :: es) X.env = (false, eval e X.env) :: starEach es X.env := by rfl) : PA X (e :: es) (tCons te t) := by
  intro pos pins s σ H Q I h
  rw [hs]
  show wpAny _ _ (spliced ((false, eval e X.env) :: backTo pos (starEach es X.env))) _ _ s
  refine Calls.spliced_cons (thn (ha pins s σ H _ I h) fun u s1 ⟨x, H1, I1, r1, q1⟩ => ?_)
  exact thn (hr pos pins s1 σ H1 _ I1 q1) fun us s2 ⟨xs, H2, I2, r2, q2⟩ => ⟨x :: xs, H2, I2, .cons r1 r2, q2⟩
def tTup (t : TA) : TE := fun σ H Q => t σ H fun xs H1 => xs.length ≤ sizeLine ∧ ∀ p, H1 p = none → Q (.ref p) (upd H1 p (.tup xs))
def tLst (t : TA) : TE := fun σ H Q => t σ H fun xs H1 => xs.length ≤ sizeLine ∧ ∀ p, H1 p = none → Q (.ref p) (upd H1 p (.lst xs))
theorem pe_tup {x1} (h : PA X es t) : PE X (.Tuple es x1 pos) (tTup t) := by
  intro pins s σ H Q I hq
  refine wpAny_Tuple_spliced (thn (h pos pins s σ H _ I hq) fun us s1 ⟨xs, H1, I1, r, z, q⟩ => ⟨by rw [← r.length]; exact z, ?_⟩)
  have hf : H1 s1.heap.objs.size = none := I1.hok.fresh (Nat.le_refl _)
  refine ⟨.ref s1.heap.objs.size, upd H1 s1.heap.objs.size (.tup xs), I1.laid (t' := s1.toks) (fun b u e => Heap.get?_push_of_some _ e) (Nat.le_refl _) ?_, rfl, q _ hf⟩
  exact ⟨z, us, r, ⟨_, Heap.get?_push_size _ rfl, rfl, _, rfl⟩⟩
theorem pe_lst (h : PA X es t) : PE X (.List es pos) (tLst t) := by
  intro pins s σ H Q I hq
  refine wpAny_List_spliced (thn (h pos pins s σ H _ I hq) fun us s1 ⟨xs, H1, I1, r, z, q⟩ => ⟨by rw [← r.length]; exact z, ?_⟩)
  have hf : H1 s1.heap.objs.size = none := I1.hok.fresh (Nat.le_refl _)
  refine ⟨.ref s1.heap.objs.size, upd H1 s1.heap.objs.size (.lst xs), I1.laid (t' := s1.toks) (fun b u e => Heap.get?_push_of_some _ e) (Nat.le_refl _) ?_, rfl, q _ hf⟩
  exact ⟨z, us, 0, r, Heap.get?_push_size _ rfl⟩
end
abbrev Sp := List V → Hp → VK → XK → Prop
abbrev CXT := List Env → Hp → Shared → XK → Value → Shared → Prop
structure Env0 (P : Program) (w : World) (K : PySem.W.Frag) (mg : Str → Option Value) (base : Heap) (A : Around) (outer : List Env) (s : Shared) (H : Hp) : Prop where
  frames : A.frames = some outer
  mod : Mod K mg base
  bs : ∀ b o, base.get? b = some o → s.heap.get? b = some o ∧ H b = none
  bsz : base.objs.size ≤ s.heap.objs.size
  funs : s.heap.FunFrames base outer
  frf : ∀ b ∈ frs outer, H b = none
  hok : HOk P w H s.heap
  bare : AllBare s.gens
def CE (outer : List Env) (P : Program) (w : World) (H : Hp) (s : Shared) (Q : VK) (u : Value) (s' : Shared) : Prop :=
  ∃ v H', s'.os = s.os ∧ AllBare s'.gens ∧ Un (frs outer) [] H H' s.heap s'.heap ∧ HOk P w H' s'.heap ∧ RelV v u ∧ Q v H'
def CR (CX : CXT) (outer : List Env) (P : Program) (w : World) (H : Hp) (s : Shared) (Q : VK) (E : XK) (r : Result) (s' : Shared) : Prop :=
  match r with
  | .ok (.ret u) => CE outer P w H s Q u s'
  | .ok _ => False
  | .error e => CX outer H s E e s'
structure FnOk (q0 : Bool) (P : Program) (w : World) (K : PySem.W.Frag) (mg : Str → Option Value) (base : Heap) (CX : CXT) (k : Nat) (f : Addr) (fd : FuncData) (ps : List Str) (sp : Sp) : Prop where
  len : ∀ vs H Q E, sp vs H Q E → vs.length = ps.length
  run : ∀ (A : Around) (outer : List Env) (s : Shared) (H : Hp) (args : Args) (us : List Value) (vs : List V) (Q : VK) (E : XK), Room q0 k A → Env0 P w K mg base A outer s H → BindsTo s fd args (ps.zip us) → Vals vs us → sp vs H Q E →
    codeAny (model P w) A (.call (.ref f) args) (CR CX outer P w H s Q E) s
theorem Env0.make {P : Program} {w : World} {K : PySem.W.Frag} {mg : Str → Option Value} {base : Heap} {A : Around} {outer : List Env} {s : Shared} {H : Hp} (e : Env0 P w K mg base A outer s H) (C : Addr) (us : List Value) (kw : List (Str × Value)) :
    Env0 P w K mg base (A.under (.builtin "type.__call__" ⟨.ref C :: us, kw⟩)) outer s H := ⟨by first | exact e.frames | (simpa [Around.under, Code.envs, Code.isFrame, pushEnvs] using e.frames), e.mod, e.bs, e.bsz, e.funs, e.frf, e.hok, e.bare⟩
section
variable {X : Cx} {pins : List (Addr × Obj)} {σ : St} {H : Hp} {s s' : Shared}
theorem Inv.env0 (I : Inv X pins σ H s) : Env0 X.prog X.w X.K X.mg X.base X.A X.stack s H :=
  ⟨I.ok.frames, I.ok.mod, I.bs, Nat.le_trans I.ok.bsz I.sz, I.stack, I.stkFree, I.hok, I.bare⟩
theorem Inv.after {Q : VK} {u : Value} (I : Inv X pins σ H s) (h : CE X.stack X.prog X.w H s Q u s') : EP X pins σ Q u s' := by
  obtain ⟨v, H', os, bare, un, hok, r, q⟩ := h
  obtain ⟨hh, g, d, t, os'⟩ := s'
  obtain rfl : os' = s.os := os
  exact ⟨v, H', I.call (h' := hh) (g' := g) (d' := d) (t' := t) (ch := []) un hok bare (fun b z => absurd z (by simp)), r, q⟩
end
def tCall (sp : Sp) (dvs : List V) (E : St → XK) (t : TA) : TE := fun σ H Q => t σ H fun vs H1 => sp (vs ++ dvs) H1 Q (E σ)
def tMeth (C : Addr) (m : Str) (sp : Sp) (dvs : List V) (E : St → XK) (ta : TE) (t : TA) : TE := fun σ H Q => ta σ H fun x H1 => ∃ a dx fs, x = .ref a ∧ H1 a = some (.ins C dx fs) ∧ fs.lookup m = none ∧
  t σ H1 fun vs H2 => sp (x :: (vs ++ dvs)) H2 Q (E σ)
def tMake (C : Addr) (sp : Sp) (dvs : List V) (E : St → XK) (t : TA) : TE := fun σ H Q => t σ H fun vs H1 => ∀ x dx, H1 x = none → H1 dx = none → dx ≠ x →
  sp (.ref x :: (vs ++ dvs)) (upd (upd H1 dx (.own x)) x (.ins C dx [])) (fun v H2 => v = .non ∧ Q (.ref x) H2) (E σ)
def Binds (K : PySem.W.Frag) (fd : FuncData) (ps : List Str) (ds : List Value) : Prop :=
  ∀ (s : Shared) (us : List Value), K.In s.heap → (us ++ ds).length = ps.length → BindsTo s fd ⟨us, []⟩ (ps.zip (us ++ ds))
theorem Binds.all {K : PySem.W.Frag} {fd : FuncData} {ps : List Str} (h : ∀ us : List Value, us.length = ps.length → bindArgs fd ⟨us, []⟩ = pure (ps.zip us)) : Binds K fd ps [] := fun s us _ hl => by
  rw [List.append_nil] at hl ⊢
  exact .of_eq (h us hl)
def Passes (CX : CXT) (X : Cx) (E : St → XK) : Prop := ∀ (pins : List (Addr × Obj)) (σ : St) (H : Hp) (s : Shared) (e : Value) (s' : Shared), Inv X pins σ H s → CX X.stack H s (E σ) e s' → X.xe e s'
section
variable {X : Cx} {CX : CXT} {k : Nat} {f C : Addr} {fd : FuncData} {ps : List Str} {sp : Sp} {dvs : List V} {ds : List Value} {E : St → XK} {x m : Str} {p pos apos : Pos} {e o : Expr} {es : List Expr} {ta : TE} {t : TA}
theorem run_fn {pins : List (Addr × Obj)} {σ : St} {H : Hp} {s : Shared} {Q : VK} {us : List Value} {vs : List V} (F : FnOk q0 X.prog X.w X.K X.mg X.base CX k f fd ps sp) (hr : Room q0 k X.A) (hb : Binds X.K fd ps ds) (hd : Vals dvs ds) (hx : Passes CX X E)
    (I : Inv X pins σ H s) (r : Vals vs us) (h : sp (vs ++ dvs) H Q (E σ)) : wpAny (model X.prog X.w) X.A (call (.ref f) us) (EP X pins σ Q) X.xe s := by
  have r2 : Vals (vs ++ dvs) (us ++ ds) := r.append hd
  have hl : (us ++ ds).length = ps.length := by rw [← r2.length]; exact F.len _ _ _ _ h
  refine wpAny_call (codeAny_mono (F.run X.A X.stack s H ⟨us, []⟩ (us ++ ds) (vs ++ dvs) Q (E σ) hr I.env0 (hb s us I.kIn hl) r2 h) fun r s' hq => ?_)
  cases r with
  | error e => exact hx pins σ H s e s' I hq
  | ok fl =>
    cases fl with
    | ret u => exact I.after hq
    | next => exact False.elim hq
    | brk => exact False.elim hq
    | cont => exact False.elim hq
theorem pe_call (F : FnOk q0 X.prog X.w X.K X.mg X.base CX k f fd ps sp) (hr : Room q0 k X.A) (hg : Gl X x) (hm : X.mg x = some (.ref f)) (hk : PySem.W.keepIn X.K (.ref f) = true) (hb : Binds X.K fd ps ds) (hd : Vals dvs ds) (hx : Passes CX X E)
    (ha : PA X (e :: es) t) (hdb : (x == ("__debug__" : Str)) = false := by decide) (he : starEach (e :: es) X.env = (false, eval e X.env) :: starEach es X.env := by rfl) (hpl : (backTo pos (starEach es X.env)).any (·.1) = false := by rfl) :
    PE X (.Call (.Name x p) (e :: es) [] pos) (tCall sp dvs E t) := by
  intro pins s σ H Q I h
  refine wpAny_Call_Name_kw (ld_glob I hg hm ?_ hdb)
  refine PySem.W.callWith_K (h₀ := X.base) I.ok.mod.kin hk (thn (ha pos pins s σ H _ I h) fun us s1 ⟨vs, H1, I1, r, q⟩ => ⟨I1.kIn, ?_⟩) he hpl
  exact run_fn F hr hb hd hx I1 r q
theorem pe_meth {pl : Sem Bool} (he : PE X o ta) (c : Cls X.K C) (hm : Meth X.K C m f) (F : FnOk q0 X.prog X.w X.K X.mg X.base CX k f fd ps sp) (hr : Room q0 k X.A) (hb : Binds X.K fd ps ds) (hd : Vals dvs ds) (hx : Passes CX X E) (ha : PA X (e :: es) t)
    (hst : starEach (e :: es) X.env = (false, eval e X.env) :: starEach es X.env := by rfl) (hpl : (backTo pos (starEach es X.env)).any (·.1) = false := by rfl)
    (ht : eval (.Call (.Attribute o m apos) (e :: es) [] pos) X.env = (do
      let ov ← eval o X.env
      standAt apos.atName
      let (f, first) ← holding [ov] (getMethod ov m pl)
      callWith pos f first (backTo pos (starEach (e :: es) X.env)) (backToKw pos (keywordEach [] X.env))) := by rfl) :
    PE X (.Call (.Attribute o m apos) (e :: es) [] pos) (tMeth C m sp dvs E ta t) := by
  intro pins s σ H Q I h
  refine PySem.W.methodCall_KW (pl := pl) (thn (he pins s σ H _ I h) fun u s1 ⟨x, H1, I1, rx, a, dx, fs, ex, ea, l, q⟩ => ?_) ht
  subst ex
  obtain rfl : u = Value.ref a := rx
  refine getmeth_ok I1 ea c hm l ?_
  refine PySem.W.callWith_K (first := [.ref a]) (h₀ := X.base) I.ok.mod.kin hm.kp (thn (ha pos pins s1 σ H1 _ I1 q) fun us s2 ⟨vs, H2, I2, r, q2⟩ => ⟨I2.kIn, ?_⟩) hst hpl
  exact run_fn (us := .ref a :: us) (vs := .ref a :: vs) F hr hb hd hx I2 (.cons rfl r) q2
theorem pe_meth0 {pl : Sem Bool} (he : PE X o ta) (c : Cls X.K C) (hm : Meth X.K C m f) (F : FnOk q0 X.prog X.w X.K X.mg X.base CX k f fd ps sp) (hr : Room q0 k X.A) (hb : Binds X.K fd ps ds) (hd : Vals dvs ds) (hx : Passes CX X E)
    (ht : eval (.Call (.Attribute o m apos) [] [] pos) X.env = (do
      let ov ← eval o X.env
      standAt apos.atName
      let (f, first) ← holding [ov] (getMethod ov m pl)
      callWith pos f first (backTo pos (starEach [] X.env)) (backToKw pos (keywordEach [] X.env))) := by rfl) :
    PE X (.Call (.Attribute o m apos) [] [] pos) (tMeth C m sp dvs E ta tNil) := by
  intro pins s σ H Q I h
  refine PySem.W.methodCall_KW (pl := pl) (thn (he pins s σ H _ I h) fun u s1 ⟨x, H1, I1, rx, a, dx, fs, ex, ea, l, q⟩ => ?_) ht
  subst ex
  obtain rfl : u = Value.ref a := rx
  refine getmeth_ok I1 ea c hm l ?_
  exact PySem.W.callWith_K0 (first := [.ref a]) I1.kIn hm.kp (run_fn (us := [.ref a]) (vs := [.ref a]) F hr hb hd hx I1 (.cons rfl .nil) q)
structure Mk (K : PySem.W.Frag) (C f : Addr) : Prop where
  makes : PySem.W.makesIn K C = true
  init : PySem.W.findIn K (.ref C) "__init__" = some (some (.ref f))
  fn : PySem.W.isFn K (.ref f) = true
  kp : PySem.W.keepIn K (.ref C) = true
theorem run_make {pins : List (Addr × Obj)} {σ : St} {H : Hp} {s : Shared} {Q : VK} {us : List Value} {vs : List V} (M : Mk X.K C f) (F : FnOk q0 X.prog X.w X.K X.mg X.base CX k f fd ps sp) (hr : Room q0 (k + 1) X.A) (hb : Binds X.K fd ps ds) (hd : Vals dvs ds)
    (hx : Passes CX X E) (I : Inv X pins σ H s) (r : Vals vs us)
    (h : ∀ x dx, H x = none → H dx = none → dx ≠ x → sp (.ref x :: (vs ++ dvs)) (upd (upd H dx (.own x)) x (.ins C dx [])) (fun v H2 => v = .non ∧ Q (.ref x) H2) (E σ)) :
    wpAny (model X.prog X.w) X.A (call (.ref C) us) (EP X pins σ Q) X.xe s := by
  have hq := h (s.heap.objs.size + 1) s.heap.objs.size (I.hok.fresh (Nat.le_succ _)) (I.hok.fresh (Nat.le_refl _)) (Nat.ne_of_lt (Nat.lt_succ_self _))
  have I2 := Inv.made (C := C) I
  have r2 : Vals (V.ref (s.heap.objs.size + 1) :: (vs ++ dvs)) (Value.ref (s.heap.objs.size + 1) :: (us ++ ds)) := .cons rfl (r.append hd)
  have hl : (Value.ref (s.heap.objs.size + 1) :: us ++ ds).length = ps.length := by
    have e := r2.length
    rw [F.len _ _ _ _ hq] at e
    exact e.symm
  refine wpAny_call (make_map (f := f) I.kIn M.makes M.init (beq_iff_eq.mp M.fn) (codeAny_mono (F.run _ X.stack _ _ ⟨Value.ref (s.heap.objs.size + 1) :: us, []⟩ (Value.ref (s.heap.objs.size + 1) :: (us ++ ds)) _ _ (E σ) (hr.make C us [])
    (I2.env0.make C us []) (hb _ (Value.ref (s.heap.objs.size + 1) :: us) I2.kIn hl) r2 hq) fun r s' hq' => ?_))
  cases r with
  | error e => exact hx pins σ _ _ e s' I2 hq'
  | ok fl =>
    cases fl with
    | ret u =>
      obtain ⟨v, H', I3, rv, ev, q3⟩ := I2.after hq'
      subst ev
      exact ⟨rv, ⟨V.ref (s.heap.objs.size + 1), H', I3, rfl, q3⟩⟩
    | next => exact False.elim hq'
    | brk => exact False.elim hq'
    | cont => exact False.elim hq'
theorem pe_make (M : Mk X.K C f) (F : FnOk q0 X.prog X.w X.K X.mg X.base CX k f fd ps sp) (hr : Room q0 (k + 1) X.A) (hg : Gl X x) (hm : X.mg x = some (.ref C)) (hb : Binds X.K fd ps ds) (hd : Vals dvs ds) (hx : Passes CX X E)
    (ha : PA X (e :: es) t) (hdb : (x == ("__debug__" : Str)) = false := by decide) (he : starEach (e :: es) X.env = (false, eval e X.env) :: starEach es X.env := by rfl) (hpl : (backTo pos (starEach es X.env)).any (·.1) = false := by rfl) :
    PE X (.Call (.Name x p) (e :: es) [] pos) (tMake C sp dvs E t) := by
  intro pins s σ H Q I h
  refine wpAny_Call_Name_kw (ld_glob I hg hm ?_ hdb)
  refine PySem.W.callWith_K (h₀ := X.base) I.ok.mod.kin M.kp (thn (ha pos pins s σ H _ I h) fun us s1 ⟨vs, H1, I1, r, q⟩ => ⟨I1.kIn, ?_⟩) he hpl
  exact run_make M F hr hb hd hx I1 r q
end
section
variable {X : Cx} {CX : CXT} {k : Nat} {f C : Addr} {fd : FuncData} {ps ks : List Str} {sp : Sp} {E : St → XK} {x m : Str} {p pos apos kpos : Pos} {e o : Expr} {es : List Expr} {kws : List Keyword} {te ta : TE} {t tk : TA} {nm : Option Str}
variable {g : List Value → List Value → List Value} {gV : List V → List V → List V}
end
structure FnScope (N P : List Str) (sc : Scope) : Prop where
  kind : sc.kind = .function
  co : sc.isCoroutine = false
  gen : sc.isGenerator = false
  nd : N.Nodup
  pre : N.take P.length = P
  par : ∀ x ∈ P, sc.names.lookup x = some .local ∨ sc.names.lookup x = some .cell
  nofree : ∀ y ∈ sc.names, y.2 ≠ .free
theorem bindL_out {kindOf : Str → Option NameKind} {x : Str} : ∀ {binds : List (Str × Value)} {m : Str → Option Value}, (∀ v, (x, v) ∉ binds) → bindL kindOf binds m x = m x
  | [], _, _ => rfl
  | (n, v) :: r, m, h => by
    unfold bindL
    rw [bindL_out fun w hw => h w (List.mem_cons_of_mem _ hw)]
    split
    · have : x ≠ n := by rintro rfl; exact h v List.mem_cons_self
      simp [this]
    · rfl
theorem bindC_out {kindOf : Str → Option NameKind} {x : Str} : ∀ {binds : List (Str × Value)} {m : Str → Option Value}, (∀ v, (x, v) ∉ binds) → bindC kindOf binds m x = m x
  | [], _, _ => rfl
  | (n, v) :: r, m, h => by
    unfold bindC
    rw [bindC_out fun w hw => h w (List.mem_cons_of_mem _ hw)]
    split
    · rfl
    · have : x ≠ n := by rintro rfl; exact h v List.mem_cons_self
      simp [this]
theorem bindL_get {kindOf : Str → Option NameKind} {x : Str} {v : Value} : ∀ {P : List Str} {vs : List Value} {i : Nat} {m : Str → Option Value}, P.Nodup → P[i]? = some x → vs[i]? = some v → kindOf x = some .local →
    bindL kindOf (P.zip vs) m x = some v
  | [], _, _, _, _, h, _, _ => by simp at h
  | _ :: _, [], _, _, _, _, h, _ => by simp at h
  | p :: P, w :: vs, 0, m, nd, h1, h2, hk => by
    simp at h1 h2; subst h1; subst h2
    show bindL kindOf ((p, w) :: P.zip vs) m p = _
    unfold bindL
    rw [bindL_out fun v hv => (List.nodup_cons.mp nd).1 (List.of_mem_zip hv).1, if_pos hk]
    simp
  | p :: P, w :: vs, i + 1, m, nd, h1, h2, hk => by
    show bindL kindOf ((p, w) :: P.zip vs) m x = _
    unfold bindL
    exact bindL_get (i := i) (List.nodup_cons.mp nd).2 (by simpa using h1) (by simpa using h2) hk
theorem bindC_get {kindOf : Str → Option NameKind} {x : Str} {v : Value} : ∀ {P : List Str} {vs : List Value} {i : Nat} {m : Str → Option Value}, P.Nodup → P[i]? = some x → vs[i]? = some v → kindOf x ≠ some .local →
    bindC kindOf (P.zip vs) m x = some v
  | [], _, _, _, _, h, _, _ => by simp at h
  | _ :: _, [], _, _, _, _, h, _ => by simp at h
  | p :: P, w :: vs, 0, m, nd, h1, h2, hk => by
    simp at h1 h2; subst h1; subst h2
    show bindC kindOf ((p, w) :: P.zip vs) m p = _
    unfold bindC
    rw [bindC_out fun v hv => (List.nodup_cons.mp nd).1 (List.of_mem_zip hv).1, if_neg hk]
    simp
  | p :: P, w :: vs, i + 1, m, nd, h1, h2, hk => by
    show bindC kindOf ((p, w) :: P.zip vs) m x = _
    unfold bindC
    exact bindC_get (i := i) (List.nodup_cons.mp nd).2 (by simpa using h1) (by simpa using h2) hk
def start (N : List Str) (vs : List V) : St := vs.map some ++ List.replicate (N.length - vs.length) none
def cxOf (q0 : Bool) (CX : CXT) (P : Program) (w : World) (K : PySem.W.Frag) (mg : Str → Option Value) (base : Heap) (N : List Str) (qual : Str) (scope : Scope) (f : Addr) (cd : Value) (A : Around) (outer : List Env) (s : Shared) (H : Hp) (E : XK) : Cx where
  prog := P
  w := w
  K := K
  mg := mg
  base := base
  A := A.deeper (envOfC qual scope s.heap.objs.size f cd)
  N := N
  s₀ := s
  H₀ := H
  env := envOfC qual scope s.heap.objs.size f cd
  outer := outer
  stack := envOfC qual scope s.heap.objs.size f cd :: outer
  ex := []
  calm := q0
  fn := fun _ => true
  pn := []
  xe := fun e s' => wpAny (model P w) (A.deeper (envOfC qual scope s.heap.objs.size f cd)) (leaving (envOfC qual scope s.heap.objs.size f cd) e) (fun _ s'' => CX outer H s E e s'') (fun e' s'' => CX outer H s E e' s'') s'
theorem cell_has {sc : Scope} {n : Nat} {x : Str} (h : sc.names.lookup x = some .cell) : ∃ c, (cellsFrom n sc.names []).lookup x = some c := by
  have q := PySem.W.cellsFrom_some sc.names n [] (.inl h)
  exact Option.isSome_iff_exists.mp q
theorem inv_start {CX : CXT} {P : Program} {w : World} {K : PySem.W.Frag} {mg : Str → Option Value} {base : Heap} {N ps : List Str} {qual : Str} {scope : Scope} {f : Addr} {cd : Value} {A : Around} {outer : List Env} {s s1 : Shared} {H : Hp} {E : XK} {us : List Value} {vs : List V}
    (S : FnScope N ps scope) (hd : q0 = true → A.handled = none) (e0 : Env0 P w K mg base A outer s H) (hl : vs.length = ps.length) (r : Vals vs us)
    (x : InCallC s s.heap.objs.size (bindL (envOfC qual scope s.heap.objs.size f cd).kindOf (ps.zip us) fun _ => none) (cellsFrom (s.heap.objs.size + 1) scope.names []) (bindC (envOfC qual scope s.heap.objs.size f cd).kindOf (ps.zip us) fun _ => none) s1) :
    Inv (cxOf q0 CX P w K mg base N qual scope f cd A outer s H E) [] (start N vs) H s1 := by
  have hpl : ps.length ≤ N.length := by have := congrArg List.length S.pre; rw [List.length_take] at this; omega
  obtain ⟨h1, tk, rfl, hk⟩ := x.done
  have noA : ∀ b : Addr, b ∉ (cxOf q0 CX P w K mg base N qual scope f cd A outer s H E).ex := fun b z => absurd (show b ∈ ([] : List Addr) from z) (by simp)
  refine ⟨⟨e0.mod, S.kind, rfl, rfl, Nat.le_refl _, fun y z c h1 h2 => ?_, fun y hy => ?_, fun y c _ h => ?_, hd, Around.frames_deeper e0.frames, .inr ⟨rfl, rfl⟩, fun b z => absurd z (noA b), e0.bs, e0.bsz, fun b _ _ => noA b, fun b z => absurd z (noA b), e0.funs, e0.frf⟩,
    rfl, e0.bare, Un.kept hk, ⟨_, x.toInCall.ns, fun i y v h1 h2 h3 => ?_⟩, fun y c h => ⟨_, x.cell y c h⟩, e0.hok.fresh (Nat.le_refl _), fun y c h => ?_, fun p hp => absurd (show p ∈ ([] : List (Addr × Obj)) from hp) (by simp), e0.hok.kept hk, ?_⟩
  · exact name_of_addr x.apart (PySem.mem_of_lookup h1) (PySem.mem_of_lookup h2)
  · have hy : scope.names.lookup y = some .cell ∨ scope.names.lookup y = some .free := hy
    rcases hy with hy | hy
    · exact cell_has hy
    · exact absurd rfl (S.nofree _ (PySem.mem_of_lookup hy))
  · exact Nat.le_of_lt (x.above y c (PySem.mem_of_lookup h))
  · have hi : i < vs.length := by
      unfold start at h2
      by_cases hi : i < vs.length
      · exact hi
      · rw [List.getElem?_append_right (by simpa using hi)] at h2
        rw [List.getElem?_replicate] at h2
        split at h2 <;> cases h2
    have ha : vs[i]? = some v := by
      unfold start at h2
      rw [List.getElem?_append_left (by simpa using hi), List.getElem?_map] at h2
      cases e : vs[i]? with
      | none => rw [e] at h2; cases h2
      | some a => rw [e] at h2; cases h2; rfl
    obtain ⟨u, hu, rv⟩ := r.get ha
    have hp : ps[i]? = some y := by
      rw [← S.pre, List.getElem?_take_of_lt (by omega)]; exact h1
    have ndP : ps.Nodup := by rw [← S.pre]; exact S.nd.sublist (List.take_sublist _ _)
    refine ⟨u, rv, ?_⟩
    rcases S.par y (List.mem_of_getElem? hp) with k | k
    · exact .inl ⟨k, bindL_get ndP hp hu k⟩
    · obtain ⟨c, e⟩ := cell_has (n := s.heap.objs.size + 1) k
      refine .inr ⟨.inl k, c, e, ?_⟩
      have q := x.cell y c e
      rw [bindC_get ndP hp hu (by show scope.names.lookup y ≠ _; rw [k]; decide)] at q
      exact q
  · exact e0.hok.fresh (Nat.le_of_lt (x.above y c (PySem.mem_of_lookup h)))
  · unfold start
    show _ = N.length
    rw [List.length_append, List.length_map, List.length_replicate]
    omega
theorem fn_of {CX : CXT} {P : Program} {w : World} {K : PySem.W.Frag} {mg : Str → Option Value} {base : Heap} {k : Nat} {f : Addr} {name qual : Str} {params : Arguments} {body : List Stmt} {scope : Scope} {dV kV doc pm cdv ct oc : Value} {an od : Option Addr}
    {osl : Array (Option Value)} {N ps : List Str} {sp : Sp} (lk : K.lookup f = some ⟨oc, od, .func (PySem.W.fnOf name qual params body scope dV kV doc pm an cdv ct), osl⟩) (hcd : PySem.W.codeIn K cdv qual = true) (S : FnScope N ps scope)
    (len : ∀ vs H Q E, sp vs H Q E → vs.length = ps.length)
    (hbody : ∀ (A : Around) (outer : List Env) (s : Shared) (H : Hp) (vs : List V) (Q : VK) (E : XK), Room q0 k (A.deeper (envOfC qual scope s.heap.objs.size f cdv)) → sp vs H Q E →
      ∃ t, PSs (cxOf q0 CX P w K mg base N qual scope f cdv A outer s H E) body t ∧ t { nx := fun _ H' => Q .non H', rt := Q } (start N vs) H) :
    FnOk q0 P w K mg base CX (k + 1) f (PySem.W.fnOf name qual params body scope dV kV doc pm an cdv ct) ps sp := by
  refine ⟨len, fun A outer s H args us vs Q E hr e0 hb r hsp => ?_⟩
  have hl := len _ _ _ _ hsp
  have KX : K.In s.heap := e0.mod.kin.keeps fun b o e => (e0.bs b o e).1
  have lim : s.heap.NoLimit := e0.mod.nolimit.keeps fun b o e => (e0.bs b o e).1
  have hkind : ∀ y ∈ ps.zip us, scope.names.lookup y.1 = some .local ∨ (scope.names.lookup y.1 = some .cell ∧ ((cellsFrom (s.heap.objs.size + 1) scope.names []).lookup y.1).isSome = true) := fun ⟨n, v⟩ hy => by
    rcases S.par n (List.of_mem_zip hy).1 with q | q
    · exact .inl q
    · exact .inr ⟨q, PySem.W.cellsFrom_some _ _ _ (.inl q)⟩
  refine codeAny_call_function hr.depth (KX _ _ lk) rfl S.co S.gen rfl (PySem.W.codeRec_of KX hcd) (hb _ _ _ _ ?_)
  refine wpAny_newFunctionEnv_cells S.kind hkind fun env he s1 x => ?_
  subst he
  refine ⟨lim.keeps x.toInCall.keep, codeAny_func ?_⟩
  obtain ⟨t, ht, hq⟩ := hbody A outer s H vs Q E (hr.deeper _) hsp
  have I : Inv (cxOf q0 CX P w K mg base N qual scope f cdv A outer s H E) [] (start N vs) H s1 := inv_start S hr.hd e0 hl r x
  refine wpAny_mono (ht [] s1 (start N vs) H _ I hq) (fun fl s' hs => ?_) fun e s' hs => hs
  have fin : ∀ {σ' : St} {H' : Hp} {v : V} {u : Value}, Inv (cxOf q0 CX P w K mg base N qual scope f cdv A outer s H E) [] σ' H' s' → RelV v u → Q v H' → CE outer P w H s Q u s' :=
    fun {σ' H' v u} J rv q => ⟨v, H', J.os, J.bare, J.base, J.hok, rv, q⟩
  cases fl with
  | ret u =>
    obtain ⟨v, σ', H', J, rv, q⟩ := hs
    exact fin J rv q
  | next =>
    obtain ⟨σ', H', J, q⟩ := hs
    exact fin (v := V.non) (u := Value.none) J rfl q
  | brk =>
    obtain ⟨_, _, _, q⟩ := hs
    exact False.elim q
  | cont =>
    obtain ⟨_, _, _, q⟩ := hs
    exact False.elim q
end L2
namespace L2
open PySem PySem.Spec PyProof.Rows
variable {q0 : Bool}
section
variable {X : Cx} {x : Str} {p pos : Pos} {e : Expr} {es : List Expr} {t : TA} {id T : String} {r : List V → Hp → VK → Prop}
def tCB (r : List V → Hp → VK → Prop) (t : TA) : TE := fun σ H Q => t σ H fun vs H1 => r vs H1 Q
theorem pe_callB (hc : CallR X (.builtin id) r) (hg : Gl X x) (hm : X.mg x = none) (hv : bootBuiltins x = some (.builtin id)) (ha : PA X (e :: es) t) (hn : x ≠ "__name__" := by decide) (hdb : (x == ("__debug__" : Str)) = false := by decide)
    (he : starEach (e :: es) X.env = (false, eval e X.env) :: starEach es X.env := by rfl) (hpl : (backTo pos (starEach es X.env)).any (·.1) = false := by rfl) : PE X (.Call (.Name x p) (e :: es) [] pos) (tCB r t) := by
  intro pins s σ H Q I h
  refine wpAny_Call_Name_kw (ld_blt I hg hm hv ?_ hn hdb)
  exact PyProof.Rows.callWith_builtin1 (thn (ha pos pins s σ H _ I h) fun us s1 ⟨vs, H1, I1, r1, q1⟩ => hc pins s1 σ H1 vs us Q I1 r1 q1) he hpl
theorem pe_callTy (hc : CallR X (.type T) r) (hg : Gl X x) (hm : X.mg x = none) (hv : bootBuiltins x = some (.type T)) (ha : PA X (e :: es) t) (hn : x ≠ "__name__" := by decide) (hdb : (x == ("__debug__" : Str)) = false := by decide)
    (he : starEach (e :: es) X.env = (false, eval e X.env) :: starEach es X.env := by rfl) (hpl : (backTo pos (starEach es X.env)).any (·.1) = false := by rfl) : PE X (.Call (.Name x p) (e :: es) [] pos) (tCB r t) := by
  intro pins s σ H Q I h
  refine wpAny_Call_Name_kw (ld_blt I hg hm hv ?_ hn hdb)
  exact PyProof.Rows.callWith_type1 (thn (ha pos pins s σ H _ I h) fun us s1 ⟨vs, H1, I1, r1, q1⟩ => hc pins s1 σ H1 vs us Q I1 r1 q1) he hpl
end
end L2
namespace HT
open PySem PyProof.Rows
section
open PySem.SeqAt
open PySem.AutoSeq1 (wpAny_loadPart')
open PySem.MeetsSeq PySem.MeetsSeq2 PySem.MeetsSeq3
end
section
variable {prog : Program} {w : World} {A : Around} {E : Value → Shared → Prop} {s : Shared}
theorem cat_tup {t b : Addr} {vs ws : List Value} {Q : Value → Shared → Prop} (ht : IsTup s.heap t vs.toArray) (hb : IsTup s.heap b ws.toArray) (hv : vs ≠ [])
    (h1 : ws = [] → Q (.ref t) s) (h2 : ws ≠ [] → Q (.ref s.heap.objs.size) { s with heap := s.heap.push { cls := .type "tuple", data := .seq (vs ++ ws).toArray } })
    (hsz : vs.length + ws.length ≤ sizeLine) : wpAny (model prog w) A (binaryOp .Add (.ref t) (.ref b)) Q E s := by
  obtain ⟨⟨cls, dd, data, sl⟩, ho, hc, n, hd⟩ := id ht
  obtain ⟨⟨cls2, dd2, data2, sl2⟩, ho2, hc2, n2, hd2⟩ := id hb
  simp only at hc hd hc2 hd2
  subst hc hd hc2 hd2
  have e : vs.toArray ++ ws.toArray = (vs ++ ws).toArray := by simp
  by_cases hw : ws = []
  · exact concat_meets ⟨_, ho, rfl⟩ ⟨_, ho2, rfl⟩ noFill_tuple_add seq_tuple_add PySem.F.slot_tuple_add PySem.F.entry_tuple_add (PySem.F.args_tuple_add_2 _ _)
      (tuple_addW1 t b vs.toArray ws.toArray n n2 dd dd2 sl sl2 (by simpa using hv) (by simp [hw])) ⟨ho, ho2, h1 hw⟩
  · refine concat_meets ⟨_, ho, rfl⟩ ⟨_, ho2, rfl⟩ noFill_tuple_add seq_tuple_add PySem.F.slot_tuple_add PySem.F.entry_tuple_add (PySem.F.args_tuple_add_2 _ _)
      (tuple_addW2 t b vs.toArray ws.toArray n n2 dd dd2 sl sl2 (by simpa using hv) (by simpa using hw) (by rw [List.size_toArray, List.size_toArray]; exact hsz)) ⟨ho, ho2, ?_⟩
    rw [e]
    exact h2 hw
def sIx (n d : Nat) : Option Int → Nat
  | none => d
  | some v => if v < 0 then (v + (n : Int)).toNat else min v.toNat n
theorem sIx_none (n d : Nat) : sIx n d none = d := rfl
theorem sIx_nat (n d k : Nat) : sIx n d (some (k : Int)) = min k n := by
  show (if (k : Int) < 0 then ((k : Int) + (n : Int)).toNat else min (k : Int).toNat n) = min k n
  rw [if_neg (by omega), Int.toNat_natCast]
end
end HT
namespace L2
open PySem PySem.Spec PyProof.Rows
variable {q0 : Bool}
abbrev TO := St → Hp → (Option Int → Hp → Prop) → Prop
def PO (X : Cx) (e : Option Expr) (t : TO) : Prop :=
  ∀ (pins : List (Addr × Obj)) (s : Shared) (σ : St) (H : Hp) (Q : Option Int → Hp → Prop), Inv X pins σ H s → t σ H Q →
    wpAny (model X.prog X.w) X.A (evalPart e X.env) (fun u s' => ∃ o H', Inv X pins σ H' s' ∧ IsPart u o ∧ Q o H') X.xe s
def tNoPart : TO := fun _ H Q => Q none H
def tPart (t : TE) : TO := fun σ H Q => t σ H fun x H1 => ∃ i, x = .int i ∧ Q (some i) H1
section
variable {X : Cx} {e : Expr} {te : TE} {lo hi : Option Expr} {tl th : TO} {pos p2 : Pos}
theorem po_none : PO X none tNoPart := by
  intro pins s σ H Q I h
  rw [evalPart_none]
  exact wpAny_pure ⟨none, H, I, .none, h⟩
theorem po_some (h : PE X e te) : PO X (some e) (tPart te) := by
  intro pins s σ H Q I hw
  rw [evalPart_some]
  refine thn (h pins s σ H _ I hw) fun u s1 ⟨x, H1, I1, r1, q1⟩ => ?_
  obtain ⟨i, rfl, q⟩ := q1
  obtain ⟨t, rfl⟩ := r1
  exact ⟨some i, H1, I1, .int i t, q⟩
def SlR (X : Cx) (r : V → Option Int → Option Int → Hp → VK → Prop) : Prop :=
  ∀ (pins : List (Addr × Obj)) (s : Shared) (σ : St) (H : Hp) (x : V) (v vl vu : Value) (lo hi : Option Int) (sl : Addr) (Q : VK), Inv X pins σ H s → RelV x v → s.heap.IsSliceOf sl vl vu .none → IsPart vl lo → IsPart vu hi → r x lo hi H Q →
    ∃ T id, typeLookup (.type T) "__getitem__" = pure (some (.builtin id)) ∧ s.TypeIs v T ∧ wpAny (model X.prog X.w) X.A (getItem v (.ref sl)) (EP X pins σ Q) X.xe s
def tSl (r : V → Option Int → Option Int → Hp → VK → Prop) (te : TE) (tl th : TO) : TE := fun σ H Q => te σ H fun x H1 => tl σ H1 fun l H2 => th σ H2 fun u H3 => r x l u H3 Q
theorem pe_slice {r : V → Option Int → Option Int → Hp → VK → Prop} (hr : SlR X r) (he : PE X e te) (hl : PO X lo tl) (hu : PO X hi th) : PE X (.Subscript e (.Slice lo hi none p2) pos) (tSl r te tl th) := by
  intro pins s σ H Q I h
  refine Subscript_ (thn (he pins s σ H _ I h) fun v s1 ⟨x, H1, I1, r1, q1⟩ => ?_)
  refine wpAny_Slice (thn (hl pins s1 σ H1 _ I1 q1) fun vl s2 ⟨l, H2, I2, pl, q2⟩ => thn (hu pins s2 σ H2 _ I2 q2) fun vu s3 ⟨u, H3, I3, pu, q3⟩ => ?_)
  rw [evalPart_none]
  refine wpAny_pure ?_
  have I4 : Inv X pins σ H3 { s3 with heap := s3.heap.push { cls := .type "slice", data := .fields #[vl, vu, .none] } } := I3.kept (t' := s3.toks) fun b ob q => Heap.get?_push_of_some _ q
  obtain ⟨T, id, hT, ht, hg⟩ := hr pins { s3 with heap := s3.heap.push { cls := .type "slice", data := .fields #[vl, vu, .none] } } σ H3 x v vl vu l u s3.heap.objs.size Q I4 r1 (Heap.IsSliceOf.new ..) pl pu q3
  show wpAny (model X.prog X.w) X.A (subscriptTail e (.Slice lo hi none p2) v (.ref s3.heap.objs.size)) (EP X pins σ Q) X.xe { s3 with heap := s3.heap.push { cls := .type "slice", data := .fields #[vl, vu, .none] } }
  exact tail_any (ops := [.ref s3.heap.objs.size, v]) ht hT hg (by with_unfolding_all rfl)
def cutV (xs : List V) (lo hi : Option Int) : List V := (xs.drop (HT.sIx xs.length 0 lo)).take (HT.sIx xs.length xs.length hi - HT.sIx xs.length 0 lo)
theorem cutV_length (xs : List V) (lo hi : Option Int) : (cutV xs lo hi).length ≤ xs.length := by
  unfold cutV
  rw [List.length_take, List.length_drop]
  omega
def rCatT (K : PySem.W.Frag) : R2 := fun x y H Q => ∃ a b xs ys, x = .ref a ∧ y = .ref b ∧ SqT K H a xs ∧ SqT K H b ys ∧ xs ≠ [] ∧ xs.length + ys.length ≤ sizeLine ∧
  (ys = [] → Q (.ref a) H) ∧ (ys ≠ [] → ∀ p, H p = none → Q (.ref p) (upd H p (.tup (xs ++ ys))))
theorem Vals.nil_iff {xs : List V} {us : List Value} (r : Vals xs us) : us = [] ↔ xs = [] := by
  cases r with
  | nil => simp
  | cons _ _ => simp
theorem op_catT : OpR X (binaryOp .Add) (rCatT X.K) := by
  intro pins s σ H x y v u Q I rx ry h
  obtain ⟨a, b, xs, ys, rfl, rfl, ha, hb, hx, hz, q1, q2⟩ := h
  cases rx
  cases ry
  obtain ⟨its, r1, p1, _⟩ := I.tuple ha
  obtain ⟨its2, r2, p2, _⟩ := I.tuple hb
  refine HT.cat_tup p1 p2 (fun z => hx (r1.nil_iff.mp z)) (fun z => ⟨.ref a, H, I, rfl, q1 (r2.nil_iff.mp z)⟩) (fun z => ?_) (by rw [← r1.length, ← r2.length]; exact hz)
  refine ⟨.ref s.heap.objs.size, _, I.laid (t' := s.toks) (o := .tup (xs ++ ys)) (fun b ob q => Heap.get?_push_of_some _ q) (Nat.le_refl _) ?_, rfl, q2 (fun w => z (r2.nil_iff.mpr w)) _ (I.hok.fresh (Nat.le_refl _))⟩
  exact ⟨by rw [List.length_append]; exact hz, _, r1.append r2, IsTup.new _ _⟩
end
end L2
namespace L2
open PySem PySem.Spec PyProof.Rows
variable {q0 : Bool}
def ixN (n : Nat) (i : Int) : Option Nat := if 0 ≤ i then (if i < n then some i.toNat else none) else if -(n : Int) ≤ i then some (i + n).toNat else none
def atI {α : Type} (xs : List α) (i : Int) : Option α := (ixN xs.length i).bind fun j => xs[j]?
theorem ixN_seq {n : Nat} {i : Int} {j : Nat} (h : ixN n i = some j) : seqIndex? i n = some j ∧ j < n ∧ -(n : Int) ≤ i ∧ i < n := by
  unfold ixN at h
  by_cases h0 : 0 ≤ i
  · rw [if_pos h0] at h
    by_cases h1 : i < n
    · rw [if_pos h1] at h
      have e : i.toNat = j := Option.some.inj h
      exact ⟨by rw [seqIndex_of h0 h1, e], by omega, by omega, h1⟩
    · rw [if_neg h1] at h; cases h
  · rw [if_neg h0] at h
    by_cases h1 : -(n : Int) ≤ i
    · rw [if_pos h1] at h
      have e : (i + n).toNat = j := Option.some.inj h
      exact ⟨by rw [seqIndex_neg (by omega) h1, e], by omega, h1, by omega⟩
    · rw [if_neg h1] at h; cases h
theorem atI_get {α : Type} {xs : List α} {i : Int} {v : α} (h : atI xs i = some v) : ∃ j, seqIndex? i xs.length = some j ∧ xs[j]? = some v ∧ j < xs.length ∧ -(xs.length : Int) ≤ i ∧ i < xs.length := by
  unfold atI at h
  cases e : ixN xs.length i with
  | none => rw [e] at h; cases h
  | some j =>
    rw [e] at h
    obtain ⟨h1, h2, h3, h4⟩ := ixN_seq e
    exact ⟨j, h1, h, h2, h3, h4⟩
theorem atI_nat {α : Type} {xs : List α} {j : Nat} {v : α} (h : xs[j]? = some v) : atI xs (j : Int) = some v := by
  have hj : j < xs.length := (List.getElem?_eq_some_iff.mp h).1
  have e : ixN xs.length (j : Int) = some j := by
    unfold ixN
    rw [if_pos (by omega), if_pos (by omega)]; simp
  unfold atI; rw [e]; exact h
def PlainIx (b : Expr) : Prop := ∀ o i, subscripted b false o i = operate [o, i] (getItem o i)
def IxR (X : Cx) (r : R2) : Prop :=
  ∀ (value slice : Expr) (pins : List (Addr × Obj)) (s : Shared) (σ : St) (H : Hp) (x y : V) (v u : Value) (Q : VK), Inv X pins σ H s → RelV x v → RelV y u → r x y H Q →
    subscripted slice false v u = operate [v, u] (getItem v u) → wpAny (model X.prog X.w) X.A (subscriptTail value slice v u) (EP X pins σ Q) X.xe s
def MtR (X : Cx) (id : String) (r : V → List V → Hp → VK → Prop) : Prop :=
  ∀ (pins : List (Addr × Obj)) (s : Shared) (σ : St) (H : Hp) (x : V) (xs : List V) (v : Value) (us : List Value) (Q : VK), Inv X pins σ H s → RelV x v → Vals xs us → r x xs H Q →
    wpAny (model X.prog X.w) X.A (call (.builtin id) (v :: us)) (EP X pins σ Q) X.xe s
section
variable {X : Cx} {a b : Expr} {ta tb : TE} {pos : Pos}
theorem pe_ix {r : R2} (hr : IxR X r) (ha : PE X a ta) (hb : PE X b tb) (hs : PlainIx b) : PE X (.Subscript a b pos) (tOp r ta tb) := by
  intro pins s σ H Q I h
  exact Subscript_ (binT ha hb I h fun v u s2 x y H2 I2 rx ry q => hr a b pins s2 σ H2 x y v u Q I2 rx ry q (hs _ _))
def rIxL (K : PySem.W.Frag) : R2 := fun x y H Q => ∃ p xs i v, x = .ref p ∧ y = .int i ∧ SqL K H p xs ∧ atI xs i = some v ∧ Q v H
def rIxT (K : PySem.W.Frag) : R2 := fun x y H Q => ∃ p xs i v, x = .ref p ∧ y = .int i ∧ SqT K H p xs ∧ atI xs i = some v ∧ Q v H
def rIxS : R2 := fun x y H Q => ∃ z i c, x = .str z ∧ y = .int i ∧ z.length ≤ sizeLine ∧ atI z.cps.toList i = some c ∧ Q (.str ⟨#[c]⟩) H
theorem ix_list : IxR X (rIxL X.K) := by
  intro value slice pins s σ H x y v u Q I rx ry h hs
  obtain ⟨p, xs, i, z, rfl, rfl, hq, he, q⟩ := h
  cases rx
  obtain ⟨t, rfl⟩ := ry
  obtain ⟨its, r, pl, hz⟩ := I.list hq
  obtain ⟨j, h1, h2, h3, h4, h5⟩ := atI_get he
  obtain ⟨w, ew, rw'⟩ := r.get h2
  have hl := r.length
  have hn := line63
  have fin : EP X pins σ Q w s := ⟨z, H, I, rw', q⟩
  by_cases h0 : 0 ≤ i
  · have hj : i.toNat = j := by
      rw [seqIndex_of h0 h5] at h1
      exact Option.some.inj h1
    exact item_listR pl.isList h0 (by omega) (by rw [hj]; simpa using ew) fin hs
  · have hj : (i + (its.toArray.size : Int)).toNat = j := by
      rw [seqIndex_neg (by omega) h4] at h1
      rw [List.size_toArray, ← hl]
      exact Option.some.inj h1
    exact subscriptTail_builtinR (x := w) pl.isList.typeIs slot_list_getitem.lookup
      (wpAny_getItem_list_neg (Q := fun r s' => r = w ∧ EP X pins σ Q r s') pl.isList (by omega) (by rw [List.size_toArray] <;> omega) (by omega) (by rw [hj]; simpa using ew) ⟨rfl, fin⟩) hs
theorem ix_tup : IxR X (rIxT X.K) := by
  intro value slice pins s σ H x y v u Q I rx ry h hs
  obtain ⟨p, xs, i, z, rfl, rfl, hq, he, q⟩ := h
  cases rx
  obtain ⟨t, rfl⟩ := ry
  obtain ⟨its, r, pl, hz⟩ := I.tuple hq
  obtain ⟨j, h1, h2, h3, h4, h5⟩ := atI_get he
  obtain ⟨w, ew, rw'⟩ := r.get h2
  have hl := r.length
  have hn := line63
  have fin : EP X pins σ Q w s := ⟨z, H, I, rw', q⟩
  exact subscriptTail_builtinR (x := w) pl.typeIs slot_tuple_getitem.lookup
    (getItem_tuple (j := j) (Q := fun r s' => r = w ∧ EP X pins σ Q r s') pl (by omega) (by omega) (by rw [List.size_toArray, ← hl]; exact h1) (by simpa using ew) ⟨rfl, fin⟩) hs
theorem ix_str : IxR X rIxS := by
  intro value slice pins s σ H x y v u Q I rx ry h hs
  obtain ⟨z, i, c, rfl, rfl, hz, he, q⟩ := h
  obtain ⟨t, rfl⟩ := rx
  obtain ⟨t', rfl⟩ := ry
  obtain ⟨j, h1, h2, h3, h4, h5⟩ := atI_get he
  have hl : z.cps.toList.length = z.length := by simp [Str.length]
  rw [hl] at h1 h4 h5
  have hn := line63
  exact tail_any (typeIs_str s z t) slot_str_getitem.lookup (getItem_str (c := c) (by
    have e1 : decide (i < -(2 ^ 63 : Int)) = false := decide_eq_false (by omega)
    have e2 : decide (i ≥ 2 ^ 63) = false := decide_eq_false (by omega)
    rw [e1, e2, Bool.or_false]) (by rw [h1]; simpa using h2) ⟨.str ⟨#[c]⟩, H, I.tok _, ⟨_, rfl⟩, q⟩) hs
theorem mapSeq_set (its : List Value) (n j : Nat) (u : Value) : Obj.mapSeq (·.setIfInBounds j u) { cls := .type "list", data := .seq its.toArray n } = { cls := .type "list", data := .seq (its.set j u).toArray n } := by
  simp [Obj.mapSeq]
theorem Inv.lst {pins : List (Addr × Obj)} {σ : St} {H : Hp} {s : Shared} {p : Addr} {xs : List V} (I : Inv X pins σ H s) (h : H p = some (.lst xs)) :
    ∃ (its : List Value) (n : Nat), Vals xs its ∧ s.heap.get? p = some { cls := .type "list", data := .seq its.toArray n } ∧ xs.length ≤ sizeLine := by
  obtain ⟨z, its, n, r, e⟩ := I.hok p _ h
  exact ⟨its, n, r, e, z⟩
theorem Inv.lstUpd {pins : List (Addr × Obj)} {σ : St} {H : Hp} {s : Shared} {p : Addr} {xs ys : List V} {its its' : List Value} {n n' : Nat} {f : Obj → Obj} (I : Inv X pins σ H s) (h : H p = some (.lst xs))
    (ho : s.heap.get? p = some { cls := .type "list", data := .seq its.toArray n }) (hf : f { cls := .type "list", data := .seq its.toArray n } = { cls := .type "list", data := .seq its'.toArray n' }) (r : Vals ys its') (hz : ys.length ≤ sizeLine) (t : Nat) :
    Inv X pins σ (upd H p (.lst ys)) { s with heap := s.heap.update p f, toks := t } := by
  have e : (s.heap.update p f).get? p = some { cls := .type "list", data := .seq its'.toArray n' } := by
    rw [Heap.get?_update_self f ho (by rw [hf] <;> rfl), hf]
  refine I.write (x := p) (e := p) (by rw [h]; trivial) (.inl rfl) (fun b u hb q => (Heap.get?_update_other _ _ (Ne.symm hb)).trans q) ⟨_, e⟩ ?_
  exact ⟨hz, its', n', r, e⟩
def rSetL : V → V → V → Hp → (Hp → Prop) → Prop := fun o i v H Q => ∃ p xs k j, o = .ref p ∧ i = .int k ∧ H p = some (.lst xs) ∧ ixN xs.length k = some j ∧ Q (upd H p (.lst (xs.set j v)))
theorem set_list : PSet X rSetL := by
  intro pins s σ H o i v ov iv u Q I ro ri rv h
  obtain ⟨p, xs, k, j, rfl, rfl, hp, hj, q⟩ := h
  cases ro
  obtain ⟨t, rfl⟩ := ri
  obtain ⟨its, n, r, ho, hz⟩ := I.lst hp
  obtain ⟨h1, h2, h3, h4⟩ := ixN_seq hj
  have hl := r.length
  have hn := line63
  have I' : Inv X pins σ (upd H p (.lst (xs.set j v))) { s with heap := s.heap.update p (Obj.mapSeq (·.setIfInBounds j u)) } :=
    I.lstUpd hp ho (mapSeq_set its n j u) (r.set rv j) (by rw [List.length_set]; exact hz) s.toks
  by_cases h0 : 0 ≤ k
  · have hk : k.toNat = j := by
      rw [seqIndex_of h0 h4] at h1
      exact Option.some.inj h1
    exact PySem.W.ki_setAt ho h0 (by omega) (by rw [List.size_toArray, ← hl]; exact h4) (by rw [hk]; exact ⟨_, I', q⟩)
  · have hk : (k + (its.toArray.size : Int)).toNat = j := by
      rw [seqIndex_neg (by omega) h3] at h1
      rw [List.size_toArray, ← hl]
      exact Option.some.inj h1
    exact PySem.W.ki_setBack ho (by omega) (by rw [List.size_toArray, ← hl]; exact h3) (by omega) (by rw [hk]; exact ⟨_, I', q⟩)
theorem slice_bounds (lo hi : Option Int) (n : Nat) : (sliceBounds lo hi none n).1 = ((HT.sIx n 0 lo : Nat) : Int) ∧ (sliceBounds lo hi none n).2.1 = ((HT.sIx n n hi : Nat) : Int) ∧ (sliceBounds lo hi none n).2.2 = 1 := by
  refine ⟨?_, ?_, rfl⟩
  · cases lo with
    | none => simp [sliceBounds, HT.sIx]
    | some i =>
      simp only [sliceBounds, HT.sIx, Option.getD_none, show (1 : Int) > 0 by decide, if_true]
      by_cases h : i < 0
      · simp only [h, if_true] <;> omega
      · simp only [h, if_false] <;> omega
  · cases hi with
    | none => simp [sliceBounds, HT.sIx]
    | some i =>
      simp only [sliceBounds, HT.sIx, Option.getD_none, show (1 : Int) > 0 by decide, if_true]
      by_cases h : i < 0
      · simp only [h, if_true] <;> omega
      · simp only [h, if_false] <;> omega
theorem slicePick_cut (its : List Value) (lo hi : Option Int) : slicePick its.toArray lo hi none = ((its.drop (HT.sIx its.length 0 lo)).take (HT.sIx its.length its.length hi - HT.sIx its.length 0 lo)).toArray := by
  obtain ⟨h1, h2, h3⟩ := slice_bounds lo hi its.toArray.size
  unfold slicePick
  rw [h1, h2, h3]
  simp only [sliceRange_one, pick_run, List.size_toArray] <;> rfl
def rSlL (K : PySem.W.Frag) : V → Option Int → Option Int → Hp → VK → Prop := fun x lo hi H Q => ∃ a xs, x = .ref a ∧ SqL K H a xs ∧ ∀ p, H p = none → Q (.ref p) (upd H p (.lst (cutV xs lo hi)))
theorem sl_list : SlR X (rSlL X.K) := by
  intro pins s σ H x v vl vu lo hi sl Q I rx hs pl pu h
  obtain ⟨a, xs, rfl, hx, q⟩ := h
  cases rx
  obtain ⟨its, r, ht, hz⟩ := I.list hx
  have hlen := r.length
  refine ⟨"list", _, slot_list_getitem.lookup, ht.isList.typeIs, ?_⟩
  refine wpAny_getItem_list_slice ht.isList hs pl pu .none (by simp) ?_ (by rw [List.size_toArray] <;> omega)
  rw [slicePick_cut, ← hlen]
  refine ⟨.ref s.heap.objs.size, _, I.laid (t' := s.toks) (o := .lst (cutV xs lo hi)) (fun b ob q => Heap.get?_push_of_some _ q) (Nat.le_refl _) ?_, rfl, q _ (I.hok.fresh (Nat.le_refl _))⟩
  exact ⟨Nat.le_trans (cutV_length xs lo hi) hz, _, 0, (r.drop (HT.sIx xs.length 0 lo)).take (HT.sIx xs.length xs.length hi - HT.sIx xs.length 0 lo), Heap.get?_push_size _ rfl⟩
def flatV : V → Bool
  | .non => true
  | .bl _ => true
  | .int _ => true
  | .str _ => true
  | _ => false
def eqV : V → V → Bool
  | .non, .non => true
  | .bl a, .bl b => a == b
  | .bl a, .int b => (if a then 1 else 0) == b
  | .int a, .bl b => a == (if b then 1 else 0)
  | .int a, .int b => a == b
  | .str a, .str b => a == b
  | _, _ => false
theorem eqAt_V {A : Around} {s : Shared} {y x : V} {u v : Value} (ry : RelV y u) (rx : RelV x v) (fy : flatV y = true) (fx : flatV x = true) : SeqAt.EqAt A s u v (eqV y x) := by
  cases y with
  | non =>
    cases ry
    cases x with
    | non => cases rx; exact SeqAt.EqAt.same _
    | bl b => cases rx; exact SeqAt.EqAt.none_bool b
    | int b => obtain ⟨t, rfl⟩ := rx; exact SeqAt.EqAt.none_int b t
    | str b => obtain ⟨t, rfl⟩ := rx; exact SeqAt.EqAt.none_str b t
    | _ => exact absurd (show false = true from fx) Bool.false_ne_true
  | bl a =>
    cases ry
    cases x with
    | non => cases rx; exact SeqAt.EqAt.bool_none a
    | bl b => cases rx; exact SeqAt.EqAt.bool_bool a b
    | int b => obtain ⟨t, rfl⟩ := rx; exact SeqAt.EqAt.bool_int a b t
    | str b => obtain ⟨t, rfl⟩ := rx; exact SeqAt.EqAt.bool_str a b t
    | _ => exact absurd (show false = true from fx) Bool.false_ne_true
  | int a =>
    obtain ⟨t', rfl⟩ := ry
    cases x with
    | non => cases rx; exact SeqAt.EqAt.int_none a t'
    | bl b => cases rx; exact SeqAt.EqAt.int_bool a t' b
    | int b => obtain ⟨t, rfl⟩ := rx; exact SeqAt.EqAt.int_int a t' b t
    | str b => obtain ⟨t, rfl⟩ := rx; exact SeqAt.EqAt.int_str a t' b t
    | _ => exact absurd (show false = true from fx) Bool.false_ne_true
  | str a =>
    obtain ⟨t', rfl⟩ := ry
    cases x with
    | non => cases rx; exact SeqAt.EqAt.str_none a t'
    | bl b => cases rx; exact SeqAt.EqAt.str_bool a t' b
    | int b => obtain ⟨t, rfl⟩ := rx; exact SeqAt.EqAt.str_int a t' b t
    | str b => obtain ⟨t, rfl⟩ := rx; exact SeqAt.EqAt.str_str a t' b t
    | _ => exact absurd (show false = true from fx) Bool.false_ne_true
  | _ => exact absurd (show false = true from fy) Bool.false_ne_true
def eqU (x : V) (u : Value) : Bool := match u with
  | .none => eqV .non x
  | .bool b => eqV (.bl b) x
  | .int i _ => eqV (.int i) x
  | .str z _ => eqV (.str z) x
  | _ => false
theorem eqU_of {x y : V} {u : Value} (r : RelV y u) (f : flatV y = true) : eqU x u = eqV y x := by
  cases y with
  | non => cases r; rfl
  | bl b => cases r; rfl
  | int i => obtain ⟨t, rfl⟩ := r; rfl
  | str z => obtain ⟨t, rfl⟩ := r; rfl
  | _ => exact absurd (show false = true from f) Bool.false_ne_true
theorem any_eqU {x : V} : ∀ {xs : List V} {us : List Value}, Vals xs us → xs.all flatV = true → us.any (eqU x) = xs.any fun y => eqV y x
  | _, _, .nil, _ => rfl
  | y :: xs, u :: us, .cons r t, f => by
    rw [List.all_cons, Bool.and_eq_true] at f
    rw [List.any_cons, List.any_cons, eqU_of r f.1, any_eqU t f.2]
theorem mem_eqAt {A : Around} {s : Shared} {x : V} {v : Value} (rx : RelV x v) (fx : flatV x = true) : ∀ {xs : List V} {us : List Value}, Vals xs us → xs.all flatV = true → ∀ u ∈ us, SeqAt.EqAt A s u v (eqU x u)
  | _, _, .nil, _ => fun u hu => by cases hu
  | y :: xs, u :: us, .cons r t, f => fun u' hu => by
    rw [List.all_cons, Bool.and_eq_true] at f
    rcases List.mem_cons.mp hu with rfl | hu
    · rw [eqU_of r f.1]; exact eqAt_V r rx f.1 fx
    · exact mem_eqAt rx fx t f.2 u' hu
def inV (x : V) (xs : List V) : Bool := xs.any fun y => eqV y x
def rIn (K : PySem.W.Frag) (neg : Bool) : R2 := fun x y H Q => ∃ p xs, y = .ref p ∧ (SqL K H p xs ∨ SqT K H p xs) ∧ flatV x = true ∧ xs.all flatV = true ∧ Q (.bl (if neg then !inV x xs else inV x xs)) H
theorem op_in_seq : OpR X (compareOp .In) (rIn X.K false) := by
  intro pins s σ H x y v u Q I rx ry h
  obtain ⟨p, xs, rfl, hq, fx, fs, q⟩ := h
  cases ry
  rcases hq with hq | hq
  · obtain ⟨its, r, pl, hz⟩ := I.list hq
    refine SeqAt.in_listAt (eqU x) pl.isList (fun w hw => mem_eqAt rx fx r fs w (by simpa using hw)) ⟨.bl _, H, I, rfl, ?_⟩
    rw [show its.toArray.any (eqU x) = its.any (eqU x) by simp, any_eqU r fs]
    exact q
  · obtain ⟨its, r, pl, hz⟩ := I.tuple hq
    refine SeqAt.in_tupleAt (eqU x) pl (fun w hw => mem_eqAt rx fx r fs w (by simpa using hw)) ⟨.bl _, H, I, rfl, ?_⟩
    rw [show its.toArray.any (eqU x) = its.any (eqU x) by simp, any_eqU r fs]
    exact q
theorem call_len_seq : CallR X (.builtin "len") (fun xs H Q => ∃ p ys, xs = [.ref p] ∧ (SqL X.K H p ys ∨ SqT X.K H p ys) ∧ Q (.int ys.length) H) := by
  intro pins s σ H xs us Q I r h
  obtain ⟨p, ys, rfl, hq, q⟩ := h
  obtain ⟨u, rfl, rx⟩ := vals1 r
  cases rx
  have hn := line63
  rcases hq with hq | hq
  · obtain ⟨its, r', pl, hz⟩ := I.list hq
    have hlen := r'.length
    exact Calls.call_len_list pl.isList (by simp only [List.size_toArray] <;> omega) ⟨.int ys.length, H, I.tok _, ⟨s.toks + 1, by rw [List.size_toArray, hlen]⟩, q⟩
  · obtain ⟨its, r', pl, hz⟩ := I.tuple hq
    have hlen := r'.length
    exact len_tuple pl (by simp only [List.size_toArray] <;> omega) ⟨.int ys.length, H, I.tok _, ⟨s.toks + 1, by rw [List.size_toArray, hlen]⟩, q⟩
theorem call_len_str : CallR X (.builtin "len") (fun xs H Q => ∃ z, xs = [.str z] ∧ z.length ≤ sizeLine ∧ Q (.int z.length) H) := by
  intro pins s σ H xs us Q I r h
  obtain ⟨z, rfl, hz, q⟩ := h
  obtain ⟨u, rfl, t, rfl⟩ := vals1 r
  have hn := line63
  exact len_str (by omega) ⟨.int z.length, H, I.tok _, ⟨_, rfl⟩, q⟩
theorem call_list_of : CallR X (.type "list") (fun xs H Q => ∃ p ys, xs = [.ref p] ∧ (SqL X.K H p ys ∨ SqT X.K H p ys) ∧ ∀ l, H l = none → Q (.ref l) (upd H l (.lst ys))) := by
  intro pins s σ H xs us Q I r h
  obtain ⟨p, ys, rfl, hq, q⟩ := h
  obtain ⟨u, rfl, rx⟩ := vals1 r
  cases rx
  have fin : ∀ (its : List Value), Vals ys its → ys.length ≤ sizeLine → ∀ (h' : Heap) (c' : Nat), (∀ b o', s.heap.get? b = some o' → h'.get? b = some o') →
      h'.get? s.heap.objs.size = some { cls := .type "list", dict := none, data := .seq its.toArray c', slots := #[] } → EP X pins σ Q (.ref s.heap.objs.size) { s with heap := h' } := fun its r' hz h' c' kp e =>
    ⟨.ref s.heap.objs.size, _, I.laid (t' := s.toks) kp (Nat.le_refl _) (show ObjOk X.prog X.w _ h' _ (.lst ys) from ⟨hz, its, c', r', e⟩), rfl, q _ (I.hok.fresh (Nat.le_refl _))⟩
  rcases hq with hq | hq
  · obtain ⟨its, r', pl, hz⟩ := I.list hq
    have hlen := r'.length
    obtain ⟨o, ho, hc, n, hd⟩ := pl.isList
    exact call_list_seq p (.inl rfl) ho hc hd (fun h' c' kp e => fin its r' hz h' c' kp e) (by simp only [List.size_toArray] <;> omega)
  · obtain ⟨its, r', pl, hz⟩ := I.tuple hq
    have hlen := r'.length
    obtain ⟨o, ho, hc, n, hd⟩ := pl
    exact call_list_seq p (.inr rfl) ho hc hd (fun h' c' kp e => fin its r' hz h' c' kp e) (by simp only [List.size_toArray] <;> omega)
def tyV (K : PySem.W.Frag) (T : String) (x : V) (H : Hp) : Prop := match x with
  | .str _ => T = "str"
  | .int _ => T = "int"
  | .ref p => (T = "list" ∧ ∃ xs, SqL K H p xs) ∨ (T = "tuple" ∧ ∃ o, K.lookup p = some o ∧ o.cls = .type "tuple" ∧ o.dict = none) ∨
      (T = "dict" ∧ ((∃ kvs, H p = some (.dK kvs)) ∨ ∃ kvs, H p = some (.dT kvs))) ∨ (T = "set" ∧ ∃ S n, H p = some (.set S n))
  | _ => False
theorem tyV_is {pins : List (Addr × Obj)} {σ : St} {H : Hp} {s : Shared} {T : String} {x : V} {v : Value} (I : Inv X pins σ H s) (r : RelV x v) (ty : tyV X.K T x H) :
    s.TypeIs v T ∧ ∀ a, v = .ref a → ∃ ob, s.heap.get? a = some ob ∧ ob.dict = none := by
  cases x with
  | str z =>
    obtain ⟨t, rfl⟩ := r
    cases (show T = "str" from ty)
    exact ⟨typeIs_str s z t, fun _ e => nomatch e⟩
  | int i =>
    obtain ⟨t, rfl⟩ := r
    cases (show T = "int" from ty)
    exact ⟨typeIs_int s i t, fun _ e => nomatch e⟩
  | ref p =>
    cases r
    rcases ty with ⟨rfl, xs, hq⟩ | ⟨rfl, o, hk, hc, hd⟩ | ⟨rfl, hk⟩ | ⟨rfl, S, n, hk⟩
    · obtain ⟨its, _, pl, _⟩ := I.list hq
      refine ⟨pl.isList.typeIs, fun a e => ?_⟩
      cases e
      obtain ⟨o, n, e, c, hd, _⟩ := pl
      exact ⟨o, e, hd⟩
    · refine ⟨⟨o, I.kIn p o hk, hc⟩, fun a e => ?_⟩
      cases e
      exact ⟨o, I.kIn _ o hk, hd⟩
    · have z : ∃ o, s.heap.get? p = some o ∧ o.ExactDict := by
        rcases hk with ⟨kvs, hk⟩ | ⟨kvs, hk⟩
        · obtain ⟨_, _, _, _, o, _, _, e, ex, _⟩ := I.hok p _ hk
          exact ⟨o, e, ex⟩
        · obtain ⟨_, _, _, _, o, _, _, e, ex, _⟩ := I.hok p _ hk
          exact ⟨o, e, ex⟩
      obtain ⟨o, e, ex⟩ := z
      refine ⟨⟨o, e, ex.1⟩, fun a e2 => ?_⟩
      cases e2
      exact ⟨o, e, ex.2.1⟩
    · obtain ⟨o, _, _, _, e, ex, _⟩ := I.hok p _ hk
      refine ⟨⟨o, e, ex.1⟩, fun a e2 => ?_⟩
      cases e2
      exact ⟨o, e, ex.2.1⟩
  | _ => exact False.elim ty
def tBM (K : PySem.W.Frag) (T : String) (r : V → List V → Hp → VK → Prop) (to : TE) (t : TA) : TE := fun σ H Q => to σ H fun x H1 => tyV K T x H1 ∧ t σ H1 fun xs H2 => r x xs H2 Q
variable {o e : Expr} {es : List Expr} {to : TE} {t : TA} {name : Str} {apos cpos : Pos} {T id : String} {r : V → List V → Hp → VK → Prop}
theorem pe_bm (pa : PlainAttrs T) (slot : Slot T name id) (hty : typeOf (.builtin id) = pure (.type "method_descriptor")) (hm : MtR X id r) (ho : PE X o to) (ha : PA X (e :: es) t)
    (hbase : attributeBase o name X.env (eval o X.env) = eval o X.env := by rfl)
    (hfew : ((backTo cpos (starEach (e :: es) X.env)).all (fun x => !x.1) && (backToKw cpos (keywordEach [] X.env)).all (fun x => x.1.isSome)
      && decide ((e :: es).length + ([] : List Keyword).length + (if ([] : List Keyword).isEmpty then 0 else 1) < 30)) = true := by rfl)
    (hline : (apos.endLine == cpos.line) = true := by rfl) (hs : starEach (e :: es) X.env = (false, eval e X.env) :: starEach es X.env := by rfl) (hplain : (backTo cpos (starEach es X.env)).any (·.1) = false := by rfl) :
    PE X (.Call (.Attribute o name apos) (e :: es) [] cpos) (tBM X.K T r to t) := by
  intro pins s σ H Q I h
  refine wpAny_Call_method_late hbase hfew hline rfl (thn (ho pins s σ H _ I h) fun v s1 ⟨x, H1, I1, r1, ty, q1⟩ => ?_)
  obtain ⟨h1, h2⟩ := tyV_is I1 r1 ty
  refine ⟨T, id, pa, slot, hty, h1, h2, ?_⟩
  have hA := ha cpos pins s1 σ H1 _ I1 q1
  rw [hs] at hA ⊢
  refine Calls.callWith_builtin (by show (false || (backTo cpos (starEach es X.env)).any (·.1)) = false; rw [hplain] <;> rfl) (Calls.evalArgs_plain ?_)
  exact thn hA fun us s2 ⟨vs, H2, I2, r2, q2⟩ => hm pins s2 σ H2 x vs v us Q I2 r1 r2 q2
end
end L2
namespace L2
open PySem PySem.Spec PyProof.Rows
variable {q0 : Bool}
def MtM (X : Cx) (id : String) (r : V → List V → Hp → VK → Prop) : Prop :=
  ∀ (pins : List (Addr × Obj)) (s : Shared) (σ : St) (H : Hp) (x : V) (xs : List V) (v : Value) (us : List Value) (Q : VK), Inv X pins σ H s → RelV x v → Vals xs us → r x xs H Q →
    wpAny (model X.prog X.w) X.A (call (.builtin id) (v :: us)) (EP X pins σ Q) X.xe s
theorem Vals.one : ∀ {x : V} {us : List Value}, Vals [x] us → ∃ u, us = [u] ∧ RelV x u
  | _, _, .cons r .nil => ⟨_, rfl, r⟩
theorem Vals.eraseIdx : ∀ {xs : List V} {us : List Value} (i : Nat), Vals xs us → Vals (xs.eraseIdx i) (us.eraseIdx i)
  | _, _, _, .nil => .nil
  | _, _, 0, .cons _ t => t
  | _, _, i + 1, .cons r t => .cons r (Vals.eraseIdx i t)
theorem len_erase {α : Type} : ∀ (l : List α) (i : Nat), (l.eraseIdx i).length ≤ l.length
  | [], _ => Nat.le_refl _
  | _ :: _, 0 => Nat.le_succ _
  | _ :: r, i + 1 => Nat.succ_le_succ (len_erase r i)
section
variable {X : Cx} {pins : List (Addr × Obj)} {σ : St} {H : Hp} {s : Shared} {l b : Addr} {xs ys zs : List V}
theorem Inv.lset {its its' : List Value} {n : Nat} {f : Array Value → Array Value} {t' : Nat} (I : Inv X pins σ H s) (hH : H l = some (.lst xs))
    (e : s.heap.get? l = some { cls := .type "list", data := .seq its.toArray n }) (hf : f its.toArray = its'.toArray) (hv : Vals ys its') (hz : ys.length ≤ sizeLine) :
    Inv X pins σ (upd H l (.lst ys)) { s with heap := s.heap.update l (Obj.mapSeq f), toks := t' } := by
  have q := PySem.IsL.update e f
  rw [hf] at q
  refine I.write (x := l) (e := l) (by rw [hH]; exact trivial) (.inl rfl) (fun b' u hb hu => (Heap.get?_update_other s.heap (Obj.mapSeq f) (Ne.symm hb)).trans hu) ⟨_, q⟩ ?_
  exact ⟨hz, its', _, hv, q⟩
theorem Inv.lnew {its : List Value} {t' : Nat} (I : Inv X pins σ H s) (hv : Vals ys its) (hz : ys.length ≤ sizeLine) :
    Inv X pins σ (upd H s.heap.objs.size (.lst ys)) { s with heap := s.heap.push { cls := .type "list", data := .seq its.toArray }, toks := t' } :=
  I.laid (fun _ _ q => Heap.get?_push_of_some _ q) (Nat.le_refl _) ⟨hz, its, 0, hv, Heap.get?_push_size _ rfl⟩
theorem Inv.fresh (I : Inv X pins σ H s) : H s.heap.objs.size = none := I.hok.fresh (Nat.le_refl _)
theorem Inv.lstM (I : Inv X pins σ H s) (hH : H l = some (.lst xs)) : xs.length ≤ sizeLine ∧ ∃ (its : List Value) (n : Nat), Vals xs its ∧ xs.length = its.length ∧ s.heap.get? l = some { cls := .type "list", data := .seq its.toArray n } := by
  obtain ⟨z, its, n, r, e⟩ := I.hok l _ hH
  exact ⟨z, its, n, r, r.length, e⟩
end
section
variable {X : Cx}
def rAppend : V → List V → Hp → VK → Prop := fun x vs H Q => ∃ l xs y, x = .ref l ∧ vs = [y] ∧ H l = some (.lst xs) ∧ xs.length < sizeLine ∧ Q .non (upd H l (.lst (xs ++ [y])))
theorem mt_append : MtM X "list.append" rAppend := by
  intro pins s σ H x vs v us Q I rx rv h
  obtain ⟨l, xs, y, rfl, rfl, hH, hz, q⟩ := h
  cases rx
  obtain ⟨u, rfl, ru⟩ := rv.one
  obtain ⟨z, its, n, r, hl, e⟩ := I.lstM hH
  refine call_meets F.slot_list_append ⟨_, e, rfl⟩ F.entry_list_append (F.args_list_append_2 _ _) (PySem.list_append l its.toArray n u (by rw [List.size_toArray]; omega)) ⟨e, ?_⟩
  refine ⟨.non, _, I.lset (its' := its ++ [u]) hH e (by simp) (r.append (.cons ru .nil)) ?_, rfl, q⟩
  rw [List.length_append, List.length_singleton]
  omega
def rPopAt : V → List V → Hp → VK → Prop := fun x vs H Q => ∃ l xs i k y, x = .ref l ∧ vs = [.int i] ∧ H l = some (.lst xs) ∧ -(2 ^ 63) ≤ i ∧ i < 2 ^ 63 ∧ seqIndex? i xs.length = some k ∧ xs[k]? = some y ∧ Q y (upd H l (.lst (xs.eraseIdx k)))
theorem mt_popAt : MtM X "list.pop" rPopAt := by
  intro pins s σ H x vs v us Q I rx rv h
  obtain ⟨l, xs, i, k, y, rfl, rfl, hH, h1, h2, hk, hy, q⟩ := h
  cases rx
  obtain ⟨u, rfl, ru⟩ := rv.one
  obtain ⟨t, rfl⟩ := ru
  obtain ⟨z, its, n, r, hl, e⟩ := I.lstM hH
  obtain ⟨w, hw, rw'⟩ := r.get hy
  refine call_meets F.slot_list_pop ⟨_, e, rfl⟩ F.entry_list_pop (F.args_list_pop_2 _ _)
    (MeetsSeq.list_pop_at l its.toArray n i t k w (fitsIndex_both h1 h2) (by rw [List.size_toArray, ← hl]; exact hk) (by rw [← Array.getElem?_toList]; exact hw) (by rw [List.size_toArray]; omega)) ⟨e, ?_⟩
  refine ⟨y, _, I.lset (its' := its.eraseIdx k) hH e ?_ (r.eraseIdx k) ?_, rw', q⟩
  · show its.toArray.eraseIdxIfInBounds k = (its.eraseIdx k).toArray
    rw [List.eraseIdxIfInBounds_toArray]
  · have := len_erase xs k
    omega
def rCat : R2 := fun x y H Q => ∃ l b xs zs, x = .ref l ∧ y = .ref b ∧ H l = some (.lst xs) ∧ H b = some (.lst zs) ∧ xs.length + zs.length ≤ sizeLine ∧ ∀ p, H p = none → Q (.ref p) (upd H p (.lst (xs ++ zs)))
theorem op_cat : OpR X (binaryOp .Add) rCat := by
  intro pins s σ H x y v u Q I rx ry h
  obtain ⟨l, b, xs, zs, rfl, rfl, hH, hB, hz, q⟩ := h
  cases rx
  cases ry
  obtain ⟨z, its, n, r, hl, e⟩ := I.lstM hH
  obtain ⟨z2, its2, n2, r2, hl2, e2⟩ := I.lstM hB
  refine PySem.P.add_list e e2 ?_ (by rw [List.size_toArray, List.size_toArray]; omega)
  have ea : its.toArray ++ its2.toArray = (its ++ its2).toArray := by simp
  rw [ea]
  exact ⟨.ref _, _, I.lnew (t' := s.toks) (r.append r2) (by rw [List.length_append]; omega), rfl, q _ I.fresh⟩
end
section
variable {prog : Program} {w : World} {A : Around} {E : Value → Shared → Prop} {s : Shared}
end
section
variable {X : Cx}
end
end L2
namespace L2
open PySem PySem.Spec PyProof.Rows
variable {q0 : Bool}
section
variable {κ : Type} [DecidableEq κ]
def valV (kvs : List (κ × V)) (k : κ) : Option V := (kvs.find? fun kv => decide (kv.1 = k)).map (·.2)
def putK (kvs : List (κ × V)) (k : κ) (v : V) : List (κ × V) :=
  if (kvs.any fun kv => decide (kv.1 = k)) = true then kvs.map (fun kv => if kv.1 = k then (kv.1, v) else kv) else kvs ++ [(k, v)]
theorem valV_pos {p : κ × V} {r : List (κ × V)} {k : κ} (e : p.1 = k) : valV (p :: r) k = some p.2 := by simp [valV, List.find?_cons, e]
theorem valV_neg {p : κ × V} {r : List (κ × V)} {k : κ} (e : ¬ p.1 = k) : valV (p :: r) k = valV r k := by simp [valV, List.find?_cons, e]
theorem valV_any (k : κ) : ∀ kvs : List (κ × V), (kvs.any fun kv => decide (kv.1 = k)) = (valV kvs k).isSome
  | [] => rfl
  | p :: r => by
    rw [List.any_cons]
    by_cases e : p.1 = k
    · simp only [valV_pos e, decide_eq_true e, Bool.true_or, Option.isSome_some]
    · rw [valV_neg e, decide_eq_false e, Bool.false_or]; exact valV_any k r
theorem length_putK (kvs : List (κ × V)) (k : κ) (v : V) : (putK kvs k v).length ≤ kvs.length + 1 := by
  unfold putK
  split
  · rw [List.length_map]; omega
  · rw [List.length_append, List.length_cons, List.length_nil]; omega
theorem putK_new {kvs : List (κ × V)} {k : κ} (v : V) (h : valV kvs k = none) : putK kvs k v = kvs ++ [(k, v)] := by
  unfold putK
  rw [valV_any, h]
  exact if_neg (by decide)
theorem RelO.isSome_eq {o : Option V} {u : Option Value} (r : RelO o u) : o.isSome = u.isSome := by
  cases o with
  | none => cases u with
    | none => rfl
    | some _ => exact (show False from r).elim
  | some _ => cases u with
    | none => exact (show False from r).elim
    | some _ => rfl
theorem KV.val {kvs : List (κ × V)} {vs : List (κ × Value)} (r : KV kvs vs) (k : κ) : RelO (valV kvs k) (valueAt vs k) := by
  unfold KV at r
  induction r with
  | nil => exact True.intro
  | @cons p q ps qs h t ih =>
    obtain ⟨h1, h2⟩ := h
    by_cases e : p.1 = k
    · have e' : q.1 = k := h1.symm.trans e
      have b : valueAt (q :: qs) k = some q.2 := by simp [valueAt, List.find?_cons, e']
      rw [valV_pos e, b]; exact h2
    · have e' : ¬ q.1 = k := fun z => e (h1.trans z)
      have b : valueAt (q :: qs) k = valueAt qs k := by simp [valueAt, List.find?_cons, e']
      rw [valV_neg e, b]; exact ih
theorem KV.any {kvs : List (κ × V)} {vs : List (κ × Value)} (r : KV kvs vs) (k : κ) : (kvs.any fun kv => decide (kv.1 = k)) = vs.any fun kv => decide (kv.1 = k) := by
  unfold KV at r
  induction r with
  | nil => rfl
  | cons h t ih => rw [List.any_cons, List.any_cons, ih, h.1]
theorem KV.repl {kvs : List (κ × V)} {vs : List (κ × Value)} (r : KV kvs vs) (k : κ) {y : V} {u : Value} (ry : RelV y u) :
    KV (kvs.map fun kv => if kv.1 = k then (kv.1, y) else kv) (vs.map fun kv => if kv.1 = k then (kv.1, u) else kv) := by
  unfold KV at r ⊢
  induction r with
  | nil => exact .nil
  | @cons p q ps qs h t ih =>
    rw [List.map_cons, List.map_cons]
    refine .cons ?_ ih
    obtain ⟨h1, h2⟩ := h
    by_cases e : p.1 = k
    · rw [if_pos e, if_pos (h1.symm.trans e)]; exact ⟨h1, ry⟩
    · rw [if_neg e, if_neg (fun z => e (h1.trans z))]; exact ⟨h1, h2⟩
theorem KV.put {kvs : List (κ × V)} {vs : List (κ × Value)} (r : KV kvs vs) (k : κ) {y : V} {u : Value} (ry : RelV y u) : KV (putK kvs k y) (stored vs k u) := by
  unfold putK stored
  rw [r.any k]
  by_cases e : (vs.any fun kv => decide (kv.1 = k)) = true
  · rw [if_pos e, if_pos e]; exact r.repl k ry
  · rw [if_neg e, if_neg e]; exact Paired.snoc r ⟨rfl, ry⟩
theorem KV.keys {kvs : List (κ × V)} {vs : List (κ × Value)} (r : KV kvs vs) : kvs.map (·.1) = vs.map (·.1) := by
  unfold KV at r
  induction r with
  | nil => rfl
  | cons h t ih => rw [List.map_cons, List.map_cons, ih, h.1]
theorem KV.length {kvs : List (κ × V)} {vs : List (κ × Value)} (r : KV kvs vs) : kvs.length = vs.length := Paired.length r
end
theorem kV_is {P : Program} {w : World} {k : Key} {u : Value} (r : RelV (kV k) u) : (mixKind P w).is k u = true := by
  cases k with
  | inl i => obtain ⟨t, e⟩ := (show ∃ t, u = Value.int i t from r); subst e; exact mixKind_int P w i t
  | inr x => obtain ⟨t, e⟩ := (show ∃ t, u = Value.str x t from r); subst e; exact mixKind_str P w x t
theorem items_are {P : Program} {w : World} : ∀ {ks : List Key} {us : List Value}, Vals (ks.map kV) us → ItemsAre (mixKind P w) ks us
  | [], _, r => by rw [List.map_nil] at r; cases r; exact .nil
  | k :: ks, _, r => by
    rw [List.map_cons] at r
    cases r with
    | cons h t => exact .cons (kV_is h) (items_are t)
abbrev KT (H : Hp) : List (List Key × V) → List (List Key × Addr × Value) → Prop := Paired fun p q => p.1 = q.1 ∧ H q.2.1 = some (.tup (p.1.map kV)) ∧ RelV p.2 q.2.2
theorem KT.val {H : Hp} {kvs : List (List Key × V)} {xs : List (List Key × Addr × Value)} (r : KT H kvs xs) (k : List Key) : RelO (valV kvs k) ((atKey xs k).map (·.2)) := by
  induction r with
  | nil => exact True.intro
  | @cons p q ps qs h t ih =>
    obtain ⟨h1, _, h2⟩ := h
    by_cases e : p.1 = k
    · have e' : q.1 = k := h1.symm.trans e
      have b : atKey (q :: qs) k = some q.2 := by simp [atKey, List.find?_cons, e']
      rw [valV_pos e, b]; exact h2
    · have e' : ¬ q.1 = k := fun z => e (h1.trans z)
      have b : atKey (q :: qs) k = atKey qs k := by simp [atKey, List.find?_cons, e']
      rw [valV_neg e, b]; exact ih
theorem KT.repl {H : Hp} {kvs : List (List Key × V)} {xs : List (List Key × Addr × Value)} (r : KT H kvs xs) (k : List Key) {y : V} {u : Value} (ry : RelV y u) :
    KT H (kvs.map fun kv => if kv.1 = k then (kv.1, y) else kv) (xs.map (putAt k u)) := by
  induction r with
  | nil => exact .nil
  | @cons p q ps qs h t ih =>
    rw [List.map_cons, List.map_cons]
    refine .cons ?_ ih
    obtain ⟨h1, h2, h3⟩ := h
    unfold putAt
    by_cases e : p.1 = k
    · rw [if_pos e, if_pos (h1.symm.trans e)]; exact ⟨h1, h2, ry⟩
    · rw [if_neg e, if_neg (fun z => e (h1.trans z))]; exact ⟨h1, h2, h3⟩
theorem KT.put {H : Hp} {kvs : List (List Key × V)} {xs : List (List Key × Addr × Value)} (r : KT H kvs xs) (k : List Key) {b : Addr} {y : V} {u : Value} (hb : H b = some (.tup (k.map kV))) (ry : RelV y u) :
    KT H (putK kvs k y) (storedH xs k b u) := by
  have e : (kvs.any fun kv => decide (kv.1 = k)) = (atKey xs k).isSome := by
    rw [valV_any, (r.val k).isSome_eq, Option.isSome_map]
  unfold putK storedH
  rw [e]
  by_cases q : (atKey xs k).isSome = true
  · rw [if_pos q, if_pos q]; exact r.repl k ry
  · rw [if_neg q, if_neg q]; exact Paired.snoc r ⟨rfl, hb, ry⟩
theorem KT.keeps {H H' : Hp} {kvs : List (List Key × V)} {xs : List (List Key × Addr × Value)} (r : KT H kvs xs) (ht : ∀ b ys, H b = some (.tup ys) → H' b = some (.tup ys)) : KT H' kvs xs :=
  Paired.mapP r fun _ _ z => ⟨z.1, ht _ _ z.2.1, z.2.2⟩
section
variable {P : Program} {w : World} {H : Hp} {h : Heap} {a : Addr}
theorem rd_of {u : HO} (ok : HOk P w H h) (e : Rd H a u) : ObjOk P w H h a u := e.ok ok
theorem dk_rd {kvs : List (Key × V)} (ok : HOk P w H h) (e : Rd H a (.dK kvs)) : kvs.length ≤ sizeLine ∧ (a == sysModules) = false ∧ ∃ vs, KV kvs vs ∧ h.DictOf (mixKind P w) a vs :=
  show ObjOk P w H h a (.dK kvs) from rd_of ok e
theorem dk_of {kvs : List (Key × V)} (ok : HOk P w H h) (e : H a = some (.dK kvs)) : kvs.length ≤ sizeLine ∧ (a == sysModules) = false ∧ ∃ vs, KV kvs vs ∧ h.DictOf (mixKind P w) a vs := dk_rd ok (.inl e)
theorem key_of {ks : List Key} (ok : HOk P w H h) (e : H a = some (.tup (ks.map kV))) : (tupleKind (mixKind P w)).is h ks a := by
  obtain ⟨_, its, r, o, h1, h2, n, h3⟩ := (show ObjOk P w H h a (.tup (ks.map kV)) from ok a _ e)
  exact ⟨o, its.toArray, n, h1, h2, h3, by simpa using items_are r⟩
theorem dt_rd {kvs : List (List Key × V)} (ok : HOk P w H h) (e : Rd H a (.dT kvs)) : kvs.length ≤ sizeLine ∧ (a == sysModules) = false ∧
    ∃ xs, KT H kvs xs ∧ h.DictOfH (tupleKind (mixKind P w)) a xs := by
  obtain ⟨z, y, xs, r, o, es, ep, h1, h2, h3, h4, h5⟩ := (show ObjOk P w H h a (.dT kvs) from rd_of ok e)
  refine ⟨z, y, xs, r, o, es, ep, h1, h2, h3, h4, fun x hx => ?_, h5⟩
  have all : ∀ {l : List (List Key × V)} {m : List (List Key × Addr × Value)}, KT H l m → ∀ x ∈ m, (tupleKind (mixKind P w)).is h x.1 x.2.1 := by
    intro l m q
    induction q with
    | nil => intro x hx; exact nomatch hx
    | @cons p q ps qs hq t ih =>
      intro x hx
      rcases List.mem_cons.mp hx with e | hx
      · subst e
        exact key_of ok (by rw [← hq.1]; exact hq.2.1)
      · exact ih x hx
  exact all r x hx
theorem dt_of {kvs : List (List Key × V)} (ok : HOk P w H h) (e : H a = some (.dT kvs)) : kvs.length ≤ sizeLine ∧ (a == sysModules) = false ∧
    ∃ xs, KT H kvs xs ∧ h.DictOfH (tupleKind (mixKind P w)) a xs := dt_rd ok (.inl e)
end
def DGet (H : Hp) (a : Addr) (y : V) (r : Option V) : Prop :=
  (∃ kvs k, Rd H a (.dK kvs) ∧ y = kV k ∧ r = valV kvs k) ∨ ∃ kvs k b, Rd H a (.dT kvs) ∧ y = .ref b ∧ H b = some (.tup (k.map kV)) ∧ r = valV kvs k
def DPut (H : Hp) (a : Addr) (y v : V) (H' : Hp) : Prop :=
  (∃ kvs k, H a = some (.dK kvs) ∧ y = kV k ∧ kvs.length < sizeLine ∧ H' = upd H a (.dK (putK kvs k v))) ∨
  ∃ kvs k b, H a = some (.dT kvs) ∧ y = .ref b ∧ H b = some (.tup (k.map kV)) ∧ kvs.length < sizeLine ∧ H' = upd H a (.dT (putK kvs k v))
theorem DGet.k {H : Hp} {a : Addr} {kvs : List (Key × V)} {k : Key} (e : H a = some (.dK kvs)) : DGet H a (kV k) (valV kvs k) := .inl ⟨kvs, k, .inl e, rfl, rfl⟩
theorem DGet.t {H : Hp} {a b : Addr} {kvs : List (List Key × V)} {k : List Key} (e : H a = some (.dT kvs)) (eb : H b = some (.tup (k.map kV))) : DGet H a (.ref b) (valV kvs k) := .inr ⟨kvs, k, b, .inl e, rfl, eb, rfl⟩
theorem DPut.k {H : Hp} {a : Addr} {kvs : List (Key × V)} {k : Key} {v : V} (e : H a = some (.dK kvs)) (hl : kvs.length < sizeLine) : DPut H a (kV k) v (upd H a (.dK (putK kvs k v))) := .inl ⟨kvs, k, e, rfl, hl, rfl⟩
theorem DPut.t {H : Hp} {a b : Addr} {kvs : List (List Key × V)} {k : List Key} {v : V} (e : H a = some (.dT kvs)) (eb : H b = some (.tup (k.map kV))) (hl : kvs.length < sizeLine) :
    DPut H a (.ref b) v (upd H a (.dT (putK kvs k v))) := .inr ⟨kvs, k, b, e, rfl, eb, hl, rfl⟩
section
variable {X : Cx} {pins : List (Addr × Obj)} {σ : St} {H : Hp} {s : Shared} {a : Addr} {y v : V} {u r : Value} {o : Option V} {A : Around} {E : Value → Shared → Prop}
theorem Inv.big (I : Inv X pins σ H s) : sysModules < s.heap.objs.size := by
  have h : mainGlobals < s.heap.objs.size := (I.mod.glob.keeps I.bk).lt
  exact Nat.lt_trans (by decide) h
theorem d_getItem {Q : Value → Shared → Prop} (hu : A.units + 1 < cLine) (I : Inv X pins σ H s) (g : DGet H a y (some v)) (ry : RelV y u) (h : ∀ w' s', Inv X pins σ H s' → RelV v w' → Q w' s') :
    wpAny (model X.prog X.w) A (getItem (.ref a) u) Q E s := by
  rcases g with ⟨kvs, k, e, ey, l⟩ | ⟨kvs, k, b, e, ey, eb, l⟩
  · subst ey
    obtain ⟨z, hd, vs, rel, dd⟩ := dk_rd I.hok e
    obtain ⟨w', hw, rw'⟩ := RelO.some_of (v := v) (o := valueAt vs k) (by rw [l]; exact rel.val k)
    exact wpAny_getItem_of (kV_is ry) dd.mapOf hw (h w' _ (I.tok _) rw')
  · subst ey
    cases (show u = Value.ref b from ry)
    obtain ⟨z, hd, xs, rel, dd⟩ := dt_rd I.hok e
    obtain ⟨w', hw, rw'⟩ := RelO.some_of (v := v) (o := (atKey xs k).map (·.2)) (by rw [l]; exact rel.val k)
    obtain ⟨p, hp, hp2⟩ := Option.map_eq_some_iff.mp hw
    refine wpAny_getItem_heap (tupleKind_room_in1 hu) (key_of I.hok eb) dd hp ?_
    rw [hp2]
    exact h w' _ (I.tok _) rw'
theorem d_in {Q : Value → Shared → Prop} (hu : A.units + 1 < cLine) (I : Inv X pins σ H s) (g : DGet H a y o) (ry : RelV y u) (h : ∀ s', Inv X pins σ H s' → Q (.bool o.isSome) s') :
    wpAny (model X.prog X.w) A (compareOp .In u (.ref a)) Q E s := by
  rcases g with ⟨kvs, k, e, ey, l⟩ | ⟨kvs, k, b, e, ey, eb, l⟩
  · subst ey
    obtain ⟨z, hd, vs, rel, dd⟩ := dk_rd I.hok e
    refine wpAny_in_of (kV_is ry) hd dd.mapOf ?_
    rw [← (rel.val k).isSome_eq, ← l]
    exact h _ (I.tok _)
  · subst ey
    cases (show u = Value.ref b from ry)
    obtain ⟨z, hd, xs, rel, dd⟩ := dt_rd I.hok e
    refine wpAny_in_heap (tupleKind_room_in1 hu) (key_of I.hok eb) hd dd ?_
    have q := (rel.val k).isSome_eq
    rw [Option.isSome_map] at q
    rw [← q, ← l]
    exact h _ (I.tok _)
theorem d_notIn {Q : Value → Shared → Prop} (hu : A.units + 1 < cLine) (I : Inv X pins σ H s) (g : DGet H a y o) (ry : RelV y u) (h : ∀ s', Inv X pins σ H s' → Q (.bool (!o.isSome)) s') :
    wpAny (model X.prog X.w) A (compareOp .NotIn u (.ref a)) Q E s := by
  rcases g with ⟨kvs, k, e, ey, l⟩ | ⟨kvs, k, b, e, ey, eb, l⟩
  · subst ey
    obtain ⟨z, hd, vs, rel, dd⟩ := dk_rd I.hok e
    refine wpAny_notIn_of (kV_is ry) hd dd.mapOf ?_
    rw [← (rel.val k).isSome_eq, ← l]
    exact h _ (I.tok _)
  · subst ey
    cases (show u = Value.ref b from ry)
    obtain ⟨z, hd, xs, rel, dd⟩ := dt_rd I.hok e
    refine wpAny_notIn_heap (tupleKind_room_in1 hu) (key_of I.hok eb) hd dd ?_
    have q := (rel.val k).isSome_eq
    rw [Option.isSome_map] at q
    rw [← q, ← l]
    exact h _ (I.tok _)
theorem d_write {h' : Heap} {t' : Nat} {ob : HO} (I : Inv X pins σ H s) (mu : Mut (H a)) (hs : Heap.SameBut a s.heap h') (he : ∃ q, h'.get? a = some q) (new : ObjOk X.prog X.w (upd H a ob) h' a ob) :
    Inv X pins σ (upd H a ob) { s with heap := h', toks := t' } :=
  I.write (x := a) (e := a) mu (.inl rfl) (fun b q hb z => (hs.2 b hb).trans z) he new
theorem dk_new {P : Program} {w : World} {H' : Hp} {h' : Heap} {kvs : List (Key × V)} {vs : List (Key × Value)} (z : kvs.length ≤ sizeLine) (hd : (a == sysModules) = false) (rel : KV kvs vs) (dd : h'.DictOf (mixKind P w) a vs) :
    ObjOk P w H' h' a (.dK kvs) := ⟨z, hd, vs, rel, dd⟩
theorem d_setItem {H' : Hp} {Q : Unit → Shared → Prop} (hu : A.units + 1 < cLine) (I : Inv X pins σ H s) (g : DPut H a y v H') (ry : RelV y u) (rv : RelV v r) (h : ∀ s', Inv X pins σ H' s' → Q () s') :
    wpAny (model X.prog X.w) A (setItem (.ref a) u r) Q E s := by
  rcases g with ⟨kvs, k, e, ey, l, eH⟩ | ⟨kvs, k, b, e, ey, eb, l, eH⟩
  · subst ey eH
    obtain ⟨z, hd, vs, rel, dd⟩ := dk_of I.hok e
    have hz : vs.length ≤ sizeLine := by rw [← rel.length]; exact z
    have hl : (putK kvs k v).length ≤ sizeLine := by have := length_putK kvs k v; omega
    refine wpAny_setItem_pairs (hsz := hz) (kV_is ry) dd fun h' dd' hs => h _ ?_
    have he : ∃ q, h'.get? a = some q := let ⟨q, _, _, hq, _⟩ := dd'; ⟨q, hq⟩
    exact d_write I (by rw [e]; exact True.intro) hs he (dk_new hl hd (rel.put k rv) dd')
  · subst ey eH
    cases (show u = Value.ref b from ry)
    obtain ⟨z, hd, xs, rel, dd⟩ := dt_of I.hok e
    have hz : xs.length ≤ sizeLine := by rw [← Paired.length rel]; exact z
    have hl : (putK kvs k v).length ≤ sizeLine := by have := length_putK kvs k v; omega
    refine wpAny_setItem_heap (hsz := hz) (tupleKind_room_in1 hu) (key_of I.hok eb) dd fun h' dd' hs => h _ ?_
    obtain ⟨q, es, ep, hq, h2, h3, h4, _, h5⟩ := dd'
    refine d_write I (by rw [e]; exact True.intro) hs ⟨q, hq⟩ ⟨hl, hd, _, (rel.put k eb rv).keeps fun c ys ec => ?_, q, es, ep, hq, h2, h3, h4, h5⟩
    rw [upd_ne (ne_of ec e (fun z => nomatch z))]
    exact ec
end
section
variable {X : Cx} {pins : List (Addr × Obj)} {σ : St} {H : Hp} {s : Shared} {a : Addr} {kvs : List (Key × V)} {k : Key} {u : Value} {A : Around} {E : Value → Shared → Prop}
theorem d_len {Q : Value → Shared → Prop} (I : Inv X pins σ H s) (e : Rd H a (.dK kvs)) (h : ∀ t s', Inv X pins σ H s' → Q (.int kvs.length t) s') : wpAny (model X.prog X.w) A (call (.builtin "len") [.ref a]) Q E s := by
  obtain ⟨z, hd, vs, rel, dd⟩ := dk_rd I.hok e
  refine call_len_dict hd dd (by rw [← rel.length]; rw [sizeLine_eq] at z; omega) ?_
  rw [← rel.length]
  exact h _ _ (I.tok _)
end
def NoSl (i : Expr) : Prop := ∀ ov iv, subscripted i false ov iv = operate [ov, iv] (getItem ov iv)
theorem subD_of {prog : Program} {w : World} {A : Around} {E : Value → Shared → Prop} {s : Shared} {env : Env} {value slice : Expr} {pos : Pos} {T id : String} {Q : Value → Shared → Prop}
    (hl : typeLookup (.type T) "__getitem__" = pure (some (.builtin id))) (hs : NoSl slice)
    (h : wpAny (model prog w) A (eval value env) (fun o s₁ => wpAny (model prog w) A (eval slice env) (fun i s₂ => s₂.TypeIs o T ∧ wpAny (model prog w) A (getItem o i) Q E s₂) E s₁) E s) :
    wpAny (model prog w) A (eval (.Subscript value slice pos) env) Q E s := by
  refine Subscript_ (wpAny_mono h (fun o s₁ h₁ => wpAny_mono h₁ (fun i s₂ h₂ => ?_) fun _ _ x => x) fun _ _ x => x)
  obtain ⟨hT, h₂⟩ := h₂
  unfold subscriptTail
  refine wpAny_bind ?_
  rw [getitemInPython_of_ne hT.not_modules]
  refine wpAny_bind (wpAny_specialOf hT hl ?_)
  have fin : wpAny (model prog w) A (subscripted slice false o i) (fun r s₃ => wpAny (model prog w) A (letTemporaryGo value o r >>= fun _ => pure r) Q E s₃) E s₂ := by
    rw [hs o i]
    exact wpAny_operating (wpAny_mono h₂ (fun r s₃ h₃ => wpAny_bind (wpAny_letTemporaryGo (wpAny_pure h₃))) fun _ _ x => x)
  first
    | exact wpAny_pure (wpAny_bind fin)
    | exact wpAny_bind (wpAny_pure (wpAny_bind fin))
    | exact wpAny_bind fin
theorem dict_typeIs {X : Cx} {pins : List (Addr × Obj)} {σ : St} {H : Hp} {s : Shared} {a : Addr} {y : V} {o : Option V} (I : Inv X pins σ H s) (g : DGet H a y o) : s.TypeIs (.ref a) "dict" := by
  rcases g with ⟨kvs, k, e, _, _⟩ | ⟨kvs, k, b, e, _, _, _⟩
  · obtain ⟨_, _, vs, _, dd⟩ := dk_rd I.hok e
    exact dd.typeIs
  · obtain ⟨_, _, xs, _, dd⟩ := dt_rd I.hok e
    exact dd.typeIs
def tDGet (td ty : TE) : TE := fun σ H Q => td σ H fun x H1 => ty σ H1 fun y H2 => ∃ a v, x = .ref a ∧ DGet H2 a y (some v) ∧ Q v H2
def tDIn (ty td : TE) : TE := fun σ H Q => ty σ H fun y H1 => td σ H1 fun x H2 => ∃ a o, x = .ref a ∧ DGet H2 a y o ∧ Q (.bl o.isSome) H2
def tDNotIn (ty td : TE) : TE := fun σ H Q => ty σ H fun y H1 => td σ H1 fun x H2 => ∃ a o, x = .ref a ∧ DGet H2 a y o ∧ Q (.bl (!o.isSome)) H2
def sDPut (td ty tv : TE) : TS := fun D σ H => tv σ H fun v H1 => td σ H1 fun x H2 => ty σ H2 fun y H3 => ∃ a H4, x = .ref a ∧ DPut H3 a y v H4 ∧ D.nx σ H4
section
variable {X : Cx} {o i e value : Expr} {pos pos' tpos : Pos} {td ty tv : TE}
theorem pe_dget (hu : X.A.units + 1 < cLine) (ho : PE X o td) (hi : PE X i ty) (hs : NoSl i) : PE X (.Subscript o i pos) (tDGet td ty) := by
  intro pins s σ H Q I h
  refine subD_of PySem.F.slot_dict_getitem.lookup hs (thn (ho pins s σ H _ I h) fun u s1 ⟨x, H1, I1, rx, q1⟩ => thn (hi pins s1 σ H1 _ I1 q1) fun iv s2 ⟨y, H2, I2, ry, a, v, ex, g, q2⟩ => ?_)
  subst ex
  obtain rfl : u = Value.ref a := rx
  exact ⟨dict_typeIs I2 g, d_getItem hu I2 g ry fun w' s3 I3 rw' => ⟨v, H2, I3, rw', q2⟩⟩
theorem pc_din (hu : X.A.units + 1 < cLine) (hi : PE X i ty) (ho : PE X o td) : PC X .In i o (tDIn ty td) := by
  intro pins s σ H Q I h
  refine thn (hi pins s σ H _ I h) fun iv s1 ⟨y, H1, I1, ry, q1⟩ => thn (ho pins s1 σ H1 _ I1 q1) fun u s2 ⟨x, H2, I2, rx, a, ov, ex, g, q2⟩ => ?_
  subst ex
  obtain rfl : u = Value.ref a := rx
  exact d_in hu I2 g ry fun s3 I3 => ⟨.bl ov.isSome, H2, I3, rfl, q2⟩
theorem pc_dnotin (hu : X.A.units + 1 < cLine) (hi : PE X i ty) (ho : PE X o td) : PC X .NotIn i o (tDNotIn ty td) := by
  intro pins s σ H Q I h
  refine thn (hi pins s σ H _ I h) fun iv s1 ⟨y, H1, I1, ry, q1⟩ => thn (ho pins s1 σ H1 _ I1 q1) fun u s2 ⟨x, H2, I2, rx, a, ov, ex, g, q2⟩ => ?_
  subst ex
  obtain rfl : u = Value.ref a := rx
  exact d_notIn hu I2 g ry fun s3 I3 => ⟨.bl (!ov.isSome), H2, I3, rfl, q2⟩
theorem ps_dput (hu : X.A.units + 1 < cLine) (ho : PE X o td) (hi : PE X i ty) (hv : PE X value tv) (hs : swapsWith value (some (.Subscript o i pos')) pos.line X.env = pure false) :
    PS X (.Assign [.Subscript o i pos'] value pos) (sDPut td ty tv) := by
  intro pins s σ H D I h
  refine wpAny_Assign_Subscript (thn (hv pins s σ H _ I h) fun r s1 ⟨v, H1, I1, rv, q1⟩ => thn (ho pins s1 σ H1 _ I1 q1) fun u s2 ⟨x, H2, I2, rx, q2⟩ => thn (hi pins s2 σ H2 _ I2 q2) fun iv s3 ⟨y, H3, I3, ry, a, H4, ex, g, q3⟩ => ?_) hs
  subst ex
  obtain rfl : u = Value.ref a := rx
  exact d_setItem hu I3 g ry rv fun s4 I4 => ⟨σ, H4, I4, q3⟩
end
theorem dk_empty {P : Program} {w : World} {H : Hp} (h : Heap) (hb : sysModules < h.objs.size) : ObjOk P w H (h.push { cls := .type "dict", data := .dict #[] }) h.objs.size (.dK []) :=
  ⟨Nat.zero_le _, beq_eq_false_iff_ne.mpr (Ne.symm (Nat.ne_of_lt hb)), [], .nil, Heap.DictOf.new h⟩
theorem dt_empty {P : Program} {w : World} {H : Hp} (h : Heap) (hb : sysModules < h.objs.size) : ObjOk P w H (h.push { cls := .type "dict", data := .dict #[] }) h.objs.size (.dT []) :=
  ⟨Nat.zero_le _, beq_eq_false_iff_ne.mpr (Ne.symm (Nat.ne_of_lt hb)), [], .nil, _, #[], 0, Heap.get?_push_size _ rfl, ⟨rfl, rfl, rfl⟩, rfl, rfl, List.nodup_nil⟩
def tDNewK : TE := fun _ H Q => ∀ p, H p = none → Q (.ref p) (upd H p (.dK []))
def tDNewT : TE := fun _ H Q => ∀ p, H p = none → Q (.ref p) (upd H p (.dT []))
section
variable {X : Cx} {pos : Pos}
theorem pe_dnewK : PE X (.Dict [] [] pos) tDNewK := fun pins s σ H Q I h =>
  wpAny_Dict_empty ⟨.ref s.heap.objs.size, _, I.laid (a := s.heap.objs.size) (o := .dK []) (t' := s.toks) (fun _ _ q => Heap.get?_push_of_some _ q) (Nat.le_refl _) (dk_empty s.heap I.big), rfl, h _ (I.hok.fresh (Nat.le_refl _))⟩
theorem pe_dnewT : PE X (.Dict [] [] pos) tDNewT := fun pins s σ H Q I h =>
  wpAny_Dict_empty ⟨.ref s.heap.objs.size, _, I.laid (a := s.heap.objs.size) (o := .dT []) (t' := s.toks) (fun _ _ q => Heap.get?_push_of_some _ q) (Nat.le_refl _) (dt_empty s.heap I.big), rfl, h _ (I.hok.fresh (Nat.le_refl _))⟩
end
section
variable {X : Cx} {pins : List (Addr × Obj)} {σ : St} {H : Hp} {s : Shared} {a : Addr} {y d : V} {u r : Value} {o : Option V} {A : Around} {E : Value → Shared → Prop}
end
section
variable {X : Cx} {o e f : Expr} {apos cpos : Pos} {td ty tx : TE}
end
section
variable {X : Cx} {pins : List (Addr × Obj)} {σ : St} {H : Hp} {s : Shared} {a : Addr} {kvs : List (Key × V)} {A : Around} {E : Value → Shared → Prop}
end
section
variable {X : Cx} {pins : List (Addr × Obj)} {σ : St} {H : Hp} {s : Shared} {a : Addr} {y : V} {u : Value} {A : Around} {E : Value → Shared → Prop}
end
end L2
namespace Att
open PySem PySem.W PySem.Calls PyProof.Rows
theorem ints_of_wellAll {P : Params} {h : Heap} : ∀ (ns : List Int) (vs : List Value), WellAll P h vs (ns.map WData.int) → IntsAre vs ns := by
  intro ns
  induction ns with
  | nil =>
    intro vs w
    rw [List.map_nil] at w
    cases w
    exact .nil
  | cons n ns ih =>
    intro vs w
    rw [List.map_cons] at w
    cases w with
    | cons a b =>
      cases a
      exact .cons _ _ (ih _ b)
theorem script_of {l : OpenLaw} {n : Nat} (hn : l.most = some n) {P : Params} {h : Heap} {args : List WData} {vals : List Value}
    (hpre : l.row.toRowW.claim.pre args = true) (hwl : WellAll P h vals args) :
    ∃ a vs ns, vals = [Value.ref a] ∧ args = [WData.list (ns.map WData.int)] ∧ h.get? a = some { cls := .type "list", data := .seq vs.toArray } ∧ IntsAre vs ns ∧ ns.length ≤ n := by
  have hsh : WShape.hasAll [] args [.list .int] = true := (pre_splitW hpre).1
  have hc : l.pre.holds [] { args := args } = true := (pre_splitW hpre).2
  obtain ⟨d, r, rfl, h1, h2⟩ := hasAllW_cons hsh
  obtain rfl := hasAllW_nil h2
  obtain ⟨xs, rfl, h3⟩ := hasW_list h1
  obtain ⟨ns, rfl⟩ := items_int h3
  have hlen : ns.length ≤ n := by
    unfold OpenLaw.pre at hc
    have h4 : (WTm.not (.lt (.lit (.int (n : Int))) (.len (.arg 0)))).holds [] { args := [.list (ns.map .int)] } = true := by
      have h4 := (holds_andW hc).1
      rw [hn] at h4
      exact h4
    have h5 := condW_of h4 (w_not (w_lt w_lit (w_len_list (w_arg rfl))))
    rw [List.length_map] at h5
    refine Nat.le_of_not_lt fun q => ?_
    have q' : (n : Int) < ((ns.length : Nat) : Int) := by omega
    first
      | (rw [decide_eq_true q'] at h5; exact absurd h5 (by decide))
      | (simp at h5; omega)
  cases hwl with
  | cons w1 w2 =>
    cases w2
    cases w1 with
    | list ho hall => exact ⟨_, _, ns, rfl, rfl, ho, ints_of_wellAll ns _ hall, hlen⟩
theorem post_true (l : OpenLaw) (args : List WData) : l.row.toRowW.claim.post args (.bool true) args = true :=
  postW_of (r := l.row.toRowW) (X := (true == true))
    (show WShape.has [] (.bool true) .bool = true by first | rfl | decide | simp [WShape.has, WShape.arms, WShape.armsAll])
    (show (WTm.eq .res (.lit (.bool true))).value [] { args := args, res := some (.bool true), after := args } = some (.bool (true == true)) from w_eq_bool (w_res rfl) w_lit) rfl
theorem attach_call {l : OpenLaw} {n : Nat} {q : Program} {loose : List Str} {XP : (Str → Option Value) → Heap → Prop} {YP : World → Heap → Prop} {d : DefRec}
    (hn : l.most = some n) (hdf : d.params.defaults = [])
    (call : ∀ (w : World) (s₀ s₁ : Shared) (mg mb : Str → Option Value) (fa : Addr) (o : Obj) (pm cd doc : Value) (a : Addr) (vs : List Value) (ns : List Int),
      Ground q loose [] XP w s₀ mg mb s₁.heap → YP w s₁.heap →
      s₁.heap.get? fa = some o → o.data = .func (docDef d.name d.params d.body d.scope pm cd doc) → s₁.heap.CodeRec cd d.name → mg d.name = some (.ref fa) →
      s₁.heap.get? a = some { cls := .type "list", data := .seq vs.toArray } → IntsAre vs ns → ns.length ≤ n → s₁.gens = #[] →
      codeAny (model l.prog w) callerA (.call (.ref fa) ⟨[.ref a], []⟩) (fun r s' => r = .ok (.ret (.bool true)) ∧ OldK s₁.heap s'.heap ∧ s'.os = s₁.os ∧ AllBare s'.gens) s₁) :
    WalkO q loose XP YP l.row.toRowW d [] (fun f vs => PySem.call f vs) := by
  intro w s₀ s₁ mg mb G Y fa o pm cd doc dV kV ho hd hcd hD hmg hg args vals as hpre hlay hrd hwl hlo
  obtain rfl : dV = .none := Dflts.none hD hdf
  obtain rfl : kV = .none := Dflts.noKw hD
  obtain ⟨a, vs, ns, rfl, rfl, hobj, hints, hlen⟩ := script_of hn hpre hwl
  refine enter_call (codeAny_mono (call w s₀ s₁ mg mb fa o pm cd doc a vs ns G Y ho (fd_plain hd) hcd hmg hobj hints hlen hg) fun r s' hq => ?_)
  obtain ⟨rfl, h2, h3, h4⟩ := hq
  exact ⟨.inl ⟨.bool true, .bool true, [], rfl, fun _ => rfl, .bool true, post_true l _, fun _ => ⟨List.Pairwise.nil, fun _ hm => (nomatch hm)⟩⟩, h2, h3, h4⟩
section
variable {prog : Program} {w : World} {A : Around} {E : Value → Shared → Prop} {s : Shared} {K : Frag}
def ledger (h : Heap) (L d : Addr) : List (Addr × Obj) := (List.range h.objs.size).filterMap fun a => if a = L ∨ a = d then none else (h.get? a).map fun o => (a, o)
end
end Att
namespace L2
open PySem PySem.Spec PyProof.Rows
variable {q0 : Bool}
theorem vals_ints : ∀ {vs : List Value} {ns : List Int}, IntsAre vs ns → Vals (ns.map V.int) vs
  | _, _, .nil => .nil
  | _, _, .cons n t h => .cons ⟨t, rfl⟩ (vals_ints h)
def Only (H : Hp) : Prop := ∀ b, H b = none ∨ ∃ o xs, H b = some (.frz o (.lst xs))
theorem law_call {P : Program} {w : World} {K : PySem.W.Frag} {mg mb : Str → Option Value} {CX : CXT} {k : Nat} {fa a : Addr} {fd : FuncData} {x : Str} {sp : Sp} {s₁ : Shared} {vs : List Value} {ns : List Int}
    (KX : K.In s₁.heap) (hns : s₁.heap.Ns mainGlobals mg) (hb : s₁.heap.Ns builtinsNs mb) (hbb : ∀ x : Str, x ≠ "__name__" → mb x = bootBuiltins x) (hlim : s₁.heap.NoLimit) (hg : s₁.gens = #[])
    (ha : s₁.heap.get? a = some { cls := .type "list", data := .seq vs.toArray }) (hi : IntsAre vs ns) (hl : ns.length ≤ sizeLine) (hr : Room q0 k callerA)
    (F : ∀ base : Heap, K.In base → base.Ns mainGlobals mg → FnOk q0 P w K mg base CX k fa fd [x] sp) (hbind : ∀ (s : Shared) (u : Value), BindsTo s fd ⟨[u], []⟩ [(x, u)])
    (hsp : ∀ H : Hp, Only H → SqL K H a (ns.map V.int) → sp [.ref a] H (fun v _ => v = .bl true) fun _ _ _ => False)
    (hCX : ∀ H e s', CX [] H s₁ (fun _ _ _ => False) e s' → False) :
    codeAny (model P w) callerA (.call (.ref fa) ⟨[.ref a], []⟩) (fun r s' => r = .ok (.ret (.bool true)) ∧ OldK s₁.heap s'.heap ∧ s'.os = s₁.os ∧ AllBare s'.gens) s₁ := by
  have rv := vals_ints hi
  have lenV := hi.length
  -- from an abstract heap in which nothing but the script may be tracked
  have core : ∀ H : Hp, Only H → SqL K H a (ns.map V.int) → HOk P w H s₁.heap → (∀ b, H b ≠ none → b = a) → (H a ≠ none → K.lookup a = none) →
      codeAny (model P w) callerA (.call (.ref fa) ⟨[.ref a], []⟩) (fun r s' => r = .ok (.ret (.bool true)) ∧ OldK s₁.heap s'.heap ∧ s'.os = s₁.os ∧ AllBare s'.gens) s₁ := by
    intro H hO hS hok hA hK
    have base_of : ∀ {b : Addr} {o : Obj}, s₁.heap.get? b = some o → H b = none → (hidT s₁.heap H).get? b = some o := fun e n => hidT_get e n
    have noA : ∀ {b : Addr} {o : Obj} {es : Array DictEntry} {ep : Nat}, s₁.heap.get? b = some o → o.data = .dict es ep → H b = none := fun {b o es ep} e d => by
      cases q : H b with
      | none => rfl
      | some u =>
        have e' : b = a := hA b (by rw [q]; simp)
        subst e'
        rw [ha] at e; cases e
        have d' : Data.seq vs.toArray _ = Data.dict es ep := d
        cases d'
    have nsK : ∀ {b : Addr} {m : Str → Option Value}, s₁.heap.Ns b m → (hidT s₁.heap H).Ns b m := fun {b m} ⟨o, es, ep, e, d, r⟩ => ⟨o, es, ep, base_of e (noA e d), d, r⟩
    have hKb : K.In (hidT s₁.heap H) := fun b o e => base_of (KX b o e) (by
      cases q : H b with
      | none => rfl
      | some u =>
        have e' : b = a := hA b (by rw [q]; simp)
        subst e'
        rw [hK (by rw [q]; simp)] at e; cases e)
    have hM : Mod K mg (hidT s₁.heap H) := ⟨hKb, nsK hns, ⟨mb, nsK hb, hbb⟩, let ⟨mc, h1, h2⟩ := hlim; ⟨mc, nsK h1, h2⟩⟩
    have e0 : Env0 P w K mg (hidT s₁.heap H) callerA [] s₁ H := ⟨rfl, hM, fun b o e => of_hidT e, Nat.le_of_eq (hidT_size _ _), trivial, fun b hb => absurd (show b ∈ ([] : List Addr) from hb) (by simp), hok, .of_eq hg⟩
    refine codeAny_mono ((F _ hKb (nsK hns)).run callerA [] s₁ H ⟨[.ref a], []⟩ [.ref a] [.ref a] _ _ hr e0 (hbind s₁ (.ref a)) (.cons rfl .nil) (hsp H hO hS)) fun r s' h => ?_
    cases r with
    | error e => exact (hCX H e s' h).elim
    | ok fl =>
      cases fl with
      | next => exact False.elim h
      | brk => exact False.elim h
      | cont => exact False.elim h
      | ret u =>
        obtain ⟨v, H', os, bare, un, hok', r', q⟩ := h
        have q' : v = .bl true := q
        subst q'
        obtain rfl : u = Value.bool true := r'
        refine ⟨rfl, OldK.of_keep fun b o e => ?_, os, bare⟩
        cases q : H b with
        | none => exact un.keep b o e q (by intro z; exact absurd (show b ∈ ([] : List Addr) from z) (by simp)) (by simp)
        | some u =>
          rcases hO b with z | ⟨ob, xs, z⟩
          · rw [q] at z; cases z
          · have z2 := un.frzs b ob _ z
            obtain ⟨e1, _⟩ := hok b _ z
            obtain ⟨e2, _⟩ := hok' b _ z2
            rw [e] at e1; cases e1
            exact e2
  cases hk : K.lookup a with
  | some o =>
    -- the script is one of the module's own objects
    have e := KX a o hk
    rw [ha] at e
    cases e
    refine core (fun _ => none) (fun _ => .inl rfl) (.inr ⟨_, vs.toArray, _, hk, rfl, rfl, rfl, by rw [List.size_toArray, lenV]; exact hl, by simpa using rv⟩) (fun b u z => by have z' : (none : Option HO) = some u := z; cases z') (fun b z => absurd rfl z) fun z => absurd rfl z
  | none =>
    refine core (fun b => if b = a then some (.frz { cls := .type "list", data := .seq vs.toArray } (.lst (ns.map V.int))) else none) (fun b => ?_) (.inl (.inr ⟨{ cls := .type "list", data := .seq vs.toArray }, if_pos rfl⟩)) (fun b u z => ?_) (fun b z => ?_) fun _ => hk
    · by_cases hb : b = a
      · exact .inr ⟨_, _, if_pos hb⟩
      · exact .inl (if_neg hb)
    · by_cases hb : b = a
      · have z' := (if_pos hb).symm.trans z
        cases z'
        subst hb
        exact ⟨ha, by rw [List.length_map]; exact hl, vs, _, rv, ha⟩
      · have z' := (if_neg hb).symm.trans z
        cases z'
    · by_cases hb : b = a
      · exact hb
      · exact absurd (if_neg hb) z
end L2
namespace L2
open PySem PySem.Spec PyProof.Rows
variable {q0 : Bool}
abbrev KOf {K : PySem.W.Frag} {h : Heap} (_ : K.In h) : PySem.W.Frag := K
theorem walk_of {l : PySem.W.OpenLaw} {n k : Nat} {q : Program} {loose : List Str} {XP : (Str → Option Value) → Heap → Prop} {YP : World → Heap → Prop} {d : DefRec} {K : Params → PySem.W.Frag} {CX : World → CXT} {sp : World → Sp} {x : Str}
    (hn : l.most = some n) (hn2 : n ≤ sizeLine) (hdf : d.params.defaults = []) (hr : Room q0 k callerA)
    (hY : ∀ (w : World) (h : Heap), YP w h → (K w.params).In h)
    (F : ∀ (w : World) (mg : Str → Option Value) (fa : Addr) (h : Heap), (K w.params).In h → h.Ns mainGlobals mg → mg d.name = some (.ref fa) →
      ∃ fd : FuncData, (∀ (s : Shared) (u : Value), BindsTo s fd ⟨[u], []⟩ [(x, u)]) ∧
        ∀ base : Heap, (K w.params).In base → base.Ns mainGlobals mg → FnOk q0 l.prog w (K w.params) mg base (CX w) k fa fd [x] (sp w))
    (hsp : ∀ (w : World) (H : Hp) (a : Addr) (ns : List Int), ns.length ≤ n → Only H → SqL (K w.params) H a (ns.map V.int) → sp w [.ref a] H (fun v _ => v = .bl true) fun _ _ _ => False)
    (hCX : ∀ (w : World) (H : Hp) (s : Shared) (e : Value) (s' : Shared), CX w [] H s (fun _ _ _ => False) e s' → False) :
    PySem.W.WalkO q loose XP YP l.row.toRowW d [] (fun f vs => PySem.call f vs) := by
  refine Att.attach_call hn hdf fun w s₀ s₁ mg mb fa o pm cd doc a vs ns G Y ho hd hcd hmg hobj hints hlen hg => ?_
  have KX := hY w _ Y
  obtain ⟨fd, hb, hF⟩ := F w mg fa _ KX G.T.g hmg
  exact law_call KX G.T.g G.T.b G.T.builtins G.T.nolimit hg hobj hints (Nat.le_trans hlen hn2) hr hF hb (fun H hO hS => hsp w H a ns hlen hO hS) fun H e s' => hCX w H s₁ e s'
end L2
namespace L2
open PySem PySem.Spec PyProof.Rows
variable {q0 : Bool}
def inClass (s : Stmt) (j : Nat) : Stmt := match s with
  | .ClassDef _ _ _ body _ _ _ _ _ _ _ => body.getD j (.Pass ⟨0, 0, 0, 0⟩)
  | _ => .Pass ⟨0, 0, 0, 0⟩
def defArgs (s : Stmt) : Arguments := match s with
  | .FunctionDef _ a _ _ _ _ _ _ _ _ => a
  | _ => { posonlyargs := [], args := [], vararg := none, kwonlyargs := [], kw_defaults := [], kwarg := none, defaults := [] }
def defBody (s : Stmt) : List Stmt := match s with
  | .FunctionDef _ _ b _ _ _ _ _ _ _ => b
  | _ => []
def defScope (s : Stmt) : Scope := match s with
  | .FunctionDef _ _ _ _ _ _ sc _ _ _ => sc
  | _ => { kind := .function, names := [], isGenerator := false, isCoroutine := false }
abbrev CX0 : CXT := fun _ _ _ _ _ _ => False
structure Fun (K : PySem.W.Frag) (x qual : Str) (st : Stmt) (f : Addr) (fd : FuncData) : Prop where
  ex : ∃ (oc : Value) (od : Option Addr) (kV doc pm : Value) (an : Option Addr) (cdv ct : Value) (osl : Array (Option Value)),
    fd = PySem.W.fnOf x qual (defArgs st) (defBody st) (defScope st) .none kV doc pm an cdv ct ∧ K.lookup f = some ⟨oc, od, .func fd, osl⟩ ∧ PySem.W.codeIn K cdv qual = true
  kp : PySem.W.keepIn K (.ref f) = true
section
variable {P : Program} {w : World} {K : PySem.W.Frag} {mg : Str → Option Value} {base : Heap}
theorem Fun.ok {x qual : Str} {st : Stmt} {f : Addr} {fd : FuncData} {N ps : List Str} {k : Nat} {sp : Sp} (F : Fun K x qual st f fd) (S : FnScope N ps (defScope st)) (len : ∀ vs H Q E, sp vs H Q E → vs.length = ps.length)
    (hbody : ∀ (cdv : Value) (A : Around) (outer : List Env) (s : Shared) (H : Hp) (vs : List V) (Q : VK) (E : XK), Room q0 k (A.deeper (envOfC qual (defScope st) s.heap.objs.size f cdv)) → sp vs H Q E →
      ∃ t, PSs (cxOf q0 CX0 P w K mg base N qual (defScope st) f cdv A outer s H E).nox (defBody st) t ∧ t { nx := fun _ H' => Q .non H', rt := Q } (start N vs) H) : FnOk q0 P w K mg base CX0 (k + 1) f fd ps sp := by
  obtain ⟨oc, od, kV, doc, pm, an, cdv, ct, osl, rfl, lk, hcd⟩ := F.ex
  refine fn_of lk hcd S len fun A outer s H vs Q E hr hsp => ?_
  obtain ⟨t, h, q⟩ := hbody cdv A outer s H vs Q E hr hsp
  exact ⟨t, h.nox, q⟩
theorem Fun.binds {x qual : Str} {st : Stmt} {f : Addr} {fd : FuncData} {ps : List Str} (F : Fun K x qual st f fd)
    (h : ∀ (kV doc pm : Value) (an : Option Addr) (cdv ct : Value) (us : List Value), us.length = ps.length → bindArgs (PySem.W.fnOf x qual (defArgs st) (defBody st) (defScope st) .none kV doc pm an cdv ct) ⟨us, []⟩ = pure (ps.zip us)) : Binds K fd ps [] := by
  obtain ⟨oc, od, kV, doc, pm, an, cdv, ct, osl, rfl, lk, hcd⟩ := F.ex
  exact .all (h kV doc pm an cdv ct)
theorem fun_mk {x qual : Str} {st : Stmt} {f : Addr} {oc : Value} {od an : Option Addr} {osl : Array (Option Value)} {kV doc pm cdv ct : Value} (l : K.lookup f = some ⟨oc, od, .func (PySem.W.fnOf x qual (defArgs st) (defBody st) (defScope st) .none kV doc pm an cdv ct), osl⟩)
    (c : PySem.W.codeIn K cdv qual = true) (k : PySem.W.keepIn K (.ref f) = true) : Fun K x qual st f (PySem.W.fnOf x qual (defArgs st) (defBody st) (defScope st) .none kV doc pm an cdv ct) := ⟨⟨oc, od, kV, doc, pm, an, cdv, ct, osl, rfl, l, c⟩, k⟩
end
theorem hu_of {A : Around} {k : Nat} (hr : Room q0 k A) : A.units + 1 < cLine := Nat.lt_of_le_of_lt (Nat.add_le_add_left (by decide : 1 ≤ 64) _) hr.units
section
variable {X : Cx}
theorem pv (i : Nat) {x : Str} {pos : Pos} (hN : X.N[i]? = some x := by rfl) (hv : Vis X.env.scope x := by first | exact Or.inl rfl | exact Or.inr (Or.inl rfl) | exact Or.inr (Or.inr rfl)) (hd : (x == ("__debug__" : Str)) = false := by decide)
    (hcd : (x == ("__classdict__" : Str)) = false := by decide) : PE X (.Name x pos) (tVar i) := pe_var hN hv hd hcd
end
theorem iteF {A B : Prop} (h : B) : if false = true then A else B := by
  rw [if_neg Bool.false_ne_true]
  exact h
theorem iteT {A B : Prop} (h : A) : if true = true then A else B := by
  rw [if_pos rfl]
  exact h
theorem ite2 {c A B : Prop} [Decidable c] (h1 : c → A) (h2 : ¬ c → B) : if c then A else B := by
  by_cases h : c
  · rw [if_pos h]
    exact h1 h
  · rw [if_neg h]
    exact h2 h
def Same (H H' : Hp) : Prop := ∀ b o, H b = some o → H' b = some o
theorem Same.refl (H : Hp) : Same H H := fun _ _ h => h
theorem Same.trans {H H1 H2 : Hp} (a : Same H H1) (b : Same H1 H2) : Same H H2 := fun c o h => b c o (a c o h)
theorem Same.free {H H' : Hp} (e : Same H H') {l : Addr} (h : H' l = Option.none) : H l = Option.none := by
  cases q : H l with
  | none => rfl
  | some o =>
    rw [e l o q] at h
    cases h
theorem Same.seq {K : PySem.W.Frag} {H H' : Hp} {a : Addr} {xs : List V} (e : Same H H') (h : SqL K H a xs) : SqL K H' a xs := by
  rcases h with (h | ⟨o, h⟩) | h
  · exact .inl (.inl (e _ _ h))
  · exact .inl (.inr ⟨o, e _ _ h⟩)
  · exact .inr h
end L2
namespace Srt
open PySem PySem.W PyProof.Rows
abbrev CM := Nat → Nat → (Bool → Shared → Prop) → Shared → Prop
abbrev g (p : Array Nat) (i : Nat) : Nat := p.getD i 0
structure Ord (n : Nat) (lt : Nat → Nat → Bool) : Prop where
  irr : ∀ i, i < n → lt i i = false
  tr : ∀ i j k, i < n → j < n → k < n → lt i j = true → lt j k = true → lt i k = true
  tot : ∀ i j, i < n → j < n → i ≠ j → lt i j = false → lt j i = true
def Cmp (n : Nat) (lt : Nat → Nat → Bool) (cmp : CM) (s : Shared) : Prop := ∀ i j, i < n → j < n → ∀ Q : Bool → Shared → Prop, Q (lt i j) s → cmp i j Q s
theorem wp_ret {α : Type} {cmp : CM} {a : α} {Q : α → Shared → Prop} {s : Shared} (h : Q a s) : KasT.kasWp cmp (.ret a) Q s := h
theorem wp_ask {α : Type} {cmp : CM} {i j : Nat} {k : Bool → KasT α} {Q : α → Shared → Prop} {s : Shared} (h : cmp i j (fun c s' => KasT.kasWp cmp (k c) Q s') s) : KasT.kasWp cmp (.ask i j k) Q s := h
theorem asc_0 {p : Array Nat} {n : Nat} : kas_asc p 0 n = .ret n := by unfold kas_asc; rfl
theorem asc_s {p : Array Nat} {f n : Nat} : kas_asc p (f + 1) n = .ask (p.getD n 0) (p.getD (n - 1) 0) fun c => if c = true then .ret n else kas_asc p f (n + 1) := by rw [kas_asc]
theorem bin_0 {p : Array Nat} {k : Nat} : kas_bin 0 p k = .ret p := by unfold kas_bin; rfl
theorem bin_s {f : Nat} {p : Array Nat} {k : Nat} : kas_bin (f + 1) p k = (kas_place p k k 0 k).bind fun l => kas_bin f (bubble p k (k - l)) (k + 1) := by rw [kas_bin]
theorem place_0 {p : Array Nat} {k l r : Nat} : kas_place p k 0 l r = .ret l := by unfold kas_place; rfl
theorem place_s {p : Array Nat} {k f l r : Nat} : kas_place p k (f + 1) l r = if l ≥ r then .ret l else .ask (p.getD k 0) (p.getD ((l + r) / 2) 0) fun c => if c = true then kas_place p k f l ((l + r) / 2) else kas_place p k f ((l + r) / 2 + 1) r := by rw [kas_place]
theorem desc_0 {p : Array Nat} {k l : Nat} : kas_desc 0 p k l = .ret (p, k, l) := by unfold kas_desc; rfl
theorem desc_s {f : Nat} {p : Array Nat} {k l : Nat} : kas_desc (f + 1) p k l = .ask (p.getD k 0) (p.getD (k - 1) 0) fun c => if c = true then (if l > 0 then kas_desc f (kas_rev p (k - (l + 1)) k) (k + 1) 0 else kas_desc f p (k + 1) 0) else .ask (p.getD (k - 1) 0) (p.getD k 0) fun d => if d = true then .ret (p, k, l) else kas_desc f p (k + 1) (l + 1) := by rw [kas_desc]
section
variable {n : Nat} {lt : Nat → Nat → Bool} {cmp : CM} {s : Shared}
structure Arr (n : Nat) (p : Array Nat) : Prop where
  sz : p.size = n
  lt : ∀ i, i < n → g p i < n
  inj : ∀ i j, i < n → j < n → g p i = g p j → i = j
  pm : p.Perm (List.range n).toArray
theorem g_at {p : Array Nat} {i : Nat} {v : Nat} (h : p[i]? = some v) : g p i = v := by
  show p.getD i 0 = v
  rw [Array.getD_eq_getD_getElem?, h]
  rfl
theorem Arr.at {p : Array Nat} (a : Arr n p) {i : Nat} (h : i < n) : p[i]? = some (g p i) := by
  have z : i < p.size := by rw [a.sz]; exact h
  have e : p[i]? = some p[i] := Array.getElem?_eq_getElem z
  rw [e, g_at e]
def Srtd (lt : Nat → Nat → Bool) (p : Array Nat) (m : Nat) : Prop := ∀ i j, i < j → j < m → lt (g p i) (g p j) = true
theorem srt_adj (o : Ord n lt) {p : Array Nat} (a : Arr n p) {m : Nat} (hm : m ≤ n) (h : ∀ i, 1 ≤ i → i < m → lt (g p (i - 1)) (g p i) = true) : Srtd lt p m := by
  intro i j hij hj
  obtain ⟨d, rfl⟩ : ∃ d, j = i + 1 + d := ⟨j - (i + 1), by omega⟩
  induction d with
  | zero => exact h (i + 1) (by omega) hj
  | succ d ih =>
    have h1 := ih (by omega) (by omega)
    have h2 := h (i + 1 + (d + 1)) (by omega) hj
    exact o.tr _ _ _ (a.lt _ (by omega)) (a.lt _ (by omega)) (a.lt _ (by omega)) h1 h2
theorem asc_wp (c : Cmp n lt cmp s) {p : Array Nat} (a : Arr n p) {G : Nat → Shared → Prop} : ∀ (f k : Nat), 1 ≤ k → k + f ≤ n →
    (∀ m, k ≤ m → m ≤ k + f → (∀ i, k ≤ i → i < m → lt (g p i) (g p (i - 1)) = false) → (m < k + f → lt (g p m) (g p (m - 1)) = true) → G m s) → KasT.kasWp cmp (kas_asc p f k) G s
  | 0, k, h1, hf, hG => by
    rw [asc_0]
    exact wp_ret (hG k (Nat.le_refl _) (by omega) (fun i h h' => by omega) (fun h => by omega))
  | f + 1, k, h1, hf, hG => by
    rw [asc_s]
    refine wp_ask (c _ _ (a.lt k (by omega)) (a.lt (k - 1) (by omega)) _ ?_)
    cases e : lt (g p k) (g p (k - 1)) with
    | true =>
      exact wp_ret (hG k (Nat.le_refl _) (by omega) (fun i h h' => by omega) (fun _ => e))
    | false =>
      show KasT.kasWp cmp (kas_asc p f (k + 1)) G s
      refine asc_wp c a f (k + 1) (by omega) (by omega) fun m hm hm2 h3 h4 => hG m (by omega) (by omega) (fun i hi hi2 => ?_) (fun h => h4 (by omega))
      by_cases z : i = k
      · rw [z]; exact e
      · exact h3 i (by omega) hi2
theorem desc_wp (o : Ord n lt) (c : Cmp n lt cmp s) {p : Array Nat} (a : Arr n p) {G : Array Nat × Nat × Nat → Shared → Prop} : ∀ (f k : Nat), 1 ≤ k → k + f ≤ n →
    (∀ m, k ≤ m → m ≤ k + f → (∀ i, k ≤ i → i < m → lt (g p i) (g p (i - 1)) = true) → G (p, m, 0) s) → KasT.kasWp cmp (kas_desc f p k 0) G s
  | 0, k, h1, hf, hG => by
    rw [desc_0]
    exact wp_ret (hG k (Nat.le_refl _) (by omega) (fun i h h' => by omega))
  | f + 1, k, h1, hf, hG => by
    rw [desc_s]
    refine wp_ask (c _ _ (a.lt k (by omega)) (a.lt (k - 1) (by omega)) _ ?_)
    cases e : lt (g p k) (g p (k - 1)) with
    | true =>
      show KasT.kasWp cmp (kas_desc f p (k + 1) 0) G s
      refine desc_wp o c a f (k + 1) (by omega) (by omega) fun m hm hm2 h3 => hG m (by omega) (by omega) fun i hi hi2 => ?_
      by_cases z : i = k
      · rw [z]; exact e
      · exact h3 i (by omega) hi2
    | false =>
      refine wp_ask (c _ _ (a.lt (k - 1) (by omega)) (a.lt k (by omega)) _ ?_)
      have ne : g p k ≠ g p (k - 1) := fun z => by have := a.inj _ _ (by omega) (by omega) z; omega
      rw [show lt (p.getD (k - 1) 0) (p.getD k 0) = true from o.tot _ _ (a.lt k (by omega)) (a.lt (k - 1) (by omega)) ne e]
      exact wp_ret (hG k (Nat.le_refl _) (by omega) (fun i h h' => by omega))
theorem Arr.rev {p : Array Nat} (a : Arr n p) {k : Nat} (hk : k ≤ n) : Arr n (kas_rev p 0 k) ∧ ∀ i, i < n → g (kas_rev p 0 k) i = if i < k then g p (k - 1 - i) else g p i := by
  have ge : ∀ i, i < n → g (kas_rev p 0 k) i = if i < k then g p (k - 1 - i) else g p i := fun i hi => by
    have z := getElem?_mirror_all (xs := p) (i := 0) (j := k) (by rw [a.sz]; exact hk) i
    by_cases c : i < k
    · rw [if_pos c]
      rw [if_pos ⟨Nat.zero_le _, c⟩, show 0 + k - 1 - i = k - 1 - i by omega, a.at (show k - 1 - i < n by omega)] at z
      exact g_at z
    · rw [if_neg c]
      rw [if_neg (fun w => c w.2), a.at hi] at z
      exact g_at z
  refine ⟨⟨by rw [kas_rev_size, a.sz], fun i hi => ?_, fun i j hi hj e => ?_, (mirror_perm _ _ _ _).trans a.pm⟩, ge⟩
  · rw [ge i hi]
    split <;> exact a.lt _ (by omega)
  · rw [ge i hi, ge j hj] at e
    split at e <;> split at e <;> have := a.inj _ _ (by omega) (by omega) e <;> omega
theorem count_wp (o : Ord n lt) (c : Cmp n lt cmp s) {p : Array Nat} (a : Arr n p) (h2 : 2 ≤ n) {G : Nat × Array Nat → Shared → Prop}
    (hG : ∀ m p', 1 ≤ m → m ≤ n → Arr n p' → Srtd lt p' m → G (m, p') s) : KasT.kasWp cmp (kas_count n p) G s := by
  unfold kas_count
  rw [KasT.kasWp_bind]
  have up : ∀ q, Arr n q → ∀ i, 1 ≤ i → i < n → lt (g q i) (g q (i - 1)) = false → lt (g q (i - 1)) (g q i) = true := fun q b i h1 hi e =>
    o.tot _ _ (b.lt i hi) (b.lt (i - 1) (by omega)) (fun z => by have := b.inj _ _ hi (by omega) z; omega) e
  refine asc_wp c a (n - 1) 1 (Nat.le_refl _) (by omega) fun m hm hm2 h3 h4 => ?_
  have sm : Srtd lt p m := srt_adj o a (by omega) fun i hi hi2 => up p a i hi (by omega) (h3 i hi hi2)
  show KasT.kasWp cmp (if (m == n) = true then _ else _) G s
  by_cases e1 : m = n
  · rw [if_pos (by simpa using e1)]
    exact wp_ret (hG m p hm (by omega) a sm)
  · rw [if_neg (by simpa using e1)]
    by_cases e2 : m > 1
    · rw [if_pos e2]
      refine wp_ask (c _ _ (a.lt 0 (by omega)) (a.lt (m - 1) (by omega)) _ ?_)
      rw [show lt (p.getD 0 0) (p.getD (m - 1) 0) = true from sm 0 (m - 1) (by omega) (by omega)]
      exact wp_ret (hG m p hm (by omega) a sm)
    · rw [if_neg e2]
      have m1 : m = 1 := by omega
      subst m1
      have d1 := h4 (by omega)
      unfold kas_descPart
      rw [KasT.kasWp_bind]
      refine desc_wp o c a (n - (1 + 1)) (1 + 1) (by omega) (by omega) fun k hk hk2 h5 => ?_
      show KasT.kasWp cmp (if (0 : Nat) > 0 then _ else kas_tail3 k n p) G s
      rw [if_neg (Nat.lt_irrefl 0)]
      unfold kas_tail3
      rw [KasT.kasWp_bind]
      obtain ⟨b, ge⟩ := a.rev (k := k) (by omega)
      refine asc_wp c b (n - k) k (by omega) (by omega) fun m' hm' hm2' h6 _ => ?_
      refine wp_ret (hG m' _ (by omega) (by omega) b (srt_adj o b (by omega) fun i hi hi2 => ?_))
      by_cases ik : i < k
      · rw [ge i (by omega), ge (i - 1) (by omega), if_pos ik, if_pos (by omega)]
        have e3 : k - 1 - (i - 1) - 1 = k - 1 - i := by omega
        by_cases z : k - 1 - (i - 1) = 1
        · have z' : k - 1 - i = 0 := by omega
          rw [z, z']
          exact d1
        · have := h5 (k - 1 - (i - 1)) (by omega) (by omega)
          rw [e3] at this
          exact this
      · exact up _ b i hi (by omega) (h6 i (by omega) hi2)
theorem place_wp (o : Ord n lt) (c : Cmp n lt cmp s) {p : Array Nat} (a : Arr n p) {k : Nat} (hk : k < n) (sk : Srtd lt p k) {G : Nat → Shared → Prop} : ∀ (f l r : Nat), l ≤ r → r ≤ k → r - l ≤ f →
    (∀ j, j < l → lt (g p k) (g p j) = false) → (∀ j, r ≤ j → j < k → lt (g p k) (g p j) = true) →
    (∀ m, m ≤ k → (∀ j, j < m → lt (g p k) (g p j) = false) → (∀ j, m ≤ j → j < k → lt (g p k) (g p j) = true) → G m s) → KasT.kasWp cmp (kas_place p k f l r) G s
  | 0, l, r, h1, h2, h3, lo, hi, hG => by
    rw [place_0]
    exact wp_ret (hG l (by omega) lo fun j hj hj2 => hi j (by omega) hj2)
  | f + 1, l, r, h1, h2, h3, lo, hi, hG => by
    rw [place_s]
    by_cases e : l ≥ r
    · rw [if_pos e]
      exact wp_ret (hG l (by omega) lo fun j hj hj2 => hi j (by omega) hj2)
    · rw [if_neg e]
      have m1 : (l + r) / 2 < r := by omega
      have m2 : l ≤ (l + r) / 2 := by omega
      refine wp_ask (c _ _ (a.lt k hk) (a.lt _ (by omega)) _ ?_)
      cases e2 : lt (g p k) (g p ((l + r) / 2)) with
      | true =>
        show KasT.kasWp cmp (kas_place p k f l ((l + r) / 2)) G s
        refine place_wp o c a hk sk f l _ m2 (by omega) (by omega) lo (fun j hj hj2 => ?_) hG
        by_cases z : j = (l + r) / 2
        · rw [z]; exact e2
        · exact o.tr _ _ _ (a.lt k hk) (a.lt _ (by omega)) (a.lt _ (by omega)) e2 (sk _ _ (by omega) hj2)
      | false =>
        show KasT.kasWp cmp (kas_place p k f ((l + r) / 2 + 1) r) G s
        refine place_wp o c a hk sk f _ r (by omega) h2 (by omega) (fun j hj => ?_) hi hG
        by_cases z : j = (l + r) / 2
        · rw [z]; exact e2
        · cases e3 : lt (g p k) (g p j) with
          | false => rfl
          | true =>
            have := o.tr _ _ _ (a.lt k hk) (a.lt _ (by omega)) (a.lt _ (by omega)) e3 (sk j ((l + r) / 2) (by omega) (by omega))
            rw [e2] at this
            cases this
theorem Arr.bub {p : Array Nat} (a : Arr n p) {k m : Nat} (hk : k < n) (hm : m ≤ k) : Arr n (bubble p k (k - m)) ∧ ∀ i, i < n → g (bubble p k (k - m)) i = if i = m then g p k else if m < i ∧ i ≤ k then g p (i - 1) else g p i := by
  have ge : ∀ i, i < n → g (bubble p k (k - m)) i = if i = m then g p k else if m < i ∧ i ≤ k then g p (i - 1) else g p i := fun i hi => by
    have z := getElem?_bubble (xs := p) (src := k) (by rw [a.sz]; exact hk) (k - m) (by omega) i
    rw [show k - (k - m) = m by omega] at z
    by_cases c : i = m
    · rw [if_pos c]
      rw [if_pos c, a.at hk] at z
      exact g_at z
    · rw [if_neg c]
      rw [if_neg c] at z
      by_cases d : m < i ∧ i ≤ k
      · rw [if_pos d]
        rw [if_pos d, a.at (show i - 1 < n by omega)] at z
        exact g_at z
      · rw [if_neg d]
        rw [if_neg d, a.at hi] at z
        exact g_at z
  refine ⟨⟨by rw [bubble_size, a.sz], fun i hi => ?_, fun i j hi hj e => ?_, (bubble_perm _ _ _).trans a.pm⟩, ge⟩
  · rw [ge i hi]
    split
    · exact a.lt _ hk
    · split <;> exact a.lt _ (by omega)
  · rw [ge i hi, ge j hj] at e
    split at e <;> (try split at e) <;> (try split at e) <;> (try split at e) <;> first | omega | (have := a.inj _ _ (by omega) (by omega) e; omega)
theorem bin_wp (o : Ord n lt) (c : Cmp n lt cmp s) {G : Array Nat → Shared → Prop} : ∀ (f k : Nat) (p : Array Nat), k + f = n → Arr n p → Srtd lt p k → (∀ p', Arr n p' → Srtd lt p' n → G p' s) → KasT.kasWp cmp (kas_bin f p k) G s
  | 0, k, p, h, a, sk, hG => by
    rw [bin_0]
    have : k = n := by omega
    subst this
    exact wp_ret (hG p a sk)
  | f + 1, k, p, h, a, sk, hG => by
    have hk : k < n := by omega
    rw [bin_s, KasT.kasWp_bind]
    refine place_wp o c a hk sk k 0 k (Nat.zero_le _) (Nat.le_refl _) (by omega) (fun j hj => by omega) (fun j hj hj2 => by omega) fun m hm lo hi => ?_
    obtain ⟨b, ge⟩ := a.bub hk hm
    refine bin_wp o c f (k + 1) _ (by omega) b (fun i j hij hj => ?_) hG
    have inS : ∀ i, i < m → lt (g p i) (g p k) = true := fun i hi' => o.tot _ _ (a.lt k hk) (a.lt i (by omega)) (fun z => by have := a.inj _ _ hk (by omega) z; omega) (lo i hi')
    have g1 : ∀ i, i < n → i = m → g (bubble p k (k - m)) i = g p k := fun i hi z => by rw [ge i hi, if_pos z]
    have g2 : ∀ i, i < n → m < i → i ≤ k → g (bubble p k (k - m)) i = g p (i - 1) := fun i hi z z2 => by rw [ge i hi, if_neg (by omega), if_pos ⟨z, z2⟩]
    have g3 : ∀ i, i < n → i < m → g (bubble p k (k - m)) i = g p i := fun i hi z => by rw [ge i hi, if_neg (by omega), if_neg (by omega)]
    by_cases j1 : j = m
    · rw [g1 j (by omega) j1, g3 i (by omega) (by omega)]
      exact inS i (by omega)
    · by_cases i1 : i = m
      · rw [g1 i (by omega) i1, g2 j (by omega) (by omega) (by omega)]
        exact hi (j - 1) (by omega) (by omega)
      · by_cases j2 : m < j
        · rw [g2 j (by omega) j2 (by omega)]
          by_cases i2 : m < i
          · rw [g2 i (by omega) i2 (by omega)]
            exact sk _ _ (by omega) (by omega)
          · rw [g3 i (by omega) (by omega)]
            by_cases z : i = j - 1
            · omega
            · exact sk _ _ (by omega) (by omega)
        · rw [g3 j (by omega) (by omega), g3 i (by omega) (by omega)]
          exact sk _ _ hij (by omega)
theorem arr_range : Arr n (List.range n).toArray := by
  have e : ∀ i, i < n → g (List.range n).toArray i = i := fun i hi => g_at (by rw [List.getElem?_toArray, List.getElem?_range hi])
  exact ⟨by simp, fun i hi => by rw [e i hi]; exact hi, fun i j hi hj z => by rw [e i hi, e j hj] at z; exact z, Array.Perm.refl _⟩
theorem sort_wp (o : Ord n lt) (c : Cmp n lt cmp s) (h2 : 2 ≤ n) {G : Array Nat → Shared → Prop} (hG : ∀ p, Arr n p → Srtd lt p n → G p s) : KasT.kasWp cmp (kas_sort n) G s := by
  unfold kas_sort
  rw [KasT.kasWp_bind]
  refine count_wp o c arr_range h2 fun m p hm hm2 a sm => ?_
  show KasT.kasWp cmp (if m < n then _ else _) G s
  by_cases e : m < n
  · rw [if_pos e]
    show KasT.kasWp cmp (kas_bin (n - max m 1) p (max m 1)) G s
    rw [Nat.max_eq_left hm]
    exact bin_wp o c (n - m) m p (by omega) a sm hG
  · rw [if_neg e]
    have : m = n := by omega
    subst this
    exact wp_ret (hG p a sm)
end
end Srt
set_option maxRecDepth 100000
namespace XL
open PySem
def Xat (h : Heap) (e : Addr) (cls : Value) (od tb : Option Addr) : Prop :=
  ∃ oe vs, h.get? e = some oe ∧ oe.cls = cls ∧ oe.dict = od ∧ oe.data = .fields vs ∧ 1 < vs.size ∧
    ((tb = none ∧ vs[1]? = some Value.none) ∨ ∃ T oT ts, tb = some T ∧ vs[1]? = some (.ref T) ∧ T ≠ e ∧ h.get? T = some oT ∧ oT.data = .fields ts ∧ ts[3]? = some Value.none)
section
variable {M : Model} {A : Around} {E : Value → Shared → Prop} {s : Shared}
end
end XL
set_option maxRecDepth 100000
namespace XL
open PySem
section
variable {prog : Program} {w : World} {A : Around} {E : Value → Shared → Prop} {h : Heap} {g : Array GenState} {d : Drawn} {t : Nat} {os : OsState}
variable {nm qn : Str} {C N : Addr} {bs bm bmB : List Value} {hz : Bool} {sn : List Str} {sub : List Value} {ab : Bool} {col : Option Bool} {dd : Option Addr} {k0 k1 k2 k3 k5 : Option Value} {B ni ii : String}
end
end XL
set_option maxRecDepth 100000
namespace XL
open PySem PySem.W PySem.Calls PyProof.Rows Builtin Builtin.ObjectAttr
def vErr : List Value := [.type "ValueError", .type "Exception", .type "BaseException", .type "object"]
def excLine : List Value → Bool
  | [] => false
  | .ref c :: r => excLine r || ((.ref c :: r : List Value) == vErr)
  | v :: r => (v :: r) == vErr
def excOver (K : Frag) (C : Addr) : Bool := (clsIn K C).any fun cd => excLine cd.mro
theorem line_has : ∀ {l : List Value}, excLine l = true → l.contains (.type "object") = true ∧ l.contains (.type "BaseException") = true ∧ l.isEmpty = false
  | [], e => by cases e
  | v :: r, e => by
    have last : ((v :: r : List Value) == vErr) = true → (v :: r).contains (.type "object") = true ∧ (v :: r).contains (.type "BaseException") = true ∧ (v :: r).isEmpty = false := fun z => by
      rw [eq_of_beq z]
      exact ⟨by decide +kernel, by decide +kernel, rfl⟩
    cases v with
    | ref c =>
      rcases Bool.or_eq_true_iff.mp e with z | z
      · obtain ⟨a, b, _⟩ := line_has z
        exact ⟨by rw [List.contains_cons, a, Bool.or_true], by rw [List.contains_cons, b, Bool.or_true], rfl⟩
      · exact last z
    | _ => exact last e
structure XC (K : Frag) (C : Addr) : Prop where
  over : excOver K C = true
  hd : hasDictIn K C = true
  sa : findIn K (.ref C) "__setattr__" = some (some (.builtin "object.__setattr__"))
  ga : findIn K (.ref C) "__getattribute__" = some (some (.builtin "BaseException.__getattribute__"))
  gh : findIn K (.ref C) "__getattr__" = some none
  ca : findIn K (.ref C) "__class__" = some (some (.builtin "object.__class__"))
  cg : specialIn K (.builtin "object.__class__") "__get__" = some (some (.builtin "getset_descriptor.__get__"))
  ct : takesIn K (.builtin "object.__class__") = some true
section
variable {prog : Program} {w : World} {A : Around} {E : Value → Shared → Prop} {s : Shared} {K : Frag} {x C dx : Addr} {ox : Obj} {od : Option Obj} {name : Str} {v : Value} {R : Result → Shared → Prop}
theorem XC.mro (c : XC K C) : ∃ cd, clsIn K C = some cd ∧ excLine cd.mro = true ∧ cd.hasDict = true := by
  obtain ⟨cd, h1, h2⟩ := any_some c.over
  obtain ⟨cd', h3, h4⟩ := any_some c.hd
  rw [h1] at h3
  cases h3
  exact ⟨cd, h1, h2, h4⟩
theorem XC.isObj (c : XC K C) : mroIn K C (.type "object") = some true := by
  obtain ⟨cd, h1, h2, _⟩ := c.mro
  obtain ⟨a, _, b⟩ := line_has h2
  unfold mroIn
  rw [h1, Option.bind_some, if_neg (by rw [b]; decide), a]
theorem XC.isExc (c : XC K C) : mroIn K C (.type "BaseException") = some true := by
  obtain ⟨cd, h1, h2, _⟩ := c.mro
  obtain ⟨_, a, b⟩ := line_has h2
  unfold mroIn
  rw [h1, Option.bind_some, if_neg (by rw [b]; decide), a]
theorem ga_bind (v : Value) : bindSpecial (.builtin "BaseException.__getattribute__") v = pure (.builtin "BaseException.__getattribute__", [v]) := by
  have f := PySem.F.attr_ValueError.ga.bind v
  exact f
theorem ga_plain : plainId "BaseException.__getattribute__" = true := PySem.F.attr_ValueError.ga.plain
theorem get_xo {Q : Value → Shared → Prop} {expr fill : Bool} {tk : Tok} (X : K.In s.heap) (c : XC K C) (I : InstAt s.heap x ox C od)
    (h : wpAny (model prog w) A.in1 (Builtin.«object.__getattribute__» ⟨[.ref x, .str name tk], []⟩)
      (fun fin s' => match fin with | .done (.ret v) => wpAny (model prog w) A (handedOut v) Q E s' | _ => False) (fun _ _ => False) s) :
    wpAny (model prog w) A (getAttrBy (.ref x) (.str name tk) fill expr) Q E s := by
  obtain ⟨hh, g, d, t, os⟩ := s
  have L0 := I.type (M := model prog w)
  have L1 := looks_findIn (M := model prog w) X c.ga
  have L2 := looks_findIn (M := model prog w) X c.gh
  have sub : Looks (model prog w) hh (isInstance (.ref x) (.type "BaseException")) true := I.type.andThen (looks_mroIn X c.isExc)
  have f2 : (onTheHeap (Value.ref C) && Value.builtin "BaseException.__getattribute__" == Value.builtin "object.__getattribute__") = false := by
    rw [show (Value.builtin "BaseException.__getattribute__" == Value.builtin "object.__getattribute__") = false from by decide +kernel]; rfl
  have f3 : (expr && onTheHeap (Value.builtin "BaseException.__getattribute__")) = false := by cases expr <;> rfl
  unfold getAttrBy
  refine wpAny_holding (wpAny_bind (L0.at (wpAny_bind (L1.at ?_))))
  dsimp only
  rw [f2]
  simp only [Bool.false_eq_true, if_false]
  unfold getAttrByItsOwn hookBefore
  refine wpAny_bind (L2.at (wpAny_bind (wpAny_attempt (wpAny_holding ?_))))
  unfold callGetattribute
  rw [f3]
  simp only [Bool.false_eq_true, if_false]
  unfold boundAndCalled
  rw [ga_bind]
  refine wpAny_bind (wpAny_pure (wpAny_call (codeAny_call_builtin ga_plain PySem.F.entry_bexc_ga
    (@check_slot (model prog w) _ _ ⟨hh, g, d, t, os⟩ "BaseException.__getattribute__" "BaseException" "__getattribute__" (.ref x) [.str name tk] [] _ (by decide +kernel) (by decide +kernel) sub (PySem.F.args_bexc_ga _ _) ?_))))
  refine wpAny_mono h (fun fin s' z => ?_) fun e s' z => z.elim
  rcases fin with (_ | _ | _ | _) | _ <;> first | exact z | exact z.elim
theorem get_xcls {Q : Option Value → Shared → Prop} (X : K.In s.heap) (c : XC K C) (I : InstAt s.heap x ox C od) (h : Q (some (.ref C)) { s with toks := s.toks + 1 }) :
    wpAny (model prog w) A (getAttr? (.ref x) "__class__") Q E s := by
  obtain ⟨cd, h1, _, h2⟩ := c.mro
  have hf : findObj K C od "__class__" = some (.bind (.builtin "getset_descriptor.__get__") (.builtin "object.__class__")) := by
    unfold findObj
    rw [h1, Option.bind_some, c.ca, Option.bind_some]
    simp [c.cg, c.ct]
  unfold getAttr? getAttrBy?
  refine wpAny_bind (wpAny_mkText (wpAny_bind (wpAny_attempt ?_)))
  refine get_xo (s := { s with toks := s.toks + 1 }) X c I ?_
  have L0 := I.type (M := model prog w)
  have L1 := looks_find (M := model prog w) X I hf
  refine wpAny_bind (wpAny_pure (wpAny_bind (wpAny_pure (wpAny_bind (L0.here (s := { s with toks := s.toks + 1 }) (wpAny_bind (L1.here (s := { s with toks := s.toks + 1 }) ?_)))))))
  show wpAny _ _ (holding [_] (call _ [_, .ref x, .ref C]) >>= ret) _ _ _
  refine wpAny_bind (wpAny_holding (wpAny_call (class_get (s := { s with toks := s.toks + 1 }) (ox := ox) (od := od) X I c.isObj ?_)))
  refine wpAny_pure ?_
  show wpAny _ _ (handedOut (.ref C)) _ _ _
  exact wpAny_pure (wpAny_pure h)
end
end XL
set_option maxRecDepth 100000
namespace XL
open PySem
section
variable {M : Model} {A : Around} {E : Value → Shared → Prop} {s : Shared} {env : Env}
end
end XL
set_option maxRecDepth 100000
namespace L2
open PySem PySem.Spec PyProof.Rows XL
variable {q0 : Bool}
def XO (e C : Addr) (od : Option Addr) : HO := .ext fun h => ∃ ox vs, h.get? e = some ox ∧ ox.cls = .ref C ∧ ox.dict = od ∧ ox.data = .fields vs
def XD (dx : Addr) (fs : List (Str × V)) : HO := .ext fun h => fs.length ≤ 1000 ∧ ∃ mA, h.Ns1 dx mA ∧ (∀ f, RelO (fs.lookup f) (mA f)) ∧ PySem.Within mA (fs.map (·.1))
section
variable {P : Program} {w : World} {H : Hp} {h : Heap} {e C dx : Addr} {od : Option Addr} {fs : List (Str × V)}
end
def CXo (P : Program) (w : World) : CXT := fun outer H s E u s' => ∃ e C od H' T, u = .ref e ∧ s'.os = s.os ∧ AllBare s'.gens ∧ Un (frs outer) [] H H' s.heap s'.heap ∧ HOk P w H' s'.heap ∧
  Xat s'.heap e (.ref C) od (some T) ∧ H' e = some (XO e C od) ∧ s.heap.objs.size ≤ T ∧ H' T = none ∧ E e C H'
section
variable {X : Cx} {pins : List (Addr × Obj)} {σ : St} {H : Hp} {s : Shared} {e C : Addr} {od tb : Option Addr}
theorem Inv.size_lt (I : Inv X pins σ H s) {b : Addr} (h : s.heap.objs.size ≤ b) : H b = none ∧ b ≠ X.env.locals ∧ (∀ x c, X.env.cells.lookup x = some c → c ≠ b) ∧ ∀ p ∈ X.pn ++ pins, p.1 ≠ b := by
  refine ⟨I.hok.fresh h, fun z => ?_, fun x c hc z => ?_, fun p hp z => ?_⟩
  · rw [z] at h
    exact absurd I.lt (Nat.not_lt.mpr h)
  · obtain ⟨v, o, ho, _⟩ := I.cell x c hc
    rw [z] at ho
    exact absurd (Heap.lt_size ho) (Nat.not_lt.mpr h)
  · have g := (I.pin p hp).1
    rw [z] at g
    exact absurd (Heap.lt_size g) (Nat.not_lt.mpr h)
theorem pass_none : Passes (CXo X.prog X.w) X (fun _ _ _ _ => False) := fun pins σ H s u s' I h => by
  obtain ⟨e, C, od, H', T, _, _, _, _, _, _, _, _, _, q⟩ := h
  exact q.elim
end
end L2
set_option maxRecDepth 100000
namespace XL
open PySem PySem.W
end XL
namespace L2
open PySem PySem.Spec PyProof.Rows XL
variable {q0 : Bool}
section
variable {X : Cx} {pins : List (Addr × Obj)} {σ : St} {H : Hp} {s : Shared} {a C dx : Addr} {od : Option Addr} {fs : List (Str × V)} {f : Str} {v y : V} {u : Value} {A : Around} {E : Value → Shared → Prop}
theorem xo_at (I : Inv X pins σ H s) (e : H a = some (XO a C od)) : ∃ ox vs, s.heap.get? a = some ox ∧ ox.cls = .ref C ∧ ox.dict = od ∧ ox.data = .fields vs := (I.hok a _ e).1
theorem xd_at (I : Inv X pins σ H s) (e : H dx = some (XD dx fs)) : fs.length ≤ 1000 ∧ ∃ mA, s.heap.Ns1 dx mA ∧ (∀ f, RelO (fs.lookup f) (mA f)) ∧ PySem.Within mA (fs.map (·.1)) := (I.hok dx _ e).1
theorem notCls_f {o : Obj} {vs : Array Value} (d : o.data = .fields vs) : PySem.W.notCls o = true := by
  unfold PySem.W.notCls
  rw [d]
end
section
variable {X : Cx} {o e value : Expr} {f : Str} {pos pos' tpos : Pos} {ta tv te : TE}
end
section
variable {X : Cx} {k : Nat} {f C : Addr} {fd : FuncData} {ps : List Str} {sp : Sp} {dvs : List V} {ds : List Value} {E : St → XK} {x m : Str} {p pos apos : Pos} {e o : Expr} {es : List Expr} {ta te : TE} {t : TA}
end
end L2
set_option maxRecDepth 100000
namespace XL
open PySem PySem.W
section
variable {M : Model} {A : Around} {E : Value → Shared → Prop} {s : Shared}
variable {nm qn nm' qn' : Str} {C N C' N' : Addr} {bs bm bs' bm' : List Value} {hz hz' : Bool} {sn sn' : List Str} {sub sub' : List Value} {ab ab' : Bool} {col col' : Option Bool} {dd dd' : Option Addr} {k0 k1 k2 k3 k5 j0 j1 j2 j3 j5 : Option Value} {ni ni' : String}
end
end XL
namespace L2
open PySem PySem.Spec PyProof.Rows XL
variable {q0 : Bool}
section
variable {X : Cx} {pins : List (Addr × Obj)} {σ : St} {H : Hp} {s : Shared}
end
section
variable {X : Cx} {pos np hpos : Pos} {body hbody : List Stmt} {b0 : Stmt} {cx n : Str} {C0 : Addr} {j : Nat} {E : St → XK} {tb th : TS}
end
end L2
set_option maxRecDepth 100000
namespace XL
open PySem PySem.W
theorem kitx_x {K : Frag} {x C : Addr} (c : XC K C) : KitX K (.ref x) (.ref C) (fun h => ∃ ox od, InstAt h x ox C od) where
  ty := fun _ _ _ ⟨_, _, I⟩ => I.type
  it := fun _ _ X _ => by
    obtain ⟨cd, hc, _, _⟩ := c.mro
    unfold clsIn at hc
    split at hc
    · rename_i c' d' cd' sl' ho
      intro A' Q' E' s' k q
      unfold isType loadHead
      exact wpAny_bind (wpAny_loadPart (k _ _ (X _ _ ho)) (wpAny_pure q))
    · cases hc
  ne := fun h tp dd its n sl X htp => by
    obtain ⟨cd, hc, _, _⟩ := c.mro
    refine Bool.eq_false_iff.mpr fun q => ?_
    have e : C = tp := Value.ref.inj (beq_iff_eq.mp q)
    subst e
    unfold clsIn at hc
    split at hc
    · rename_i c' d' cd' sl' ho
      have z := (X _ _ ho).symm.trans htp
      cases z
    · cases hc
  ca := fun X ⟨ox, od, I⟩ k => get_xcls X c I k
end XL
namespace L2
open PySem PySem.Spec PyProof.Rows XL
variable {q0 : Bool}
def clsV : V → Option Value
  | .ty n => some (.type n)
  | .ref a => some (.ref a)
  | _ => none
theorem clsV_rel {c : V} {u cv : Value} (e : clsV c = some cv) (r : RelV c u) : u = cv := by
  cases c <;> first | (cases e; exact r) | cases e
def clsVs : List V → Option (List Value)
  | [] => some []
  | c :: r => (clsV c).bind fun a => (clsVs r).map (a :: ·)
theorem clsVs_rel : ∀ {cs : List V} {us cv : List Value}, clsVs cs = some cv → Vals cs us → us = cv
  | [], _, _, e, .nil => by cases e; rfl
  | c :: r, _, _, e, .cons rc rr => by
    obtain ⟨a, e1, e2⟩ := Option.bind_eq_some_iff.mp e
    obtain ⟨b, e3, rfl⟩ := Option.map_eq_some_iff.mp e2
    rw [clsV_rel e1 rc, clsVs_rel e3 rr]
section
variable {X : Cx} {pins : List (Addr × Obj)} {σ : St} {H : Hp} {s : Shared} {A : Around} {E : Value → Shared → Prop} {Q : Value → Shared → Prop}
theorem xo_inst {a C : Addr} {od : Option Addr} (I : Inv X pins σ H s) (h : H a = some (XO a C od)) (hd : ∀ d, od = some d → ∃ o, s.heap.get? d = some o) : ∃ ox odx, PySem.W.InstAt s.heap a ox C odx := by
  obtain ⟨ox, vs, g, ce, oo, de⟩ := xo_at I h
  cases e : od with
  | none => exact ⟨ox, none, g, ce, notCls_f de, by rw [oo, e]; trivial⟩
  | some d =>
    obtain ⟨o, go⟩ := hd d e
    exact ⟨ox, some o, g, ce, notCls_f de, by rw [oo, e]; exact go⟩
end
def rIsin (K : PySem.W.Frag) : List V → Hp → VK → Prop := fun xs H Q => ∃ x c, xs = [x, c] ∧ ((∃ t cv b, TyOf K H x t ∧ clsV c = some cv ∧ PySem.W.kitOne K t cv = some b ∧ Q (.bl b) H) ∨
  (∃ a C od cv b, x = .ref a ∧ H a = some (XO a C od) ∧ (∀ d, od = some d → ∃ fs, H d = some (XD d fs)) ∧ XC K C ∧ clsV c = some cv ∧ PySem.W.kitOne K (.ref C) cv = some b ∧ Q (.bl b) H) ∨
  (∃ a C od p cs cv b, x = .ref a ∧ H a = some (XO a C od) ∧ (∀ d, od = some d → ∃ fs, H d = some (XD d fs)) ∧ XC K C ∧ c = .ref p ∧ SqT K H p cs ∧ clsVs cs = some cv ∧ PySem.W.kitAny K (.ref C) cv = some b ∧ Q (.bl b) H))
section
variable {X : Cx}
theorem call_isin : CallR X (.builtin "isinstance") (rIsin X.K) := by
  intro pins s σ H us xs Q I r h
  obtain ⟨x, c, rfl, h⟩ := h
  obtain ⟨u, v, rfl, ru, rv⟩ := vals2 r
  rcases h with ⟨t, cv, b, ty, ec, ek, q⟩ | ⟨a, C, od, cv, b, rfl, ha, hd, xc, ec, ek, q⟩ | ⟨a, C, od, p, cs, cv, b, rfl, ha, hd, xc, rfl, hp, ec, ek, q⟩
  · obtain rfl := clsV_rel ec rv
    exact isinst_ok I ru ty ek fun tk => ⟨.bl b, H, I.tok tk, rfl, q⟩
  · obtain rfl := clsV_rel ec rv
    obtain rfl : u = Value.ref a := ru
    refine PySem.W.kia_one (kitx_x xc) I.kIn (xo_inst I ha fun d e => ?_) ek (fun z => nomatch z) fun tk => ⟨.bl b, H, I.tok tk, rfl, q⟩
    obtain ⟨fs, hw⟩ := hd d e
    obtain ⟨_, _, ⟨o, _, _, go, _⟩, _⟩ := xd_at I hw
    exact ⟨o, go⟩
  · obtain rfl : u = Value.ref a := ru
    obtain rfl : v = Value.ref p := rv
    obtain ⟨its, vi, it, _⟩ := I.tuple hp
    obtain rfl := clsVs_rel ec vi
    obtain ⟨o, g, oc, n, od'⟩ := it
    obtain ⟨c1, d1, dt1, sl1⟩ := o
    dsimp only at oc od'
    subst oc od'
    refine PySem.W.kia_tup (kitx_x xc) I.kIn (xo_inst I ha fun d e => ?_) g ek (fun z => nomatch z) fun tk => ⟨.bl b, H, I.tok tk, rfl, q⟩
    obtain ⟨fs, hw⟩ := hd d e
    obtain ⟨_, _, ⟨o, _, _, go, _⟩, _⟩ := xd_at I hw
    exact ⟨o, go⟩
end
end L2
set_option maxRecDepth 100000
namespace L2
open PySem PySem.Spec PyProof.Rows XL
variable {q0 : Bool}
def frees (scope : Scope) : List Str := (scope.names.filter fun x => x.2 == .free).map (·.1)
def Cx.clo (X : Cx) (scope : Scope) : List (Str × Addr) := (frees scope).reverse.map fun n => (n, (X.env.cells.lookup n).getD 0)
theorem closure_of {env : Env} {f : Str → Addr} : ∀ (l : List (Str × NameKind)) (acc : List (Str × Addr)), (∀ x ∈ l, x.2 = .free → env.cells.lookup x.1 = some (f x.1)) →
    (forIn l acc fun x cs => (if x.2 == .free then do let c ← cellOf env x.1; pure (ForInStep.yield ((x.1, c) :: cs)) else pure (ForInStep.yield cs) : Sem (ForInStep (List (Str × Addr))))) =
      pure ((((l.filter fun x => x.2 == .free).map (·.1)).reverse.map fun n => (n, f n)) ++ acc)
  | [], acc, _ => rfl
  | x :: r, acc, h => by
    have ih := fun a => closure_of r a fun y hy => h y (List.mem_cons_of_mem _ hy)
    rw [List.forIn_cons]
    by_cases q : x.2 = .free
    · have e := h x List.mem_cons_self q
      have qb : (x.2 == NameKind.free) = true := by rw [q]; rfl
      rw [if_pos qb, List.filter_cons, if_pos qb]
      have ec : cellOf env x.1 = pure (f x.1) := by unfold cellOf; rw [e]
      rw [ec]
      simp only [pure_bind]
      rw [ih]
      simp
    · have qb : (x.2 == NameKind.free) = false := by simpa using q
      rw [if_neg (by rw [qb]; decide), List.filter_cons, if_neg (by rw [qb]; decide)]
      simp only [pure_bind]
      rw [ih]
theorem clo_of {X : Cx} {scope : Scope} (h : ∀ n ∈ frees scope, ∃ c, X.env.cells.lookup n = some c) : closureFor scope X.env = pure (X.clo scope) := by
  unfold closureFor
  have z := closure_of (env := X.env) (f := fun n => (X.env.cells.lookup n).getD 0) scope.names [] fun x hx hf => by
    obtain ⟨c, e⟩ := h x.1 (List.mem_map.mpr ⟨x, List.mem_filter.mpr ⟨hx, by simp [hf]⟩, rfl⟩)
    rw [e]
    rfl
  rw [List.append_nil] at z
  refine (bind_pure (m := Sem) _).trans ?_
  exact z
theorem clo_mem {X : Cx} {scope : Scope} {n : Str} {c : Addr} (h : (X.clo scope).lookup n = some c) : n ∈ frees scope ∧ c = (X.env.cells.lookup n).getD 0 := by
  have z := PySem.mem_of_lookup h
  unfold Cx.clo at z
  obtain ⟨y, hy, e⟩ := List.mem_map.mp z
  injection e with e1 e2
  subst e1
  exact ⟨List.mem_reverse.mp hy, e2.symm⟩
theorem lookup_map_self {f : Str → Addr} {n : Str} : ∀ {l : List Str}, n ∈ l → (l.map fun y => (y, f y)).lookup n = some (f n)
  | [], h => by simp at h
  | y :: r, h => by
    rw [List.map_cons, List.lookup_cons]
    by_cases q : n = y
    · subst q
      simp
    · rw [show (n == y) = false from by simpa using q]
      exact lookup_map_self ((List.mem_cons.mp h).resolve_left q)
theorem clo_get {X : Cx} {scope : Scope} {n : Str} {c : Addr} (hn : n ∈ frees scope) (h : X.env.cells.lookup n = some c) : (X.clo scope).lookup n = some c := by
  have z := lookup_map_self (f := fun n => (X.env.cells.lookup n).getD 0) (List.mem_reverse.mpr hn)
  unfold Cx.clo
  rw [z, h]
  rfl
section
variable {X : Cx} {pins : List (Addr × Obj)} {σ : St} {H : Hp} {s : Shared} {scope : Scope} {x : Str} {ys : List Str} {fr : List Nat} {fp : List Addr}
end
section
variable {X : Cx} {pins : List (Addr × Obj)} {σ : St} {H : Hp} {s : Shared} {scope : Scope} {x : Str} {ys : List Str} {fr : List Nat} {fp : List Addr}
end
def tTrue : TT := fun _ H Q => Q true H
def PIf (X : Cx) (ifs : List Expr) (t : TT) : Prop :=
  ∀ (pins : List (Addr × Obj)) (s : Shared) (σ : St) (H : Hp) (Q : Bool → Hp → Prop), Inv X pins σ H s → t σ H Q →
    wpAny (model X.prog X.w) X.A (forIn ifs true fun c r => if r = true then do let ok ← isTrue c X.env (eval c X.env); pure (ForInStep.yield ok) else pure (ForInStep.yield r)) (TP X pins σ Q) X.xe s
theorem pif_nil {X : Cx} : PIf X [] tTrue := fun pins s σ H Q I h => wpAny_pure ⟨H, I, h⟩
theorem pif_one {X : Cx} {c : Expr} {t : TT} (hc : PT X c t) : PIf X [c] t := fun pins s σ H Q I h => by
  rw [List.forIn_cons]
  refine wpAny_bind ?_
  rw [if_pos rfl]
  refine wpAny_bind (wpAny_mono (hc pins s σ H Q I h) (fun b s1 q => wpAny_pure ?_) fun _ _ z => z)
  exact wpAny_pure q
section
variable {X : Cx} {scope : Scope} {x : Str} {ys : List Str} {fr : List Nat} {elt iter : Expr} {ifs : List Expr} {px pos : Pos} {wi : TI} {tc : TT} {te : TE}
end
end L2
set_option maxRecDepth 100000
namespace L2
open PySem PySem.Spec PyProof.Rows XL
variable {q0 : Bool}
theorem relab_has {env : Env} {scope : Scope} (nc : ∀ y ∈ scope.names, y.2 ≠ .cell) (n : Str) (h : (relabel scope env).names.lookup n = some .cell ∨ (relabel scope env).names.lookup n = some .free) : n ∈ frees scope := by
  have key : ∀ k, (relabel scope env).names.lookup n = some k → (k = .cell ∨ k = .free) → n ∈ frees scope := fun k e hk => by
    obtain ⟨y, hy, ey⟩ := List.mem_map.mp (PySem.mem_of_lookup e)
    obtain ⟨m, j⟩ := y
    dsimp only at ey
    split at ey
    · rename_i q
      injection ey with e1 e2
      subst e1
      have : j = .free := by
        simp only [Bool.and_eq_true, beq_iff_eq] at q
        exact q.1.1
      subst this
      exact List.mem_map.mpr ⟨_, List.mem_filter.mpr ⟨hy, by simp⟩, rfl⟩
    · injection ey with e1 e2
      subst e1 e2
      rcases hk with z | z
      · exact absurd z (nc _ hy)
      · subst z
        exact List.mem_map.mpr ⟨_, List.mem_filter.mpr ⟨hy, by simp⟩, rfl⟩
  rcases h with h | h
  · exact key _ h (.inl rfl)
  · exact key _ h (.inr rfl)
theorem relab_free {env : Env} {scope : Scope} {n : Str} (h : scope.names.lookup n = some .free) : (relabel scope env).names.lookup n = some .cell ∨ (relabel scope env).names.lookup n = some .free := by
  have key : ∀ (l : List (Str × NameKind)), l.lookup n = some .free → (l.map fun (m, k) => if (k == NameKind.free && env.scope.kind == .function && env.kindOf m == some .cell) then (m, NameKind.cell) else (m, k)).lookup n = some .cell ∨
      (l.map fun (m, k) => if (k == NameKind.free && env.scope.kind == .function && env.kindOf m == some .cell) then (m, NameKind.cell) else (m, k)).lookup n = some .free := fun l => by
    induction l with
    | nil => intro e; simp at e
    | cons y r ih =>
      intro e
      obtain ⟨m, k⟩ := y
      rw [List.map_cons]
      rw [List.lookup_cons] at e
      cases q : n == m with
      | true =>
        rw [q] at e
        cases e
        dsimp only
        split
        · left; rw [List.lookup_cons, q]
        · right; rw [List.lookup_cons, q]
      | false =>
        rw [q] at e
        have z := ih e
        dsimp only
        split <;> (rw [List.lookup_cons, q]; exact z)
  exact key _ h
section
variable {P : Program} {w : World} {K : PySem.W.Frag} {mg : Str → Option Value} {base : Heap}
theorem Fun.okn {x qual : Str} {st : Stmt} {f : Addr} {fd : FuncData} {N ps : List Str} {k : Nat} {sp : Sp} (F : Fun K x qual st f fd) (S : FnScope N ps (defScope st)) (len : ∀ vs H Q E, sp vs H Q E → vs.length = ps.length)
    (hbody : ∀ (cdv : Value) (A : Around) (outer : List Env) (s : Shared) (H : Hp) (vs : List V) (Q : VK) (E : XK), Room q0 k (A.deeper (envOfC qual (defScope st) s.heap.objs.size f cdv)) → sp vs H Q E →
      ∃ t, PSs (cxOf q0 (CXo P w) P w K mg base N qual (defScope st) f cdv A outer s H E).nox (defBody st) t ∧ t { nx := fun _ H' => Q .non H', rt := Q } (start N vs) H) : FnOk q0 P w K mg base (CXo P w) (k + 1) f fd ps sp := by
  obtain ⟨oc, od, kV, doc, pm, an, cdv, ct, osl, rfl, lk, hcd⟩ := F.ex
  refine fn_of lk hcd S len fun A outer s H vs Q E hr hsp => ?_
  obtain ⟨t, h, q⟩ := hbody cdv A outer s H vs Q E hr hsp
  exact ⟨t, h.nox, q⟩
end
end L2
set_option maxRecDepth 100000
namespace L2
open PySem PySem.Spec PyProof.Rows XL
theorem ifP {b : Bool} {A B : Prop} (h : b = true) (q : A) : if b = true then A else B := by
  rw [if_pos h]
  exact q
theorem ifN {b : Bool} {A B : Prop} (h : b = false) (q : B) : if b = true then A else B := by
  rw [if_neg (by rw [h]; decide)]
  exact q
end L2
set_option maxRecDepth 100000
namespace L2
open PySem PySem.Spec PyProof.Rows XL
section
variable {X : Cx}
theorem op_le_str : OpR X (compareOp .LtE) (fun x y H Q => ∃ i j, x = .str i ∧ y = .str j ∧ Q (.bl (!decide (j.cps.toList < i.cps.toList))) H) := by
  intro pins s σ H x y v u Q I rx ry h
  obtain ⟨i, j, rfl, rfl, q⟩ := h
  obtain ⟨t, rfl⟩ := rx
  obtain ⟨t', rfl⟩ := ry
  exact PySem.P.le_str (fin_bl I q rfl)
theorem call_range2 : CallR X (.type "range") (fun xs H Q => ∃ i j, xs = [.int i, .int j] ∧ ∀ p, H p = none → Q (.ref p) (upd H p (.rng i j))) := by
  intro pins s σ H xs us Q I r h
  obtain ⟨i, j, rfl, q⟩ := h
  obtain ⟨u, w', rfl, ⟨t, rfl⟩, ⟨t', rfl⟩⟩ := vals2 r
  refine call_range_2 ⟨.ref s.heap.objs.size, _, I.laid (t' := s.toks + 1) (fun b o e => Heap.get?_push_of_some _ e) (Nat.le_refl _) (show ObjOk X.prog X.w _ _ _ (.rng i j) from ⟨_, _, _, Heap.get?_push_size _ rfl⟩), rfl, q _ (I.hok.fresh (Nat.le_refl _))⟩
end
end L2
set_option maxRecDepth 100000
namespace L2
open PySem PySem.Spec PyProof.Rows
variable {q0 : Bool}
section
variable {X : Cx}
theorem vals_of : ∀ {us : List Value} {ys : List V}, us.length = ys.length → (∀ (j : Nat) (y : V) (u : Value), ys[j]? = some y → us[j]? = some u → RelV y u) → Vals ys us
  | [], [], _, _ => .nil
  | u :: us, y :: ys, hl, h => .cons (h 0 y u rfl rfl) (vals_of (Nat.succ.inj hl) fun j y' u' e e' => h (j + 1) y' u' e e')
def rngL (lo hi : Int) : List V := (List.range (hi - lo).toNat).map fun (i : Nat) => V.int (lo + (i : Int))
theorem call_list_rng (hc : X.calm = true) : CallR X (.type "list") (fun xs H Q => ∃ p lo hi, xs = [.ref p] ∧ H p = some (.rng lo hi) ∧ (-(2 ^ 62) ≤ lo ∧ lo < 2 ^ 62 ∧ -(2 ^ 62) ≤ hi ∧ hi < 2 ^ 62) ∧ (hi - lo).toNat ≤ 1000 ∧
    ∀ l, H l = none → Q (.ref l) (upd H l (.lst (rngL lo hi)))) := by
  intro pins s σ H xs us Q I r h
  obtain ⟨p, lo, hi, rfl, hp, ⟨h1, h2, h3, h4⟩, hn, q⟩ := h
  obtain ⟨u, rfl, rx⟩ := vals1 r
  cases rx
  obtain ⟨t1, t2, t3, g⟩ := (show ObjOk X.prog X.w H s.heap p (.rng lo hi) from I.hok p _ hp)
  refine call_list_range (I.ok.hd hc) g (small_one h1 h2 h3 h4) (n := (hi - lo).toNat) (by rw [rangeSize_one]; split <;> omega) (Nat.le_trans hn (by decide)) fun h' tk acc' c' kp e it => ?_
  have len : acc'.toList.length = (rngL lo hi).length := by rw [rngL, List.length_map, List.length_range]; exact it.1
  refine ⟨.ref s.heap.objs.size, _, I.laid (t' := tk) kp (Nat.le_refl _) (show ObjOk X.prog X.w _ h' _ (.lst (rngL lo hi)) from ⟨?_, acc'.toList, c', vals_of len fun j y u ey eu => ?_, by simpa using e⟩), rfl, q _ (I.hok.fresh (Nat.le_refl _))⟩
  · rw [rngL, List.length_map, List.length_range]
    exact Nat.le_trans hn (by decide)
  · have eu' : acc'[j]? = some u := by simpa using eu
    obtain ⟨t, e2⟩ := it.2 j u eu'
    have lt : j < (hi - lo).toNat := by
      have := (List.getElem?_eq_some_iff.mp ey).1
      simpa [rngL] using this
    rw [rngL, List.getElem?_map, List.getElem?_range lt] at ey
    cases ey
    exact ⟨t, by rw [e2, Int.mul_one]⟩
end
end L2
set_option maxRecDepth 100000
namespace L2
open PySem PySem.Spec PyProof.Rows
variable {q0 : Bool}
structure FunD (K : PySem.W.Frag) (x qual : Str) (st : Stmt) (T f : Addr) (fd : FuncData) : Prop where
  ex : ∃ (oc : Value) (od : Option Addr) (kV doc pm : Value) (an : Option Addr) (cdv ct : Value) (osl : Array (Option Value)),
    fd = PySem.W.fnOf x qual (defArgs st) (defBody st) (defScope st) (.ref T) kV doc pm an cdv ct ∧ K.lookup f = some ⟨oc, od, .func fd, osl⟩ ∧ PySem.W.codeIn K cdv qual = true
  kp : PySem.W.keepIn K (.ref f) = true
section
variable {P : Program} {w : World} {K : PySem.W.Frag} {mg : Str → Option Value} {base : Heap}
theorem FunD.okn {x qual : Str} {st : Stmt} {T f : Addr} {fd : FuncData} {N ps : List Str} {k : Nat} {sp : Sp} (F : FunD K x qual st T f fd) (S : FnScope N ps (defScope st)) (len : ∀ vs H Q E, sp vs H Q E → vs.length = ps.length)
    (hbody : ∀ (cdv : Value) (A : Around) (outer : List Env) (s : Shared) (H : Hp) (vs : List V) (Q : VK) (E : XK), Room q0 k (A.deeper (envOfC qual (defScope st) s.heap.objs.size f cdv)) → sp vs H Q E →
      ∃ t, PSs (cxOf q0 (CXo P w) P w K mg base N qual (defScope st) f cdv A outer s H E).nox (defBody st) t ∧ t { nx := fun _ H' => Q .non H', rt := Q } (start N vs) H) : FnOk q0 P w K mg base (CXo P w) (k + 1) f fd ps sp := by
  obtain ⟨oc, od, kV, doc, pm, an, cdv, ct, osl, rfl, lk, hcd⟩ := F.ex
  refine fn_of lk hcd S len fun A outer s H vs Q E hr hsp => ?_
  obtain ⟨t, h, q⟩ := hbody cdv A outer s H vs Q E hr hsp
  exact ⟨t, h.nox, q⟩
theorem FunD.binds {x qual : Str} {st : Stmt} {T f : Addr} {fd : FuncData} {ps : List Str} {o : Obj} {items : Array Value} {n : Nat} {ds : List Value} (F : FunD K x qual st T f fd) (ho : K.lookup T = some o) (hs : o.data = .seq items n) (m : Nat) (hm : m + ds.length = ps.length)
    (h : ∀ (kV doc pm : Value) (an : Option Addr) (cdv ct : Value) (us : List Value), us.length = m →
      ∃ k, bindArgs (PySem.W.fnOf x qual (defArgs st) (defBody st) (defScope st) (.ref T) kV doc pm an cdv ct) ⟨us, []⟩ = seqItems? (.ref T) >>= k ∧ k (some items) = pure (ps.zip (us ++ ds))) : Binds K fd ps ds := by
  obtain ⟨oc, od, kV, doc, pm, an, cdv, ct, osl, rfl, lk, hcd⟩ := F.ex
  intro s us hK hl
  rw [List.length_append] at hl
  obtain ⟨k, h1, h2⟩ := h kV doc pm an cdv ct us (by omega)
  exact BindsTo.of_defaults rfl (hK _ _ ho) hs h1 h2
theorem fund_mk {x qual : Str} {st : Stmt} {T f : Addr} {oc : Value} {od an : Option Addr} {osl : Array (Option Value)} {kV doc pm cdv ct : Value} (l : K.lookup f = some ⟨oc, od, .func (PySem.W.fnOf x qual (defArgs st) (defBody st) (defScope st) (.ref T) kV doc pm an cdv ct), osl⟩)
    (c : PySem.W.codeIn K cdv qual = true) (k : PySem.W.keepIn K (.ref f) = true) : FunD K x qual st T f (PySem.W.fnOf x qual (defArgs st) (defBody st) (defScope st) (.ref T) kV doc pm an cdv ct) := ⟨⟨oc, od, kV, doc, pm, an, cdv, ct, osl, rfl, l, c⟩, k⟩
end
end L2
set_option maxRecDepth 100000
namespace L2
open PySem PySem.Spec PyProof.Rows XL
variable {q0 : Bool}
abbrev Cx.blkG (X : Cx) (scope : Scope) (zs : List Str) (ys : List Str) (C : Addr) (ex : List Addr) (s : Shared) (H : Hp) (pn : List (Addr × Obj)) : Cx where
  prog := X.prog
  w := X.w
  K := X.K
  mg := X.mg
  base := X.base
  A := X.A
  N := zs ++ ys
  s₀ := s
  H₀ := H
  env := compEnvC scope (X.clo scope) C X.env
  outer := X.stack
  stack := X.stack
  ex := ex
  fn := fun _ => false
  calm := X.calm
  pn := pn
  xe := fun _ _ => False
theorem compLoop_testsG {prog : Program} {w : World} {A : Around} {R : Result → Shared → Prop} {s : Shared} {elt target iter : Expr} {ifs : List Expr} {scope : Scope} {pos : Pos} {it acc : Value} {env : Env} (I : Nat → Shared → Prop)
    (turn : ∀ n s, I n s → wpAny (model prog w) A (pyNext it) (fun r s₁ => match r with
      | none => R (.ok .next) s₁
      | some v => wpAny (model prog w) A (letOwnedTupleGo target it v) (fun _ s₀ => wpAny (model prog w) A (assign target env v) (fun _ s₂ =>
          wpAny (model prog w) A (forIn ifs true fun c r => if r = true then do let ok ← isTrue c env (eval c env); pure (ForInStep.yield ok) else pure (ForInStep.yield r)) (fun ok s₃ =>
            if ok = true then wpAny (model prog w) A (eval elt env) (fun x s₄ =>
              wpAny (model prog w) A (call (.builtin "list.append") [acc, x]) (fun _ s₅ => ∃ m, m < n ∧ I m s₅) (notedBy (model prog w) A env fun e s' => R (.error e) s') s₄) (notedBy (model prog w) A env fun e s' => R (.error e) s') s₃
            else ∃ m, m < n ∧ I m s₃) (notedBy (model prog w) A env fun e s' => R (.error e) s') s₂) (notedBy (model prog w) A env fun e s' => R (.error e) s') s₀) (notedBy (model prog w) A env fun e s' => R (.error e) s') s₁) (notedBy (model prog w) A env fun e s' => R (.error e) s') s)
    (n : Nat) (h : I n s) : codeAny (model prog w) A (.compLoop (.ListComp elt [⟨target, iter, ifs, 0⟩] scope pos) 0 it acc env) R s := by
  refine codeAny_loop rfl I (fun n s hI => ?_) n h
  show wpAny _ A ((compTurn (.ListComp elt [⟨target, iter, ifs, 0⟩] scope pos) 0 it acc env).onRaise (fun x => do noteFrame x env; theTreesLotGoes x)) _ _ s
  refine wpAny_noted ?_
  rw [compTurn_list]
  refine wpAny_bind (wpAny_standAt (wpAny_bind (wpAny_mono (turn n s hI) (fun r s₁ h₁ => ?_) fun _ _ h' => h')))
  cases r with
  | none => exact wpAny_pure h₁
  | some v =>
    refine wpAny_bind (wpAny_mono h₁ (fun _ s₀ h₀ => wpAny_bind (wpAny_mono h₀ (fun _ s₂ h₂ => wpAny_bind (wpAny_mono h₂ (fun ok s₃ h₃ => ?_) fun _ _ h' => h')) fun _ _ h' => h')) fun _ _ h' => h')
    cases ok with
    | false => exact wpAny_pure ⟨rfl, h₃⟩
    | true =>
      exact wpAny_bind (wpAny_bind (wpAny_mono h₃ (fun x s₄ h₄ => wpAny_bind (wpAny_mono h₄ (fun _ s₅ h₅ => wpAny_pure (wpAny_pure ⟨rfl, h₅⟩)) fun _ _ h' => h')) fun _ _ h' => h'))
structure BlkG (X : Cx) (scope : Scope) (zs : List Str) (ys : List Str) (fr : List Nat) : Prop where
  kind : scope.kind = .function
  own : ∀ x ∈ zs, scope.names.lookup x = some .local
  ncell : ∀ y ∈ scope.names, y.2 ≠ .cell
  names : ∀ y ∈ scope.names, y.2 = .local → scope.names.lookup y.1 = some .local
  free : ∀ n ∈ frees scope, X.env.scope.names.lookup n = some .cell
  has : ∀ n, ((relabel scope X.env).names.lookup n = some .cell ∨ (relabel scope X.env).names.lookup n = some .free) → n ∈ frees scope
  slots : fr.map (fun i => X.N[i]?) = ys.map some
  ysf : ∀ y ∈ ys, y ∈ frees scope
  ysc : ∀ y ∈ ys, (relabel scope X.env).names.lookup y = some .cell ∨ (relabel scope X.env).names.lookup y = some .free
  nd : X.N.Nodup
  ndb : (zs ++ ys).Nodup
def blk0 (σ : St) (fr : List Nat) (n : Nat) : St := List.replicate n none ++ fr.map fun i => (σ[i]?).join
section
variable {X : Cx} {pins : List (Addr × Obj)} {σ : St} {H : Hp} {s : Shared} {scope : Scope} {zs : List Str} {ys : List Str} {fr : List Nat} {fp : List Addr}
theorem BlkG.cells (B : BlkG X scope zs ys fr) (I : Inv X pins σ H s) : ∀ n ∈ frees scope, ∃ c, X.env.cells.lookup n = some c := fun n hn => I.ok.has n (.inl (B.free n hn))
theorem BlkG.sub (B : BlkG X scope zs ys fr) (I : Inv X pins σ H s) {n : Str} {c : Addr} (h : (X.clo scope).lookup n = some c) : X.env.cells.lookup n = some c := by
  obtain ⟨a, b⟩ := clo_mem h
  obtain ⟨d, e⟩ := B.cells I n a
  rw [e] at b
  rw [b, e]
  rfl
theorem Inv.blkG {h1 : Heap} {m1 : Str → Option Value} {t' : Nat} (B : BlkG X scope zs ys fr) (I : Inv X pins σ H s) (hf : ∀ b ∈ fp, FpOk X pins H b) (hz : ∀ b ∈ fp, b < s.heap.objs.size) (n1 : h1.Ns s.heap.objs.size m1) (k1 : ∀ b o, s.heap.get? b = some o → h1.get? b = some o) :
    Inv (X.blkG scope zs ys s.heap.objs.size fp s H (X.pn ++ pins)) [] (blk0 σ fr zs.length) H { s with heap := h1, toks := t' } := by
  have sub : ∀ n c, (X.clo scope).lookup n = some c → X.env.cells.lookup n = some c := fun n c h => B.sub I h
  have cz : ∀ n c, X.env.cells.lookup n = some c → c < s.heap.objs.size := fun n c e => by
    obtain ⟨v, o, ho, _⟩ := I.cell n c e
    exact Heap.lt_size ho
  have nfs : ∀ b ∈ fp, b ∉ frs X.stack := fun b hb z => (List.mem_cons.mp (I.stkSub b z)).elim (hf b hb).2.1 (hf b hb).2.2.1
  have fz : ∀ b, b ∈ frs X.stack → b < s.heap.objs.size := fun b hb => by
    obtain ⟨_, o, ho, _⟩ := I.stack.mem hb
    exact Heap.lt_size ho
  refine ⟨⟨I.ok.mod, B.kind, I.ok.glob, I.ok.blt, Nat.le_refl _, fun y z c h1 h2 => I.ok.inj y z c (sub y c h1) (sub z c h2), fun y hy => ?_, (fun y c hy _ => nomatch hy), I.ok.hd, I.ok.frames, .inl rfl, fun b hb => ⟨?_, fun y c h => (hf b hb).2.2.2.2.1 y c (sub y c h)⟩,
      I.bs, Nat.le_trans I.ok.bsz I.sz, fun b o e hb => ?_, fun b hb => nfs b hb, I.stack, I.stkFree⟩,
    rfl, I.bare, Un.kept k1, ⟨m1, n1, fun i y v e1 e2 e3 => ?_⟩, fun y c h => ?_, I.hok.fresh (Nat.le_refl _), fun y c h => I.freeC y c (sub y c h), fun p hp => ?_, I.hok.kept k1, ?_⟩
  · obtain ⟨c, e⟩ := B.cells I y (B.has y hy)
    exact ⟨c, clo_get (B.has y hy) e⟩
  · exact Nat.ne_of_lt (hz b hb)
  · rcases (hf b hb).2.2.2.1 with z | z
    · exact I.ok.noex b o e z
    · exact absurd (Nat.lt_of_lt_of_le (Heap.lt_size (I.ok.bs b o e).1) z) (Nat.lt_irrefl _)
  · have ln : (List.replicate zs.length (none : Option V)).length = zs.length := List.length_replicate
    by_cases lt : i < zs.length
    · have e2' : (blk0 σ fr zs.length)[i]? = some (some v) := e2
      unfold blk0 at e2'
      rw [List.getElem?_append_left (by rw [ln]; exact lt), List.getElem?_replicate] at e2'
      split at e2' <;> cases e2'
    · obtain ⟨k, rfl⟩ : ∃ k, i = zs.length + k := ⟨i - zs.length, by omega⟩
      have e2' : (fr.map fun i => (σ[i]?).join)[k]? = some (some v) := by
        have z : (blk0 σ fr zs.length)[zs.length + k]? = some (some v) := e2
        unfold blk0 at z
        rw [List.getElem?_append_right (by rw [ln]; omega), ln] at z
        simpa using z
      have e1' : ys[k]? = some y := by
        have z : (zs ++ ys)[zs.length + k]? = some y := e1
        rw [List.getElem?_append_right (by omega)] at z
        simpa using z
      rw [List.getElem?_map] at e2'
      obtain ⟨j, hj, ej⟩ := Option.map_eq_some_iff.mp e2'
      have ev : σ[j]? = some (some v) := by
        cases q : σ[j]? with
        | none => rw [q] at ej; cases ej
        | some w => rw [q] at ej; exact congrArg some ej
      have eN : X.N[j]? = some y := by
        have z := congrArg (fun l => l[k]?) B.slots
        simp only [List.getElem?_map, hj, e1', Option.map_some] at z
        exact Option.some.inj z
      have my : y ∈ ys := List.mem_of_getElem? e1'
      obtain ⟨m, _, lk⟩ := I.loc
      obtain ⟨u, r, l⟩ := lk j y v eN ev (.inr (.inl (B.free y (B.ysf y my))))
      refine ⟨u, r, .inr ⟨B.ysc y my, ?_⟩⟩
      rcases l with ⟨kk, _⟩ | ⟨_, c, e, o, ho, hd⟩
      · have z := B.free y (B.ysf y my)
        rw [show X.env.scope.names.lookup y = some .local from kk] at z
        cases z
      · exact ⟨c, clo_get (B.ysf y my) e, o, k1 c o ho, hd⟩
  · obtain ⟨v, o, ho, hd⟩ := I.cell y c (sub y c h)
    exact ⟨v, o, k1 c o ho, hd⟩
  · have hp' : p ∈ X.pn ++ pins := by simpa using hp
    obtain ⟨a1, a2, a3, a4, a5⟩ := I.pin p hp'
    exact ⟨k1 _ _ a1, a2, Nat.ne_of_lt (Heap.lt_size a1), fun z => (List.mem_cons.mp (I.stkSub _ z)).elim a3 a4, a5⟩
  · have z := congrArg List.length B.slots
    simp only [List.length_map] at z
    simp [blk0, z]
end
section
variable {X : Cx} {pins : List (Addr × Obj)} {σ : St} {H : Hp} {s : Shared} {scope : Scope} {zs : List Str} {ys : List Str} {fr : List Nat} {fp : List Addr}
theorem Inv.unblkG {C : Addr} {s' : Shared} {h2 : Heap} {σ' : St} {H' : Hp} {pl : List (Addr × Obj)} (I : Inv X pins σ H s) (hf : ∀ b ∈ fp, FpOk X pins H b) (hC : s.heap.objs.size ≤ C) (J : Inv (X.blkG scope zs ys C fp s H (X.pn ++ pins)) pl σ' H' s') (sb : Heap.SameBut C s'.heap h2) :
    Inv X pins σ H' { s' with heap := h2 } := by
  have kp : ∀ b o, b ≠ C → s'.heap.get? b = some o → h2.get? b = some o := fun b o nb g => (sb.2 b nb).trans g
  have old : ∀ b o, s.heap.get? b = some o → b ≠ C := fun b o g => Nat.ne_of_lt (Nat.lt_of_lt_of_le (Heap.lt_size g) hC)
  have trk : ∀ b u, H' b = some u → b ≠ C := fun b u hb z => by
    have f : H' C = none := J.free
    rw [z, f] at hb
    cases hb
  refine I.call' (s' := { s' with heap := h2 }) J.os (ch := fp) ⟨fun b o e n hb hx => kp b o (old b o e) (J.base.keep b o e n hb hx), fun b o e n hb hx => ?_, fun b o e n hx => J.base.free b o e n hx, fun b o e hx => ?_, J.base.tups, J.base.frzs, J.base.tbls⟩ (fun b u hb => ?_) J.bare fun b hb => ?_
  · obtain ⟨sl, q⟩ := J.base.slot b o e n hb hx
    exact ⟨sl, kp b _ (old b o e) q⟩
  · obtain ⟨o', q⟩ := J.base.there b o e hx
    exact ⟨o', kp b o' (old b o e) q⟩
  · refine (J.hok b u hb).stay (fun c v hc q => ?_) (fun c q => q) fun c xs q => q
    rcases hc with rfl | hc
    · exact kp c v (trk c u hb) q
    · exact kp c v (trk c _ hc) q
  · obtain ⟨_, a1, _, a3, a4, a5⟩ := hf b hb
    exact ⟨a3, a1, a4, a5⟩
end
def GOk (n : Nat) (g : TG) : Prop := ∀ v σ H Q, g v σ H Q → g v σ H (fun σ' H' => Q σ' H' ∧ σ'.length = σ.length ∧ ∀ i, n ≤ i → σ'[i]? = σ[i]?)
theorem gok_name {i n : Nat} (h : i < n) : GOk n (gName i) := fun v σ H Q q => ⟨q, by simp, fun j hj => by rw [List.getElem?_set_ne (by omega)]⟩
def CompG (J : It) (n : Nat) (g : TG) (σ : St) (fr : List Nat) (tc : TT) (te : TE) (l : Addr) (H1 : Hp) (Q : VK) : Prop := ∃ W : Nat → Nat → List V → Hp → Prop, (∃ m, W 0 m [] (upd H1 l (.lst []))) ∧ ∀ i m xs H2, W i m xs H2 →
  (J.stop i H2 ∧ Q (.ref l) H2) ∨ (J.go i H2 ∧ ∀ v H3, J.yld i H2 v H3 → g v (blk0 σ fr n) H3 fun σ' H3' => tc σ' H3' fun b H4 => if b = true then
    (te σ' H4 fun y H5 => H5 l = some (.lst xs) ∧ xs.length < sizeLine ∧ ∃ m', m' < m ∧ W (i + 1) m' (xs ++ [y]) (upd H5 l (.lst (xs ++ [y])))) else ∃ m', m' < m ∧ W (i + 1) m' xs H4)
def tCompG (wi : TI) (n : Nat) (g : TG) (fr : List Nat) (tc : TT) (te : TE) : TE := fun σ H Q => wi σ H fun J H1 => ∀ l, H1 l = none → CompG J n g σ fr tc te l H1 Q
section
variable {X : Cx} {scope : Scope} {zs : List Str} {ys : List Str} {fr : List Nat} {elt iter tg : Expr} {g : TG} {ifs : List Expr} {px pos : Pos} {wi : TI} {tc : TT} {te : TE}
theorem comp_coreG {pins : List (Addr × Obj)} {s : Shared} {σ : St} {H : Hp} {Q : VK} {U : Option (Value → Sem Unit)} {R : Value → Shared → Prop} (hc : X.calm = true) (B : BlkG X scope zs ys fr) (hi : PI X tg iter wi) (hg : ∀ C ex s H pn, (∀ x ∈ zs, (relabel scope X.env).names.lookup x = some .local) → (zs ++ ys).Nodup → PG (X.blkG scope zs ys C ex s H pn) tg g) (gok : GOk zs.length g)
    (hif : ∀ C ex s H pn, PIf (X.blkG scope zs ys C ex s H pn) ifs tc) (he : ∀ C ex s H pn, PE (X.blkG scope zs ys C ex s H pn) elt te) (I : Inv X pins σ H s) (h : tCompG wi zs.length g fr tc te σ H Q)
    (fin : ∀ C l H' s' m, (X.s₀.heap.objs.size ≤ C ∧ C ≠ X.env.locals ∧ (∀ x c, X.env.cells.lookup x = some c → c ≠ C) ∧ ∀ p ∈ X.pn ++ pins, p.1 ≠ C) → H' C = none → s'.heap.Ns C m → (∀ h2, Heap.SameBut C s'.heap h2 → Inv X pins σ H' { s' with heap := h2 }) → Q (.ref l) H' → compPost (model X.prog X.w) X.A X.xe U R (.ref l) C (.ok .next) s') :
    wpAny (model X.prog X.w) X.A (eval iter X.env) (fun v s1 => wpAny (model X.prog X.w) X.A (pyIter v) (fun it s2 => wpAny (model X.prog X.w) X.A (newList []) (fun acc s3 =>
      wpAny (model X.prog X.w) X.A (newFunctionEnv scope X.env.globals (X.clo scope) [] X.env.qual none .none (some X.env)) (fun cenv s4 =>
        codeAny (model X.prog X.w) X.A (.compStart (.ListComp elt [⟨tg, iter, ifs, 0⟩] scope pos) 0 it acc { cenv with scope := relabel scope X.env }) (compPost (model X.prog X.w) X.A X.xe U R acc cenv.locals) s4) X.xe s3) X.xe s2) X.xe s1) X.xe s := by
  refine thn (hi pins s σ H _ I h) fun v s1 h1 => thn h1 fun itv s2 h2 => ?_
  obtain ⟨it, fp, tn, J, H2, rfl, I2, T, st2, f2, body⟩ := h2
  have hN : H2 s2.heap.objs.size = none := I2.hok.fresh (Nat.le_refl _)
  obtain ⟨W, ⟨m0, w0⟩, turn⟩ := body s2.heap.objs.size hN
  refine wpAny_newObj_type ?_
  generalize hs3 : ({ s2 with heap := s2.heap.push { cls := .type "list", data := .seq ([] : List Value).toArray } } : Shared) = s3
  have k3 : ∀ b o, s2.heap.get? b = some o → s3.heap.get? b = some o := fun b o g => by rw [← hs3]; exact Heap.get?_push_of_some _ g
  have I3 : Inv X pins σ (upd H2 s2.heap.objs.size (.lst [])) s3 := by
    rw [← hs3]
    exact I2.laid (t' := s2.toks) (fun b u e => Heap.get?_push_of_some _ e) (Nat.le_refl _) ⟨Nat.zero_le _, [], 0, .nil, Heap.get?_push_size _ rfl⟩
  have z2 : ∀ b ∈ fp, b < s2.heap.objs.size := fun b hb => by
    obtain ⟨o, g, _⟩ := T.obj 0 _ st2 b hb
    exact Heap.lt_size g
  have z3 : ∀ b ∈ fp, b < s3.heap.objs.size := fun b hb => by
    obtain ⟨o, g, _⟩ := T.obj 0 _ st2 b hb
    exact Heap.lt_size (k3 b o g)
  have f3 : ∀ b ∈ fp, FpOk X pins (upd H2 s2.heap.objs.size (.lst [])) b := fun b hb => ⟨by rw [upd_ne (Nat.ne_of_lt (z2 b hb))]; exact (f2 b hb).1, (f2 b hb).2⟩
  have st3 : tn 0 s3.heap := T.keep _ _ _ st2 fun b _ o g => k3 b o g
  refine wpAny_newFunctionEnv B.ncell (by intro y hy; simp at hy) (fun h1 n1 sb1 => ?_) B.kind
  have k4 : ∀ b o, s3.heap.get? b = some o → h1.get? b = some o := fun b o g => sb1.extBut b o (Nat.ne_of_lt (Heap.lt_size g)) (Heap.get?_push_of_some _ g)
  have I4 := I3.blkG (t' := s3.toks + ([] : List (Str × Value)).length) B f3 z3 n1 k4
  have st4 : tn 0 h1 := T.keep _ _ _ st3 fun b _ o g => k4 b o g
  have own' : ∀ x ∈ zs, (relabel scope X.env).names.lookup x = some .local := fun x hx => lookup_relabel_local (B.own x hx)
  -- the iterator's objects, through the loop
  have stat : ∀ {H' : Hp}, (∀ b ∈ fp, H' b = none) → ∀ b ∈ fp, FpOk (X.blkG scope zs ys s3.heap.objs.size fp s3 (upd H2 s2.heap.objs.size (.lst [])) (X.pn ++ pins)) [] H' b := fun hn b hb => by
    obtain ⟨_, a1, a2, a3, a4, a5⟩ := f3 b hb
    exact ⟨hn b hb, Nat.ne_of_lt (z3 b hb), fun z => (List.mem_cons.mp (I3.stkSub b z)).elim a1 a2, .inl hb, fun y c h => a4 y c (B.sub I3 h), fun p hp => a5 p (by simpa using hp)⟩
  have loop : ∀ s4 : Shared, s4 = { s3 with heap := h1, toks := s3.toks + ([] : List (Str × Value)).length } →
      codeAny (model X.prog X.w) X.A (.compLoop (.ListComp elt [⟨tg, iter, ifs, 0⟩] scope pos) 0 (.ref it) (.ref s2.heap.objs.size) (compEnvC scope (X.clo scope) s3.heap.objs.size X.env))
        (compPost (model X.prog X.w) X.A X.xe U R (.ref s2.heap.objs.size) s3.heap.objs.size) s4 := by
    rintro s4 rfl
    refine compLoop_testsG (fun n s' => ∃ i xs H', Inv (X.blkG scope zs ys s3.heap.objs.size fp s3 (upd H2 s2.heap.objs.size (.lst [])) (X.pn ++ pins)) [] (blk0 σ fr zs.length) H' s' ∧ tn i s'.heap ∧ (∀ b ∈ fp, H' b = none) ∧ W i n xs H') ?_ m0
      ⟨0, [], _, I4, st4, fun b hb => (f3 b hb).1, w0⟩
    rintro n s5 ⟨i, xs, H5, I5, st5, fr5, w5⟩
    rcases turn i n xs H5 w5 with ⟨stop, q⟩ | ⟨go, step⟩
    · refine wpAny_mono (T.done (X.blkG scope zs ys s3.heap.objs.size fp s3 (upd H2 s2.heap.objs.size (.lst [])) (X.pn ++ pins)) rfl rfl rfl hc i [] s5 _ H5 (fun _ _ => False) I5 (stat fr5) st5 stop) (fun r s6 ⟨hr, I6⟩ => ?_) fun _ _ z => z.elim
      subst hr
      obtain ⟨m, hm, _⟩ := I6.loc
      exact fin _ _ H5 s6 m ⟨I3.sz, (I3.size_lt (Nat.le_refl _)).2⟩ I6.free hm (fun h2 sb => I3.unblkG f3 (Nat.le_refl _) I6 sb) q
    · refine wpAny_mono (T.item (X.blkG scope zs ys s3.heap.objs.size fp s3 (upd H2 s2.heap.objs.size (.lst [])) (X.pn ++ pins)) rfl rfl rfl hc i [] s5 _ H5 (fun _ _ => False) I5 (stat fr5) st5 go) (fun r s6 ⟨u, hr, h6⟩ => ?_) fun _ _ z => z.elim
      subst hr
      refine wpAny_mono h6 (fun _ s7 ⟨y, H7, I7, r7, y7, st7, fr7⟩ => ?_) fun _ _ z => z.elim
      have I7' := I7.pinned (stat fr7) (T.obj _ _ st7)
      refine wpAny_mono (hg _ _ _ _ _ own' B.ndb _ s7 _ H7 y u _ I7' r7 (gok _ _ _ _ (step y H7 y7))) (fun _ s8 ⟨σ8, H8, I8, q8, l8, k8⟩ => ?_) fun _ _ z => z.elim
      have back : ∀ {s9 : Shared} {H9 : Hp} {xs' : List V}, Inv (X.blkG scope zs ys s3.heap.objs.size fp s3 (upd H2 s2.heap.objs.size (.lst [])) (X.pn ++ pins)) ([] ++ pinsAt fp s7.heap) σ8 H9 s9 → (∃ m', m' < n ∧ W (i + 1) m' xs' H9) →
          ∃ m, m < n ∧ ∃ i xs H', Inv (X.blkG scope zs ys s3.heap.objs.size fp s3 (upd H2 s2.heap.objs.size (.lst [])) (X.pn ++ pins)) [] (blk0 σ fr zs.length) H' s9 ∧ tn i s9.heap ∧ (∀ b ∈ fp, H' b = none) ∧ W i m xs H' := fun {s9 H9 xs'} I9 ⟨m', lt, w9⟩ => by
        refine ⟨m', lt, i + 1, xs', H9, I9.unpinned.weak l8.symm (fun j v e => ?_), T.keep _ _ _ st7 fun b hb o e => (I9.pin (b, o) (List.mem_append_right _ (List.mem_append_right _ (mem_pinsAt hb e)))).1, fun b hb => ?_, w9⟩
        · by_cases lj : j < zs.length
          · unfold blk0 at e
            rw [List.getElem?_append_left (by rw [List.length_replicate]; exact lj), List.getElem?_replicate] at e
            split at e <;> cases e
          · rw [k8 j (by omega)]
            exact e
        obtain ⟨o, e, d⟩ := T.obj _ _ st7 b hb
        exact (I9.pin (b, o) (List.mem_append_right _ (List.mem_append_right _ (mem_pinsAt hb e)))).2.1
      refine wpAny_mono (hif _ _ _ _ _ _ s8 _ H8 _ I8 q8) (fun ok s9 ⟨H9, I9, q9⟩ => ?_) fun _ _ z => z.elim
      cases ok with
      | false =>
        rw [if_neg (by decide)] at q9 ⊢
        exact back I9 q9
      | true =>
        rw [if_pos rfl] at q9 ⊢
        refine wpAny_mono (he _ _ _ _ _ _ s9 _ H9 _ I9 q9) (fun ev s10 ⟨yv, H10, I10, r10, hl, len, w10⟩ => ?_) fun _ _ z => z.elim
        refine wpAny_mono (mt_append (X := X.blkG scope zs ys s3.heap.objs.size fp s3 (upd H2 s2.heap.objs.size (.lst [])) (X.pn ++ pins)) _ s10 _ H10 (.ref s2.heap.objs.size) [yv] (.ref s2.heap.objs.size) [ev] (fun v H' => H' = upd H10 s2.heap.objs.size (.lst (xs ++ [yv]))) I10 rfl (.cons r10 .nil) ⟨_, xs, yv, rfl, rfl, hl, len, rfl⟩)
          (fun _ s11 ⟨_, H11, I11, _, e11⟩ => ?_) fun _ _ z => z.elim
        subst e11
        exact back I11 w10
  exact codeAny_compStart_list (loop _ rfl) (T.self _ 0 _ _ _ st4 (loop _ rfl))
theorem pe_compG (hc : X.calm = true) (B : BlkG X scope zs ys fr) (hi : PI X tg iter wi) (hg : ∀ C ex s H pn, (∀ x ∈ zs, (relabel scope X.env).names.lookup x = some .local) → (zs ++ ys).Nodup → PG (X.blkG scope zs ys C ex s H pn) tg g) (gok : GOk zs.length g) (hif : ∀ C ex s H pn, PIf (X.blkG scope zs ys C ex s H pn) ifs tc) (he : ∀ C ex s H pn, PE (X.blkG scope zs ys C ex s H pn) elt te)
    (hs : ∀ x, foldedSetIterable iter X.env x = pure x := by intro _; rfl) : PE X (.ListComp elt [⟨tg, iter, ifs, 0⟩] scope pos) (tCompG wi zs.length g fr tc te) := by
  intro pins s σ H Q I h
  rw [eval_ListComp]
  refine wpAny_comprehension_free (use := none) rfl hs (clo_of (B.cells I)) B.kind B.names (comp_coreG hc B hi hg gok hif he I h fun C l H' s' m _ _ hm iv q => ?_)
  exact ⟨m, hm, fun h2 sb => ⟨.ref l, H', iv h2 sb, rfl, q⟩⟩
theorem ps_setcG {j : Nat} {y : Str} {py spos : Pos} (hc : X.calm = true) (B : BlkG X scope zs ys fr) (hi : PI X tg iter wi) (hg : ∀ C ex s H pn, (∀ x ∈ zs, (relabel scope X.env).names.lookup x = some .local) → (zs ++ ys).Nodup → PG (X.blkG scope zs ys C ex s H pn) tg g) (gok : GOk zs.length g) (hif : ∀ C ex s H pn, PIf (X.blkG scope zs ys C ex s H pn) ifs tc) (he : ∀ C ex s H pn, PE (X.blkG scope zs ys C ex s H pn) elt te)
    (hj : X.N[j]? = some y) (hy : Loc X.env.scope y) (hf : X.fn y = true ∨ X.env.scope.names.lookup y = some .local := by first | exact .inl rfl | exact .inr rfl | assumption)
    (hsw : swapsWith (.ListComp elt [⟨tg, iter, ifs, 0⟩] scope pos) (some (.Name y py)) spos.line X.env = pure true := by rfl)
    (hs : ∀ x, foldedSetIterable iter X.env x = pure x := by intro _; rfl) : PS X (.Assign [.Name y py] (.ListComp elt [⟨tg, iter, ifs, 0⟩] scope pos) spos) (tAsg (tCompG wi zs.length g fr tc te) (gName j)) := by
  intro pins s σ H D I h
  rw [exec_Assign_Name_used _ _ _ _ hsw]
  refine wpAny_bind (wpAny_standAt (wpAny_bind ?_))
  show wpAny _ _ (do let _ ← comprehension (.ListComp elt [⟨tg, iter, ifs, 0⟩] scope pos) scope X.env _ (newList []) false (eval iter X.env) (some (assign (.Name y py) X.env))) _ _ s
  refine wpAny_bind (wpAny_mono (wpAny_comprehension_free (use := some (assign (.Name y py) X.env)) (Q := fun _ s' => SP X pins D .next s') rfl hs (clo_of (B.cells I)) B.kind B.names
    (comp_coreG hc B hi hg gok hif he I h fun C l H' s' m hC hn hm iv q => ?_)) (fun _ s' z => wpAny_pure (wpAny_pure z)) fun _ _ e => e)
  show wpAny _ _ (assign (.Name y py) X.env (.ref l)) _ _ _
  have J : Inv X pins σ H' s' := iv s'.heap (.refl ..)
  refine wpAny_assign_Name (store_ok2 (v := V.ref l) J B.nd hj hy rfl (fun s2 J2 ⟨a, sb, ha⟩ => ?_) hf)
  have na : a ≠ C := by
    rcases ha with z | z
    · rw [z]; exact Ne.symm hC.2.1
    · exact hC.2.2.1 _ _ z
  refine ⟨m, ?_, fun h2 s3 => ?_⟩
  · obtain ⟨o, es, ep, g, r⟩ := hm
    exact ⟨o, es, ep, (sb.2 C (Ne.symm na)).trans g, r⟩
  · exact ⟨_, H', J2.turned (t' := s2.toks) (fun b o nb g => (s3.2 b nb).trans g) hn (hC.2.1) (.inr hC.1) hC.2.2.1 hC.2.2.2, q⟩
end
def blkOkG (scope sc0 : Scope) (N0 : List Str) (zs : List Str) (ys : List Str) (fr : List Nat) : Bool :=
  scope.kind == .function && zs.all (fun x => scope.names.lookup x == some .local) && scope.names.all (fun y => y.2 != .cell) && scope.names.all (fun y => y.2 != .local || scope.names.lookup y.1 == some .local) &&
  (frees scope).all (fun n => sc0.names.lookup n == some .cell) && fr.map (fun i => N0[i]?) == ys.map some && ys.all (fun y => scope.names.lookup y == some .free) && decide N0.Nodup && decide (zs ++ ys).Nodup
theorem blkG_ofN {X : Cx} {scope sc0 : Scope} {N0 : List Str} {zs : List Str} {ys : List Str} {fr : List Nat} (chk : blkOkG scope sc0 N0 zs ys fr = true) (es : X.env.scope = sc0) (eN : X.N = N0) : BlkG X scope zs ys fr := by
  unfold blkOkG at chk
  simp only [Bool.and_eq_true, beq_iff_eq, List.all_eq_true, decide_eq_true_eq] at chk
  obtain ⟨⟨⟨⟨⟨⟨⟨⟨a1, a2⟩, a3⟩, a4⟩, a5⟩, a6⟩, a7⟩, a8⟩, a9⟩ := chk
  have nc : ∀ y ∈ scope.names, y.2 ≠ .cell := fun y hy => by simpa using a3 y hy
  refine ⟨a1, a2, nc, fun y hy hl => ?_, fun n hn => by rw [es]; exact a5 n hn, fun n h => relab_has nc n h, by rw [eN]; exact a6, fun y hy => ?_, fun y hy => relab_free (a7 y hy), by rw [eN]; exact a8, a9⟩
  · have z := a4 y hy
    rw [hl] at z
    simpa using z
  · exact List.mem_map.mpr ⟨(y, .free), List.mem_filter.mpr ⟨PySem.mem_of_lookup (a7 y hy), by simp⟩, rfl⟩
theorem blkG_of {X : Cx} {scope sc0 : Scope} {N0 : List Str} {zs : List Str} {ys : List Str} {fr : List Nat} (chk : blkOkG scope sc0 N0 zs ys fr = true) (es : X.env.scope = sc0) (eN : X.N = N0) (_ : X.stack = X.env :: X.outer) : BlkG X scope zs ys fr := blkG_ofN chk es eN
theorem gok_tup {K : PySem.W.Frag} {m n : Nat} {t : TGs} (h : ∀ vs σ H Q, t vs σ H Q → t vs σ H (fun σ' H' => Q σ' H' ∧ σ'.length = σ.length ∧ ∀ i, n ≤ i → σ'[i]? = σ[i]?)) : GOk n (gTup K m t) := fun v σ H Q q => by
  obtain ⟨a, xs, e, hs, hl, q⟩ := q
  exact ⟨a, xs, e, hs, hl, h _ _ _ _ q⟩
theorem goks_nil {n : Nat} : ∀ vs σ H Q, gNil vs σ H Q → gNil vs σ H (fun σ' H' => Q σ' H' ∧ σ'.length = σ.length ∧ ∀ i, n ≤ i → σ'[i]? = σ[i]?) := fun vs σ H Q q => ⟨q.1, q.2, rfl, fun _ _ => rfl⟩
theorem goks_cons {i n : Nat} (hi : i < n) {t : TGs} (h : ∀ vs σ H Q, t vs σ H Q → t vs σ H (fun σ' H' => Q σ' H' ∧ σ'.length = σ.length ∧ ∀ i, n ≤ i → σ'[i]? = σ[i]?)) :
    ∀ vs σ H Q, gCons (gName i) t vs σ H Q → gCons (gName i) t vs σ H (fun σ' H' => Q σ' H' ∧ σ'.length = σ.length ∧ ∀ i, n ≤ i → σ'[i]? = σ[i]?) := fun vs σ H Q q => by
  obtain ⟨v, r, e, q⟩ := q
  refine ⟨v, r, e, ?_⟩
  have z := h _ _ _ _ q
  have e2 : ∀ (j : Nat), n ≤ j → (σ.set i (some v))[j]? = σ[j]? := fun j hj => by rw [List.getElem?_set_ne (by omega)]
  have e1 : (σ.set i (some v)).length = σ.length := by simp
  have key : (fun σ' H' => Q σ' H' ∧ σ'.length = (σ.set i (some v)).length ∧ ∀ j, n ≤ j → σ'[j]? = (σ.set i (some v))[j]?) = (fun σ' (H' : Hp) => Q σ' H' ∧ σ'.length = σ.length ∧ ∀ j, n ≤ j → σ'[j]? = σ[j]?) := by
    funext σ' H'
    rw [e1]
    refine propext ⟨fun ⟨a, b, c⟩ => ⟨a, b, fun j hj => (c j hj).trans (e2 j hj)⟩, fun ⟨a, b, c⟩ => ⟨a, b, fun j hj => (c j hj).trans (e2 j hj).symm⟩⟩
  rw [key] at z
  exact z
theorem compG_by {J : It} {n : Nat} {g : TG} {σ : St} {fr : List Nat} {tc : TT} {te : TE} {l : Addr} {H1 : Hp} {Q : VK} (len : Nat) (Pv : Nat → List V → Hp → Prop) (h0 : Pv 0 [] (upd H1 l (.lst []))) (hgo : ∀ i xs H, i < len → Pv i xs H → J.go i H)
    (step : ∀ i xs H2 v H3, i < len → Pv i xs H2 → J.yld i H2 v H3 → ∀ N : List V → Hp → Prop, (∀ xs' H', Pv (i + 1) xs' H' → N xs' H') → g v (blk0 σ fr n) H3 fun σ' H3' => tc σ' H3' fun b H4 => if b = true then
      (te σ' H4 fun y H5 => H5 l = some (.lst xs) ∧ xs.length < sizeLine ∧ N (xs ++ [y]) (upd H5 l (.lst (xs ++ [y])))) else N xs H4)
    (fin : ∀ xs H2, Pv len xs H2 → J.stop len H2 ∧ Q (.ref l) H2) : CompG J n g σ fr tc te l H1 Q := by
  refine ⟨fun i m xs H => m = len - i ∧ i ≤ len ∧ Pv i xs H, ⟨len, by simp, Nat.zero_le _, h0⟩, ?_⟩
  rintro i m xs H2 ⟨rfl, hi, p⟩
  by_cases lt : i < len
  · exact .inr ⟨hgo i xs H2 lt p, fun v H3 y => step i xs H2 v H3 lt p y (fun xs' H' => ∃ m', m' < len - i ∧ m' = len - (i + 1) ∧ i + 1 ≤ len ∧ Pv (i + 1) xs' H') fun xs' H' q => ⟨_, by omega, rfl, lt, q⟩⟩
  · have e : i = len := by omega
    subst e
    exact .inl (fin xs H2 p)
end L2
set_option maxRecDepth 100000
namespace L2
open PySem PySem.Spec PyProof.Rows XL
variable {q0 : Bool}
section
variable {X : Cx} {pins : List (Addr × Obj)} {σ : St} {H : Hp} {s : Shared}
theorem Inv.adopt {p : Addr} {o : HO} (I : Inv X pins σ H s) (n : H p = none) (h0 : X.s₀.heap.objs.size ≤ p) (hL : p ≠ X.env.locals) (hC : ∀ x c, X.env.cells.lookup x = some c → c ≠ p) (hp : ∀ q ∈ X.pn ++ pins, q.1 ≠ p)
    (new : ObjOk X.prog X.w (upd H p o) s.heap p o) : Inv X pins σ (upd H p o) s := by
  have ne : ∀ b u, H b = some u → b ≠ p := fun b u e => ne_of_none e n
  refine ⟨I.ok, I.os, I.bare, ⟨I.base.keep, I.base.slot, fun b ob e hn hx => ?_, I.base.there, fun b xs e => ?_, fun b ob u e => ?_, fun b ps e => ?_⟩, I.loc, I.cell, ?_, fun x c e => ?_, fun q hq => ?_, fun b u e => ?_, I.len⟩
  · rw [upd_ne (Nat.ne_of_lt (Nat.lt_of_lt_of_le (Heap.lt_size e) h0))]
    exact I.base.free b ob e hn hx
  · have z := I.base.tups b xs e
    rw [upd_ne (ne b _ z)]
    exact z
  · have z := I.base.frzs b ob u e
    rw [upd_ne (ne b _ z)]
    exact z
  · obtain ⟨m, z⟩ := I.base.tbls b ps e
    exact ⟨m, by rw [upd_ne (ne b _ z)]; exact z⟩
  · rw [upd_ne (Ne.symm hL)]
    exact I.free
  · rw [upd_ne (hC x c e)]
    exact I.freeC x c e
  · obtain ⟨a1, a2, a3⟩ := I.pin q hq
    exact ⟨a1, by rw [upd_ne (hp q hq)]; exact a2, a3⟩
  · by_cases hb : b = p
    · subst hb
      rw [upd_same] at e
      cases e
      exact new
    · rw [upd_ne hb] at e
      exact (I.hok b u e).stay (fun c v _ q => q) (fun c q => by rw [upd_ne (ne c _ q)]; exact q) fun c xs q => by rw [upd_ne (ne c _ q)]; exact q
theorem Inv.thaw {d : Addr} {o : Obj} {u : HO} (I : Inv X pins σ H s) (e : H d = some (.frz o u)) (nf : ∀ o' u', X.H₀ d ≠ some (.frz o' u')) : Inv X pins σ (upd H d u) s := by
  have ne : ∀ b v, H b = some v → (∀ o' u', v ≠ .frz o' u') → b ≠ d := fun b v h1 h2 z => by
    subst z
    rw [e] at h1
    cases h1
    exact h2 _ _ rfl
  have ne0 : ∀ b, H b = none → b ≠ d := fun b h1 z => by
    subst z
    rw [e] at h1
    cases h1
  refine ⟨I.ok, I.os, I.bare, ⟨I.base.keep, I.base.slot, fun b ob q hn hx => ?_, I.base.there, fun b xs q => ?_, fun b ob v q => ?_, fun b ps q => ?_⟩, I.loc, I.cell, ?_, fun x c q => ?_, fun p hp => ?_, fun b v q => ?_, I.len⟩
  · have z := I.base.free b ob q hn hx
    rw [upd_ne (ne0 b z)]
    exact z
  · have z := I.base.tups b xs q
    rw [upd_ne (ne b _ z (fun _ _ h => nomatch h))]
    exact z
  · have z := I.base.frzs b ob v q
    have hb : b ≠ d := fun w => by
      subst w
      exact nf _ _ q
    rw [upd_ne hb]
    exact z
  · obtain ⟨m, z⟩ := I.base.tbls b ps q
    exact ⟨m, by rw [upd_ne (ne b _ z (fun _ _ h => nomatch h))]; exact z⟩
  · rw [upd_ne (ne0 _ I.free)]
    exact I.free
  · rw [upd_ne (ne0 _ (I.freeC x c q))]
    exact I.freeC x c q
  · obtain ⟨a1, a2, a3⟩ := I.pin p hp
    exact ⟨a1, by rw [upd_ne (ne0 _ a2)]; exact a2, a3⟩
  · have st : ∀ (a : Addr) (v : HO), ObjOk X.prog X.w H s.heap a v → ObjOk X.prog X.w (upd H d u) s.heap a v := fun a v k =>
      k.stay (fun c v _ q => q) (fun c q => by rw [upd_ne (ne c _ q (fun _ _ h => nomatch h))]; exact q) fun c xs q => by rw [upd_ne (ne c _ q (fun _ _ h => nomatch h))]; exact q
    by_cases hb : b = d
    · subst hb
      rw [upd_same] at q
      cases q
      obtain ⟨g, ok⟩ := I.hok b _ e
      exact st _ _ ok
    · rw [upd_ne hb] at q
      exact st _ _ (I.hok b v q)
theorem Inv.nofrz {d : Addr} {kvs : List (Key × V)} (I : Inv X pins σ H s) (e : H d = some (.dK kvs)) : ∀ o' u', X.H₀ d ≠ some (.frz o' u') := fun o' u' z => by
  have q := I.base.frzs d o' u' z
  rw [e] at q
  cases q
theorem KV.get : ∀ {kvs : List (Key × V)} {vs : List (Key × Value)} {i : Nat} {k : Key} {x : V}, KV kvs vs → kvs[i]? = some (k, x) → ∃ u, vs[i]? = some (k, u) ∧ RelV x u
  | _, _, _, _, _, .nil, e => by simp at e
  | _, (_, _) :: _, 0, _, _, .cons r _, e => by
    simp at e
    subst e
    obtain ⟨r1, r2⟩ := r
    dsimp only at r1 r2
    subst r1
    exact ⟨_, rfl, r2⟩
  | _, _, i + 1, k, x, .cons _ t, e => by
    obtain ⟨u, h1, h2⟩ := KV.get (i := i) (k := k) (x := x) t (by simpa using e)
    exact ⟨u, by simpa using h1, h2⟩
theorem kV_rel {P : Program} {w : World} {k : Key} {u : Value} (h : (mixKind P w).is k u = true) : RelV (kV k) u := by
  rcases keyIs_shape (show keyIs k u = true from h) with ⟨i, t, rfl, rfl⟩ | ⟨x, t, rfl, rfl⟩
  · exact ⟨t, rfl⟩
  · exact ⟨t, rfl⟩
theorem frz_at {d : Addr} {o : Obj} {kvs : List (Key × V)} {ep : Nat} (I : Inv X pins σ H s) (e : H d = some (.frz o (.dK kvs))) (hep : ∃ es, o.data = .dict es ep) : ∃ vs, KV kvs vs ∧ s.heap.DictAt (mixKind X.prog X.w) d vs ep := by
  obtain ⟨g, _, _, vs, rel, o', es', ep', g', ex, hdat, hk, hp, hn⟩ := I.hok d _ e
  rw [g] at g'
  cases g'
  obtain ⟨es, he⟩ := hep
  rw [he] at hdat
  cases hdat
  exact ⟨vs, rel, o, _, g, ex, he, hk, hp, hn⟩
end
def Iti (d : Addr) (o : Obj) (kvs : List (Key × V)) : It :=
  ⟨fun i H => H d = some (.frz o (.dK kvs)) ∧ i < kvs.length, fun i H v H' => ∃ p k x, kvs[i]? = some (k, x) ∧ v = .ref p ∧ H p = none ∧ H' = upd H p (.tup [kV k, x]), fun i H => H d = some (.frz o (.dK kvs)) ∧ kvs.length ≤ i⟩
theorem turn_items {P : Program} {w : World} {K : PySem.W.Frag} {elts : List Expr} {x1} {tpos : Pos} (d it : Addr) (o : Obj) (kvs : List (Key × V)) (ep : Nat) (hep : ∃ es, o.data = .dict es ep) :
    Turn P w K (.Tuple elts x1 tpos) (Iti d o kvs) [it] it (fun i h => ∃ ok ov, IsItemIter h it d i kvs.length ep ok ov) where
  mem := by simp
  obj := fun i h st b hb => by
    have e : b = it := by simpa using hb
    subst e
    obtain ⟨ok, ov, st⟩ := st
    exact ⟨_, st, fun v z => by
      have z' : Data.fields _ = Data.cell v := z
      cases z'⟩
  keep := fun i h h' ⟨ok, ov, st⟩ k => ⟨ok, ov, k it (by simp) _ st⟩
  item := by
    intro X hP hw hK hc i pins s σ H E I hf st hg
    subst hP hw hK
    obtain ⟨ok, ov, st⟩ := st
    obtain ⟨e, lt⟩ := hg
    obtain ⟨vs, rel, da⟩ := frz_at I e hep
    obtain ⟨f0, f1, f2, f3, f4, f5⟩ := hf it (by simp)
    have hl : kvs.length = vs.length := rel.length
    obtain ⟨⟨k, x⟩, q⟩ : ∃ y, kvs[i] = y := ⟨_, rfl⟩
    have hx : kvs[i]? = some (k, x) := by rw [List.getElem?_eq_getElem lt, q]
    obtain ⟨u, hv, ru⟩ := rel.get hx
    rw [hl] at st
    refine wpAny_pyNext_items_item st da hv fun key h' hkey hout ht hz hkp => ?_
    refine ⟨_, rfl, wpAny_letOwnedTupleGo_items hout fun h'' hit' hsb => ?_⟩
    have kk : ∀ b o, b ≠ it → s.heap.get? b = some o → h''.get? b = some o := fun b o hb g => (hsb.2 b hb).trans (hkp b o hb g)
    have I1 : Inv X pins σ H { s with heap := h'' } := I.turned (t' := s.toks) kk f0 f1 f3 f4 f5
    obtain ⟨n0, nL, nC, nP⟩ := I.size_lt (Nat.le_refl s.heap.objs.size)
    have itlt : it < s.heap.objs.size := Heap.lt_size st
    have pne : s.heap.objs.size ≠ it := Nat.ne_of_gt itlt
    have hp : h''.get? s.heap.objs.size = some { cls := .type "tuple", data := .seq #[key, u] } := (hsb.2 _ pne).trans ht
    refine ⟨.ref s.heap.objs.size, upd H s.heap.objs.size (.tup [kV k, x]), I1.adopt n0 I.sz nL nC nP ⟨by show 2 ≤ sizeLine; decide, [key, u], .cons (kV_rel hkey) (.cons ru .nil), _, hp, rfl, _, rfl⟩, rfl, ⟨_, k, x, hx, rfl, n0, rfl⟩, ?_, fun b hb => ?_⟩
    · rw [← hl] at hit'
      exact ⟨_, _, hit'⟩
    · have e : b = it := by simpa using hb
      subst e
      rw [upd_ne (Ne.symm pne)]
      exact f0
  done := by
    intro X hP hw hK hc i pins s σ H E I hf st hg
    subst hP hw hK
    obtain ⟨ok, ov, st⟩ := st
    obtain ⟨e, le⟩ := hg
    obtain ⟨vs, rel, da⟩ := frz_at I e hep
    obtain ⟨f0, f1, f2, f3, f4, f5⟩ := hf it (by simp)
    have hl : kvs.length = vs.length := rel.length
    rw [hl] at st
    exact wpAny_pyNext_items_end (I.ok.hd hc) st da (by simpa using (by omega : vs.length ≤ i)) fun h' eb => ⟨rfl, I.turned (t' := s.toks) (fun b o hb e => eb b o hb e) f0 f1 f3 f4 f5⟩
  self := fun _ _ _ _ _ ⟨ok, ov, st⟩ h => PySem.W.kcp_self st h
def iItems (X : Cx) (to : TE) : TI := fun σ H R => to σ H fun x H1 => ∃ d kvs, x = .ref d ∧ H1 d = some (.dK kvs) ∧ ∀ ob, (∀ o' u', X.H₀ d ≠ some (.frz o' u')) → R (Iti d ob kvs) (upd H1 d (.frz ob (.dK kvs)))
section
variable {X : Cx} {o : Expr} {to : TE} {elts : List Expr} {x1 : _} {tpos apos cpos : Pos}
theorem pi_items (ho : PE X o to) (hbase : attributeBase o "items" X.env (eval o X.env) = eval o X.env := by rfl) (hline : (apos.endLine == cpos.line) = true := by rfl) :
    PI X (.Tuple elts x1 tpos) (.Call (.Attribute o "items" apos) [] [] cpos) (iItems X to) := by
  intro pins s σ H R I h
  refine wpAny_Call_method0_late hbase hline (thn (ho pins s σ H _ I h) fun v s1 ⟨x, H1, I1, r1, q1⟩ => ?_)
  obtain ⟨d, kvs, e1, e, q⟩ := q1
  subst e1
  cases r1
  obtain ⟨z, hd, vs, rel, dd⟩ := dk_of I1.hok e
  obtain ⟨ob, es, ep, g, ex, hdat, hk, hp, hn⟩ := id dd
  refine ⟨"dict", "dict.items", PySem.F.plainAttrs_dict, PySem.F.slot_dict_items, PySem.F.type_dict_items, dd.typeIs, fun a e2 => ?_, Calls.callWith_builtin rfl (PySem.evalArgs_none ?_)⟩
  · cases e2
    exact ⟨ob, g, ex.2.1⟩
  refine call_meetsIn PySem.F.slot_dict_items dd.typeIs PySem.F.entry_dict_items (PySem.F.args_dict_items_1 _) (meets_dict_items (mixKind X.prog X.w) d hd) ⟨⟨vs, dd⟩, ?_⟩
  have da : (s1.heap.push { cls := .type "dict_items", data := .fields #[.ref d] }).DictAt (mixKind X.prog X.w) d vs ep := ⟨ob, es, Heap.get?_push_of_some _ g, ex, hdat, hk, hp, hn⟩
  refine wpAny_pyIter_items (s := { s1 with heap := s1.heap.push { cls := .type "dict_items", data := .fields #[.ref d] } }) ⟨_, Heap.get?_push_size _ rfl, rfl, rfl⟩ da ?_
  have I2 : Inv X pins σ H1 { s1 with heap := s1.heap.push { cls := .type "dict_items", data := .fields #[.ref d] } } := I1.kept (t' := s1.toks) fun b o e => Heap.get?_push_of_some _ e
  generalize hs2 : ({ s1 with heap := s1.heap.push { cls := .type "dict_items", data := .fields #[.ref d] } } : Shared) = s2 at I2
  have g2 : s2.heap.get? d = some ob := by rw [← hs2]; exact Heap.get?_push_of_some _ g
  have I3 : Inv X pins σ (upd H1 d (.frz ob (.dK kvs))) s2 := I2.write (t' := s2.toks) (x := d) (e := d) (by rw [e]; exact True.intro) (.inl rfl) (fun b u _ q => q) ⟨ob, g2⟩ ⟨g2, I2.hok d _ e⟩
  have I4 : Inv X pins σ (upd H1 d (.frz ob (.dK kvs))) { s2 with heap := s2.heap.push { cls := .type "dict_itemiterator", data := .fields #[.none, .bool false, .ref d, .int 0 0, .int vs.length 0, .int ep 0, .none, .none] } } :=
    I3.kept (t' := s2.toks) fun b o e => Heap.get?_push_of_some _ e
  have fin : PIE X pins σ (.Tuple elts x1 tpos) R (.ref s2.heap.objs.size) { s2 with heap := s2.heap.push { cls := .type "dict_itemiterator", data := .fields #[.none, .bool false, .ref d, .int 0 0, .int vs.length 0, .int ep 0, .none, .none] } } := by
    refine ⟨s2.heap.objs.size, [s2.heap.objs.size], _, _, upd H1 d (.frz ob (.dK kvs)), rfl, I4, turn_items d _ ob kvs ep ⟨es, hdat⟩, ⟨.none, .none, ?_⟩, fun b hb => ?_, q ob (I1.nofrz e)⟩
    · have hl : kvs.length = vs.length := rel.length
      show IsItemIter _ _ d 0 kvs.length ep .none .none
      rw [hl]
      exact Heap.get?_push_size _ rfl
    · have eb : b = s2.heap.objs.size := by simpa using hb
      subst eb
      exact I3.fpOk (Nat.le_refl _) (I3.hok.fresh (Nat.le_refl _))
  exact fin
theorem thaw_end {pins : List (Addr × Obj)} {σ : St} {Q : VK} {u : Value} {s : Shared} (h : EP X pins σ (fun v H2 => ∃ d ob u, H2 d = some (.frz ob u) ∧ (∀ o' u', X.H₀ d ≠ some (.frz o' u')) ∧ Q v (upd H2 d u)) u s) : EP X pins σ Q u s := by
  obtain ⟨v, H2, I2, r2, d, ob, u', e, nf, q⟩ := h
  exact ⟨v, _, I2.thaw e nf, r2, q⟩
theorem pe_thaw {e : Expr} {t : TE} (h : PE X e t) : PE X e (fun σ H Q => t σ H fun v H2 => ∃ d ob u, H2 d = some (.frz ob u) ∧ (∀ o' u', X.H₀ d ≠ some (.frz o' u')) ∧ Q v (upd H2 d u)) := fun pins s σ H Q I q =>
  thn (h pins s σ H _ I q) fun _ _ z => thaw_end z
end
end L2
set_option maxRecDepth 100000
namespace PySem.F
end PySem.F
namespace L2
open PySem PySem.Spec PyProof.Rows XL
variable {q0 : Bool}
section
variable {X : Cx} {pins : List (Addr × Obj)} {σ : St} {H : Hp} {s : Shared} {a : Addr} {y v : V} {u r : Value} {A : Around} {E : Value → Shared → Prop}
end
end L2
set_option maxRecDepth 100000
namespace L2
open PySem PySem.Spec PyProof.Rows XL
variable {q0 : Bool}
section
variable {X : Cx} {tg : Expr}
end
theorem vals_at {xs : List V} {us : List Value} (r : Vals xs us) {j : Nat} (h : j < us.toArray.size) : ∃ x, xs[j]? = some x ∧ RelV x us.toArray[j] := by
  have hl := r.length
  have hj : j < xs.length := by simp at h; omega
  obtain ⟨u, h1, h2⟩ := r.get (x := xs[j]) (List.getElem?_eq_getElem hj)
  refine ⟨xs[j], List.getElem?_eq_getElem hj, ?_⟩
  have : us.toArray[j] = u := by
    have z := List.getElem?_eq_some_iff.mp h1
    obtain ⟨z1, z2⟩ := z
    simpa using z2
  rw [this]
  exact h2
section
variable {X : Cx} {pins : List (Addr × Obj)} {σ : St} {H : Hp} {s : Shared}
end
theorem hu20_of {A : Around} {k : Nat} (hr : Room q0 k A) : A.units + 20 < cLine := by have := hr.un; omega
theorem call_lenD {X : Cx} : CallR X (.builtin "len") (fun xs H Q => ∃ a kvs, xs = [.ref a] ∧ H a = some (.dK kvs) ∧ Q (.int kvs.length) H) := by
  intro pins s σ H xs us Q I r h
  obtain ⟨a, kvs, rfl, e, q⟩ := h
  obtain ⟨u, rfl, rx⟩ := vals1 r
  obtain rfl : u = Value.ref a := rx
  exact d_len I (.inl e) fun t s' I' => ⟨.int _, H, I', ⟨t, rfl⟩, q⟩
inductive Ents (w : World) : List DictEntry → List (Key × V) → Prop
  | nil : Ents w [] []
  | cons {k : Key} {x : V} {key val : Value} {h : Int} {es : List DictEntry} {kvs : List (Key × V)} (hh : h = keyH w k) (hk : RelV (kV k) key) (hv : RelV x val) (r : Ents w es kvs) : Ents w (⟨h, key, val⟩ :: es) ((k, x) :: kvs)
def GDict (w : World) (K : PySem.W.Frag) (D : Addr) (kvs : List (Key × V)) : Prop := (D == sysModules) = false ∧ ∃ (es : Array DictEntry) (ep : Nat), K.lookup D = some ⟨.type "dict", none, .dict es ep, #[]⟩ ∧ Ents w es.toList kvs ∧ (kvs.map (·.1)).Nodup
theorem Ents.ok {P : Program} {w : World} {es : List DictEntry} {kvs : List (Key × V)} (h : Ents w es kvs) : ∃ vs, KV kvs vs ∧ Pairs (mixKind P w) es vs ∧ ∀ e ∈ es, ∃ k, (mixKind P w).is k e.key = true ∧ e.hash = (mixKind P w).hash k := by
  induction h with
  | nil => exact ⟨[], .nil, .nil, fun e z => nomatch z⟩
  | @cons k x key val h es kvs hh hk hv _ ih =>
    obtain ⟨vs, a, b, c⟩ := ih
    refine ⟨(k, val) :: vs, .cons ⟨rfl, hv⟩ a, .cons (kV_is hk) rfl b, fun e he => ?_⟩
    rcases List.mem_cons.mp he with rfl | z
    · exact ⟨k, kV_is hk, hh⟩
    · exact c e z
section
variable {X : Cx} {pins : List (Addr × Obj)} {σ : St} {H : Hp} {s : Shared} {D : Addr} {kvs : List (Key × V)}
theorem gdict_at (I : Inv X pins σ H s) (g : GDict X.w X.K D kvs) : ∃ vs, KV kvs vs ∧ s.heap.DictOf (mixKind X.prog X.w) D vs := by
  obtain ⟨_, es, ep, l, en, nd⟩ := g
  obtain ⟨vs, a, b, c⟩ := en.ok (P := X.prog)
  refine ⟨vs, a, _, es, ep, I.kIn _ _ l, ⟨rfl, rfl, rfl⟩, rfl, fun e he => c e (by simpa using he), b, ?_⟩
  rw [← a.keys]
  exact nd
def tGIn (kvs : List (Key × V)) (neg : Bool) (ty : TE) : TE := fun σ H Q => ty σ H fun y H1 => ∃ k : Key, y = kV k ∧ Q (.bl (if neg then !(valV kvs k).isSome else (valV kvs k).isSome)) H1
theorem pc_gnotin {i : Expr} {ty : TE} {x : Str} {p : Pos} (hi : PE X i ty) (hg : Gl X x) (hm : X.mg x = some (.ref D)) (g : GDict X.w X.K D kvs) (hd : (x == ("__debug__" : Str)) = false := by decide) : PC X .NotIn i (.Name x p) (tGIn kvs true ty) := by
  intro pins s σ H Q I h
  refine thn (hi pins s σ H _ I h) fun iv s1 ⟨y, H1, I1, ry, k, ey, q1⟩ => thn (pe_glob (v := .ref D) hg hm rfl hd pins s1 σ H1 (fun v H2 => v = .ref D ∧ H2 = H1) I1 ⟨rfl, rfl⟩) fun u s2 ⟨x, H2, I2, rx, e1, e2⟩ => ?_
  subst ey e1 e2
  obtain rfl : u = Value.ref D := rx
  obtain ⟨vs, rel, dd⟩ := gdict_at I2 g
  refine wpAny_notIn_of (kV_is ry) g.1 dd.mapOf ?_
  rw [← (rel.val k).isSome_eq]
  exact ⟨.bl _, _, I2.tok _, rfl, q1⟩
end
end L2
set_option maxRecDepth 100000
namespace L2
open PySem PySem.Spec PyProof.Rows XL
variable {q0 : Bool}
def rAllL (K : PySem.W.Frag) : List V → Hp → VK → Prop := fun xs H Q => ∃ (p : Addr) (bs : List Bool), xs = [.ref p] ∧ SqL K H p (bs.map V.bl) ∧ Q (.bl (bs.all id)) H
theorem valsBl {bs : List Bool} : ∀ {us : List Value}, Vals (bs.map V.bl) us → us = bs.map Value.bool := by
  induction bs with
  | nil => intro us h; cases h; rfl
  | cons b r ih =>
    intro us h
    cases h with
    | cons h1 h2 =>
      have := ih h2
      subst this
      obtain rfl := h1
      rfl
theorem range_all {bs : List Bool} : (List.range bs.length).all (fun i => bs.getD i true) = bs.all id := by
  have h : (List.range bs.length).map (fun i => bs.getD i true) = bs := by
    apply List.ext_getElem
    · simp
    · intro i h1 h2
      simp [List.getD, h2]
  calc _ = ((List.range bs.length).map (fun i => bs.getD i true)).all id := by rw [List.all_map]; rfl
    _ = _ := by rw [h]
theorem call_allL {X : Cx} (hc : X.calm = true) : CallR X (.builtin "all") (rAllL X.K) := by
  intro pins s σ H xs us Q I r h
  obtain ⟨p, bs, rfl, hs, q⟩ := h
  obtain ⟨u, rfl, rx⟩ := vals1 r
  obtain rfl : u = Value.ref p := rx
  obtain ⟨its, vi, ⟨o, n, g, c, _, d⟩, _⟩ := I.list hs
  have il : s.heap.IsList p its.toArray := ⟨o, g, c, n, d⟩
  obtain rfl := valsBl vi
  have hlt : p < s.heap.objs.size := Heap.lt_size g
  refine call_all_walk (wpAny_pyIter_list il ?_)
  refine ⟨_, _, _, _, _, _, fun i => bs.getD i true, rfl, Walks.list (A := X.A.in1) (I.ok.hd hc) _ p (Nat.ne_of_lt hlt) (bs.map Value.bool).toArray, ⟨⟨_, Heap.get?_push_size _ rfl, rfl, rfl⟩, il.push _⟩, ?_, fun h' tk hk => ?_⟩
  · intro i v s' Q' E' hP hQ
    simp only [List.getElem?_toArray, List.getElem?_map, Option.map_eq_some_iff] at hP
    obtain ⟨b, hb, rfl⟩ := hP
    have : bs.getD i true = b := by simp [List.getD, hb]
    rw [← this]
    exact wpAny_pure hQ
  · rw [List.size_toArray, List.length_map, range_all]
    exact ⟨.bl _, H, I.kept (old_kept hk), rfl, q⟩
end L2
set_option maxRecDepth 100000
namespace L2
open PySem PySem.Spec PyProof.Rows XL
variable {q0 : Bool}
section
variable {X : Cx} {pins : List (Addr × Obj)} {σ : St} {H : Hp} {s : Shared} {h' : Heap}
theorem Inv.turnedL {t' : Nat} {ch : List Addr} (I : Inv X pins σ H s) (k : ∀ b o, b ∉ ch → s.heap.get? b = some o → h'.get? b = some o) (hf : ∀ b ∈ ch, FpOk X pins H b) : Inv X pins σ H { s with heap := h', toks := t' } := by
  have nit : ∀ b u, H b = some u → b ∉ ch := fun b u e z => by
    have := (hf b z).1
    rw [this] at e
    cases e
  refine I.step (g' := s.gens) (d' := s.drawn) (ch := ch) (fun b hb => ?_) (fun b o _ _ hc e _ => k b o hc e) (fun b o _ _ hc e _ => ⟨o.slots, k b o hc e⟩) (fun _ _ _ _ n => n)
    (fun b o hc e => ⟨o, k b o hc e⟩) (fun _ _ e => e) (fun _ _ _ e => e) (fun b ps e => ⟨#[], by rw [e]; simp⟩) (fun m hm => ?_) (fun b u e => ?_) I.bare
  · obtain ⟨f0, f1, f2, f3, f4, f5⟩ := hf b hb
    exact ⟨f3, f1, f4, f5⟩
  · obtain ⟨o, es, ep, ho, r⟩ := hm
    exact ⟨o, es, ep, k _ o (fun z => (hf _ z).2.1 rfl) ho, r⟩
  · refine (I.hok b u e).stay (fun c v hc q => k c v ?_ q) (fun _ q => q) fun _ _ q => q
    rcases hc with z | z
    · rw [z]; exact nit b u e
    · exact nit c _ z
end
section
variable {X : Cx} {tg : Expr}
end
theorem ne_num {a b : Nat} (h : a ≠ b) : (a : Addr) ≠ (b : Addr) := h
section
variable {X : Cx} {elts : List Expr} {x1 : _} {tpos : Pos}
end
end L2
set_option maxRecDepth 100000
namespace L2
open PySem PySem.Spec PyProof.Rows XL
variable {q0 : Bool}
def Ite (K : PySem.W.Frag) (a : Addr) : It :=
  ⟨fun i H => ∃ xs x, SqL K H a xs ∧ xs[i]? = some x, fun i H v H' => ∃ p x, (∀ xs, SqL K H a xs → xs[i]? = some x) ∧ v = .ref p ∧ H p = none ∧ H' = upd H p (.tup [.int i, x]), fun i H => ∃ xs, SqL K H a xs ∧ xs.length ≤ i⟩
theorem turn_enum {P : Program} {w : World} {K : PySem.W.Frag} {elts : List Expr} {x1} {tpos : Pos} (e it l : Addr) (hei : e ≠ it) :
    Turn P w K (.Tuple elts x1 tpos) (Ite K l) [e, it] e (fun i h => (∃ old, IsEnum h e it i old) ∧ h.IsListIter it l i) where
  mem := by simp
  obj := fun i h st b hb => by
    obtain ⟨⟨old, he⟩, ⟨o1, e1, c1, d1⟩⟩ := st
    simp only [List.mem_cons, List.not_mem_nil, or_false] at hb
    rcases hb with rfl | rfl
    · exact ⟨_, he, fun v k => by have k' : Data.fields _ = Data.cell v := k; cases k'⟩
    · exact ⟨_, e1, fun v k => by rw [d1] at k; cases k⟩
  keep := fun i h h' ⟨⟨old, he⟩, h1⟩ k => ⟨⟨old, k e (by simp) _ he⟩, h1.at fun o z => k it (by simp) o z⟩
  item := by
    intro X hP hw hK hc i pins s σ H E I hf st hg
    subst hP hw hK
    obtain ⟨xs, x, hq, hx⟩ := hg
    obtain ⟨its, rv, p, hz1⟩ := I.list hq
    obtain ⟨u, hu, ru⟩ := rv.get hx
    obtain ⟨⟨old, he⟩, h1⟩ := id st
    refine wpAny_pyNext_enum_item he h1 p.isList (x := u) (by simpa using hu) hei fun h' ho hit' hT hsz hk => ?_
    refine ⟨_, rfl, wpAny_letOwnedTupleGo_enum (s := { s with heap := h', toks := s.toks + 1 }) ho fun h'' he' hs' => ?_⟩
    have elt : e < s.heap.objs.size := Heap.lt_size he
    have pne : s.heap.objs.size ≠ e := Nat.ne_of_gt elt
    have kk : ∀ b o, b ∉ [e, it] → s.heap.get? b = some o → h''.get? b = some o := fun b o hb g => by
      simp only [List.mem_cons, List.not_mem_nil, or_false, not_or] at hb
      exact (hs'.2 b hb.1).trans (hk b o hb.1 hb.2 g)
    have I1 : Inv X pins σ H { s with heap := h'', toks := s.toks + 1 } := I.turnedL kk hf
    obtain ⟨n0, nL, nC, nP⟩ := I.size_lt (Nat.le_refl s.heap.objs.size)
    have hp : h''.get? s.heap.objs.size = some { cls := .type "tuple", data := .seq #[.int i s.toks, u] } := (hs'.2 _ pne).trans hT
    refine ⟨.ref s.heap.objs.size, upd H s.heap.objs.size (.tup [.int i, x]), I1.adopt n0 I.sz nL nC nP ⟨by show 2 ≤ sizeLine; decide, [.int i s.toks, u], .cons ⟨_, rfl⟩ (.cons ru .nil), _, hp, rfl, _, rfl⟩, rfl,
      ⟨_, x, fun zs hz => by rw [I.list_inj hz hq]; exact hx, rfl, n0, rfl⟩, ?_, fun b hb => ?_⟩
    · exact ⟨⟨_, by simpa using he'⟩, hit'.at fun o y => (hs'.2 it (Ne.symm hei)).trans y⟩
    · obtain ⟨o, ho⟩ : ∃ o, s.heap.get? b = some o := by
        obtain ⟨o1, e1, c1, d1⟩ := h1
        simp only [List.mem_cons, List.not_mem_nil, or_false] at hb
        rcases hb with rfl | rfl
        · exact ⟨_, he⟩
        · exact ⟨_, e1⟩
      rw [upd_ne (Nat.ne_of_lt (Heap.lt_size ho))]
      exact (hf b hb).1
  done := by
    intro X hP hw hK hc i pins s σ H E I hf st hg
    subst hP hw hK
    obtain ⟨xs, hq, hl⟩ := hg
    obtain ⟨its, rv, p, hz1⟩ := I.list hq
    have e1 := rv.length
    obtain ⟨⟨old, he⟩, h1⟩ := id st
    refine wpAny_pyNext_enum_end (I.ok.hd hc) he h1 p.isList (by simp; omega) fun h' hx => ⟨rfl, I.turnedL (t' := s.toks) (fun b o hb g => ?_) hf⟩
    simp only [List.mem_cons, List.not_mem_nil, or_false, not_or] at hb
    exact hx b o hb.2 g
  self := fun _ _ _ _ _ ⟨⟨_, st⟩, _⟩ h => wpAny_pyIter_enum st h
def iEnum (K : PySem.W.Frag) (ta : TA) : TI := fun σ H R => ta σ H fun vs H1 => ∃ a xs, vs = [.ref a] ∧ SqL K H1 a xs ∧ R (Ite K a) H1
section
variable {X : Cx} {elts : List Expr} {x1 : _} {tpos : Pos}
theorem pi_enumerate {a : Expr} {ta : TA} {p pos : Pos} (hg : Gl X "enumerate") (hm : X.mg "enumerate" = none) (ha : PA X [a] ta) (hs : starEach [a] X.env = [(false, eval a X.env)] := by rfl) :
    PI X (.Tuple elts x1 tpos) (.Call (.Name "enumerate" p) [a] [] pos) (iEnum X.K ta) := by
  intro pins s σ H R I h
  refine Call_ (ld_blt I hg hm PyProof.Rows.Boot.«enumerate» (PyProof.Rows.callWith_type1 (thn (ha pos pins s σ H _ I h) fun us s1 ⟨vs, H1, I1, r1, q1⟩ => ?_) hs rfl))
  obtain ⟨l, xs, e, hq, q⟩ := q1
  subst e
  obtain ⟨u, rfl, ru⟩ := vals1 r1
  obtain rfl : u = Value.ref l := ru
  obtain ⟨its, rv, p1, hz1⟩ := I1.list hq
  refine call_enumerate_list p1.isList fun h' he h1 hsz hk => ?_
  refine wpAny_pyIter_enum (s := { s1 with heap := h' }) he ?_
  have I2 : Inv X pins σ H1 { s1 with heap := h' } := I1.kept (t' := s1.toks) hk
  refine ⟨_, [s1.heap.objs.size + 1, s1.heap.objs.size], _, _, H1, rfl, I2, turn_enum _ _ l (ne_num (by omega)), ⟨⟨_, he⟩, h1⟩, fun b hb => ?_, q⟩
  have hb' : s1.heap.objs.size ≤ b := by
    simp only [List.mem_cons, List.not_mem_nil, or_false] at hb
    rcases hb with rfl | rfl
    · exact Nat.le_add_right _ 1
    · exact Nat.le_refl _
  exact I1.fpOk hb' (I1.hok.fresh hb')
end
end L2
namespace L2
open PySem PySem.Spec PyProof.Rows XL
end L2
set_option maxRecDepth 100000
namespace L2
open PySem PySem.Spec PyProof.Rows XL
def tMid (t : TS) : TS := fun D σ H => ∃ Pv : St → Hp → Prop, t { D with nx := Pv } σ H ∧ ∀ σ' H', Pv σ' H' → D.nx σ' H'
theorem ps_mid {X : Cx} {st : Stmt} {t : TS} (h : PS X st t) : PS X st (tMid t) := by
  intro pins s σ H D I q
  obtain ⟨Pv, q1, q2⟩ := q
  refine thn (h pins s σ H { D with nx := Pv } I q1) fun fl s1 z => ?_
  cases fl with
  | next =>
    obtain ⟨σ', H', I', r⟩ := z
    exact ⟨σ', H', I', q2 _ _ r⟩
  | _ => exact z
end L2
set_option maxRecDepth 100000
namespace XL
open PySem PySem.W
section
variable {prog : Program} {w : World} {A : Around} {E : Value → Shared → Prop} {h : Heap} {g : Array GenState} {d : Drawn} {t : Nat} {os : OsState}
variable {nm qn : Str} {C N : Addr} {bs bm bmB : List Value} {hz : Bool} {sn : List Str} {sub : List Value} {ab : Bool} {col : Option Bool} {dd : Option Addr} {k0 k1 k2 k3 k5 : Option Value} {B ni ii : String}
end
end XL
namespace L2
open PySem PySem.Spec PyProof.Rows XL
variable {q0 : Bool}
section
variable {X : Cx} {C : Addr} {x : Str} {p pos : Pos}
end
section
variable {X : Cx} {pos np hpos np1 np2 hpos1 hpos2 : Pos} {body hbody hbody1 hbody2 : List Stmt} {b0 b1 b2 : Stmt} {cx cx1 cx2 n : Str} {C0 C1 C2 : Addr} {j : Nat} {E : St → XK} {tb th th1 th2 : TS} {rest : List ExceptHandler}
end
end L2
set_option maxRecDepth 100000
namespace L2
open PySem PySem.Spec PyProof.Rows XL
section
variable {X : Cx} {a b c d : Expr} {ta tb tc td : TE} {pos : Pos}
end
end L2
set_option maxRecDepth 100000
set_option maxHeartbeats 4000000
namespace L2
open PySem PySem.Calls PyProof PyProof.Rows
theorem vals3 {x y z : V} {us : List Value} (r : Vals [x, y, z] us) : ∃ u v w, us = [u, v, w] ∧ RelV x u ∧ RelV y v ∧ RelV z w := by
  cases r with
  | cons r1 r2 =>
    cases r2 with
    | cons r3 r4 =>
      cases r4 with
      | cons r5 r6 => cases r6; exact ⟨_, _, _, rfl, r1, r3, r5⟩
theorem call_min3 {X : Cx} (hc : X.calm = true) : CallR X (.builtin "min") (fun xs H Q => ∃ i j k : Int, xs = [.int i, .int j, .int k] ∧ ∀ m : Int, m ≤ i → m ≤ j → m ≤ k → (m = i ∨ m = j ∨ m = k) → Q (.int m) H) := by
  intro pins s σ H xs us Q I r h
  obtain ⟨i, j, k, rfl, q⟩ := h
  obtain ⟨u, v, w', rfl, ⟨t, rfl⟩, ⟨t', rfl⟩, ⟨t2, rfl⟩⟩ := vals3 r
  refine min_three_ints (I.ok.hd hc) fun h' tk k' => ?_
  by_cases h1 : j < i
  · rw [if_pos h1]
    by_cases h2 : k < j
    · rw [if_pos h2]
      exact ⟨.int k, H, I.kept k', ⟨_, rfl⟩, q k (by omega) (by omega) (by omega) (.inr (.inr rfl))⟩
    · rw [if_neg h2]
      exact ⟨.int j, H, I.kept k', ⟨_, rfl⟩, q j (by omega) (by omega) (by omega) (.inr (.inl rfl))⟩
  · rw [if_neg h1]
    by_cases h2 : k < i
    · rw [if_pos h2]
      exact ⟨.int k, H, I.kept k', ⟨_, rfl⟩, q k (by omega) (by omega) (by omega) (.inr (.inr rfl))⟩
    · rw [if_neg h2]
      exact ⟨.int i, H, I.kept k', ⟨_, rfl⟩, q i (by omega) (by omega) (by omega) (.inl rfl)⟩
def eU (e : V → Bool) (u : Value) : Bool := match absV u with | some y => e y | none => false
theorem eU_of {e : V → Bool} {y : V} {u : Value} (r : RelV y u) : eU e u = e y := by unfold eU; rw [r.abs]
theorem any_eU {e : V → Bool} : ∀ {xs : List V} {us : List Value}, Vals xs us → us.any (eU e) = xs.any e
  | _, _, .nil => rfl
  | y :: xs, u :: us, .cons r t => by rw [List.any_cons, List.any_cons, eU_of r, any_eU t]
theorem mem_rel : ∀ {xs : List V} {us : List Value}, Vals xs us → ∀ u ∈ us, ∃ y ∈ xs, RelV y u
  | _, _, .nil => fun u hu => nomatch hu
  | y :: xs, u :: us, .cons r t => fun u' hu => by
    rcases List.mem_cons.mp hu with rfl | hu
    · exact ⟨y, List.mem_cons_self, r⟩
    · obtain ⟨z, h1, h2⟩ := mem_rel t u' hu
      exact ⟨z, List.mem_cons_of_mem _ h1, h2⟩
section
variable {X : Cx}
end
end L2
set_option maxRecDepth 100000
namespace PySem.F
end PySem.F
namespace L2
open PySem PySem.Spec PyProof.Rows XL
variable {q0 : Bool}
end L2
set_option maxRecDepth 100000
namespace L2
open PySem PySem.Spec PyProof.Rows XL
variable {q0 : Bool}
section
variable {z TI TO i1 i2 l1 l2 : Addr} {P : Nat → Prop} {i : Nat} {h : Heap}
end
end L2
set_option maxRecDepth 100000
namespace L2
open PySem PySem.Spec PyProof.Rows XL
variable {q0 : Bool}
end L2
set_option maxRecDepth 100000
namespace L2
open PySem PySem.Spec PyProof.Rows XL
variable {q0 : Bool}
section
variable {X : Cx} {pos np1 np2 np3 hpos1 hpos2 hpos3 : Pos} {body hbody1 hbody2 hbody3 : List Stmt} {rest : List ExceptHandler} {b1 b2 b3 : Stmt} {cx1 cx2 cx3 n : Str} {C1 C2 C3 : Addr} {j : Nat} {E : St → XK} {tb th1 th2 th3 : TS}
end
end L2
set_option maxRecDepth 100000
namespace L2
open PySem PySem.Spec PyProof.Rows XL PySem.W
variable {q0 : Bool}
theorem list_sort_tups {prog : Program} {w : World} {A : Around} {E : Value → Shared → Prop} {s : Shared} {a : Addr} {vs : List Value} {n : Nat} {P : PySem.Fin → Shared → Prop}
    (h : s.heap.get? a = some (seqObj "list" vs.toArray n)) (h2 : 2 ≤ vs.length) (h64 : vs.length < 64)
    (hk : ∀ s' : Shared, s'.heap = (((s.heap.update a (Obj.mapSeq fun x => #[])).push (seqObj "tuple" vs.toArray 0)).push (seqObj "list" #[] 0)) → s' = { s with heap := s'.heap } →
      wpAny (model prog w) A (keyKind' vs.toArray) (fun κ s'' => s'' = s' ∧ KasT.kasWp (kas_ask prog w A κ vs) (kas_sort vs.length) (fun p s3 => s3 = s' ∧ P (.done (.ret .none)) { s with heap := sortedHeap s.heap a vs (p.map fun i => vs.getD i .none) }) s'') (fun _ _ => False) s') :
    wpAny (model prog w) A (Builtin.«list.sort» { pos := [.ref a] }) P E s := by
  obtain ⟨hp, g, d, tk, os⟩ := s
  rw [list_sort_plain]
  repeat (any_goals (first | assumption | wp_step))
  have z : ¬ vs.toArray.toList.toArray.size > sizeLine := by
    simp
    exact Nat.le_of_lt (Nat.lt_trans h64 (by decide))
  rw [if_neg z]
  generalize keyKind' vs.toArray = kk at hk ⊢
  repeat (any_goals (first | assumption | wp_step))
  have hk' := hk { heap := ((hp.update a (Obj.mapSeq fun x => #[])).push (seqObj "tuple" vs.toArray 0)).push (seqObj "list" #[] 0), gens := g, drawn := d, toks := tk, os := os } rfl rfl
  refine wpAny_mono hk' (fun κ s'' z => ?_) (fun _ _ z => z.elim)
  obtain ⟨e, q⟩ := z
  subst e
  show wpAny _ _ (StateT.run (if vs.toArray.size < 2 then pure () else sortRuns') _ >>= _) _ _ _
  rw [if_neg (by simp; omega)]
  refine wpAny_bind (wpAny_mono (kat_run (E := E) (Q := fun st' s' => ∃ p : Array Nat, p.size = vs.length ∧ arrOf st' = Array.map (kas_item (vs.toArray.zip vs.toArray)) p ∧ failedOf st' = none ∧ s' = _ ∧ P (.done (.ret .none)) { heap := sortedHeap hp a vs (p.map fun i => vs.getD i .none), gens := g, drawn := d, toks := tk, os := os }) rfl h2 h64 (fun p st' s' hp' e f q' => ⟨p, hp', e, f, q'.1, q'.2⟩) q) (fun r s' z => ?_) fun _ _ z => z)
  obtain ⟨u, st⟩ := r
  obtain ⟨p, psz, e, f, rfl, q'⟩ := z
  have al : a < hp.objs.size := Heap.lt_size h
  have g1 : (((hp.update a (Obj.mapSeq fun x => #[])).push (seqObj "tuple" vs.toArray 0)).push (seqObj "list" #[] 0)).get? a = some (seqObj "list" #[] (n + 1)) := by
    refine Heap.get?_push_of_some _ (Heap.get?_push_of_some _ ?_)
    rw [Heap.get?_update_self _ h rfl]
    have z : ((0 : Nat) == vs.length) = false := by
      cases vs with
      | nil => simp at h2
      | cons => rfl
    simp [Obj.mapSeq, z]
  have e2 : (if (((fun x => #[]) vs.toArray : Array Value).size == vs.toArray.size) = true then n else n + 1) = n + 1 := by
    rw [if_neg]
    simp
    omega
  simp only [e2, f]
  have e3 : Array.map (fun x => x.snd) (arrOf st) = p.map fun i => vs.getD i .none := by
    rw [e, Array.map_map]
    congr 1
    funext i
    show (kas_item (vs.toArray.zip vs.toArray) i).snd = _
    unfold kas_item
    by_cases c : i < vs.length
    · simp [List.getElem?_eq_getElem c, c]
    · simp [List.getElem?_eq_none (by omega : vs.length ≤ i), c]
  simp only [e3]
  repeat (any_goals (first | assumption | wp_step))
  have e4 : (Obj.mapSeq (fun x => Array.map (fun i => vs.getD i Value.none) p) (seqObj "list" #[] (n + 1))).data.pastItsLine = none := by
    show (if (Array.map (fun i => vs.getD i Value.none) p).size > sizeLine + 1 then _ else none) = none
    rw [if_neg]
    rw [Array.size_map, psz]
    have : vs.length < sizeLine := Nat.lt_trans h64 (by decide)
    omega
  rw [e4]
  refine wpAny_pure ?_
  rw [f]
  show wpAny _ _ (if (n + 1 != n + 1) = true then _ else _) _ _ _
  rw [if_neg (by simp)]
  exact wpAny_pure q'
theorem keyNext_item {prog : Program} {w : World} {A : Around} {E : Value → Shared → Prop} {s : Shared} {it d : Addr} {i ep : Nat} {o : Obj} {es : Array DictEntry} {en : DictEntry} {Q : Option Value → Shared → Prop}
    (st : s.heap.IsKeyIter it d i es.size ep) (hd : s.heap.get? d = some o) (hx : o.ExactDict) (hdat : o.data = .dict es ep) (hi : es[i]? = some en)
    (h : ∀ h', h'.IsKeyIter it d (i + 1) es.size ep → Heap.SameBut it s.heap h' → Q (some en.key) { s with heap := h' }) : wpAny (model prog w) A (pyNext (.ref it)) Q E s := by
  unfold pyNext
  refine wpAny_bind (wpAny_attempt (wpAny_callSpecial?_slot st.typeIs F.slot_dict_keyiterator_next ?_))
  refine wpAny_call_entry F.slot_dict_keyiterator_next st.typeIs F.entry_dict_keyiterator_next ?_ (F.args_dict_keyiterator_next_1 _)
  have ti := st.typeIs
  obtain ⟨hp, g, dr, tk, os⟩ := s
  obtain ⟨⟨c, dct, dat, sl⟩, hit, ci, di⟩ := st
  simp only at ci di
  subst ci di
  unfold Builtin.«dict_keyiterator.__next__»
  repeat (any_goals (first | assumption | (with_reducible refine wpAny_typeNameOfWhole_keyiter ti ?_) | (with_reducible refine wpAny_isOneOf_keyiter ti ?_) | (with_reducible refine wpAny_dictEntries hd hdat ?_) | (with_reducible refine wpAny_dictEpoch hd hdat ?_) | wp_step))
  have e1 : (if (i : Int) < 0 then none else es[(i : Int).toNat]?) = some en := by
    rw [if_neg (by omega), Int.toNat_natCast]
    exact hi
  rw [e1]
  repeat (any_goals (first | assumption | (with_reducible refine wpAny_typeNameOfWhole_keyiter ti ?_) | (with_reducible refine wpAny_isOneOf_keyiter ti ?_) | (with_reducible refine wpAny_dictEntries hd hdat ?_) | (with_reducible refine wpAny_dictEpoch hd hdat ?_) | wp_step))
  refine ⟨_, rfl, wpAny_pure (h _ ?_ (Heap.SameBut.update _ _ _))⟩
  refine ⟨_, Heap.get?_update_self _ hit rfl, rfl, ?_⟩
  rfl
theorem keyNext_end {prog : Program} {w : World} {A : Around} {E : Value → Shared → Prop} {s : Shared} {it d : Addr} {ep : Nat} {o : Obj} {es : Array DictEntry} {Q : Option Value → Shared → Prop}
    (hA : A.handled = none) (st : s.heap.IsKeyIter it d es.size es.size ep) (hd : s.heap.get? d = some o) (hx : o.ExactDict) (hdat : o.data = .dict es ep)
    (h : ∀ h', Heap.ExtBut it s.heap h' → Q none { s with heap := h' }) : wpAny (model prog w) A (pyNext (.ref it)) Q E s := by
  unfold pyNext
  refine wpAny_bind (wpAny_attempt (wpAny_callSpecial?_slot st.typeIs F.slot_dict_keyiterator_next ?_))
  refine wpAny_call_entry F.slot_dict_keyiterator_next st.typeIs F.entry_dict_keyiterator_next ?_ (F.args_dict_keyiterator_next_1 _)
  have ti := st.typeIs
  obtain ⟨hp, g, dr, tk, os⟩ := s
  obtain ⟨⟨c, dct, dat, sl⟩, hit, ci, di⟩ := st
  simp only at ci di
  subst ci di
  unfold Builtin.«dict_keyiterator.__next__»
  repeat (any_goals (first | assumption | (with_reducible refine wpAny_typeNameOfWhole_keyiter ti ?_) | (with_reducible refine wpAny_isOneOf_keyiter ti ?_) | (with_reducible refine wpAny_dictEntries hd hdat ?_) | (with_reducible refine wpAny_dictEpoch hd hdat ?_) | wp_step))
  have e1 : (if (es.size : Int) < 0 then none else es[(es.size : Int).toNat]?) = none := by
    rw [if_neg (by omega), Int.toNat_natCast]
    simp
  rw [e1]
  repeat (any_goals (first | assumption | (with_reducible refine wpAny_typeNameOfWhole_keyiter ti ?_) | (with_reducible refine wpAny_isOneOf_keyiter ti ?_) | (with_reducible refine wpAny_dictEntries hd hdat ?_) | (with_reducible refine wpAny_dictEpoch hd hdat ?_) | wp_step))
  refine wpAny_raiseNew_none hA ?_
  refine wpAny_bind (wpAny_isInstance ⟨_, Heap.get?_push_size _ rfl, rfl⟩ isSubtype_stop (wpAny_pure (h _ fun b o nb e => ?_)))
  refine Heap.get?_push_of_some _ (Heap.get?_push_of_some _ ?_)
  rw [Heap.get?_update_other _ _ (Ne.symm nb)]
  exact e
theorem dictIter {prog : Program} {w : World} {A : Around} {E : Value → Shared → Prop} {s : Shared} {d : Addr} {ep : Nat} {o : Obj} {es : Array DictEntry} {Q : Value → Shared → Prop}
    (hs : (d == sysModules) = false) (hd : s.heap.get? d = some o) (hx : o.ExactDict) (hdat : o.data = .dict es ep) 
    (h : Q (.ref s.heap.objs.size) { s with heap := s.heap.push { cls := .type "dict_keyiterator", data := .fields #[.ref d, .int 0 0, .int es.size 0, .int ep 0] } }) : wpAny (model prog w) A (pyIter (.ref d)) Q E s := by
  have ti : s.TypeIs (.ref d) "dict" := ⟨o, hd, hx.1⟩
  obtain ⟨c, dct, dat, sl⟩ := o
  obtain ⟨x1, x2, x3⟩ := hx
  simp only at x1 x2 x3 hdat
  subst x1 x2 x3 hdat
  refine wpAny_pyIter_slot ti F.slot_dict_iter ?_
  refine wpAny_call_entry F.slot_dict_iter ti F.entry_dict_iter ?_ (F.args_dict_iter_1 _)
  obtain ⟨hp, g, dr, tk, os⟩ := s
  unfold Builtin.«dict.__iter__»
  repeat (any_goals (first | assumption | (with_reducible refine wpAny_notOrdered_dict ti ?_) | (with_reducible refine wpAny_dictEntries hd rfl ?_) | (with_reducible refine wpAny_dictEpoch hd rfl ?_) | wp_step))
  exact ⟨_, rfl, _, _, ⟨_, Heap.get?_push_size _ rfl, rfl⟩, F.slot_dict_keyiterator_next.lookup, h⟩
theorem kdl_raw {prog : Program} {w : World} {d : Addr} {ep : Nat} {o : Obj} {es : Array DictEntry} (hs : (d == sysModules) = false) (hx : o.ExactDict) (hdat : o.data = .dict es ep) :
    KdlSrc prog w "dict" d d es.size (fun i v => ∃ en, es[i]? = some en ∧ v = en.key) (fun h => h.get? d = some o) where
  type := fun s h => ⟨o, h, hx.1⟩
  there := fun h e => ⟨Heap.lt_size e, Heap.lt_size e⟩
  keep := fun h h' e k => k d (.inl rfl) o e
  notList := by decide
  notTuple := by decide
  hint := fun A E s Q h q => kdl_hint_dict ⟨o, h, hx.1⟩ q
  iter := fun A s hA h => by
    have dl := Heap.lt_size h
    refine ⟨{ cls := .type "dict_keyiterator", data := .fields #[.ref d, .int 0 0, .int es.size 0, .int ep 0] }, fun i h => h.IsKeyIter s.heap.objs.size d i es.size ep ∧ h.get? d = some o, fun E Q q => dictIter hs h hx hdat q, ?_, ⟨_, Heap.get?_push_size _ rfl, rfl, rfl⟩, Heap.get?_push_of_some _ h⟩
    have dn : d ≠ s.heap.objs.size := Nat.ne_of_lt dl
    exact {
      sub := fun b hb => by
        have e : b = s.heap.objs.size := by simpa using hb
        rw [e]
        simp
      frame := fun i h h' st k => ⟨st.1.at fun o e => k _ (by simp) o e, k _ (by simp) _ st.2⟩
      item := fun i s' Q E hi st q => by
        refine keyNext_item st.1 st.2 hx hdat (Array.getElem?_eq_getElem hi) fun h' st' sb => q _ h' s'.toks ⟨_, Array.getElem?_eq_getElem hi, rfl⟩ ⟨st', (sb.2 d dn).trans st.2⟩ fun b o hb e => ?_
        exact (sb.2 b (by simpa using hb)).trans e
      done := fun s' Q E st q => by
        refine keyNext_end hA st.1 st.2 hx hdat fun h' eb => q h' s'.toks fun b o hb e => ?_
        exact eb b o (by simpa using hb) e
      self := fun i s' Q E st q => wpAny_pyIter_keyiter st.1 q }
end L2
set_option maxRecDepth 100000
namespace L2
open PySem PySem.Spec PyProof.Rows XL PySem.W
variable {q0 : Bool}
def kLess : Key → Key → Bool
  | .inl a, .inl b => decide (a < b)
  | .inr a, .inr b => decide (a.cps.toList < b.cps.toList)
  | _, _ => false
def lexK : List Key → List Key → Bool
  | [], [] => false
  | [], _ :: _ => true
  | _ :: _, [] => false
  | x :: xs, y :: ys => if x = y then lexK xs ys else kLess x y
abbrev shp (k : List Key) : List Bool := k.map Sum.isLeft
theorem str_cps {a b : Str} (h : a.cps.toList = b.cps.toList) : a = b := by
  cases a
  cases b
  simp at h
  rw [h]
theorem kLess_irr (x : Key) : kLess x x = false := by
  cases x with
  | inl a => simp [kLess]
  | inr a => exact PyProof.Rows.strKind.irrefl a.cps.toList
theorem kLess_tr {x y z : Key} (h1 : kLess x y = true) (h2 : kLess y z = true) : kLess x z = true := by
  cases x <;> cases y <;> cases z <;> simp only [kLess, Bool.false_eq_true] at h1 h2
  · have a := of_decide_eq_true h1
    have b := of_decide_eq_true h2
    exact decide_eq_true (Int.lt_trans a b)
  · exact PyProof.Rows.strKind.trans _ _ _ h1 h2
theorem kLess_tot {x y : Key} (hs : x.isLeft = y.isLeft) (ne : x ≠ y) (h : kLess x y = false) : kLess y x = true := by
  cases x with
  | inl a =>
    cases y with
    | inl b =>
      have h' : ¬ a < b := of_decide_eq_false h
      have n' : a ≠ b := fun e => ne (by rw [e])
      exact decide_eq_true (show b < a by omega)
    | inr b => cases hs
  | inr a =>
    cases y with
    | inl b => cases hs
    | inr b =>
      cases e : kLess (.inr b) (.inr a) with
      | true => rfl
      | false => exact absurd (by rw [str_cps (PyProof.Rows.strKind.total _ _ h e)]) ne
theorem lexK_irr : ∀ x : List Key, lexK x x = false
  | [] => rfl
  | x :: xs => by
    unfold lexK
    rw [if_pos rfl]
    exact lexK_irr xs
theorem lexK_tr : ∀ {x y z : List Key}, shp x = shp y → shp y = shp z → lexK x y = true → lexK y z = true → lexK x z = true
  | [], [], _, _, _, h, _ => by cases h
  | [], _ :: _, _, h, _, _, _ => by cases h
  | _ :: _, [], _, h, _, _, _ => by cases h
  | _ :: _, _ :: _, [], _, h, _, _ => by cases h
  | x :: xs, y :: ys, z :: zs, h1, h2, h3, h4 => by
    simp only [shp, List.map_cons, List.cons.injEq] at h1 h2
    unfold lexK at h3 h4 ⊢
    by_cases xy : x = y
    · subst xy
      rw [if_pos rfl] at h3
      by_cases yz : x = z
      · rw [if_pos yz] at h4 ⊢
        exact lexK_tr h1.2 h2.2 h3 h4
      · rw [if_neg yz] at h4 ⊢
        exact h4
    · rw [if_neg xy] at h3
      by_cases yz : y = z
      · subst yz
        rw [if_neg xy]
        exact h3
      · rw [if_neg yz] at h4
        have h5 := kLess_tr h3 h4
        rw [if_neg (fun e => by rw [e, kLess_irr] at h5; cases h5)]
        exact h5
theorem lexK_tot : ∀ {x y : List Key}, shp x = shp y → x ≠ y → lexK x y = false → lexK y x = true
  | [], [], _, h, _ => absurd rfl h
  | [], _ :: _, h, _, _ => by cases h
  | _ :: _, [], h, _, _ => by cases h
  | x :: xs, y :: ys, h1, h2, h3 => by
    simp only [shp, List.map_cons, List.cons.injEq] at h1
    unfold lexK at h3 ⊢
    by_cases xy : x = y
    · subst xy
      rw [if_pos rfl] at h3 ⊢
      exact lexK_tot h1.2 (fun e => h2 (by rw [e])) h3
    · rw [if_neg xy] at h3
      rw [if_neg (fun e => xy e.symm)]
      exact kLess_tot h1.1 xy h3
theorem lex_wp {prog : Program} {w : World} {A : Around} {s : Shared} {b : Bool} {Q : Bool → Shared → Prop} : ∀ (xs ys : List Key) (us vs : List Value) (i : Nat), shp xs = shp ys → Vals (xs.map kV) us → Vals (ys.map kV) vs → Q (lexK xs ys) s → KatLex prog w A b false Q (us.zip vs) i s
  | [], [], _, _, i, _, .nil, .nil, q => kat_nil q
  | [], _ :: _, _, _, _, h, _, _, _ => by cases h
  | _ :: _, [], _, _, _, h, _, _, _ => by cases h
  | x :: xs, y :: ys, _, _, i, h, .cons ru r, .cons rv r', q => by
    simp only [shp, List.map_cons, List.cons.injEq] at h
    unfold lexK at q
    cases x with
    | inl a =>
      cases y with
      | inr c => cases h.1
      | inl c =>
        obtain ⟨t, rfl⟩ := ru
        obtain ⟨t', rfl⟩ := rv
        refine kat_cons (wpAny_eqBool_int ?_)
        unfold KatGo
        by_cases e : a = c
        · subst e
          rw [if_pos rfl] at q
          rw [if_pos (by simp)]
          exact lex_wp xs ys _ _ (i + 1) h.2 r r' q
        · rw [if_neg (fun z => e (Sum.inl.inj z))] at q
          rw [if_neg (by simpa using e)]
          cases (b && i == 0) with
          | true => exact oneLt_int q
          | false => exact kat_one _ _ (lt_int q)
    | inr a =>
      cases y with
      | inl c => cases h.1
      | inr c =>
        obtain ⟨t, rfl⟩ := ru
        obtain ⟨t', rfl⟩ := rv
        refine kat_cons (wpAny_eqBool_str ?_)
        unfold KatGo
        by_cases e : a = c
        · subst e
          rw [if_pos rfl] at q
          rw [if_pos (by simp)]
          exact lex_wp xs ys _ _ (i + 1) h.2 r r' q
        · rw [if_neg (fun z => e (Sum.inr.inj z))] at q
          rw [if_neg (by simpa using e)]
          cases (b && i == 0) with
          | true => exact oneLt_str q
          | false => exact kat_one _ _ (lt_str q)
theorem list_sort_few {prog : Program} {w : World} {A : Around} {E : Value → Shared → Prop} {s : Shared} {a : Addr} {vs : List Value} {n : Nat} {P : PySem.Fin → Shared → Prop}
    (h : s.heap.get? a = some (seqObj "list" vs.toArray n)) (h2 : vs.length < 2) (q' : P (.done (.ret .none)) { s with heap := sortedHeap s.heap a vs vs.toArray }) :
    wpAny (model prog w) A (Builtin.«list.sort» { pos := [.ref a] }) P E s := by
  obtain ⟨hp, g, d, tk, os⟩ := s
  rcases vs with _ | ⟨v, _ | ⟨v', r⟩⟩
  · rw [list_sort_plain]
    repeat (any_goals (first | assumption | wp_step))
    show wpAny _ _ (pure (PUnit.unit, SortSt.mk' general' ((#[] : Array Value).zip #[]) #[] 7 none)) _ _ _
    refine wpAny_pure ?_
    have e3 : Array.map (fun x => x.snd) (arrOf (SortSt.mk' general' ((#[] : Array Value).zip #[]) #[] 7 none)) = #[] := by
      show Array.map (fun x => x.snd) ((#[] : Array Value).zip #[]) = #[]
      simp
    simp only [e3]
    have g1 : (((hp.update a (Obj.mapSeq fun x => #[])).push (seqObj "tuple" #[] 0)).push (seqObj "list" #[] 0)).get? a = some (seqObj "list" #[] (n)) := by
      refine Heap.get?_push_of_some _ (Heap.get?_push_of_some _ ?_)
      rw [Heap.get?_update_self _ h rfl]
      rfl
    show wpAny _ _ (seqEpoch a >>= _) _ _ _
    repeat (any_goals (first | assumption | wp_step))
  · rw [list_sort_plain]
    repeat (any_goals (first | assumption | wp_step))
    show wpAny _ _ (pure (PUnit.unit, SortSt.mk' general' ((#[v] : Array Value).zip #[v]) #[] 7 none)) _ _ _
    refine wpAny_pure ?_
    have e3 : Array.map (fun x => x.snd) (arrOf (SortSt.mk' general' ((#[v] : Array Value).zip #[v]) #[] 7 none)) = #[v] := by
      show Array.map (fun x => x.snd) ((#[v] : Array Value).zip #[v]) = #[v]
      simp
    simp only [e3]
    have g1 : (((hp.update a (Obj.mapSeq fun x => #[])).push (seqObj "tuple" #[v] 0)).push (seqObj "list" #[] 0)).get? a = some (seqObj "list" #[] (n + 1)) := by
      refine Heap.get?_push_of_some _ (Heap.get?_push_of_some _ ?_)
      rw [Heap.get?_update_self _ h rfl]
      rfl
    show wpAny _ _ (seqEpoch a >>= _) _ _ _
    repeat (any_goals (first | assumption | wp_step))
  · simp at h2
    omega
theorem vals_refs {α : Type} (f : α → Addr) : ∀ (es : List α), Vals (es.map fun x => V.ref (f x)) (es.map fun x => Value.ref (f x))
  | [] => .nil
  | x :: r => .cons rfl (vals_refs f r)
theorem kt_mem {H : Hp} {kvs : List (List Key × V)} {es : List (List Key × Addr × Value)} (h : KT H kvs es) : (∀ x ∈ es, H x.2.1 = some (.tup (x.1.map kV))) ∧ es.map (·.1) = kvs.map (·.1) := by
  induction h with
  | nil => exact ⟨(fun _ z => nomatch z), rfl⟩
  | @cons p x kvs es hp r ih =>
    obtain ⟨e1, e2, _⟩ := hp
    refine ⟨fun y hy => ?_, by rw [List.map_cons, List.map_cons, ih.2, e1]⟩
    rcases List.mem_cons.mp hy with rfl | z
    · rw [← e1]
      exact e2
    · exact ih.1 y z
theorem kat_of {P : Program} {w : World} {H : Hp} {h : Heap} (ok : HOk P w H h) {b : Bool} {sh : List Bool} : ∀ (es : List (List Key × Addr × Value)), (∀ x ∈ es, H x.2.1 = some (.tup (x.1.map kV))) → (∀ x ∈ es, shp x.1 = b :: sh) →
    ∃ fs, KatTups h (es.map fun x => Value.ref x.2.1) fs ∧ fs.length = es.length ∧ ∀ v ∈ fs, if b = true then ∃ i t, v = Value.int i t else ∃ i t, v = Value.str i t
  | [], _, _ => ⟨[], KatTups.nil, rfl, fun _ z => nomatch z⟩
  | x :: es, h1, h2 => by
    obtain ⟨fs, k, l, m⟩ := kat_of ok es (fun y hy => h1 y (List.mem_cons_of_mem _ hy)) (fun y hy => h2 y (List.mem_cons_of_mem _ hy))
    obtain ⟨z2, ts, rt, ot, et, ct, nt, dt⟩ := ok x.2.1 _ (h1 x List.mem_cons_self)
    have s1 := h2 x List.mem_cons_self
    obtain ⟨k1, a1, v1⟩ := x
    cases k1 with
    | nil => cases s1
    | cons k0 kr =>
      simp only [shp, List.map_cons, List.cons.injEq] at s1
      simp only [List.map_cons] at rt
      cases rt with
      | @cons _ u _ us ru rr =>
        refine ⟨u :: fs, KatTups.cons et ct dt (by simp) k, by simp [l], fun v hv => ?_⟩
        rcases List.mem_cons.mp hv with rfl | hv'
        · cases k0 with
          | inl i =>
            obtain ⟨t, rfl⟩ := ru
            rw [if_pos (show b = true from s1.1.symm)]
            exact ⟨i, t, rfl⟩
          | inr i =>
            obtain ⟨t, rfl⟩ := ru
            rw [if_neg (show ¬ b = true by rw [← s1.1]; simp)]
            exact ⟨i, t, rfl⟩
        · exact m v hv'
theorem sort_core {X : Cx} {pins : List (Addr × Obj)} {σ : St} {H : Hp} {s : Shared} {h1 : Heap} {tk : Nat} {Q : VK} {sh : List Bool} (es' : List (List Key × Addr × Value)) (I1 : Inv X pins σ H { s with heap := h1, toks := tk })
    (hl : es'.length < 64) (km : ∀ x ∈ es', H x.2.1 = some (.tup (x.1.map kV))) (shE : ∀ x ∈ es', shp x.1 = sh) (hpos : 0 < sh.length) (hnd : (List.map (fun x => x.fst) es').Nodup)
    (q : ∀ (l : Addr) (ts : List (List Key × Addr)), H l = none → ts.Perm (es'.map fun x => (x.1, x.2.1)) → (ts.map (·.1)).Pairwise (fun x y => lexK x y = true) → Q (.ref l) (upd H l (.lst (ts.map fun t => .ref t.2)))) :
    wpAny (model X.prog X.w) X.A.in1 (newList (es'.map fun x => Value.ref x.2.1) >>= fun l => holding [l] (call (.builtin "list.sort") [l] []) >>= fun _ => ret l) (fun fin s' => ∃ v, fin = Fin.done (Flow.ret v) ∧ EP X pins σ Q v s') X.xe { s with heap := h1, toks := tk } := by
  have hz : es'.length ≤ sizeLine := Nat.le_of_lt (Nat.lt_trans hl (by decide))
  have vals : Vals (es'.map fun x => V.ref x.2.1) (es'.map fun x => Value.ref x.2.1) := vals_refs (fun x => x.2.1) es'
  have I2 := I1.lnew (t' := tk) vals (by rw [List.length_map]; exact hz)
  refine wpAny_bind (wpAny_newList ?_ (by rw [List.length_map]; exact hz))
  have fr : H h1.objs.size = none := I1.fresh
  have gl : (h1.push { cls := .type "list", data := .seq (es'.map fun x => Value.ref x.2.1).toArray }).get? h1.objs.size = some (seqObj "list" (es'.map fun x => Value.ref x.2.1).toArray 0) := Heap.get?_push_size _ rfl
  refine wpAny_bind (wpAny_holding (wpAny_call_entry slot_list_sort ⟨_, gl, rfl⟩ entry_list_sort ?_ (args_list_sort _)))
  have J1 := I2.lset (l := h1.objs.size) (its := es'.map fun x => Value.ref x.2.1) (its' := []) (ys := []) (f := fun _ => #[]) (t' := tk) upd_same gl rfl .nil (Nat.zero_le _)
  have J2 := J1.kept (t' := tk) (h' := (((h1.push { cls := .type "list", data := .seq (es'.map fun x => Value.ref x.2.1).toArray }).update h1.objs.size (Obj.mapSeq fun _ => #[])).push (seqObj "tuple" (es'.map fun x => Value.ref x.2.1).toArray 0)).push (seqObj "list" #[] 0)) fun b u e => Heap.get?_push_of_some _ (Heap.get?_push_of_some _ e)
  obtain ⟨z9, its9, n9, r9, hl9, e9⟩ := J2.lstM upd_same
  have done : ∀ (ts : List (List Key × Addr)), ts.Perm (es'.map fun x => (x.1, x.2.1)) → (ts.map (·.1)).Pairwise (fun x y => lexK x y = true) →
      EP X pins σ Q (.ref h1.objs.size) { s with heap := sortedHeap (h1.push { cls := .type "list", data := .seq (es'.map fun x => Value.ref x.2.1).toArray }) h1.objs.size (es'.map fun x => Value.ref x.2.1) (ts.map fun t => Value.ref t.2).toArray, toks := tk } := by
    intro ts pm pw
    have tl : ts.length = es'.length := by rw [pm.length_eq, List.length_map]
    have J3 := J2.lset (l := h1.objs.size) (its := its9) (its' := ts.map fun t => Value.ref t.2) (ys := ts.map fun t => V.ref t.2) (f := fun _ => (ts.map fun t => Value.ref t.2).toArray) (t' := tk) upd_same e9 rfl (vals_refs (fun t => t.2) ts) (by rw [List.length_map, tl]; exact hz)
    rw [upd_upd, upd_upd] at J3
    exact ⟨.ref h1.objs.size, _, J3, rfl, q _ ts fr pm pw⟩
  by_cases few : es'.length < 2
  · refine list_sort_few gl (by rw [List.length_map]; exact few) ⟨_, rfl, wpAny_pure ⟨_, rfl, ?_⟩⟩
    have := done (es'.map fun x => (x.1, x.2.1)) (List.Perm.refl _) ?_
    · rw [List.map_map] at this
      exact this
    · match es', few with
      | [], _ => exact .nil
      | [x], _ => exact List.pairwise_singleton _ _
      | _ :: _ :: _, h => exact absurd h (by simp)
  · refine list_sort_tups gl (by rw [List.length_map]; omega) (by rw [List.length_map]; exact hl) fun s' es1 es2 => ?_
    obtain ⟨b, sh0, rfl⟩ : ∃ b sh0, sh = b :: sh0 := by
      cases sh with
      | nil => simp at hpos
      | cons b r => exact ⟨b, r, rfl⟩
    rw [es1] at es2
    subst es2
    have km2 : ∀ x ∈ es', upd (upd H h1.objs.size (.lst (es'.map fun x => V.ref x.2.1))) h1.objs.size (.lst []) x.2.1 = some (.tup (x.1.map kV)) := fun x hx => by
      rw [upd_ne (ne_of_none (km x hx) fr), upd_ne (ne_of_none (km x hx) fr)]
      exact km x hx
    obtain ⟨fs, kt, fl, fm⟩ := kat_of J2.hok es' km2 shE
    have few' : 2 ≤ es'.length := by omega
    refine kat_kind (T := if b = true then .type "int" else .type "str") kt (by omega) (fun v hv => ?_) (by cases b <;> rfl) ⟨rfl, ?_⟩
    · have z := fm v hv
      cases b with
      | true =>
        obtain ⟨i, t, rfl⟩ := z
        exact fun A Q E s _ q => wpAny_typeOf (T := "int") rfl q
      | false =>
        obtain ⟨i, t, rfl⟩ := z
        exact fun A Q E s _ q => wpAny_typeOf (T := "str") rfl q
    rw [List.length_map]
    have eAt : ∀ i, i < es'.length → es'[i]? = some (es'.getD i ([], 0, .none)) := fun i hi => by
      rw [List.getD_eq_getElem?_getD, List.getElem?_eq_getElem hi]
      rfl
    have eM : ∀ i, i < es'.length → es'.getD i ([], 0, .none) ∈ es' := fun i hi => List.mem_of_getElem? (eAt i hi)
    have vAt : ∀ i, i < es'.length → (es'.map fun x => Value.ref x.2.1).getD i .none = .ref (es'.getD i ([], 0, .none)).2.1 := fun i hi => by
      rw [List.getD_eq_getElem?_getD, List.getElem?_map, eAt i hi]
      rfl
    have shI : ∀ i j, i < es'.length → j < es'.length → shp (es'.getD i ([], 0, .none)).1 = shp (es'.getD j ([], 0, .none)).1 := fun i j hi hj => by rw [shE _ (eM i hi), shE _ (eM j hj)]
    refine Srt.sort_wp (lt := fun i j => lexK (es'.getD i ([], 0, .none)).1 (es'.getD j ([], 0, .none)).1) ⟨fun i hi => lexK_irr _, fun i j k hi hj hk => lexK_tr (shI i j hi hj) (shI j k hj hk), fun i j hi hj ne => lexK_tot (shI i j hi hj) fun e => ne ?_⟩ (fun i j hi hj Q' q' => ?_) few' fun p arr srt => ⟨rfl, _, rfl, wpAny_pure ⟨_, rfl, ?_⟩⟩
    · have e1 : (es'.map (·.1))[i]? = (es'.map (·.1))[j]? := by rw [List.getElem?_map, List.getElem?_map, eAt i hi, eAt j hj]; exact congrArg some e
      exact (List.getElem?_inj (by rw [List.length_map]; exact hi) hnd).mp e1
    · show wpAny _ _ (keyLt' _ ((es'.map fun x => Value.ref x.2.1).getD i .none) ((es'.map fun x => Value.ref x.2.1).getD j .none)) _ _ _
      rw [vAt i hi, vAt j hj]
      obtain ⟨_, ti, ri, oi, ei, _, ni, di⟩ := J2.hok _ _ (km2 _ (eM i hi))
      obtain ⟨_, tj, rj, oj, ej, _, nj, dj⟩ := J2.hok _ _ (km2 _ (eM j hj))
      have l1 := Vals.length ri
      have l2 := Vals.length rj
      have l3 := congrArg List.length (shI i j hi hj)
      simp only [List.length_map] at l1 l2 l3
      refine kat_lt ei di ej dj ?_
      rw [decide_eq_false (by simp; omega)]
      exact lex_wp _ _ _ _ 0 (shI i j hi hj) ri rj q'
    have pl : ∀ i ∈ p.toList, i < es'.length := fun i hi => by
      have := (Array.Perm.mem_iff arr.pm).mp (Array.mem_toList_iff.mp hi)
      simpa using this
    have := done (p.toList.map fun i => ((es'.getD i ([], 0, .none)).1, (es'.getD i ([], 0, .none)).2.1)) ?_ ?_
    · rw [List.map_map] at this
      have e2 : (p.map fun i => (es'.map fun x => Value.ref x.2.1).getD i .none) = (p.toList.map ((fun t : List Key × Addr => Value.ref t.2) ∘ fun i => ((es'.getD i ([], 0, .none)).1, (es'.getD i ([], 0, .none)).2.1))).toArray := by
        rw [← Array.toList_inj, Array.toList_map]
        exact List.map_congr_left fun i hi => vAt i (pl i hi)
      rw [e2]
      exact this
    · have e3 : (es'.map fun x => (x.1, x.2.1)) = (List.range es'.length).map fun i => ((es'.getD i ([], 0, .none)).1, (es'.getD i ([], 0, .none)).2.1) := by
        refine List.ext_getElem? fun i => ?_
        by_cases c : i < es'.length
        · rw [List.getElem?_map, eAt i c, List.getElem?_map, List.getElem?_range c]
          rfl
        · rw [List.getElem?_eq_none (by rw [List.length_map]; omega), List.getElem?_eq_none (by simp; omega)]
      rw [e3]
      refine List.Perm.map _ ?_
      have := Array.Perm.toList arr.pm
      simpa using this
    · rw [List.map_map, List.pairwise_map, List.pairwise_iff_getElem]
      intro i j hi hj hij
      have z := srt i j hij (by rw [← arr.sz]; simpa using hj)
      have gi : Srt.g p i = p.toList[i] := Srt.g_at (by rw [← Array.getElem?_toList]; exact List.getElem?_eq_getElem hi)
      have gj : Srt.g p j = p.toList[j] := Srt.g_at (by rw [← Array.getElem?_toList]; exact List.getElem?_eq_getElem hj)
      rw [gi, gj] at z
      exact z
def rSortedD : List V → Hp → VK → Prop := fun xs H Q => ∃ (d : Addr) (kvs : List (List Key × V)) (sh : List Bool), xs = [.ref d] ∧ H d = some (.dT kvs) ∧ kvs.length < 64 ∧ (∀ p ∈ kvs, shp p.1 = sh) ∧ 0 < sh.length ∧
  ∀ (l : Addr) (ts : List (List Key × Addr)), H l = none → (∀ t ∈ ts, H t.2 = some (.tup (t.1.map kV))) → (ts.map (·.1)).Perm (kvs.map (·.1)) → (ts.map (·.1)).Pairwise (fun x y => lexK x y = true) → Q (.ref l) (upd H l (.lst (ts.map fun t => .ref t.2)))
theorem call_sortedD {X : Cx} (hc : X.calm = true) : CallR X (.builtin "sorted") rSortedD := by
  intro pins s σ H xs us Q I r h
  obtain ⟨d, kvs, sh, rfl, hd, hl, hsh, hpos, q⟩ := h
  obtain ⟨u, rfl, ru⟩ := vals1 r
  obtain rfl : u = Value.ref d := ru
  obtain ⟨z, hsys, es', rel, dd⟩ := dt_of I.hok hd
  obtain ⟨o, es, ep, ho, hx, hdat, hes, hkk, hnd⟩ := dd
  have ln := Paired.length rel
  have esz : es.size = es'.length := by rw [← Array.length_toList, hes, List.length_map]
  refine Calls.call_function_entry kind_sorted plain_sorted entry_sorted (args_sorted1 _) ?_
  unfold Builtin.sorted
  refine wpAny_bind (wpAny_pure ?_)
  show wpAny _ _ (collect (.ref d) >>= _) _ _ _
  refine wpAny_bind (kdu_collect (kdl_raw hsys hx hdat) (I.ok.hd hc) ho (by rw [esz, ← ln]; exact z) fun h1 tk acc keep items => ?_)
  have acl : acc.toList = es'.map fun x => Value.ref x.2.1 := by
    refine List.ext_getElem? fun j => ?_
    obtain ⟨i1, i2⟩ := items
    by_cases c : j < es'.length
    · have c' : j < acc.size := by rw [i1, esz]; exact c
      have e : acc[j]? = some acc[j] := Array.getElem?_eq_getElem c'
      obtain ⟨en, he, hv⟩ := i2 j acc[j] e
      rw [Array.getElem?_toList, e, hv]
      have he' : es.toList[j]? = some en := by rw [Array.getElem?_toList]; exact he
      rw [hes, List.getElem?_map, List.getElem?_eq_getElem c] at he'
      rw [List.getElem?_map, List.getElem?_eq_getElem c]
      have := Option.some.inj he'
      rw [← this]
      rfl
    · rw [List.getElem?_eq_none (by rw [Array.length_toList, i1, esz]; omega), List.getElem?_eq_none (by rw [List.length_map]; omega)]
  rw [acl]
  have I1 : Inv X pins σ H { s with heap := h1, toks := tk } := I.kept keep
  obtain ⟨km, ke⟩ := kt_mem rel
  have shE : ∀ x ∈ es', shp x.1 = sh := fun x hx => by
    have m : x.1 ∈ kvs.map (·.1) := by rw [← ke]; exact List.mem_map.mpr ⟨x, hx, rfl⟩
    obtain ⟨p, hp, e⟩ := List.mem_map.mp m
    rw [← e]
    exact hsh p hp
  refine sort_core es' I1 (by rw [← ln]; exact hl) km shE hpos hnd fun l ts fr pm pw => q l ts fr (fun t ht => ?_) ?_ pw
  · obtain ⟨x, hx, rfl⟩ := List.mem_map.mp (pm.mem_iff.mp ht)
    exact km x hx
  · have := pm.map (·.1)
    rw [List.map_map] at this
    rw [← ke]
    exact this
end L2
set_option maxRecDepth 100000
namespace L2
open PySem PySem.Spec PyProof.Rows XL PySem.W
variable {q0 : Bool}
theorem valV_ix {κ : Type} [DecidableEq κ] : ∀ {kvs : List (κ × V)} {k : κ} {v : V}, valV kvs k = some v → ∃ i : Nat, kvs[i]? = some (k, v)
  | [], k, v, h => by cases h
  | p :: r, k, v, h => by
    by_cases e : p.1 = k
    · rw [valV_pos e] at h
      cases h
      exact ⟨0, by simp [← e]⟩
    · rw [valV_neg e] at h
      obtain ⟨i, hi⟩ := valV_ix h
      exact ⟨i + 1, by simpa using hi⟩
section
variable {X : Cx} {o e : Expr} {td ty : TE} {apos cpos : Pos}
end
end L2
set_option maxRecDepth 100000
namespace L2
open PySem PySem.Spec PyProof.Rows XL PySem.W
variable {q0 : Bool}
end L2
set_option maxRecDepth 100000
set_option maxHeartbeats 1000000
namespace L2
open PySem PySem.Spec PyProof.Rows XL PySem.W
inductive DV where
  | non
  | bl (b : Bool)
  | int (i : Int)
  | str (x : Str)
  | tup (xs : List DV)
  | lst (xs : List DV)
mutual
def dEq : DV → DV → Bool
  | .non, .non => true
  | .bl a, .bl b => a == b
  | .bl a, .int b => (if a then 1 else 0) == b
  | .int a, .bl b => a == (if b then 1 else 0)
  | .int a, .int b => a == b
  | .str a, .str b => a == b
  | .tup xs, .tup ys => dEqs xs ys
  | .lst xs, .lst ys => dEqs xs ys
  | _, _ => false
def dEqs : List DV → List DV → Bool
  | [], [] => true
  | x :: xs, y :: ys => dEq x y && dEqs xs ys
  | _, _ => false
end
mutual
theorem dEq_refl : ∀ d, dEq d d = true
  | .non => rfl
  | .bl _ => by simp [dEq]
  | .int _ => by simp [dEq]
  | .str _ => by simp [dEq]
  | .tup xs => by simp only [dEq]; exact dEqs_refl xs
  | .lst xs => by simp only [dEq]; exact dEqs_refl xs
theorem dEqs_refl : ∀ xs, dEqs xs xs = true
  | [] => rfl
  | x :: xs => by simp only [dEqs, Bool.and_eq_true]; exact ⟨dEq_refl x, dEqs_refl xs⟩
end
mutual
def DV.pl : DV → Bool
  | .bl _ => false
  | .tup xs => pls xs
  | .lst xs => pls xs
  | _ => true
def pls : List DV → Bool
  | [] => true
  | x :: xs => x.pl && pls xs
end
mutual
theorem dEq_eq : ∀ {d e : DV}, d.pl = true → e.pl = true → dEq d e = true → d = e
  | .non, .non, _, _, _ => rfl
  | .int a, .int b, _, _, h => by simp only [dEq, beq_iff_eq] at h; rw [h]
  | .str a, .str b, _, _, h => by simp only [dEq, beq_iff_eq] at h; rw [h]
  | .tup xs, .tup ys, p, q, h => by
    simp only [dEq] at h
    simp only [DV.pl] at p q
    rw [dEqs_eq p q h]
  | .lst xs, .lst ys, p, q, h => by
    simp only [dEq] at h
    simp only [DV.pl] at p q
    rw [dEqs_eq p q h]
  | .bl _, _, p, _, _ => by simp [DV.pl] at p
  | .non, .bl _, _, q, _ => by simp [DV.pl] at q
  | .int _, .bl _, _, q, _ => by simp [DV.pl] at q
  | .str _, .bl _, _, q, _ => by simp [DV.pl] at q
  | .tup _, .bl _, _, q, _ => by simp [DV.pl] at q
  | .lst _, .bl _, _, q, _ => by simp [DV.pl] at q
  | .non, .int _, _, _, h => by simp [dEq] at h
  | .non, .str _, _, _, h => by simp [dEq] at h
  | .non, .tup _, _, _, h => by simp [dEq] at h
  | .non, .lst _, _, _, h => by simp [dEq] at h
  | .int _, .non, _, _, h => by simp [dEq] at h
  | .int _, .str _, _, _, h => by simp [dEq] at h
  | .int _, .tup _, _, _, h => by simp [dEq] at h
  | .int _, .lst _, _, _, h => by simp [dEq] at h
  | .str _, .non, _, _, h => by simp [dEq] at h
  | .str _, .int _, _, _, h => by simp [dEq] at h
  | .str _, .tup _, _, _, h => by simp [dEq] at h
  | .str _, .lst _, _, _, h => by simp [dEq] at h
  | .tup _, .non, _, _, h => by simp [dEq] at h
  | .tup _, .int _, _, _, h => by simp [dEq] at h
  | .tup _, .str _, _, _, h => by simp [dEq] at h
  | .tup _, .lst _, _, _, h => by simp [dEq] at h
  | .lst _, .non, _, _, h => by simp [dEq] at h
  | .lst _, .int _, _, _, h => by simp [dEq] at h
  | .lst _, .str _, _, _, h => by simp [dEq] at h
  | .lst _, .tup _, _, _, h => by simp [dEq] at h
theorem dEqs_eq : ∀ {xs ys : List DV}, pls xs = true → pls ys = true → dEqs xs ys = true → xs = ys
  | [], [], _, _, _ => rfl
  | x :: xs, y :: ys, p, q, h => by
    simp only [pls, Bool.and_eq_true] at p q
    simp only [dEqs, Bool.and_eq_true] at h
    rw [dEq_eq p.1 q.1 h.1, dEqs_eq p.2 q.2 h.2]
  | [], _ :: _, _, _, h => by simp [dEqs] at h
  | _ :: _, [], _, _, h => by simp [dEqs] at h
end
theorem dEq_dec {d e : DV} {α : Type} {x y : α} [DecidableEq α] (p : d.pl = true) (q : e.pl = true) (f : d = e ↔ x = y) : dEq d e = decide (x = y) := by
  by_cases c : x = y
  · rw [decide_eq_true c, f.mpr c]
    exact dEq_refl _
  · rw [decide_eq_false c]
    cases z : dEq d e with
    | false => rfl
    | true => exact absurd (f.mp (dEq_eq p q z)) c
theorem dEqs_all : ∀ {xs ys : List DV} {e : Nat → Bool}, (∀ (j : Nat) (x y : DV), xs[j]? = some x → ys[j]? = some y → e j = dEq x y) → ((List.range (min xs.length ys.length)).all e && xs.length == ys.length) = dEqs xs ys
  | [], [], _, _ => rfl
  | [], _ :: _, _, _ => by simp [dEqs]
  | _ :: _, [], _, _ => by simp [dEqs]
  | x :: xs, y :: ys, e, h => by
    have ih := dEqs_all (xs := xs) (ys := ys) (e := fun j => e (j + 1)) (fun j a b ha hb => h (j + 1) a b (by simpa using ha) (by simpa using hb))
    have h0 := h 0 x y rfl rfl
    rw [List.length_cons, List.length_cons, show min (xs.length + 1) (ys.length + 1) = min xs.length ys.length + 1 by omega, List.range_succ_eq_map, List.all_cons, List.all_map]
    show _ = (dEq x y && dEqs xs ys)
    rw [← ih, h0]
    have z : ((xs.length + 1 == ys.length + 1) : Bool) = (xs.length == ys.length) := by
      rw [Bool.eq_iff_iff]
      simp
    rw [z, Bool.and_assoc]
    rfl
theorem dEqs_len : ∀ {xs ys : List DV}, xs.length ≠ ys.length → dEqs xs ys = false
  | [], [], h => absurd rfl h
  | [], _ :: _, _ => rfl
  | _ :: _, [], _ => rfl
  | x :: xs, y :: ys, h => by
    show (dEq x y && dEqs xs ys) = false
    rw [dEqs_len (xs := xs) (ys := ys) (fun z => h (by simp [z]))]
    exact Bool.and_false _
inductive Dv (K : PySem.W.Frag) (H : Hp) : Nat → V → DV → Prop
  | non {n : Nat} : Dv K H n .non .non
  | bl {n : Nat} {b : Bool} : Dv K H n (.bl b) (.bl b)
  | int {n : Nat} {b : Int} : Dv K H n (.int b) (.int b)
  | str {n : Nat} {b : Str} : Dv K H n (.str b) (.str b)
  | tup {n : Nat} {a : Addr} {xs : List V} {ds : List DV} (ha : SqT K H a xs) (hl : xs.length = ds.length) (h : ∀ (j : Nat) (x : V) (d : DV), xs[j]? = some x → ds[j]? = some d → Dv K H n x d) : Dv K H (n + 1) (.ref a) (.tup ds)
  | lst {n : Nat} {a : Addr} {xs : List V} {ds : List DV} (ha : SqL K H a xs) (hl : xs.length = ds.length) (h : ∀ (j : Nat) (x : V) (d : DV), xs[j]? = some x → ds[j]? = some d → Dv K H n x d) : Dv K H (n + 1) (.ref a) (.lst ds)
section
variable {X : Cx} {pins : List (Addr × Obj)} {σ : St} {H : Hp} {s : Shared}
theorem two_kinds {h : Heap} {a : Addr} {i j : Array Value} (p : h.IsTuple a i) (q : PlainL h a j) : False := by
  obtain ⟨o, e, c, _⟩ := p
  obtain ⟨o', n, e', c', _⟩ := q
  rw [e] at e'
  cases e'
  rw [c] at c'
  exact absurd c' (by decide)
theorem ext_of {xs ys : List DV} (h : xs.length = ys.length) (f : ∀ (j : Nat) (x y : DV), xs[j]? = some x → ys[j]? = some y → x = y) : xs = ys := by
  refine List.ext_getElem? fun j => ?_
  by_cases c : j < xs.length
  · rw [List.getElem?_eq_getElem c, List.getElem?_eq_getElem (by omega), f j _ _ (List.getElem?_eq_getElem c) (List.getElem?_eq_getElem (by omega))]
  · rw [List.getElem?_eq_none (by omega), List.getElem?_eq_none (by omega)]
theorem dv_fun (I : Inv X pins σ H s) {n : Nat} {x : V} {d : DV} (h : Dv X.K H n x d) : ∀ {m : Nat} {e : DV}, Dv X.K H m x e → d = e := by
  induction h with
  | non => intro m e h; cases h; rfl
  | bl => intro m e h; cases h; rfl
  | int => intro m e h; cases h; rfl
  | str => intro m e h; cases h; rfl
  | @tup n a xs ds ha hl h ih =>
    intro m e h2
    cases h2 with
    | @tup m _ ys es hb kl k =>
      obtain rfl := I.tuple_inj ha hb
      refine congrArg DV.tup (ext_of (by omega) fun j d e h1 h2 => ?_)
      have lt : j < xs.length := by
        have := (List.getElem?_eq_some_iff.mp h1).1
        omega
      exact ih j xs[j] d (List.getElem?_eq_getElem lt) h1 (k j xs[j] e (List.getElem?_eq_getElem lt) h2)
    | @lst m _ ys es hb kl k =>
      obtain ⟨its, _, t1, _⟩ := I.tuple ha
      obtain ⟨its2, _, t2, _⟩ := I.list hb
      exact (two_kinds t1 t2).elim
  | @lst n a xs ds ha hl h ih =>
    intro m e h2
    cases h2 with
    | @lst m _ ys es hb kl k =>
      obtain rfl := I.list_inj ha hb
      refine congrArg DV.lst (ext_of (by omega) fun j d e h1 h2 => ?_)
      have lt : j < xs.length := by
        have := (List.getElem?_eq_some_iff.mp h1).1
        omega
      exact ih j xs[j] d (List.getElem?_eq_getElem lt) h1 (k j xs[j] e (List.getElem?_eq_getElem lt) h2)
    | @tup m _ ys es hb kl k =>
      obtain ⟨its, _, t1, _⟩ := I.tuple hb
      obtain ⟨its2, _, t2, _⟩ := I.list ha
      exact (two_kinds t1 t2).elim
def at2 (f : DV → DV → Bool) (ds es : List DV) (j : Nat) : Bool := match ds[j]?, es[j]? with | some d, some e => f d e | _, _ => false
theorem at2_of {f : DV → DV → Bool} {ds es : List DV} {j : Nat} {d e : DV} (h : ds[j]? = some d) (h2 : es[j]? = some e) : at2 f ds es j = f d e := by
  unfold at2
  rw [h, h2]
theorem dv_at (I : Inv X pins σ H s) {n : Nat} {x : V} {d : DV} (h : Dv X.K H n x d) : ∀ {m : Nat} {y : V} {e : DV}, Dv X.K H m y e → ∀ {A : Around} {u v : Value}, A.units + n + m < cLine → RelV x u → RelV y v →
    SeqAt.EqAt A s u v (dEq d e) ∧ SeqAt.RcAt A s u v (dEq d e) ∧ SeqAt.RcNeAt A s u v (!dEq d e) := by
  induction h with
  | @non n =>
    intro m y e h2 A u v hu rx ry
    obtain rfl : u = Value.none := rx
    cases h2 with
    | @non  =>
      obtain rfl : v = Value.none := ry
      exact ⟨SeqAt.EqAt.same _, SeqAt.RcAt.none_none, SeqAt.RcNeAt.none_none⟩
    | @bl _ b2 =>
      obtain rfl : v = Value.bool _ := ry
      exact ⟨SeqAt.EqAt.none_bool _, SeqAt.RcAt.none_bool _, SeqAt.RcNeAt.none_bool _⟩
    | @int _ b2 =>
      obtain ⟨_, rfl⟩ := ry
      exact ⟨SeqAt.EqAt.none_int _ _, SeqAt.RcAt.none_int _ _, SeqAt.RcNeAt.none_int _ _⟩
    | @str _ b2 =>
      obtain ⟨_, rfl⟩ := ry
      exact ⟨SeqAt.EqAt.none_str _ _, SeqAt.RcAt.none_str _ _, SeqAt.RcNeAt.none_str _ _⟩
    | @tup m b ys es hb kl k =>
      obtain rfl : v = Value.ref _ := ry
      obtain ⟨its2, r2, t2, z2⟩ := I.tuple hb
      have l2 := r2.length
      exact ⟨SeqAt.EqAt.none_tuple t2 (by omega), SeqAt.RcAt.none_tuple t2 (by omega), SeqAt.RcNeAt.none_tuple t2 (by omega)⟩
    | @lst m b ys es hb kl k =>
      obtain rfl : v = Value.ref _ := ry
      obtain ⟨its2, r2, t2, z2⟩ := I.list hb
      have l2 := r2.length
      exact ⟨SeqAt.EqAt.none_list t2.isList (by omega), SeqAt.RcAt.none_list t2.isList (by omega), SeqAt.RcNeAt.none_list t2.isList (by omega)⟩
  | @bl n b1 =>
    intro m y e h2 A u v hu rx ry
    obtain rfl : u = Value.bool _ := rx
    cases h2 with
    | @non  =>
      obtain rfl : v = Value.none := ry
      exact ⟨SeqAt.EqAt.bool_none _, SeqAt.RcAt.bool_none _, SeqAt.RcNeAt.bool_none _⟩
    | @bl _ b2 =>
      obtain rfl : v = Value.bool _ := ry
      exact ⟨SeqAt.EqAt.bool_bool _ _, SeqAt.RcAt.bool_bool _ _, SeqAt.RcNeAt.bool_bool _ _⟩
    | @int _ b2 =>
      obtain ⟨_, rfl⟩ := ry
      exact ⟨SeqAt.EqAt.bool_int _ _ _, SeqAt.RcAt.bool_int _ _ _, SeqAt.RcNeAt.bool_int _ _ _⟩
    | @str _ b2 =>
      obtain ⟨_, rfl⟩ := ry
      exact ⟨SeqAt.EqAt.bool_str _ _ _, SeqAt.RcAt.bool_str _ _ _, SeqAt.RcNeAt.bool_str _ _ _⟩
    | @tup m b ys es hb kl k =>
      obtain rfl : v = Value.ref _ := ry
      obtain ⟨its2, r2, t2, z2⟩ := I.tuple hb
      have l2 := r2.length
      exact ⟨SeqAt.EqAt.bool_tuple _ t2 (by omega), SeqAt.RcAt.bool_tuple _ t2 (by omega), SeqAt.RcNeAt.bool_tuple _ t2 (by omega)⟩
    | @lst m b ys es hb kl k =>
      obtain rfl : v = Value.ref _ := ry
      obtain ⟨its2, r2, t2, z2⟩ := I.list hb
      have l2 := r2.length
      exact ⟨SeqAt.EqAt.bool_list _ t2.isList (by omega), SeqAt.RcAt.bool_list _ t2.isList (by omega), SeqAt.RcNeAt.bool_list _ t2.isList (by omega)⟩
  | @int n b1 =>
    intro m y e h2 A u v hu rx ry
    obtain ⟨_, rfl⟩ := rx
    cases h2 with
    | @non  =>
      obtain rfl : v = Value.none := ry
      exact ⟨SeqAt.EqAt.int_none _ _, SeqAt.RcAt.int_none _ _, SeqAt.RcNeAt.int_none _ _⟩
    | @bl _ b2 =>
      obtain rfl : v = Value.bool _ := ry
      exact ⟨SeqAt.EqAt.int_bool _ _ _, SeqAt.RcAt.int_bool _ _ _, SeqAt.RcNeAt.int_bool _ _ _⟩
    | @int _ b2 =>
      obtain ⟨_, rfl⟩ := ry
      exact ⟨SeqAt.EqAt.int_int _ _ _ _, SeqAt.RcAt.int_int _ _ _ _, SeqAt.RcNeAt.int_int _ _ _ _⟩
    | @str _ b2 =>
      obtain ⟨_, rfl⟩ := ry
      exact ⟨SeqAt.EqAt.int_str _ _ _ _, SeqAt.RcAt.int_str _ _ _ _, SeqAt.RcNeAt.int_str _ _ _ _⟩
    | @tup m b ys es hb kl k =>
      obtain rfl : v = Value.ref _ := ry
      obtain ⟨its2, r2, t2, z2⟩ := I.tuple hb
      have l2 := r2.length
      exact ⟨SeqAt.EqAt.int_tuple _ _ t2 (by omega), SeqAt.RcAt.int_tuple _ _ t2 (by omega), SeqAt.RcNeAt.int_tuple _ _ t2 (by omega)⟩
    | @lst m b ys es hb kl k =>
      obtain rfl : v = Value.ref _ := ry
      obtain ⟨its2, r2, t2, z2⟩ := I.list hb
      have l2 := r2.length
      exact ⟨SeqAt.EqAt.int_list _ _ t2.isList (by omega), SeqAt.RcAt.int_list _ _ t2.isList (by omega), SeqAt.RcNeAt.int_list _ _ t2.isList (by omega)⟩
  | @str n b1 =>
    intro m y e h2 A u v hu rx ry
    obtain ⟨_, rfl⟩ := rx
    cases h2 with
    | @non  =>
      obtain rfl : v = Value.none := ry
      exact ⟨SeqAt.EqAt.str_none _ _, SeqAt.RcAt.str_none _ _, SeqAt.RcNeAt.str_none _ _⟩
    | @bl _ b2 =>
      obtain rfl : v = Value.bool _ := ry
      exact ⟨SeqAt.EqAt.str_bool _ _ _, SeqAt.RcAt.str_bool _ _ _, SeqAt.RcNeAt.str_bool _ _ _⟩
    | @int _ b2 =>
      obtain ⟨_, rfl⟩ := ry
      exact ⟨SeqAt.EqAt.str_int _ _ _ _, SeqAt.RcAt.str_int _ _ _ _, SeqAt.RcNeAt.str_int _ _ _ _⟩
    | @str _ b2 =>
      obtain ⟨_, rfl⟩ := ry
      exact ⟨SeqAt.EqAt.str_str _ _ _ _, SeqAt.RcAt.str_str _ _ _ _, SeqAt.RcNeAt.str_str _ _ _ _⟩
    | @tup m b ys es hb kl k =>
      obtain rfl : v = Value.ref _ := ry
      obtain ⟨its2, r2, t2, z2⟩ := I.tuple hb
      have l2 := r2.length
      exact ⟨SeqAt.EqAt.str_tuple _ _ t2 (by omega), SeqAt.RcAt.str_tuple _ _ t2 (by omega), SeqAt.RcNeAt.str_tuple _ _ t2 (by omega)⟩
    | @lst m b ys es hb kl k =>
      obtain rfl : v = Value.ref _ := ry
      obtain ⟨its2, r2, t2, z2⟩ := I.list hb
      have l2 := r2.length
      exact ⟨SeqAt.EqAt.str_list _ _ t2.isList (by omega), SeqAt.RcAt.str_list _ _ t2.isList (by omega), SeqAt.RcNeAt.str_list _ _ t2.isList (by omega)⟩
  | @tup n a xs ds ha hl h ih =>
    intro m y e h2 A u v hu rx ry
    obtain rfl : u = Value.ref _ := rx
    obtain ⟨its, r1, t1, z1⟩ := I.tuple ha
    have l1 := r1.length
    cases h2 with
    | @non  =>
      obtain rfl : v = Value.none := ry
      exact ⟨SeqAt.EqAt.tuple_none t1 (by omega), SeqAt.RcAt.tuple_none t1 (by omega), SeqAt.RcNeAt.tuple_none t1 (by omega)⟩
    | @bl _ b2 =>
      obtain rfl : v = Value.bool _ := ry
      exact ⟨SeqAt.EqAt.tuple_bool _ t1 (by omega), SeqAt.RcAt.tuple_bool _ t1 (by omega), SeqAt.RcNeAt.tuple_bool _ t1 (by omega)⟩
    | @int _ b2 =>
      obtain ⟨_, rfl⟩ := ry
      exact ⟨SeqAt.EqAt.tuple_int _ _ t1 (by omega), SeqAt.RcAt.tuple_int _ _ t1 (by omega), SeqAt.RcNeAt.tuple_int _ _ t1 (by omega)⟩
    | @str _ b2 =>
      obtain ⟨_, rfl⟩ := ry
      exact ⟨SeqAt.EqAt.tuple_str _ _ t1 (by omega), SeqAt.RcAt.tuple_str _ _ t1 (by omega), SeqAt.RcNeAt.tuple_str _ _ t1 (by omega)⟩
    | @tup m b ys es hb kl k =>
      obtain rfl : v = Value.ref _ := ry
      obtain ⟨its2, r2, t2, z2⟩ := I.tuple hb
      have l2 := r2.length
      have step : ∀ (j : Nat) (h1 : j < its.toArray.size) (h2 : j < its2.toArray.size), SeqAt.EqAt A.in1 s its.toArray[j] its2.toArray[j] (at2 dEq ds es j) := fun j h1 h2 => by
        obtain ⟨x, hx, rx⟩ := vals_at r1 h1
        obtain ⟨y, hy, ry⟩ := vals_at r2 h2
        have j1 : j < ds.length := by simp at h1; omega
        have j2 : j < es.length := by simp at h2; omega
        rw [at2_of (List.getElem?_eq_getElem j1) (List.getElem?_eq_getElem j2)]
        exact (ih j x _ hx (List.getElem?_eq_getElem j1) (k j y _ hy (List.getElem?_eq_getElem j2)) (A := A.in1) (by show A.units + 1 + n + m < cLine; omega) rx ry).1
      have all := dEqs_all (xs := ds) (ys := es) (e := at2 dEq ds es) fun j x y h1 h2 => at2_of h1 h2
      have both : SeqAt.RcAt A s (.ref a) (.ref b) (dEqs ds es) ∧ SeqAt.RcNeAt A s (.ref a) (.ref b) (!dEqs ds es) := by
        have z1 := SeqAt.RcAt.tuples (A := A) (e := at2 dEq ds es) (show s.heap.IsTuple a its.toArray from t1) (show s.heap.IsTuple b its2.toArray from t2) (by omega) step
        have z2 := SeqAt.RcNeAt.tuples (A := A) (e := at2 dEq ds es) (show s.heap.IsTuple a its.toArray from t1) (show s.heap.IsTuple b its2.toArray from t2) (by omega) step
        have e1 : its.toArray.size = ds.length := by simp; omega
        have e2 : its2.toArray.size = es.length := by simp; omega
        rw [e1, e2, all] at z1 z2
        exact ⟨z1, z2⟩
      simp only [dEq]
      refine ⟨?_, both⟩
      by_cases q : a = b
      · subst q
        have ed : DV.tup ds = DV.tup es := dv_fun I (Dv.tup ha hl h) (Dv.tup hb kl k)
        rw [show es = ds by injection ed with z; exact z.symm, dEqs_refl]
        exact SeqAt.EqAt.same _
      · exact .of_refs q both.1
    | @lst m b ys es hb kl k =>
      obtain rfl : v = Value.ref _ := ry
      obtain ⟨its2, r2, t2, z2⟩ := I.list hb
      have l2 := r2.length
      exact ⟨SeqAt.EqAt.tuple_list t1 t2.isList (by omega), SeqAt.RcAt.tuple_list t1 t2.isList (by omega), SeqAt.RcNeAt.tuple_list t1 t2.isList (by omega)⟩
  | @lst n a xs ds ha hl h ih =>
    intro m y e h2 A u v hu rx ry
    obtain rfl : u = Value.ref _ := rx
    obtain ⟨its, r1, t1, z1⟩ := I.list ha
    have l1 := r1.length
    cases h2 with
    | @non  =>
      obtain rfl : v = Value.none := ry
      exact ⟨SeqAt.EqAt.list_none t1.isList (by omega), SeqAt.RcAt.list_none t1.isList (by omega), SeqAt.RcNeAt.list_none t1.isList (by omega)⟩
    | @bl _ b2 =>
      obtain rfl : v = Value.bool _ := ry
      exact ⟨SeqAt.EqAt.list_bool _ t1.isList (by omega), SeqAt.RcAt.list_bool _ t1.isList (by omega), SeqAt.RcNeAt.list_bool _ t1.isList (by omega)⟩
    | @int _ b2 =>
      obtain ⟨_, rfl⟩ := ry
      exact ⟨SeqAt.EqAt.list_int _ _ t1.isList (by omega), SeqAt.RcAt.list_int _ _ t1.isList (by omega), SeqAt.RcNeAt.list_int _ _ t1.isList (by omega)⟩
    | @str _ b2 =>
      obtain ⟨_, rfl⟩ := ry
      exact ⟨SeqAt.EqAt.list_str _ _ t1.isList (by omega), SeqAt.RcAt.list_str _ _ t1.isList (by omega), SeqAt.RcNeAt.list_str _ _ t1.isList (by omega)⟩
    | @tup m b ys es hb kl k =>
      obtain rfl : v = Value.ref _ := ry
      obtain ⟨its2, r2, t2, z2⟩ := I.tuple hb
      have l2 := r2.length
      exact ⟨SeqAt.EqAt.list_tuple t1.isList t2 (by omega), SeqAt.RcAt.list_tuple t1.isList t2 (by omega), SeqAt.RcNeAt.list_tuple t1.isList t2 (by omega)⟩
    | @lst m b ys es hb kl k =>
      obtain rfl : v = Value.ref _ := ry
      obtain ⟨its2, r2, t2, z2⟩ := I.list hb
      have l2 := r2.length
      have step : ∀ (j : Nat) (h1 : j < its.toArray.size) (h2 : j < its2.toArray.size), SeqAt.EqAt A.in1 s its.toArray[j] its2.toArray[j] (at2 dEq ds es j) := fun j h1 h2 => by
        obtain ⟨x, hx, rx⟩ := vals_at r1 h1
        obtain ⟨y, hy, ry⟩ := vals_at r2 h2
        have j1 : j < ds.length := by simp at h1; omega
        have j2 : j < es.length := by simp at h2; omega
        rw [at2_of (List.getElem?_eq_getElem j1) (List.getElem?_eq_getElem j2)]
        exact (ih j x _ hx (List.getElem?_eq_getElem j1) (k j y _ hy (List.getElem?_eq_getElem j2)) (A := A.in1) (by show A.units + 1 + n + m < cLine; omega) rx ry).1
      have all := dEqs_all (xs := ds) (ys := es) (e := at2 dEq ds es) fun j x y h1 h2 => at2_of h1 h2
      have both : SeqAt.RcAt A s (.ref a) (.ref b) (dEqs ds es) ∧ SeqAt.RcNeAt A s (.ref a) (.ref b) (!dEqs ds es) := by
        have e1 : its.toArray.size = ds.length := by simp; omega
        have e2 : its2.toArray.size = es.length := by simp; omega
        by_cases c : ds.length = es.length
        · have z1 := SeqAt.RcAt.lists (A := A) (e := at2 dEq ds es) t1.isList t2.isList (by omega) (by omega) step
          have z2 := SeqAt.RcNeAt.lists (A := A) (e := at2 dEq ds es) t1.isList t2.isList (by omega) (by omega) step
          have all' : (List.range ds.length).all (at2 dEq ds es) = dEqs ds es := by
            rw [← all, c, Nat.min_self]
            simp
          rw [e1, all'] at z1 z2
          exact ⟨z1, z2⟩
        · rw [dEqs_len c]
          exact ⟨SeqAt.RcAt.lists_lengths (A := A) t1.isList t2.isList (by rw [e1, e2]; simpa using c) (by omega), SeqAt.RcNeAt.lists_lengths (A := A) t1.isList t2.isList (by rw [e1, e2]; simpa using c) (by omega)⟩
      simp only [dEq]
      refine ⟨?_, both⟩
      by_cases q : a = b
      · subst q
        have ed : DV.lst ds = DV.lst es := dv_fun I (Dv.lst ha hl h) (Dv.lst hb kl k)
        rw [show es = ds by injection ed with z; exact z.symm, dEqs_refl]
        exact SeqAt.EqAt.same _
      · exact .of_refs q both.1
end
theorem Same.seqL {K : PySem.W.Frag} {H H' : Hp} {a : Addr} {xs : List V} (s : Same H H') (h : SqL K H a xs) : SqL K H' a xs := by
  rcases h with (h | ⟨ob, h⟩) | h
  · exact .inl (.inl (s _ _ h))
  · exact .inl (.inr ⟨ob, s _ _ h⟩)
  · exact .inr h
def rEqV (K : PySem.W.Frag) : R2 := fun x y H Q => ∃ (n m : Nat) (d e : DV), Dv K H n x d ∧ Dv K H m y e ∧ n ≤ 9 ∧ m ≤ 9 ∧ Q (.bl (dEq d e)) H
def rNeV (K : PySem.W.Frag) : R2 := fun x y H Q => ∃ (n m : Nat) (d e : DV), Dv K H n x d ∧ Dv K H m y e ∧ n ≤ 9 ∧ m ≤ 9 ∧ Q (.bl (!dEq d e)) H
def rInV (K : PySem.W.Frag) (neg : Bool) : R2 := fun x y H Q => ∃ (n m : Nat) (d : DV) (es : List DV), Dv K H n x d ∧ Dv K H m y (.lst es) ∧ n ≤ 9 ∧ m ≤ 9 ∧ Q (.bl (if neg then !es.any (fun z => dEq z d) else es.any fun z => dEq z d)) H
section
variable {X : Cx}
theorem op_eqV (hu : X.A.units + 20 < cLine) : OpR X (compareOp .Eq) (rEqV X.K) := by
  intro pins s σ H x y u v Q I rx ry h
  obtain ⟨n, m, d, e, h1, h2, hn, hm, q⟩ := h
  exact (dv_at I h1 h2 (A := X.A) (by omega) rx ry).2.1 X.prog X.w X.xe _ ⟨.bl _, H, I, rfl, q⟩
theorem op_neV (hu : X.A.units + 20 < cLine) : OpR X (compareOp .NotEq) (rNeV X.K) := by
  intro pins s σ H x y u v Q I rx ry h
  obtain ⟨n, m, d, e, h1, h2, hn, hm, q⟩ := h
  exact PySem.W.cmp_ofNotEq ((dv_at I h1 h2 (A := X.A) (by omega) rx ry).2.2 X.prog X.w X.xe _ ⟨.bl _, H, I, rfl, q⟩)
theorem any_ix {α β : Type} {f : α → Bool} {g : β → Bool} : ∀ {xs : List α} {ys : List β}, xs.length = ys.length → (∀ (j : Nat) (x : α) (y : β), xs[j]? = some x → ys[j]? = some y → f x = g y) → xs.any f = ys.any g
  | [], [], _, _ => rfl
  | [], _ :: _, h, _ => by cases h
  | _ :: _, [], h, _ => by cases h
  | x :: xs, y :: ys, h, k => by
    rw [List.any_cons, List.any_cons, k 0 x y rfl rfl, any_ix (xs := xs) (ys := ys) (by simpa using h) fun j a b h1 h2 => k (j + 1) a b (by simpa using h1) (by simpa using h2)]
noncomputable def eOf (K : PySem.W.Frag) (H : Hp) (m : Nat) (d : DV) (z : V) : Bool := @dite Bool (∃ e, Dv K H m z e) (Classical.propDecidable _) (fun h => dEq h.choose d) fun _ => false
theorem eOf_of {pins : List (Addr × Obj)} {σ : St} {H : Hp} {s : Shared} (I : Inv X pins σ H s) {m : Nat} {d e : DV} {z : V} (h : Dv X.K H m z e) : eOf X.K H m d z = dEq e d := by
  unfold eOf
  rw [dif_pos ⟨e, h⟩]
  have ex : ∃ e, Dv X.K H m z e := ⟨e, h⟩
  rw [dv_fun I ex.choose_spec h]
theorem op_inV (hu : X.A.units + 20 < cLine) : OpR X (compareOp .In) (rInV X.K false) := by
  intro pins s σ H x y v u Q I rx ry h
  obtain ⟨n, m, d, es, h1, h2, hn, hm, q⟩ := h
  cases h2 with
  | @lst m a xs _ ha hl k =>
    cases ry
    obtain ⟨its, r, pl, hz⟩ := I.list ha
    have get : ∀ z ∈ xs, ∃ (j : Nat) (e : DV), xs[j]? = some z ∧ es[j]? = some e ∧ Dv X.K H m z e := fun z hz => by
      obtain ⟨j, hj⟩ := List.getElem?_of_mem hz
      have lt : j < es.length := by rw [← hl]; exact (List.getElem?_eq_some_iff.mp hj).1
      exact ⟨j, es[j], hj, List.getElem?_eq_getElem lt, k j z _ hj (List.getElem?_eq_getElem lt)⟩
    refine SeqAt.in_listAt (eU (eOf X.K H m d)) pl.isList (fun w hw => ?_) ⟨.bl _, H, I, rfl, ?_⟩
    · obtain ⟨z, m1, m2⟩ := mem_rel r w (by simpa using hw)
      obtain ⟨j, e, _, _, he⟩ := get z m1
      rw [eU_of m2, eOf_of I he]
      exact (dv_at I he h1 (A := X.A.in1) (by show X.A.units + 1 + m + n < cLine; omega) m2 rx).1
    · rw [show its.toArray.any (eU (eOf X.K H m d)) = its.any (eU (eOf X.K H m d)) by simp, any_eU r, any_ix (g := fun z => dEq z d) hl fun j z e g1 g2 => eOf_of I (k j z e g1 g2)]
      exact q
theorem op_notInV (hu : X.A.units + 20 < cLine) : OpR X (compareOp .NotIn) (rInV X.K true) := by
  intro pins s σ H x y v u Q I rx ry h
  obtain ⟨n, m, d, es, h1, h2, hn, hm, q⟩ := h
  cases h2 with
  | @lst m a xs _ ha hl k =>
    cases ry
    obtain ⟨its, r, pl, hz⟩ := I.list ha
    have get : ∀ z ∈ xs, ∃ (j : Nat) (e : DV), xs[j]? = some z ∧ es[j]? = some e ∧ Dv X.K H m z e := fun z hz => by
      obtain ⟨j, hj⟩ := List.getElem?_of_mem hz
      have lt : j < es.length := by rw [← hl]; exact (List.getElem?_eq_some_iff.mp hj).1
      exact ⟨j, es[j], hj, List.getElem?_eq_getElem lt, k j z _ hj (List.getElem?_eq_getElem lt)⟩
    refine SeqAt.notIn_listAt (eU (eOf X.K H m d)) pl.isList (fun w hw => ?_) ⟨.bl _, H, I, rfl, ?_⟩
    · obtain ⟨z, m1, m2⟩ := mem_rel r w (by simpa using hw)
      obtain ⟨j, e, _, _, he⟩ := get z m1
      rw [eU_of m2, eOf_of I he]
      exact (dv_at I he h1 (A := X.A.in1) (by show X.A.units + 1 + m + n < cLine; omega) m2 rx).1
    · rw [show its.toArray.any (eU (eOf X.K H m d)) = its.any (eU (eOf X.K H m d)) by simp, any_eU r, any_ix (g := fun z => dEq z d) hl fun j z e g1 g2 => eOf_of I (k j z e g1 g2)]
      exact q
end
end L2
set_option maxRecDepth 100000
set_option maxHeartbeats 1000000
namespace L2
open PySem PySem.Spec PyProof.Rows XL PySem.W
def Tp (H H' : Hp) : Prop := ∀ b xs, H b = some (.tup xs) → H' b = some (.tup xs)
theorem Same.tp {H H' : Hp} (s : Same H H') : Tp H H' := fun b xs e => s b _ e
theorem Tp.trans {H H' H'' : Hp} (s : Tp H H') (r : Tp H' H'') : Tp H H'' := fun b xs e => r b xs (s b xs e)
theorem tp_lst {H : Hp} {l : Addr} {xs ys : List V} (h : H l = some (.lst xs)) : Tp H (upd H l (.lst ys)) := fun b zs e => by
  rw [upd_ne (fun z => by rw [z, h] at e; cases e)]
  exact e
section
variable {J : It} {n : Nat} {g : TG} {σ : St} {fr : List Nat} {tc : TT} {te : TE} {l : Addr} {H1 : Hp} {Q : VK}
theorem comp_go (len : Nat) (hlen : len < sizeLine) (hl : H1 l = none) (x : Nat → V) (hgo : ∀ i H, i < len → Same H1 H → J.go i H) (hy : ∀ i H v H', i < len → Same H1 H → J.yld i H v H' → H' = H ∧ v = x i) (hst : ∀ H, Same H1 H → J.stop len H)
    (p : Nat → Bool) (F : Nat → V → Hp → Prop) (stab : ∀ i y H H', Tp H H' → F i y H → F i y H')
    (step : ∀ i H2, i < len → Same H1 H2 → ∀ (N : V → Hp → Prop) (M : Hp → Prop), (∀ y H', Same H2 H' → p i = true → F i y H' → N y H') → (∀ H', Same H2 H' → p i = false → M H') →
      g (x i) (blk0 σ fr n) H2 fun σ' H3 => tc σ' H3 fun b H4 => if b = true then te σ' H4 N else M H4)
    (fin : ∀ ys H2, Same H1 H2 → H2 l = some (.lst ys) → ys.length = ((List.range len).filter p).length → (∀ (j : Nat) (y : V) (i : Nat), ys[j]? = some y → ((List.range len).filter p)[j]? = some i → F i y H2) → Q (.ref l) H2) : CompG J n g σ fr tc te l H1 Q := by
  refine compG_by len (fun i ys H2 => Same H1 H2 ∧ H2 l = some (.lst ys) ∧ ys.length = ((List.range i).filter p).length ∧ ∀ (j : Nat) (y : V) (k : Nat), ys[j]? = some y → ((List.range i).filter p)[j]? = some k → F k y H2) ?_ ?_ ?_ ?_
  · refine ⟨fun b u e => ?_, upd_same, rfl, fun j y k e => by simp at e⟩
    rw [upd_ne (ne_of_none e hl)]
    exact e
  · rintro i ys H2 lt ⟨s, _⟩
    exact hgo i H2 lt s
  · rintro i ys H2 v H3 lt ⟨s, el, ly, f⟩ yl N hN
    obtain ⟨rfl, rfl⟩ := hy i H2 v H3 lt s yl
    refine step i H3 lt s _ _ (fun y H' s' pt hf => ?_) (fun H' s' pf => ?_)
    · have el' := s' _ _ el
      have ylen : ys.length < sizeLine := by
        rw [ly]
        refine Nat.lt_of_le_of_lt (List.length_filter_le _ _) ?_
        rw [List.length_range]
        omega
      refine ⟨el', ylen, hN _ _ ⟨fun b u e => ?_, upd_same, ?_, fun j z k e1 e2 => ?_⟩⟩
      · rw [upd_ne (ne_of_none e hl)]
        exact s' _ _ (s _ _ e)
      · rw [List.range_succ, List.filter_append, List.length_append, List.length_append, ly, List.filter_cons_of_pos pt]
        rfl
      · rw [List.range_succ, List.filter_append, List.filter_cons_of_pos pt] at e2
        by_cases c : j < ys.length
        · rw [List.getElem?_append_left c] at e1
          rw [List.getElem?_append_left (by omega)] at e2
          exact stab _ _ _ _ ((Same.tp s').trans (tp_lst el')) (f j z k e1 e2)
        · rw [List.getElem?_append_right (by omega)] at e1 e2
          rw [← ly] at e2
          cases hj : j - ys.length with
          | zero =>
            rw [hj] at e1 e2
            simp at e1 e2
            subst e1 e2
            exact stab _ _ _ _ (tp_lst el') hf
          | succ m =>
            rw [hj] at e1
            simp at e1
    · refine hN _ _ ⟨s.trans s', s' _ _ el, ?_, fun j z k e1 e2 => ?_⟩
      · rw [List.range_succ, List.filter_append, List.filter_cons_of_neg (by simp [pf])]
        simpa using ly
      · rw [List.range_succ, List.filter_append, List.filter_cons_of_neg (by simp [pf])] at e2
        simp only [List.filter_nil, List.append_nil] at e2
        exact stab _ _ _ _ (Same.tp s') (f j z k e1 e2)
  · rintro ys H2 ⟨s, el, ly, f⟩
    exact ⟨hst _ s, fin ys H2 s el ly f⟩
theorem comp_listF {K : PySem.W.Frag} {a : Addr} {xs : List V} (hs : SqL K H1 a xs) (hlen : xs.length < sizeLine) (hl : H1 l = none) (p : Nat → Bool) (F : Nat → V → Hp → Prop) (stab : ∀ i y H H', Tp H H' → F i y H → F i y H')
    (step : ∀ (i : Nat) (x : V) (H2 : Hp), xs[i]? = some x → Same H1 H2 → ∀ (N : V → Hp → Prop) (M : Hp → Prop), (∀ y H', Same H2 H' → p i = true → F i y H' → N y H') → (∀ H', Same H2 H' → p i = false → M H') →
      g x (blk0 σ fr n) H2 fun σ' H3 => tc σ' H3 fun b H4 => if b = true then te σ' H4 N else M H4)
    (fin : ∀ ys H2, Same H1 H2 → H2 l = some (.lst ys) → ys.length = ((List.range xs.length).filter p).length → (∀ (j : Nat) (y : V) (i : Nat), ys[j]? = some y → ((List.range xs.length).filter p)[j]? = some i → F i y H2) → Q (.ref l) H2) : CompG (Itl K a) n g σ fr tc te l H1 Q := by
  refine comp_go xs.length hlen hl (fun i => xs.getD i .non) (fun i H lt s => ⟨xs, xs[i], Same.seqL s hs, List.getElem?_eq_getElem lt⟩) (fun i H v H' lt s y => ?_) (fun H s => ⟨xs, Same.seqL s hs, Nat.le_refl _⟩) p F stab (fun i H2 lt s N M h1 h2 => ?_) fin
  · obtain ⟨e, f⟩ := y
    have z := f xs (Same.seqL s hs)
    refine ⟨e, ?_⟩
    simp [z]
  · have e : xs[i]? = some (xs.getD i .non) := by simp [List.getElem?_eq_getElem lt]
    exact step i _ H2 e s N M h1 h2
theorem cut_true {i : Nat} {x : V} {σ0 : St} {H2 : Hp} {N : V → Hp → Prop} {M : Hp → Prop} {g : TG} {te : TE} (h : g x σ0 H2 fun σ' H3 => te σ' H3 N) : g x σ0 H2 fun σ' H3 => tTrue σ' H3 fun b H4 => if b = true then te σ' H4 N else M H4 := by
  have e : (fun (σ' : St) (H3 : Hp) => tTrue σ' H3 fun b H4 => if b = true then te σ' H4 N else M H4) = fun σ' H3 => te σ' H3 N := by
    funext σ' H3
    show (if true = true then te σ' H3 N else M H3) = te σ' H3 N
    rw [if_pos rfl]
  rw [e]
  exact h
theorem filter_all (m : Nat) : (List.range m).filter (fun _ => true) = List.range m := by simp
theorem comp_list {K : PySem.W.Frag} {a : Addr} {xs : List V} (hs : SqL K H1 a xs) (hlen : xs.length < sizeLine) (hl : H1 l = none) (F : Nat → V → Hp → Prop) (stab : ∀ i y H H', Tp H H' → F i y H → F i y H')
    (step : ∀ (i : Nat) (x : V) (H2 : Hp), xs[i]? = some x → Same H1 H2 → ∀ (N : V → Hp → Prop), (∀ y H', Same H2 H' → F i y H' → N y H') → g x (blk0 σ fr n) H2 fun σ' H3 => te σ' H3 N)
    (fin : ∀ ys H2, Same H1 H2 → H2 l = some (.lst ys) → ys.length = xs.length → (∀ (i : Nat) (y : V), ys[i]? = some y → F i y H2) → Q (.ref l) H2) : CompG (Itl K a) n g σ fr tTrue te l H1 Q := by
  refine comp_listF hs hlen hl (fun _ => true) F stab (fun i x H2 hx s N M h1 h2 => cut_true (i := i) (step i x H2 hx s N fun y H' s' f => h1 y H' s' rfl f)) (fun ys H2 s e ly f => ?_)
  rw [filter_all, List.length_range] at ly
  refine fin ys H2 s e ly fun i y hy => f i y i hy ?_
  rw [filter_all, List.getElem?_range (by have := (List.getElem?_eq_some_iff.mp hy).1; omega)]
theorem comp_rangeF {lo : Int} {m : Nat} (hlen : m < sizeLine) (hl : H1 l = none) (p : Nat → Bool) (F : Nat → V → Hp → Prop) (stab : ∀ i y H H', Tp H H' → F i y H → F i y H')
    (step : ∀ (i : Nat) H2, i < m → Same H1 H2 → ∀ (N : V → Hp → Prop) (M : Hp → Prop), (∀ y H', Same H2 H' → p i = true → F i y H' → N y H') → (∀ H', Same H2 H' → p i = false → M H') →
      g (.int (lo + i)) (blk0 σ fr n) H2 fun σ' H3 => tc σ' H3 fun b H4 => if b = true then te σ' H4 N else M H4)
    (fin : ∀ ys H2, Same H1 H2 → H2 l = some (.lst ys) → ys.length = ((List.range m).filter p).length → (∀ (j : Nat) (y : V) (i : Nat), ys[j]? = some y → ((List.range m).filter p)[j]? = some i → F i y H2) → Q (.ref l) H2) : CompG (Itr lo m) n g σ fr tc te l H1 Q := by
  exact comp_go m hlen hl (fun i => .int (lo + i)) (fun i H lt s => lt) (fun i H v H' lt s y => y) (fun H s => Nat.le_refl _) p F stab (fun i H2 lt s N M h1 h2 => step i H2 lt s N M h1 h2) fin
theorem comp_range {lo : Int} {m : Nat} (hlen : m < sizeLine) (hl : H1 l = none) (F : Nat → V → Hp → Prop) (stab : ∀ i y H H', Tp H H' → F i y H → F i y H')
    (step : ∀ (i : Nat) H2, i < m → Same H1 H2 → ∀ (N : V → Hp → Prop), (∀ y H', Same H2 H' → F i y H' → N y H') → g (.int (lo + i)) (blk0 σ fr n) H2 fun σ' H3 => te σ' H3 N)
    (fin : ∀ ys H2, Same H1 H2 → H2 l = some (.lst ys) → ys.length = m → (∀ (i : Nat) (y : V), ys[i]? = some y → F i y H2) → Q (.ref l) H2) : CompG (Itr lo m) n g σ fr tTrue te l H1 Q := by
  refine comp_rangeF hlen hl (fun _ => true) F stab (fun i H2 hi s N M h1 h2 => cut_true (i := i) (step i H2 hi s N fun y H' s' f => h1 y H' s' rfl f)) (fun ys H2 s e ly f => ?_)
  rw [filter_all, List.length_range] at ly
  refine fin ys H2 s e ly fun i y hy => f i y i hy ?_
  rw [filter_all, List.getElem?_range (by have := (List.getElem?_eq_some_iff.mp hy).1; omega)]
end
theorem ys_eq {α : Type} {f : α → V} : ∀ {as : List α} {ys : List V}, ys.length = as.length → (∀ (i : Nat) (y : V) (a : α), ys[i]? = some y → as[i]? = some a → y = f a) → ys = as.map f
  | [], [], _, _ => rfl
  | [], _ :: _, h, _ => by cases h
  | _ :: _, [], h, _ => by cases h
  | a :: as, y :: ys, h, k => by
    rw [List.map_cons, k 0 y a rfl rfl, ys_eq (as := as) (ys := ys) (by simpa using h) fun i y' a' h1 h2 => k (i + 1) y' a' (by simpa using h1) (by simpa using h2)]
end L2
set_option maxRecDepth 100000
set_option maxHeartbeats 1000000
namespace XL
open PySem PySem.MeetsSeq PySem.MeetsSeq2 PySem.MeetsSeq3 PySem.SeqAt
open AutoSeq1 (wpAny_loadPart')
end XL
namespace L2
open PySem PySem.Spec PyProof.Rows XL PySem.W
def plainE : Expr → Bool
  | .Starred _ _ => false
  | _ => true
theorem star_plain {e : Expr} {es : List Expr} {env : Env} (h : plainE e = true) : starEach (e :: es) env = (false, eval e env) :: starEach es env := by
  cases e <;> first | rfl | cases h
theorem pa_consP {X : Cx} {e : Expr} {es : List Expr} {te : TE} {t : TA} (ha : PE X e te) (hr : PA X es t) (hn : plainE e = true) : PA X (e :: es) (tCons te t) := pa_cons ha hr (star_plain hn)
section
variable {X : Cx}
end
section
variable {J : It} {n : Nat} {g : TG} {σ : St} {fr : List Nat} {tc : TT} {te : TE} {l : Addr} {H1 : Hp} {Q : VK}
end
end L2
set_option maxRecDepth 100000
set_option maxHeartbeats 1000000
namespace XL
open PySem L2
open PyProof.Rows (assign_Tuple)
section
variable {prog : Program} {w : World} {A : Around} {E : Value → Shared → Prop}
end
section
variable {X : Cx} {pos : Pos}
end
end XL
set_option maxRecDepth 100000
set_option maxHeartbeats 1000000
namespace L2
open PySem PySem.Spec PyProof.Rows XL PySem.W
section
variable {J : It} {n : Nat} {g : TG} {σ : St} {fr : List Nat} {tc : TT} {te : TE} {l : Addr} {H1 : Hp} {Q : VK}
end
end L2
set_option maxRecDepth 100000
set_option maxHeartbeats 1000000
namespace L2
open PySem PySem.Spec PyProof.Rows XL PySem.W
section
variable {J : It} {n : Nat} {g : TG} {σ : St} {fr : List Nat} {tc : TT} {te : TE} {l : Addr} {H1 : Hp} {Q : VK}
end
end L2
set_option maxRecDepth 100000
set_option maxHeartbeats 1000000
namespace L2
open PySem PySem.Spec PyProof.Rows XL PySem.W PySem.Builtin PySem.Builtin.Str
section
variable {prog : Program} {w : World} {A : Around} {E : Value → Shared → Prop} {s : Shared} {x y : Str} {t u : Tok} {Q : Value → Shared → Prop}
end
section
variable {X : Cx}
end
end L2
set_option maxRecDepth 100000
set_option maxHeartbeats 1000000
namespace L2
open PySem PySem.Spec PyProof.Rows XL
open AutoSeq1 (wpAny_loadPart')
section
variable {prog : Program} {w : World} {A : Around} {E : Value → Shared → Prop} {s : Shared}
end
section
variable {prog : Program} {w : World} {A : Around} {E : Value → Shared → Prop} {s : Shared}
end
section
variable {prog : Program} {w : World} {K : Type} [DecidableEq K] {knd : KeyKind prog w K} {A : Around} {E : Value → Shared → Prop} {s : Shared}
end
section
variable {X : Cx} {elts : List Expr} {x1 : _} {tpos : Pos}
end
section
variable {X : Cx} {o : Expr} {to : TE} {tg : Expr} {apos cpos : Pos}
end
end L2
set_option maxRecDepth 100000
set_option maxHeartbeats 1000000
namespace L2
open PySem PySem.Spec PyProof.Rows XL
theorem lri_no_len : typeLookup (.type "list_reverseiterator") "__len__" = pure none := by rw [typeLookup_type, builtinLookup_eq_fast]; kernel_rfl
theorem lri_hint : typeLookup (.type "list_reverseiterator") "__length_hint__" = pure (some (.builtin "list_reverseiterator.__length_hint__")) := by rw [typeLookup_type, builtinLookup_eq_fast]; kernel_rfl
section
variable {prog : Program} {w : World} {A : Around} {E : Value → Shared → Prop} {s : Shared}
theorem hint_rev {I l : Addr} {i : Int} {Q : Bool → Shared → Prop} (hit : s.heap.IsRevIter I l i) (h : Q false s) : wpAny (model prog w) A (Builtin.List.listLengthHint (.ref I)) Q E s := by
  unfold Builtin.List.listLengthHint
  refine wpAny_bind (wpAny_specialOf hit.typeIs lri_no_len ?_)
  show wpAny _ _ (specialOf (Value.ref I) (Str.ofString "__length_hint__") >>= _) _ _ _
  refine wpAny_bind (wpAny_specialOf hit.typeIs lri_hint ?_)
  generalize hid : ("list_reverseiterator.__length_hint__" : String) = id0
  wp_delta
  rw [show splitId id0 = some ("list_reverseiterator", "__length_hint__") from by subst hid; decide +kernel]
  subst hid
  refine wpAny_bind (wpAny_isInstance (T := "list_reverseiterator") (b := true) hit.typeIs (by rw [isSubtype_type]; kernel_rfl) ?_)
  refine wpAny_ite_split (fun hab => absurd hab (by decide)) (fun _ => ?_)
  refine wpAny_ite_split (fun _ => ?_) (fun hab => absurd (by decide +kernel) hab)
  refine wpAny_ite_split (fun hab => absurd hab (by decide +kernel)) (fun _ => ?_)
  exact wpAny_pure h
theorem extend_rev {R : Result → Shared → Prop} (hh : A.handled = none) {I l : Addr} {items : Array Value} (hne : l ≠ I) (S : Addr) (hSI : S ≠ I) (hSl : S ≠ l) (res : Value) (c₀ : Nat) (hit : s.heap.IsRevIter I l ((items.size : Int) - 1)) (hl : s.heap.IsList l items)
    (hS : s.heap.get? S = some { cls := .type "list", data := .seq #[] c₀ }) (hn : items.size ≤ sizeLine)
    (hR : ∀ h' tk acc' c', (∀ b o, b ≠ S → b ≠ I → s.heap.get? b = some o → h'.get? b = some o) → h'.get? S = some { cls := .type "list", dict := none, data := .seq acc' c', slots := #[] } →
      ItemsOf (fun i v => items[items.size - 1 - i]? = some v) acc' items.size → R (.ok (.ret res)) { s with heap := h', toks := tk }) :
    wpAny (model prog w) A.in1 (Builtin.List.listExtendWith (.ref S) (.ref I) res)
      (fun fin s' => match fin with | .done f => R (.ok f) s' | .again c' => c'.quiet = true ∧ codeAny (model prog w) A c' R s') (fun e s' => R (.error e) s') s := by
  have hSf : S ∉ [I, l] := by simp [hSI, hSl]
  have W := (Walks.listRev (prog := prog) (w := w) (A := A.in1) hh I l hne items).toS
  unfold Builtin.List.listExtendWith
  refine wpAny_bind (wpAny_typeOf hit.typeIs ?_)
  have h1 : Builtin.List.listSameRef (.ref S) (.ref I) = false := by simp [Builtin.List.listSameRef, hSI]
  have h2 : (Value.type "list_reverseiterator" == Value.type "list") = false := by decide
  have h3 : (Value.type "list_reverseiterator" == Value.type "tuple") = false := by decide
  simp only [h1, h2, h3, Bool.or_false, Bool.false_eq_true, if_false]
  refine wpAny_bind (wpAny_pyIter_revIter hit ?_)
  refine wpAny_bind (wpAny_holding (hint_rev hit ?_))
  rw [if_neg (by decide)]
  have hit0 : s.heap.IsRevIter I l ((items.size : Int) - 1 - ((0 : Nat) : Int)) := by simpa using hit
  refine wpAny_pure ⟨plainId_quiet F.plain_extend_loop _, codeAny_extend_loopS W hn S hSf res items.size 0 _ #[] c₀ rfl (Nat.zero_le _) ⟨Nat.zero_le _, hit0, hl⟩ hS (ItemsOf.nil _) fun s' acc' c' hm hS' hacc => ?_⟩
  rw [Moved.eq_with hm]
  refine hR s'.heap s'.toks acc' c' (fun b o hb hb2 e => hm.heap b o (fun hmem => ?_) e) hS' hacc
  rcases List.mem_cons.mp hmem with e' | hmem
  · exact hb e'
  · exact hb2 (List.mem_singleton.mp hmem)
theorem call_list_rev {Q : Value → Shared → Prop} (hh : A.handled = none) {I l : Addr} {items : Array Value} (hne : l ≠ I) (hit : s.heap.IsRevIter I l ((items.size : Int) - 1)) (hl : s.heap.IsList l items) (hn : items.size ≤ sizeLine)
    (hQ : ∀ h' tk acc' c', (∀ b o, b ≠ I → s.heap.get? b = some o → h'.get? b = some o) →
      h'.get? s.heap.objs.size = some { cls := .type "list", dict := none, data := .seq acc' c', slots := #[] } → ItemsOf (fun i v => items[items.size - 1 - i]? = some v) acc' items.size → Q (.ref s.heap.objs.size) { s with heap := h', toks := tk }) :
    wpAny (model prog w) A (call (.type "list") [.ref I]) Q E s := by
  refine callType_codes (Q₁ := fun obj s₁ => obj = .ref s.heap.objs.size ∧ s₁ = { s with heap := s.heap.push { cls := .type "list", data := .seq #[] } }) F.called_list (F.typeCall_list_1 _) F.entry_list_init
    (code_list_new _ ⟨rfl, rfl⟩) fun obj s₁ h₁ => ?_
  obtain ⟨rfl, rfl⟩ := h₁
  have hS : (s.heap.push { cls := .type "list", data := .seq #[] }).get? s.heap.objs.size = some { cls := .type "list", data := .seq #[] } := Heap.get?_push_size _ rfl
  have iI : I < s.heap.objs.size := by obtain ⟨o, e, _⟩ := hit; exact Heap.lt_size e
  have il : l < s.heap.objs.size := by obtain ⟨o, e, _⟩ := hl; exact Heap.lt_size e
  refine ⟨⟨_, hS, rfl⟩, F.args_list_init_2 _ _, ?_⟩
  show wpAny _ _ (do let old ← Builtin.List.listItems (.ref s.heap.objs.size); Builtin.List.listUpdate (.ref s.heap.objs.size) (fun _ => #[]); letGo old.toList.reverse; Builtin.List.listExtendWith (.ref s.heap.objs.size) (.ref I) .none) _ _ _
  refine wpAny_bind ?_
  unfold Builtin.List.listItems
  refine wpAny_bind (wpAny_seqItems hS rfl (wpAny_pure ?_))
  show wpAny _ _ (updateSeq s.heap.objs.size (fun _ => #[]) >>= fun _ => letGo (#[] : Array Value).toList.reverse >>= fun _ => Builtin.List.listExtendWith (.ref s.heap.objs.size) (.ref I) .none) _ _ _
  refine wpAny_bind (wpAny_updateSeq hS rfl ?_)
  have hS₂ := Heap.get?_update_self (Obj.mapSeq (fun _ => (#[] : Array Value))) hS rfl
  have oth : ∀ b o, s.heap.get? b = some o → ((s.heap.push { cls := .type "list", data := .seq #[] }).update s.heap.objs.size (Obj.mapSeq (fun _ => (#[] : Array Value)))).get? b = some o :=
    fun b o e => (Heap.get?_update_other _ _ (Nat.ne_of_gt (Heap.lt_size e))).trans (Heap.get?_push_of_some _ e)
  refine wpAny_bind (wpAny_letGo ?_)
  refine extend_rev (A := A.in1) hh hne s.heap.objs.size (Nat.ne_of_gt iI) (Nat.ne_of_gt il) .none _ (hit.at (oth I)) (hl.at (oth l)) hS₂ hn fun h' tk acc' c' hk hS' hacc => ?_
  exact ⟨rfl, hQ h' tk acc' c' (fun b o hb e => hk b o (Nat.ne_of_lt (Heap.lt_size e)) hb (oth b o e)) hS' hacc⟩
end
def tLRev (K : PySem.W.Frag) (ta : TA) : TE := fun σ H Q => ta σ H fun vs H1 => ∃ a xs, vs = [.ref a] ∧ SqL K H1 a xs ∧ ∀ l, H1 l = none → Q (.ref l) (upd H1 l (.lst xs.reverse))
section
variable {X : Cx}
theorem pe_listRev {a : Expr} {ta : TA} {p p2 pos pos2 : Pos} (hc : X.calm = true) (hg : Gl X "list") (hm : X.mg "list" = none) (hg2 : Gl X "reversed") (hm2 : X.mg "reversed" = none) (ha : PA X [a] ta)
    (hs : starEach [a] X.env = [(false, eval a X.env)] := by rfl) (hs3 : starEach [.Call (.Name "reversed" p2) [a] [] pos2] X.env = [(false, eval (.Call (.Name "reversed" p2) [a] [] pos2) X.env)] := by rfl) :
    PE X (.Call (.Name "list" p) [.Call (.Name "reversed" p2) [a] [] pos2] [] pos) (tLRev X.K ta) := by
  intro pins s σ H Q I h
  refine wpAny_Call_Name_kw (ld_blt I hg hm PyProof.Rows.Boot.«list» ?_)
  refine PyProof.Rows.callWith_type1 ?_ (by rw [hs3]; rfl) rfl
  rw [hs3]
  show wpAny _ _ (spliced ((false, eval (.Call (.Name "reversed" p2) [a] [] pos2) X.env) :: backTo pos [])) _ _ s
  refine Calls.spliced_cons ?_
  refine Call_ (ld_blt I hg2 hm2 PyProof.Rows.Boot.«reversed» (PyProof.Rows.callWith_type1 (thn (ha pos2 pins s σ H _ I h) fun us s1 ⟨vs, H1, I1, r1, q1⟩ => ?_) hs rfl))
  obtain ⟨l, xs, e, hq, q⟩ := q1
  subst e
  obtain ⟨u, rfl, ru⟩ := vals1 r1
  obtain rfl : u = Value.ref l := ru
  obtain ⟨its, rv, p, hz⟩ := I1.list hq
  have hlen := rv.length
  refine call_reversed_list p.isList ?_
  refine Calls.spliced_nil ?_
  have I2 : Inv X pins σ H1 { s1 with heap := s1.heap.push (revObj l ((its.toArray.size : Int) - 1)) } := I1.kept (t' := s1.toks) fun b o e => Heap.get?_push_of_some _ e
  have hit : Heap.IsRevIter (s1.heap.push (revObj l ((its.toArray.size : Int) - 1))) s1.heap.objs.size l ((its.toArray.size : Int) - 1) := ⟨_, Heap.get?_push_size _ rfl, rfl, rfl⟩
  have hll : l < s1.heap.objs.size := by obtain ⟨o, e, _⟩ := p.isList; exact Heap.lt_size e
  have hl2 : (s1.heap.push (revObj l ((its.toArray.size : Int) - 1))).IsList l its.toArray := p.isList.at fun o e => Heap.get?_push_of_some _ e
  have f2 := I1.fpOk (Nat.le_refl s1.heap.objs.size) (I1.hok.fresh (Nat.le_refl _))
  generalize hs2 : ({ s1 with heap := s1.heap.push (revObj l ((its.toArray.size : Int) - 1)) } : Shared) = s2 at I2
  have hit' : s2.heap.IsRevIter s1.heap.objs.size l ((its.toArray.size : Int) - 1) := by rw [← hs2]; exact hit
  have hl2' : s2.heap.IsList l its.toArray := by rw [← hs2]; exact hl2
  refine call_list_rev (I.ok.hd hc) (Nat.ne_of_lt hll) hit' hl2' (by simp only [List.size_toArray]; omega) fun h' tk acc' c' hk hS' hacc => ?_
  have I3 : Inv X pins σ H1 { s2 with heap := h', toks := tk } := I2.turned (t' := tk) (it := s1.heap.objs.size) (fun b o hb e => hk b o hb e) (I1.hok.fresh (Nat.le_refl _)) f2.2.1 f2.2.2.2.1 f2.2.2.2.2.1 f2.2.2.2.2.2
  have z2 : s1.heap.objs.size < s2.heap.objs.size := by obtain ⟨o, e, _⟩ := hit'; exact Heap.lt_size e
  have e1 : acc'.toList.length = xs.reverse.length := by rw [List.length_reverse, hlen]; simpa using hacc.1
  obtain ⟨n0, nL, nC, nP⟩ := I2.size_lt (Nat.le_refl s2.heap.objs.size)
  refine ⟨.ref s2.heap.objs.size, _, I3.adopt n0 I2.sz nL nC nP (show ObjOk X.prog X.w _ h' _ (.lst xs.reverse) from ⟨by rw [List.length_reverse]; exact hz, acc'.toList, c', vals_of e1 fun j y u ey eu => ?_, by simpa using hS'⟩), rfl, q _ n0⟩
  have eu' : acc'[j]? = some u := by simpa using eu
  have lt : j < xs.length := by
    have := (List.getElem?_eq_some_iff.mp ey).1
    simpa using this
  have h2 := hacc.2 j u eu'
  rw [List.getElem?_reverse lt] at ey
  obtain ⟨u', hu', ru'⟩ := rv.get ey
  have h2' : its[its.length - 1 - j]? = some u := by simpa using h2
  rw [← hlen, hu'] at h2'
  cases h2'
  exact ru'
end
end L2
set_option maxRecDepth 100000
set_option maxHeartbeats 1000000
namespace L2
open PySem PySem.Spec PyProof.Rows XL
section
variable {X : Cx} {o : Expr} {to : TE} {tg : Expr}
end
end L2
set_option maxRecDepth 100000
set_option maxHeartbeats 1000000
namespace L2
open PySem PySem.Spec PyProof.Rows XL
open AutoSeq1 (wpAny_loadPart')
section
variable {M : Model} {A : Around} {E : Value → Shared → Prop} {s : Shared} {env : Env}
end
section
variable {prog : Program} {w : World} {A : Around} {E : Value → Shared → Prop} {s : Shared}
end
section
variable {prog : Program} {w : World} {A : Around} {E : Value → Shared → Prop} {s : Shared}
end
end L2
set_option maxRecDepth 100000
set_option maxHeartbeats 1000000
namespace L2
open PySem PySem.Spec PyProof.Rows XL
section
variable {X : Cx} {elts : List Expr} {x1 : _} {tpos : Pos}
end
end L2
set_option maxRecDepth 100000
set_option maxHeartbeats 1000000
namespace L2
open PySem PySem.Spec PyProof.Rows XL
end L2
set_option maxRecDepth 100000
set_option maxHeartbeats 1000000
namespace L2
open PySem PySem.Spec PyProof.Rows XL PySem.W PySem.Builtin PySem.Builtin.Str
section
variable {J : It} {n : Nat} {g : TG} {σ : St} {fr : List Nat} {tc : TT} {te : TE} {l : Addr} {H1 : Hp} {Q : VK}
end
end L2
set_option maxRecDepth 100000
set_option maxHeartbeats 1000000
namespace L2
open PySem PySem.Spec PyProof.Rows XL PySem.W PySem.Builtin PySem.Builtin.Str
section
variable {X : Cx}
end
end L2
namespace L2
open PySem PySem.Spec PyProof.Rows XL PySem.W
end L2
set_option maxRecDepth 100000
set_option maxHeartbeats 1000000
namespace L2
open PySem PySem.Spec PyProof.Rows XL PySem.W
section
variable {X : Cx}
end
end L2
namespace L2
open PySem PySem.Spec PyProof.Rows XL PySem.W
section
variable {X : Cx}
end
end L2
set_option maxRecDepth 100000
set_option maxHeartbeats 1000000
namespace L2
open PySem PySem.Spec PyProof.Rows XL PySem.W
section
variable {J : It} {n : Nat} {g : TG} {σ : St} {fr : List Nat} {tc : TT} {te : TE} {l : Addr} {H1 : Hp} {Q : VK} {α : Type}
end
end L2
set_option maxRecDepth 100000
set_option maxHeartbeats 1000000
namespace L2
open PySem PySem.Spec PyProof.Rows XL PySem.W PySem.Builtin PySem.Builtin.Str
section
variable {X : Cx}
end
end L2
set_option maxRecDepth 100000
set_option maxHeartbeats 1000000
namespace L2
open PySem PySem.Spec PyProof.Rows XL PySem.W PySem.Builtin PySem.Builtin.Str
end L2
set_option maxRecDepth 100000
set_option maxHeartbeats 1000000
namespace L2
open PySem PySem.Spec PyProof.Rows XL PySem.W PySem.Builtin PySem.Builtin.Str
section
variable {prog : Program} {w : World} {K : Type} [DecidableEq K] {A : Around} {E : Value → Shared → Prop} {s : Shared}
end
section
variable {prog : Program} {w : World} {K : Type} [DecidableEq K] {kk : KeyKind prog w K} {A : Around} {E : Value → Shared → Prop} {s : Shared}
end
end L2
set_option maxRecDepth 100000
namespace L2
open PySem
def th (a b : Int) : Int := reduceHash (Builtin.Tuple.tupleHashOf [hashInt a, hashInt b])
end L2
set_option maxRecDepth 100000
set_option maxHeartbeats 4000000
namespace XL
open PySem PySem.Spec PyProof.Rows
def oneEach (acc : List Str) (x : Str) : List Str := if acc.any (· == x) = true then acc else acc ++ [x]
section
variable {pr : Program} {wd : World} {ar : Around} {R : Result → Shared → Prop} {it : Addr} {fp wr : List Addr} {G : Array GenState → Array GenState → Prop} {n : Nat} {P : Nat → Value → Prop} {St : Nat → Shared → Prop}
end
section
variable {pr : Program} {wd : World} {ar : Around} {E : Value → Shared → Prop} {s : Shared}
end
end XL
set_option maxRecDepth 100000
set_option maxHeartbeats 4000000
namespace L2
open PySem PySem.Spec PyProof.Rows XL
def unlike (xs : List Str) : Nat := (xs.foldl oneEach []).length
section
variable {X : Cx}
end
end L2
set_option maxRecDepth 100000
set_option maxHeartbeats 4000000
namespace L2
open PySem PySem.Spec PyProof.Rows XL
end L2
set_option maxRecDepth 100000
namespace XS
open PySem PySem.SetTable
def Up (xs : Array Nat) : Prop := ∀ a b, a < b → b < xs.size → xs.getD a 0 < xs.getD b 0
theorem getD_of {xs : Array Nat} {k d e : Nat} (h : k < xs.size) : xs.getD k d = xs.getD k e := by
  simp [Array.getD, h]
theorem below_go {xs : Array Nat} {j : Nat} (up : Up xs) : ∀ (fuel lo hi : Nat), hi - lo ≤ fuel → lo ≤ hi → hi ≤ xs.size → (∀ k, k < lo → xs.getD k 0 < j) → (∀ k, hi ≤ k → k < xs.size → j ≤ xs.getD k 0) →
    below.go xs j fuel lo hi ≤ xs.size ∧ (∀ k, k < below.go xs j fuel lo hi → xs.getD k 0 < j) ∧ ∀ k, below.go xs j fuel lo hi ≤ k → k < xs.size → j ≤ xs.getD k 0
  | 0, lo, hi, hf, hl, hs, h1, h2 => by
    have : lo = hi := by omega
    subst this
    exact ⟨hs, h1, h2⟩
  | fuel + 1, lo, hi, hf, hl, hs, h1, h2 => by
    unfold below.go
    by_cases c : lo < hi
    · rw [if_pos c]
      have ml : (lo + hi) / 2 < hi := by omega
      have mg : lo ≤ (lo + hi) / 2 := by omega
      show (let mid := (lo + hi) / 2; _) ≤ _ ∧ _
      simp only []
      by_cases d : xs.getD ((lo + hi) / 2) j < j
      · rw [if_pos d]
        refine below_go up fuel _ hi (by omega) (by omega) hs (fun k hk => ?_) h2
        rw [getD_of (e := 0) (by omega)] at d
        rcases Nat.lt_or_ge k ((lo + hi) / 2) with z | z
        · exact Nat.lt_trans (up k _ z (by omega)) d
        · have : k = (lo + hi) / 2 := by omega
          rw [this]
          exact d
      · rw [if_neg d]
        rw [getD_of (e := 0) (by omega)] at d
        refine below_go up fuel lo _ (by omega) (by omega) (by omega) h1 fun k hk ks => ?_
        rcases Nat.lt_or_ge ((lo + hi) / 2) k with z | z
        · exact Nat.le_of_lt (Nat.lt_of_le_of_lt (Nat.le_of_not_lt d) (up _ k z ks))
        · have : k = (lo + hi) / 2 := by omega
          rw [this]
          exact Nat.le_of_not_lt d
    · rw [if_neg c]
      have : lo = hi := by omega
      subst this
      exact ⟨hs, h1, h2⟩
theorem below_spec {xs : Array Nat} (up : Up xs) (j : Nat) : below xs j ≤ xs.size ∧ (∀ k, k < below xs j → xs.getD k 0 < j) ∧ ∀ k, below xs j ≤ k → k < xs.size → j ≤ xs.getD k 0 :=
  below_go up xs.size 0 xs.size (by omega) (by omega) (Nat.le_refl _) (fun k hk => by omega) (fun k h1 h2 => by omega)
theorem below_at {xs : Array Nat} (up : Up xs) {j i : Nat} (h : xs[i]? = some j) : below xs j = i := by
  obtain ⟨hi, e⟩ := Array.getElem?_eq_some_iff.mp h
  have g : xs.getD i 0 = j := by simp [Array.getD, hi, e]
  obtain ⟨b1, b2, b3⟩ := below_spec up j
  rcases Nat.lt_trichotomy (below xs j) i with z | z | z
  · have := b3 (below xs j) (Nat.le_refl _) (by omega)
    have := up _ i z hi
    omega
  · exact z
  · have := b2 i z
    omega
theorem slot_live {t : SetTable} (up : Up t.place) {j i : Nat} : t.slot j = .live i ↔ t.place[i]? = some j := by
  unfold slot
  simp only []
  constructor
  · intro h
    split at h
    · rename_i c
      cases h
      exact eq_of_beq c
    · split at h <;> cases h
  · intro h
    rw [below_at up h, if_pos (by rw [h]; exact beq_self_eq_true _)]
theorem slot_empty {t : SetTable} (up : Up t.place) (dm : t.dummies = #[]) {j : Nat} (h : ∀ i : Nat, t.place[i]? ≠ some j) : t.slot j = .empty := by
  unfold slot
  simp only []
  rw [if_neg fun c => h _ (eq_of_beq c), dm, if_neg]
  unfold has
  simp
theorem slot_or {t : SetTable} (up : Up t.place) (dm : t.dummies = #[]) (j : Nat) : t.slot j = .empty ∨ ∃ i, t.slot j = .live i := by
  by_cases c : ∃ i : Nat, t.place[i]? = some j
  · obtain ⟨i, hi⟩ := c
    exact .inr ⟨i, (slot_live up).mpr hi⟩
  · exact .inl (slot_empty up dm fun i z => c ⟨i, z⟩)
structure Ps where
  j : Nat
  more : Nat
  i : Nat
  pt : Nat
def adv (mask : Nat) (p : Ps) : Ps := if p.more > 0 then { p with j := p.j + 1, more := p.more - 1 } else ⟨(leap mask p.i p.pt).1, runEnd mask (leap mask p.i p.pt).1 - (leap mask p.i p.pt).1, (leap mask p.i p.pt).1, (leap mask p.i p.pt).2⟩
def st0 (mask : Nat) (h : Int) : Ps := ⟨bits h % (mask + 1), runEnd mask (bits h % (mask + 1)) - bits h % (mask + 1), bits h % (mask + 1), bits h⟩
def way (mask : Nat) (h : Int) : Nat → Ps
  | 0 => st0 mask h
  | n + 1 => adv mask (way mask h n)
def toP (p : Ps) : Probe := ⟨p.j, p.more, p.i, p.pt, none⟩
theorem adv_is (t : SetTable) (p : Ps) : t.advance (toP p) = toP (adv t.mask p) := by
  unfold advance adv
  by_cases c : p.more > 0
  · rw [if_pos (show (toP p).more > 0 from c), if_pos c]
    rfl
  · rw [if_neg (show ¬ (toP p).more > 0 from c), if_neg c]
    rfl
def rnd (mask : Nat) (h : Int) : Nat → Nat × Nat
  | 0 => (bits h % (mask + 1), bits h)
  | r + 1 => leap mask (rnd mask h r).1 (rnd mask h r).2
def nAt (mask : Nat) (h : Int) : Nat → Nat
  | 0 => 0
  | r + 1 => nAt mask h r + (runEnd mask (rnd mask h r).1 - (rnd mask h r).1) + 1
theorem run_le (mask i : Nat) : i ≤ runEnd mask i ∧ runEnd mask i - i ≤ 9 := by
  unfold runEnd
  split <;> omega
theorem way_run {mask : Nat} {h : Int} {r : Nat} (e : way mask h (nAt mask h r) = ⟨(rnd mask h r).1, runEnd mask (rnd mask h r).1 - (rnd mask h r).1, (rnd mask h r).1, (rnd mask h r).2⟩) :
    ∀ k, k ≤ runEnd mask (rnd mask h r).1 - (rnd mask h r).1 → way mask h (nAt mask h r + k) = ⟨(rnd mask h r).1 + k, runEnd mask (rnd mask h r).1 - (rnd mask h r).1 - k, (rnd mask h r).1, (rnd mask h r).2⟩
  | 0, _ => e
  | k + 1, hk => by
    show adv mask (way mask h (nAt mask h r + k)) = _
    rw [way_run e k (by omega)]
    unfold adv
    rw [if_pos (show runEnd mask (rnd mask h r).1 - (rnd mask h r).1 - k > 0 by omega)]
    show Ps.mk _ _ _ _ = _
    congr 1
theorem way_rnd (mask : Nat) (h : Int) : ∀ r, way mask h (nAt mask h r) = ⟨(rnd mask h r).1, runEnd mask (rnd mask h r).1 - (rnd mask h r).1, (rnd mask h r).1, (rnd mask h r).2⟩
  | 0 => rfl
  | r + 1 => by
    have e := way_rnd mask h r
    show adv mask (way mask h (nAt mask h r + (runEnd mask (rnd mask h r).1 - (rnd mask h r).1))) = _
    rw [way_run e _ (Nat.le_refl _)]
    unfold adv
    rw [if_neg (show ¬ runEnd mask (rnd mask h r).1 - (rnd mask h r).1 - (runEnd mask (rnd mask h r).1 - (rnd mask h r).1) > 0 by omega)]
    rfl
theorem nAt_le (mask : Nat) (h : Int) : ∀ r, nAt mask h r ≤ 10 * r
  | 0 => Nat.le_refl _
  | r + 1 => by
    have := nAt_le mask h r
    have := run_le mask (rnd mask h r).1
    show nAt mask h r + _ + 1 ≤ _
    omega
theorem way_at (mask : Nat) (h : Int) (r k : Nat) (hk : k ≤ runEnd mask (rnd mask h r).1 - (rnd mask h r).1) : (way mask h (nAt mask h r + k)).j = (rnd mask h r).1 + k := by
  rw [way_run (way_rnd mask h r) k hk]
theorem pt_is (mask : Nat) (h : Int) : ∀ r, (rnd mask h r).2 = bits h / 32 ^ r
  | 0 => (Nat.div_one _).symm
  | r + 1 => by
    show (rnd mask h r).2 / 32 = _
    rw [pt_is mask h r, Nat.div_div_eq_div_mul, Nat.pow_succ]
theorem pt_0 (mask : Nat) (h : Int) (r : Nat) (hr : 13 ≤ r) : (rnd mask h r).2 = 0 := by
  rw [pt_is]
  refine Nat.div_eq_of_lt ?_
  have b : bits h < 2 ^ 64 := by
    unfold bits
    have := Int.emod_lt_of_pos h (show (0 : Int) < 2 ^ 64 by decide)
    have := Int.emod_nonneg h (show (2 ^ 64 : Int) ≠ 0 by decide)
    omega
  refine Nat.lt_of_lt_of_le b (Nat.le_trans (show 2 ^ 64 ≤ 32 ^ 13 by decide) (Nat.pow_le_pow_right (by decide) hr))
def lcg (mask : Nat) : Nat → Nat → Nat
  | 0, i => i
  | m + 1, i => (lcg mask m i * 5 + 1) % (mask + 1)
theorem rnd_lcg (mask : Nat) (h : Int) : ∀ m, (rnd mask h (13 + m)).1 = lcg mask m (rnd mask h 13).1
  | 0 => rfl
  | m + 1 => by
    show (leap mask (rnd mask h (13 + m)).1 (rnd mask h (13 + m)).2).1 = _
    unfold leap
    rw [pt_0 mask h (13 + m) (by omega), rnd_lcg mask h m]
    rfl
def MkOk (mask : Nat) : Prop := mask = 7 ∨ mask = 31
theorem cov7 : ∀ i, i < 8 → ∀ s, s < 8 → ∃ m, m < 8 ∧ lcg 7 m i = s := by decide +kernel
theorem cov31 : ∀ i, i < 32 → ∀ s, s < 32 → ∃ m, m < 32 ∧ lcg 31 m i = s := by decide +kernel
theorem rnd_lt (mask : Nat) (h : Int) : ∀ r, (rnd mask h r).1 < mask + 1
  | 0 => Nat.mod_lt _ (Nat.succ_pos _)
  | r + 1 => Nat.mod_lt _ (Nat.succ_pos _)
theorem rnd_cov {mask : Nat} (mk : MkOk mask) (h : Int) (s : Nat) (hs : s ≤ mask) : ∃ r, r + 1 < turns mask ∧ (rnd mask h r).1 = s := by
  have l := rnd_lt mask h 13
  rcases mk with rfl | rfl
  · obtain ⟨m, hm, e⟩ := cov7 _ l s (by omega)
    exact ⟨13 + m, by unfold turns; omega, by rw [rnd_lcg, e]⟩
  · obtain ⟨m, hm, e⟩ := cov31 _ l s (by omega)
    exact ⟨13 + m, by unfold turns; omega, by rw [rnd_lcg, e]⟩
theorem way_cov {mask : Nat} (mk : MkOk mask) (h : Int) (s : Nat) (hs : s ≤ mask) : ∃ n, n < 10 * turns mask ∧ (way mask h n).j = s := by
  obtain ⟨r, hr, e⟩ := rnd_cov mk h s hs
  have := nAt_le mask h r
  exact ⟨nAt mask h r, by omega, by rw [way_rnd]; exact e⟩
theorem go_empty {t : SetTable} {hashAt : Nat → Int} {h : Int} {f : Nat} {p : Ps} (z : t.slot p.j = .empty) : probe.go t hashAt h (f + 1) (toP p) = some (.empty p.j none) := by
  unfold probe.go
  rw [show t.slot (toP p).j = .empty from z]
  rfl
theorem go_cand {t : SetTable} {hashAt : Nat → Int} {h : Int} {f i : Nat} {p : Ps} (z : t.slot p.j = .live i) (e : hashAt i = h) : probe.go t hashAt h (f + 1) (toP p) = some (.candidate p.j i (toP (adv t.mask p))) := by
  unfold probe.go
  rw [show t.slot (toP p).j = .live i from z]
  simp only []
  rw [if_pos (by rw [e]; exact beq_self_eq_true _), adv_is]
  rfl
theorem go_past {t : SetTable} {hashAt : Nat → Int} {h : Int} {f i : Nat} {p : Ps} (z : t.slot p.j = .live i) (e : hashAt i ≠ h) : probe.go t hashAt h (f + 1) (toP p) = probe.go t hashAt h f (toP (adv t.mask p)) := by
  conv => lhs; unfold probe.go
  rw [show t.slot (toP p).j = .live i from z]
  simp only []
  rw [if_neg (fun q => e (eq_of_beq q)), adv_is]
theorem probe_go {t : SetTable} (up : Up t.place) (dm : t.dummies = #[]) (hashAt : Nat → Int) (h : Int) : ∀ (f n : Nat), (∃ m, n ≤ m ∧ m < n + f ∧ t.slot (way t.mask h m).j = .empty) →
    ∃ m, n ≤ m ∧ (∀ k, n ≤ k → k < m → ∃ i, t.slot (way t.mask h k).j = .live i ∧ hashAt i ≠ h) ∧
      ((probe.go t hashAt h f (toP (way t.mask h n)) = some (.empty (way t.mask h m).j none) ∧ t.slot (way t.mask h m).j = .empty) ∨
        ∃ i, probe.go t hashAt h f (toP (way t.mask h n)) = some (.candidate (way t.mask h m).j i (toP (way t.mask h (m + 1)))) ∧ t.slot (way t.mask h m).j = .live i ∧ hashAt i = h)
  | 0, n, ⟨m, a, b, _⟩ => by omega
  | f + 1, n, ⟨m, a, b, c⟩ => by
    rcases slot_or up dm (way t.mask h n).j with z | ⟨i, z⟩
    · exact ⟨n, Nat.le_refl _, fun k h1 h2 => by omega, .inl ⟨go_empty z, z⟩⟩
    · by_cases e : hashAt i = h
      · exact ⟨n, Nat.le_refl _, fun k h1 h2 => by omega, .inr ⟨i, go_cand z e, z, e⟩⟩
      · have ne : n ≠ m := fun q => by rw [← q, z] at c; cases c
        obtain ⟨m', a', b', c'⟩ := probe_go up dm hashAt h f (n + 1) ⟨m, by omega, by omega, c⟩
        refine ⟨m', by omega, fun k h1 h2 => ?_, ?_⟩
        · rcases Nat.lt_or_ge n k with y | y
          · exact b' k (by omega) h2
          · have : k = n := by omega
            subst this
            exact ⟨i, z, e⟩
        · rw [go_past z e]
          exact c'
end XS
set_option maxRecDepth 100000
namespace XS
open PySem PySem.SetTable
abbrev Row := Nat × Int × Value
structure Tab (t : SetTable) (es : Array (Int × Value)) (L : List Row) : Prop where
  pl : t.place.toList = L.map (·.1)
  el : es.toList = L.map (·.2)
  srt : (L.map (·.1)).Pairwise (· < ·)
  dm : t.dummies = #[]
  mok : MkOk t.mask
  bd : ∀ e ∈ L, e.1 ≤ t.mask
  rc : ∀ e ∈ L, ∃ n, (way t.mask e.2.1 n).j = e.1 ∧ ∀ m, m < n → (way t.mask e.2.1 m).j ∈ L.map (·.1)
variable {t : SetTable} {es : Array (Int × Value)} {L : List Row}
theorem Tab.size (T : Tab t es L) : t.place.size = L.length ∧ es.size = L.length := by
  constructor
  · rw [← Array.length_toList, T.pl, List.length_map]
  · rw [← Array.length_toList, T.el, List.length_map]
theorem Tab.at_ (T : Tab t es L) (i : Nat) : t.place[i]? = (L[i]?).map (·.1) := by
  rw [← Array.getElem?_toList, T.pl, List.getElem?_map]
theorem Tab.es_ (T : Tab t es L) (i : Nat) : es[i]? = (L[i]?).map (·.2) := by
  rw [← Array.getElem?_toList, T.el, List.getElem?_map]
theorem getD_at {xs : Array Nat} {k : Nat} {v : Nat} (h : xs[k]? = some v) : xs.getD k 0 = v := by
  obtain ⟨hk, e⟩ := Array.getElem?_eq_some_iff.mp h
  simp [Array.getD, hk, e]
theorem Tab.up (T : Tab t es L) : Up t.place := by
  intro a b ab hb
  rw [T.size.1] at hb
  have ha : a < L.length := by omega
  rw [getD_at (by rw [T.at_, List.getElem?_eq_getElem ha]; rfl), getD_at (by rw [T.at_, List.getElem?_eq_getElem hb]; rfl)]
  have := List.pairwise_iff_getElem.mp T.srt a b (by rw [List.length_map]; exact ha) (by rw [List.length_map]; exact hb) ab
  simpa using this
theorem Tab.live (T : Tab t es L) {j i : Nat} : t.slot j = .live i ↔ ∃ e, L[i]? = some e ∧ e.1 = j := by
  rw [slot_live T.up, T.at_, Option.map_eq_some_iff]
theorem Tab.free (T : Tab t es L) {j : Nat} : t.slot j = .empty ↔ j ∉ L.map (·.1) := by
  constructor
  · intro h z
    obtain ⟨e, he, ej⟩ := List.mem_map.mp z
    obtain ⟨i, hi, ei⟩ := List.mem_iff_getElem.mp he
    have := T.live.mpr ⟨e, by rw [List.getElem?_eq_getElem hi, ei], ej⟩
    rw [h] at this
    cases this
  · intro h
    refine slot_empty T.up T.dm fun i z => h ?_
    rw [T.at_, Option.map_eq_some_iff] at z
    obtain ⟨e, he, ej⟩ := z
    exact List.mem_map.mpr ⟨e, List.mem_of_getElem? he, ej⟩
theorem Tab.some_free (T : Tab t es L) (lt : L.length ≤ t.mask) (h : Int) : ∃ n, n < 10 * turns t.mask ∧ t.slot (way t.mask h n).j = .empty := by
  refine Classical.byContradiction fun c => ?_
  have all : ∀ s, s ≤ t.mask → s ∈ L.map (·.1) := fun s hs => by
    refine Classical.byContradiction fun z => ?_
    obtain ⟨n, hn, e⟩ := way_cov T.mok h s hs
    exact c ⟨n, hn, by rw [e]; exact T.free.mpr z⟩
  have := List.nodup_range (n := t.mask + 1) |>.length_le_of_subset (l₂ := L.map (·.1)) fun s hs => all s (by have := List.mem_range.mp hs; omega)
  rw [List.length_range, List.length_map] at this
  omega
theorem Tab.absent (T : Tab t es L) {h : Int} {m : Nat} (em : t.slot (way t.mask h m).j = .empty) {P : Value → Prop} (seen : ∀ k, k < m → ∀ i e, t.slot (way t.mask h k).j = .live i → L[i]? = some e → e.2.1 = h → ¬ P e.2.2) : ∀ e ∈ L, e.2.1 = h → ¬ P e.2.2 := by
  intro e he eh p
  obtain ⟨n, hn, hm⟩ := T.rc e he
  rw [eh] at hn hm
  have lt : n < m := by
    rcases Nat.lt_trichotomy n m with z | z | z
    · exact z
    · rw [z] at hn
      rw [hn] at em
      exact absurd (List.mem_map.mpr ⟨e, he, rfl⟩) (T.free.mp em)
    · exact absurd (hm m z) (T.free.mp em)
  obtain ⟨i, hi, ei⟩ := List.mem_iff_getElem.mp he
  have li : L[i]? = some e := by rw [List.getElem?_eq_getElem hi, ei]
  exact seen n lt i e (T.live.mpr ⟨e, li, hn.symm⟩) li eh p
theorem ins_list {α : Type} (xs : Array α) (p : Nat) (x : α) (hp : p ≤ xs.size) : (insertAt xs p x).toList = xs.toList.take p ++ x :: xs.toList.drop p := by
  unfold insertAt
  simp [Array.toList_extract, List.extract]
  exact List.take_of_length_le (by simp)
theorem Tab.add (T : Tab t es L) {h : Int} {x : Value} {m : Nat} (em : t.slot (way t.mask h m).j = .empty) (be : ∀ k, k < m → (way t.mask h k).j ∈ L.map (·.1)) (jm : (way t.mask h m).j ≤ t.mask) :
    ∃ L', L'.Perm (((way t.mask h m).j, h, x) :: L) ∧ Tab (t.put (way t.mask h m).j).1 (insertAt es (t.put (way t.mask h m).j).2 (h, x)) L' ∧ (t.put (way t.mask h m).j).1.mask = t.mask := by
  generalize hj : (way t.mask h m).j = j at *
  have nj := T.free.mp em
  obtain ⟨b1, b2, b3⟩ := below_spec T.up j
  have e2 : (t.put j).2 = below t.place j := rfl
  have em' : (t.put j).1.mask = t.mask := rfl
  rw [e2]
  generalize hp : below t.place j = p at *
  have pl : p ≤ L.length := by rw [T.size.1] at b1; exact b1
  have lo : ∀ e ∈ L.take p, e.1 < j := fun e he => by
    obtain ⟨i, hi, ei⟩ := List.mem_iff_getElem.mp he
    rw [List.length_take] at hi
    have := b2 i (by omega)
    rw [getD_at (v := e.1) (by rw [T.at_, List.getElem?_eq_getElem (by omega), ← ei, List.getElem_take]; rfl)] at this
    exact this
  have hi : ∀ e ∈ L.drop p, j < e.1 := fun e he => by
    obtain ⟨i, hi, ei⟩ := List.mem_iff_getElem.mp he
    rw [List.length_drop] at hi
    have := b3 (p + i) (by omega) (by rw [T.size.1]; omega)
    rw [getD_at (v := e.1) (by rw [T.at_, List.getElem?_eq_getElem (by omega), ← ei, List.getElem_drop]; rfl)] at this
    refine Nat.lt_of_le_of_ne this fun z => nj ?_
    rw [z]
    exact List.mem_map.mpr ⟨e, List.mem_of_mem_drop he, rfl⟩
  have pm : (L.take p ++ (j, h, x) :: L.drop p).Perm ((j, h, x) :: L) := by
    have := (List.perm_middle (a := (j, h, x)) (l₁ := L.take p) (l₂ := L.drop p))
    rwa [List.take_append_drop] at this
  refine ⟨L.take p ++ (j, h, x) :: L.drop p, pm, ⟨?_, ?_, ?_, ?_, T.mok, ?_, ?_⟩, em'⟩
  · show (insertAt t.place (below t.place j) j).toList = _
    rw [hp, ins_list _ _ _ b1, T.pl, List.map_append, List.map_cons, List.map_take, List.map_drop]
  · rw [ins_list _ _ _ (by rw [T.size.2]; exact pl), T.el, List.map_append, List.map_cons, List.map_take, List.map_drop]
  · rw [List.map_append, List.map_cons, List.pairwise_append, List.pairwise_cons]
    have sub1 : ((L.take p).map (·.1)).Pairwise (· < ·) := by rw [List.map_take]; exact T.srt.sublist (List.take_sublist _ _)
    have sub2 : ((L.drop p).map (·.1)).Pairwise (· < ·) := by rw [List.map_drop]; exact T.srt.sublist (List.drop_sublist _ _)
    refine ⟨sub1, ⟨fun b hb => ?_, sub2⟩, fun a ha b hb => ?_⟩
    · obtain ⟨e, he, rfl⟩ := List.mem_map.mp hb
      exact hi e he
    · obtain ⟨e, he, rfl⟩ := List.mem_map.mp ha
      rcases List.mem_cons.mp hb with rfl | hb
      · exact lo e he
      · obtain ⟨e', he', rfl⟩ := List.mem_map.mp hb
        exact Nat.lt_trans (lo e he) (hi e' he')
  · show (if has t.dummies j then eraseAt t.dummies (below t.dummies j) else t.dummies) = #[]
    rw [T.dm, if_neg]
    unfold has
    simp
  · intro e he
    rcases List.mem_cons.mp (pm.mem_iff.mp he) with rfl | he
    · exact jm
    · exact T.bd e he
  · intro e he
    have more : ∀ s, s ∈ L.map (·.1) → s ∈ (L.take p ++ (j, h, x) :: L.drop p).map (·.1) := fun s hs => by
      obtain ⟨e', he', rfl⟩ := List.mem_map.mp hs
      exact List.mem_map.mpr ⟨e', pm.mem_iff.mpr (List.mem_cons_of_mem _ he'), rfl⟩
    rcases List.mem_cons.mp (pm.mem_iff.mp he) with rfl | he
    · exact ⟨m, hj, fun k hk => more _ (be k hk)⟩
    · obtain ⟨n, a, b⟩ := T.rc e he
      exact ⟨n, a, fun k hk => more _ (b k hk)⟩
end XS
set_option maxRecDepth 100000
namespace XS
open PySem PySem.SetTable
abbrev Own := Array (Option Nat)
def taken (o : Own) (j : Nat) : Bool := (o.getD j (some 0)).isSome
theorem free_spec (mask : Nat) (h : Int) (o : Own) : ∀ (fuel r : Nat), (∃ r', r ≤ r' ∧ r' < r + fuel ∧ taken o (rnd mask h r').1 = false) →
    ∃ n, nAt mask h r ≤ n ∧ layClean.free mask o fuel (rnd mask h r).1 (rnd mask h r).2 = some (way mask h n).j ∧ taken o (way mask h n).j = false ∧ ∀ m, nAt mask h r ≤ m → m < n → taken o (way mask h m).j = true
  | 0, r, ⟨r', a, b, _⟩ => by omega
  | fuel + 1, r, ⟨r', a, b, c⟩ => by
    unfold layClean.free
    have rl := run_le mask (rnd mask h r).1
    cases hf : (List.range (runEnd mask (rnd mask h r).1 + 1 - (rnd mask h r).1)).find? fun k => (o.getD ((rnd mask h r).1 + k) (some 0)).isNone with
    | some k =>
      simp only []
      obtain ⟨hk, as, bs, e, nb⟩ := List.find?_eq_some_iff_append.mp hf
      have kin : k ∈ List.range (runEnd mask (rnd mask h r).1 + 1 - (rnd mask h r).1) := List.mem_of_find?_eq_some hf
      have kl := List.mem_range.mp kin
      have hw : ∀ m, m ≤ k → (way mask h (nAt mask h r + m)).j = (rnd mask h r).1 + m := fun m hm => way_at mask h r m (by omega)
      refine ⟨nAt mask h r + k, by omega, by rw [hw k (Nat.le_refl _)], ?_, fun m h1 h2 => ?_⟩
      · rw [hw k (Nat.le_refl _)]
        unfold taken
        revert hk
        cases o.getD ((rnd mask h r).1 + k) (some 0) <;> simp
      · obtain ⟨d, rfl⟩ : ∃ d, m = nAt mask h r + d := ⟨m - nAt mask h r, by omega⟩
        rw [hw d (by omega)]
        have din : d ∈ as := by
          have al : as.length = k := by
            have g : (List.range (runEnd mask (rnd mask h r).1 + 1 - (rnd mask h r).1))[as.length]? = some k := by rw [e]; simp
            rw [List.getElem?_range] at g
            · exact Option.some.inj g
            · have := congrArg List.length e
              simp at this
              omega
          have g : (List.range (runEnd mask (rnd mask h r).1 + 1 - (rnd mask h r).1))[d]? = some d := List.getElem?_range (by omega)
          rw [e, List.getElem?_append_left (by omega)] at g
          exact List.mem_of_getElem? g
        have := nb d din
        unfold taken
        revert this
        cases o.getD ((rnd mask h r).1 + d) (some 0) <;> simp
    | none =>
      simp only []
      have all := List.find?_eq_none.mp hf
      have run : ∀ d, d ≤ runEnd mask (rnd mask h r).1 - (rnd mask h r).1 → taken o ((rnd mask h r).1 + d) = true := fun d hd => by
        have := all d (List.mem_range.mpr (by omega))
        unfold taken
        revert this
        cases o.getD ((rnd mask h r).1 + d) (some 0) <;> simp
      have ne : r ≠ r' := fun q => by
        have := run 0 (Nat.zero_le _)
        rw [Nat.add_zero, q, c] at this
        cases this
      obtain ⟨n, a1, a2, a3, a4⟩ := free_spec mask h o fuel (r + 1) ⟨r', by omega, by omega, c⟩
      have nx : nAt mask h (r + 1) = nAt mask h r + (runEnd mask (rnd mask h r).1 - (rnd mask h r).1) + 1 := rfl
      refine ⟨n, by omega, a2, a3, fun m h1 h2 => ?_⟩
      rcases Nat.lt_or_ge m (nAt mask h (r + 1)) with z | z
      · obtain ⟨d, rfl⟩ : ∃ d, m = nAt mask h r + d := ⟨m - nAt mask h r, by omega⟩
        rw [way_at mask h r d (by omega)]
        exact run d (by omega)
      · exact a4 m z h2
structure Lay (mask : Nat) (hs : List Int) (k : Nat) (o : Own) : Prop where
  sz : o.size = mask + 1
  own : ∀ j i : Nat, o[j]? = some (some i) → ∃ h, i < k ∧ hs[i]? = some h ∧ ∃ n, (way mask h n).j = j ∧ ∀ m, m < n → taken o (way mask h m).j = true
  has : ∀ i : Nat, i < k → ∃ j : Nat, o[j]? = some (some i)
  inj : ∀ j j' i : Nat, o[j]? = some (some i) → o[j']? = some (some i) → j = j'
theorem getD_o {o : Own} {j : Nat} (h : j < o.size) (d : Option Nat) : o[j]? = some (o.getD j d) := by
  rw [Array.getElem?_eq_getElem h]
  simp [Array.getD, h]
theorem Lay.room {mask k : Nat} {hs : List Int} {o : Own} (Y : Lay mask hs k o) (lt : k ≤ mask) : ∃ s, s ≤ mask ∧ taken o s = false := by
  refine Classical.byContradiction fun c => ?_
  have all : ∀ s : Nat, s < mask + 1 → ∃ i : Nat, o[s]? = some (some i) := fun s hs => by
    have z : taken o s ≠ false := fun z => c ⟨s, by omega, z⟩
    have g := getD_o (o := o) (j := s) (by rw [Y.sz]; exact hs) (some 0)
    unfold taken at z
    cases e : o.getD s (some 0) with
    | none => rw [e] at z; exact absurd rfl z
    | some i => exact ⟨i, by rw [g, e]⟩
  have nd : ((List.range (mask + 1)).map fun s => (o.getD s none).getD 0).Nodup := by
    rw [List.Nodup, List.pairwise_map]
    refine List.Pairwise.imp_of_mem (fun {a b} ha hb ne e => ne ?_) List.nodup_range
    obtain ⟨i, hi⟩ := all a (List.mem_range.mp ha)
    obtain ⟨i', hi'⟩ := all b (List.mem_range.mp hb)
    rw [getD_o (by rw [Y.sz]; exact List.mem_range.mp ha) none] at hi
    rw [getD_o (by rw [Y.sz]; exact List.mem_range.mp hb) none] at hi'
    have e1 := Option.some.inj hi
    have e2 := Option.some.inj hi'
    rw [e1, e2] at e
    have e : i = i' := e
    subst e
    refine Y.inj a b i ?_ ?_
    · rw [getD_o (by rw [Y.sz]; exact List.mem_range.mp ha) none, e1]
    · rw [getD_o (by rw [Y.sz]; exact List.mem_range.mp hb) none, e2]
  have := nd.length_le_of_subset (l₂ := List.range k) fun i hi => by
    obtain ⟨s, hs', rfl⟩ := List.mem_map.mp hi
    obtain ⟨i, hi⟩ := all s (List.mem_range.mp hs')
    obtain ⟨_, ik, _⟩ := Y.own s i hi
    rw [getD_o (by rw [Y.sz]; exact List.mem_range.mp hs') none] at hi
    rw [Option.some.inj hi]
    exact List.mem_range.mpr ik
  rw [List.length_map, List.length_range, List.length_range] at this
  omega
theorem Lay.more {mask k : Nat} {hs : List Int} {o : Own} (mk : MkOk mask) (Y : Lay mask hs k o) (lt : k ≤ mask) {h : Int} (hk : hs[k]? = some h) :
    ∃ j, layClean.free mask o (turns mask) (bits h % (mask + 1)) (bits h) = some j ∧ Lay mask hs (k + 1) (o.setIfInBounds j (some k)) := by
  obtain ⟨s, sm, st⟩ := Y.room lt
  obtain ⟨r, hr, e⟩ := rnd_cov mk h s sm
  obtain ⟨n, _, f1, f2, f3⟩ := free_spec mask h o (turns mask) 0 ⟨r, Nat.zero_le _, by omega, by rw [e]; exact st⟩
  generalize hj : (way mask h n).j = j at *
  have jl : j < o.size := by
    refine Classical.byContradiction fun c => ?_
    unfold taken at f2
    rw [show o.getD j (some 0) = some 0 by simp [Array.getD, c]] at f2
    cases f2
  have oj : o[j]? = some none := by
    rw [getD_o jl (some 0)]
    unfold taken at f2
    revert f2
    cases o.getD j (some 0) <;> simp
  have new : (o.setIfInBounds j (some k))[j]? = some (some k) := by simp [jl]
  have old : ∀ j' : Nat, j' ≠ j → (o.setIfInBounds j (some k))[j']? = o[j']? := fun j' ne => Array.getElem?_setIfInBounds_ne (fun z => ne z.symm)
  have sz : (o.setIfInBounds j (some k)).size = o.size := by simp
  have tk : ∀ s, taken o s = true → taken (o.setIfInBounds j (some k)) s = true := fun s hs => by
    by_cases c : s = j
    · subst c
      unfold taken
      have g := getD_o (o := o.setIfInBounds s (some k)) (j := s) (by rw [sz]; exact jl) (some 0)
      rw [new] at g
      rw [← Option.some.inj g]
      rfl
    · unfold taken at *
      rw [Array.getD_eq_getD_getElem?, old s c, ← Array.getD_eq_getD_getElem?]
      exact hs
  refine ⟨j, f1, ⟨by rw [sz]; exact Y.sz, fun j' i hi => ?_, fun i hi => ?_, fun a b i ha hb => ?_⟩⟩
  · by_cases c : j' = j
    · subst c
      rw [new] at hi
      cases hi
      exact ⟨h, Nat.lt_succ_self _, hk, n, hj, fun m hm => tk _ (f3 m (Nat.zero_le _) hm)⟩
    · rw [old j' c] at hi
      obtain ⟨h', a, b, n', d, q⟩ := Y.own j' i hi
      exact ⟨h', by omega, b, n', d, fun m hm => tk _ (q m hm)⟩
  · rcases Nat.lt_or_ge i k with z | z
    · obtain ⟨j', hj'⟩ := Y.has i z
      have ne : j' ≠ j := fun q => by rw [q, oj] at hj'; cases hj'
      exact ⟨j', by rw [old j' ne]; exact hj'⟩
    · have : i = k := by omega
      subst this
      exact ⟨j, new⟩
  · have key : ∀ j' i : Nat, j' ≠ j → (o.setIfInBounds j (some k))[j']? = some (some i) → i < k := fun j' i ne hi => by
      rw [old j' ne] at hi
      obtain ⟨_, a, _⟩ := Y.own j' i hi
      exact a
    by_cases ca : a = j <;> by_cases cb : b = j
    · rw [ca, cb]
    · rw [ca, new] at ha
      cases ha
      exact absurd (key b k cb hb) (Nat.lt_irrefl _)
    · rw [cb, new] at hb
      cases hb
      exact absurd (key a k ca ha) (Nat.lt_irrefl _)
    · rw [old a ca] at ha
      rw [old b cb] at hb
      exact Y.inj a b i ha hb
theorem Lay.nil {mask : Nat} {hs : List Int} : Lay mask hs 0 (Array.replicate (mask + 1) none) := by
  refine ⟨by simp, fun j i h => ?_, fun i h => absurd h (Nat.not_lt_zero _), fun a b i h => ?_⟩
  · rw [Array.getElem?_replicate] at h
    split at h <;> simp at h
  · rw [Array.getElem?_replicate] at h
    split at h <;> simp at h
theorem lay_all {mask : Nat} (mk : MkOk mask) (hs : Array Int) (le : hs.size ≤ mask) : ∃ o, layClean mask hs = some o ∧ Lay mask hs.toList hs.size o := by
  unfold layClean
  rw [← Array.foldl_toList]
  have key : ∀ (n : Nat) (l : List Int) (k : Nat) (o : Own), hs.toList.drop k = l → Lay mask hs.toList k o → k + l.length = hs.size → ∃ o', l.foldl (fun acc h => do
      let (owner, k) ← acc
      let j ← layClean.free mask owner (turns mask) (bits h % (mask + 1)) (bits h)
      pure (owner.setIfInBounds j (some k), k + 1)) (some (o, k)) = some (o', hs.size) ∧ Lay mask hs.toList hs.size o' := by
    intro _ l
    induction l with
    | nil =>
      intro k o _ Y e
      rw [List.length_nil, Nat.add_zero] at e
      subst e
      exact ⟨o, rfl, Y⟩
    | cons h l ih =>
      intro k o d Y e
      rw [List.length_cons] at e
      have hk : hs.toList[k]? = some h := by
        have := congrArg (·[0]?) d
        simpa using this
      obtain ⟨j, f, Y'⟩ := Y.more mk (by omega) hk
      obtain ⟨o', q, Y2⟩ := ih (k + 1) (o.setIfInBounds j (some k)) (by rw [← List.drop_drop, d]; rfl) Y' (by omega)
      refine ⟨o', ?_, Y2⟩
      rw [List.foldl_cons]
      rw [← q]
      congr 1
      show (do let j ← layClean.free mask o (turns mask) (bits h % (mask + 1)) (bits h); pure (o.setIfInBounds j (some k), k + 1)) = _
      rw [f]
      rfl
  obtain ⟨o, q, Y⟩ := key 0 hs.toList 0 _ rfl Lay.nil (by simp)
  exact ⟨o, by rw [q]; rfl, Y⟩
theorem run_top {mask i : Nat} (h : i ≤ mask) : runEnd mask i ≤ mask := by
  unfold runEnd
  split <;> omega
theorem way_top (mask : Nat) (h : Int) : ∀ n, (way mask h n).j + (way mask h n).more ≤ mask
  | 0 => by
    show bits h % (mask + 1) + (runEnd mask (bits h % (mask + 1)) - bits h % (mask + 1)) ≤ mask
    have : bits h % (mask + 1) < mask + 1 := Nat.mod_lt (bits h) (Nat.succ_pos mask)
    have := run_le mask (bits h % (mask + 1))
    have := run_top (mask := mask) (i := bits h % (mask + 1)) (by omega)
    omega
  | n + 1 => by
    have ih := way_top mask h n
    show (adv mask (way mask h n)).j + (adv mask (way mask h n)).more ≤ mask
    unfold adv
    split
    · show (way mask h n).j + 1 + ((way mask h n).more - 1) ≤ mask
      omega
    · show (leap mask (way mask h n).i (way mask h n).pt).1 + (runEnd mask (leap mask (way mask h n).i (way mask h n).pt).1 - (leap mask (way mask h n).i (way mask h n).pt).1) ≤ mask
      have l : (leap mask (way mask h n).i (way mask h n).pt).1 < mask + 1 := Nat.mod_lt _ (Nat.succ_pos mask)
      generalize (leap mask (way mask h n).i (way mask h n).pt).1 = i at *
      have := run_top (mask := mask) (i := i) (by omega)
      have := run_le mask i
      omega
theorem way_le (mask : Nat) (h : Int) (n : Nat) : (way mask h n).j ≤ mask := by
  have := way_top mask h n
  omega
theorem fmap_all {α β : Type} {f : α → Option β} {g : α → β} : ∀ {l : List α}, (∀ x ∈ l, f x = some (g x)) → l.filterMap f = l.map g
  | [], _ => rfl
  | x :: l, h => by
    rw [List.filterMap_cons, h x (List.mem_cons_self ..), fmap_all fun y hy => h y (List.mem_cons_of_mem _ hy)]
    rfl
theorem relay {mask : Nat} (mok : MkOk mask) (es : Array (Int × Value)) (le : es.size ≤ mask) (finger moves : Nat) (led plain : Bool) :
    ∃ t' order L', laid mask finger moves led plain (es.map (·.1)) = some (t', order) ∧ (L'.map (·.2)).Perm es.toList ∧ Tab t' (order.filterMap (es[·]?)) L' ∧ t'.mask = mask ∧ t'.led = led ∧ t'.moves = moves ∧ t'.plain = plain := by
  obtain ⟨o, eo, Y⟩ := lay_all mok (es.map (·.1)) (by rw [Array.size_map]; exact le)
  rw [Array.size_map] at Y
  have live_mem : ∀ j k, (j, k) ∈ ((List.range (mask + 1)).filterMap fun j => (o.getD j none).map (j, ·)) ↔ o[j]? = some (some k) := fun j k => by
    rw [List.mem_filterMap]
    constructor
    · rintro ⟨a, ha, e⟩
      rw [Option.map_eq_some_iff] at e
      obtain ⟨k', e1, e2⟩ := e
      cases e2
      rw [getD_o (by rw [Y.sz]; exact List.mem_range.mp ha) none, e1]
    · intro e
      have jl : j < mask + 1 := by
        rw [← Y.sz]
        exact (Array.getElem?_eq_some_iff.mp e).1
      refine ⟨j, List.mem_range.mpr jl, ?_⟩
      rw [getD_o (by rw [Y.sz]; exact jl) none] at e
      rw [Option.some.inj e]
      rfl
  have srt : (((List.range (mask + 1)).filterMap fun j => (o.getD j none).map (j, ·)).map (·.1)).Pairwise (· < ·) := by
    rw [List.map_filterMap, List.pairwise_filterMap]
    refine List.pairwise_lt_range.imp fun {a b} ab x hx y hy => ?_
    simp only [Option.map_map, Option.map_eq_some_iff] at hx hy
    obtain ⟨_, _, rfl⟩ := hx
    obtain ⟨_, _, rfl⟩ := hy
    exact ab
  have snd2 : (((List.range (mask + 1)).filterMap fun j => (o.getD j none).map (j, ·)).map (·.2)).Nodup := by
    rw [List.Nodup, List.pairwise_map]
    have p1 := List.pairwise_map.mp srt
    refine List.Pairwise.imp_of_mem (fun {a b} ha hb lt e => ?_) p1
    obtain ⟨j, k⟩ := a
    obtain ⟨j', k'⟩ := b
    have e : k = k' := e
    subst e
    have := Y.inj j j' k ((live_mem j k).mp ha) ((live_mem j' k).mp hb)
    have lt : j < j' := lt
    omega
  generalize hl : ((List.range (mask + 1)).filterMap fun j => (o.getD j none).map (j, ·)) = live at *
  have kl : ∀ jk ∈ live, jk.2 < es.size := fun jk h => by
    obtain ⟨_, a, _⟩ := Y.own jk.1 jk.2 ((live_mem jk.1 jk.2).mp h)
    exact a
  refine ⟨{ mask, place := (live.map (·.1)).toArray, dummies := #[], finger, led, moves, plain }, (live.map (·.2)).toArray, live.map fun jk => (jk.1, es.getD jk.2 (0, .none)), ?_, ?_, ?_, rfl, rfl, rfl, rfl⟩
  · unfold laid
    rw [eo]
    show some _ = some _
    rw [hl]
  · have pr : (live.map (·.2)).Perm (List.range es.size) := by
      refine (List.perm_ext_iff_of_nodup snd2 List.nodup_range).mpr fun k => ?_
      rw [List.mem_range, List.mem_map]
      constructor
      · rintro ⟨jk, h, rfl⟩
        exact kl jk h
      · intro h
        obtain ⟨j, hj⟩ := Y.has k h
        exact ⟨(j, k), (live_mem j k).mpr hj, rfl⟩
    have e1 : (live.map fun jk => (jk.1, es.getD jk.2 (0, .none))).map (·.2) = (live.map (·.2)).map fun k => es.getD k (0, .none) := by
      rw [List.map_map, List.map_map]
      rfl
    have e2 : es.toList = (List.range es.size).map fun k => es.getD k (0, .none) := by
      refine List.ext_getElem (by simp) fun i h1 h2 => ?_
      have h3 : i < es.size := by simpa using h1
      simp [Array.getD, h3]
    rw [e1, e2]
    exact pr.map _
  · refine ⟨?_, ?_, ?_, rfl, mok, fun e he => ?_, fun e he => ?_⟩
    · rw [List.map_map]
      rfl
    · rw [List.map_map, Array.toList_filterMap, List.toList_toArray, List.filterMap_map]
      have : ∀ jk ∈ live, ((es[·]?) ∘ fun x : Nat × Nat => x.2) jk = some (es.getD jk.2 (0, .none)) := fun jk h => by
        show es[jk.2]? = _
        rw [Array.getElem?_eq_getElem (kl jk h)]
        simp [Array.getD, kl jk h]
      rw [fmap_all this]
      rfl
    · rw [List.map_map]
      exact srt
    · obtain ⟨jk, h, rfl⟩ := List.mem_map.mp he
      have := (Array.getElem?_eq_some_iff.mp ((live_mem jk.1 jk.2).mp h)).1
      rw [Y.sz] at this
      show jk.1 ≤ mask
      omega
    · obtain ⟨jk, h, rfl⟩ := List.mem_map.mp he
      obtain ⟨hh, a, b, n, c, d⟩ := Y.own jk.1 jk.2 ((live_mem jk.1 jk.2).mp h)
      have eh : (es.getD jk.2 (0, .none)).1 = hh := by
        rw [Array.getElem?_toList, Array.getElem?_map, Array.getElem?_eq_getElem a] at b
        have := Option.some.inj b
        simp [Array.getD, a]
        exact this
      show ∃ n, (way mask (es.getD jk.2 (0, .none)).1 n).j = jk.1 ∧ _
      rw [eh]
      refine ⟨n, c, fun m hm => ?_⟩
      have tk := d m hm
      have wl := way_le mask hh m
      show (way mask hh m).j ∈ _
      unfold taken at tk
      have g := getD_o (o := o) (j := (way mask hh m).j) (by rw [Y.sz]; omega) (some 0)
      cases e : o.getD (way mask hh m).j (some 0) with
      | none => rw [e] at tk; cases tk
      | some k =>
        rw [e] at g
        rw [List.map_map]
        exact List.mem_map.mpr ⟨((way mask hh m).j, k), (live_mem _ _).mpr g, rfl⟩
end XS
set_option maxRecDepth 100000
set_option maxHeartbeats 4000000
namespace XS
open PySem PySem.Spec PySem.SetTable
section
variable {prog : Program} {w : World} {K : Type} [DecidableEq K] {knd : KeyKind prog w K} {A : Around} {E : Value → Shared → Prop} {s : Shared}
theorem cls_byValue (n : Nat) {v : Value} (h : carriedByValue v = true) : ofAClassStatement n v = pure false := by
  cases v with
  | ref a => simp [carriedByValue] at h
  | _ => first | rfl | simp [ofAClassStatement] | (unfold ofAClassStatement; rfl)
theorem cls_tuple {ks : List K} {a : Addr} {Q : Bool → Shared → Prop} (hk : IsTupleKey knd s.heap ks a) (h : Q false s) : wpAny (model prog w) A (ofAClassStatement 8 (.ref a)) Q E s := by
  have hT := hk.typeIs
  obtain ⟨o, items, n, ho, hc, hd, hi⟩ := hk
  unfold ofAClassStatement
  refine wpAny_bind (wpAny_typeOf_ref ho ?_)
  rw [hc]
  show wpAny _ _ ((if ("tuple" == "tuple") = true then pure true else isSubtype (.type "tuple") (.type "tuple")) >>= _) _ _ s
  rw [if_pos (by decide)]
  refine wpAny_bind (wpAny_pure ?_)
  simp only [Bool.not_true, Bool.false_eq_true, if_false]
  refine wpAny_bind (wpAny_seqItems ho hd ?_)
  simp only []
  refine wpAny_bind ?_
  show wpAny _ _ (forIn items _ _) _ _ s
  rw [← Array.forIn_toList]
  refine wpAny_forIn_list _ (fun rest r s' => r.1 = none ∧ s' = s ∧ ∀ v ∈ rest, carriedByValue v = true) _ ?_ ?_ _ _ ⟨rfl, rfl, hi.byValue⟩
  · rintro v rest r s' ⟨hr, rfl, hall⟩
    rw [cls_byValue _ (hall v List.mem_cons_self)]
    refine wpAny_bind (wpAny_pure ?_)
    simp only [Bool.false_eq_true, if_false]
    exact wpAny_pure ⟨rfl, rfl, fun u hu' => hall u (List.mem_cons_of_mem _ hu')⟩
  · rintro ⟨r1, r2⟩ s' ⟨hr, rfl, _⟩
    simp only at hr
    subst hr
    exact wpAny_pure h
theorem unseen {ks : List K} {a : Addr} {Q : Bool → Shared → Prop} {stored : List Value} (hk : IsTupleKey knd s.heap ks a) (hs : ∀ y ∈ stored, ∃ ks' b, y = .ref b ∧ IsTupleKey knd s.heap ks' b) (h : Q false s) : wpAny (model prog w) A (searchCouldBeSeen (.ref a) stored) Q E s := by
  unfold searchCouldBeSeen
  refine wpAny_bind ?_
  refine wpAny_forIn_list _ (fun rest r s' => r.1 = none ∧ s' = s ∧ ∀ y ∈ rest, ∃ ks' b, y = .ref b ∧ IsTupleKey knd s.heap ks' b) _ ?_ ?_ _ _ ⟨rfl, rfl, hs⟩
  · rintro y rest r s' ⟨hr, rfl, hall⟩
    obtain ⟨ks', b, rfl, hb⟩ := hall _ List.mem_cons_self
    have nx : ∀ u ∈ rest, ∃ ks' b, u = .ref b ∧ IsTupleKey knd s'.heap ks' b := fun u hu => hall u (List.mem_cons_of_mem _ hu)
    simp only []
    by_cases c : (a == b || carriedByValue (.ref a) && carriedByValue (.ref b)) = true
    · rw [if_pos c]
      exact wpAny_pure ⟨rfl, rfl, nx⟩
    · rw [if_neg c]
      refine wpAny_bind (wpAny_eqIsQuiet_tuple hk ?_)
      simp only [Bool.not_true, Bool.false_eq_true, if_false]
      refine wpAny_bind (wpAny_eqIsQuiet_tuple hb ?_)
      simp only [Bool.not_true, Bool.false_eq_true, if_false]
      refine wpAny_bind (cls_tuple hk ?_)
      simp only [Bool.false_eq_true, if_false]
      refine wpAny_bind (cls_tuple hb ?_)
      simp only [Bool.false_eq_true, if_false]
      exact wpAny_pure ⟨rfl, rfl, nx⟩
  · rintro ⟨r1, r2⟩ s' ⟨hr, rfl, _⟩
    simp only at hr
    subst hr
    exact wpAny_pure h
end
end XS
set_option maxRecDepth 100000
set_option maxHeartbeats 4000000
namespace XS
open PySem PySem.Spec PySem.SetTable
section
variable {prog : Program} {w : World} {K : Type} [DecidableEq K] {knd : KeyKind prog w K} {A : Around} {E : Value → Shared → Prop} {s : Shared}
def hashAtOf (es : Array (Int × Value)) (i : Nat) : Int := (es[i]?.map (·.1)).getD 0
theorem search {d a : Addr} {o : Obj} {es : Array (Int × Value)} {ep : Nat} {t : SetTable} {L : List Row} {k : List K} {Q : SetFound → Shared → Prop} (T : Tab t es L) (ho : s.heap.get? d = some o) (hd : o.data = .set es ep t) (hf : t.fits es.size = true)
    (hu : A.units < cLine) (hk : IsTupleKey knd s.heap k a) (keys : ∀ e ∈ L, ∃ k' b, e.2.1 = tupleKeyHash knd k' ∧ e.2.2 = .ref b ∧ IsTupleKey knd s.heap k' b)
    {n0 : Nat} (he : t.slot (way t.mask (tupleKeyHash knd k) n0).j = .empty) (hn0 : n0 < 10 * turns t.mask)
    (yes : (∃ e ∈ L, ∃ b, e.2.2 = .ref b ∧ IsTupleKey knd s.heap k b) → Q (.there none) s)
    (no : ∀ m, t.slot (way t.mask (tupleKeyHash knd k) m).j = .empty → (∀ i, i < m → (way t.mask (tupleKeyHash knd k) i).j ∈ L.map (·.1)) → (∀ e ∈ L, ∀ b, e.2.2 = .ref b → ¬ IsTupleKey knd s.heap k b) → Q (.free (way t.mask (tupleKeyHash knd k) m).j false) s) :
    ∀ (fuel n : Nat) (stand : Option Probe), n0 - n < fuel → n ≤ n0 → stand.getD (t.probeStart (tupleKeyHash knd k)) = toP (way t.mask (tupleKeyHash knd k) n) → (∀ i, i < n → ∃ j e, t.slot (way t.mask (tupleKeyHash knd k) i).j = .live j ∧ L[j]? = some e ∧ (e.2.1 = tupleKeyHash knd k → ∀ b, e.2.2 = .ref b → ¬ IsTupleKey knd s.heap k b)) →
      wpAny (model prog w) A (setSearchFrom d (.ref a) (tupleKeyHash knd k) true fuel stand) Q E s
  | 0, n, stand, h, _, _, _ => by omega
  | fuel + 1, n, stand, hfu, hn, hst, past => by
    unfold setSearchFrom
    refine wpAny_bind (wpAny_setState_of ho hd hf ?_)
    simp only []
    have odd : t.gaveWay = false := by
      unfold gaveWay
      rcases T.mok with e | e <;> rw [e] <;> decide
    rw [odd]
    simp only [Bool.false_eq_true, if_false]
    obtain ⟨m, nm, pas, cse⟩ := probe_go T.up T.dm (hashAtOf es) (tupleKeyHash knd k) (10 * turns t.mask) n ⟨n0, hn, by omega, he⟩
    have mn : m ≤ n0 := by
      refine Nat.le_of_not_lt fun z => ?_
      obtain ⟨i, e, _⟩ := pas n0 hn z
      rw [he] at e
      cases e
    have seen : ∀ i, i < m → ∃ j e, t.slot (way t.mask (tupleKeyHash knd k) i).j = .live j ∧ L[j]? = some e ∧ (e.2.1 = tupleKeyHash knd k → ∀ b, e.2.2 = .ref b → ¬ IsTupleKey knd s.heap k b) := fun i hi => by
      rcases Nat.lt_or_ge i n with z | z
      · exact past i z
      · obtain ⟨j, e1, e2⟩ := pas i z hi
        obtain ⟨e, e3, e4⟩ := T.live.mp e1
        refine ⟨j, e, e1, e3, fun q => absurd ?_ e2⟩
        unfold hashAtOf
        rw [T.es_, e3]
        exact q
    have inL : ∀ i, i < m → (way t.mask (tupleKeyHash knd k) i).j ∈ L.map (·.1) := fun i hi => by
      obtain ⟨j, e, e1, e3, _⟩ := seen i hi
      obtain ⟨e', e4, e5⟩ := T.live.mp e1
      exact List.mem_map.mpr ⟨e', List.mem_of_getElem? e4, e5⟩
    rw [hst]
    have pr : ∀ met, probe.go t (hashAtOf es) (tupleKeyHash knd k) (10 * turns t.mask) (toP (way t.mask (tupleKeyHash knd k) n)) = some met → t.probe (hashAtOf es) (tupleKeyHash knd k) (toP (way t.mask (tupleKeyHash knd k) n)) = some met := fun _ e => e
    rcases cse with ⟨pe, emp⟩ | ⟨i, pc, liv, hi⟩
    · split
      · rename_i met hm
        cases hm.symm.trans (pr _ pe)
        simp only []
        refine wpAny_pure (no m emp inL fun e hel b eb isk => ?_)
        obtain ⟨k', b', h1, h2, h3⟩ := keys e hel
        have : k' = k := by
          rw [eb] at h2
          cases h2
          exact h3.inj isk
        subst this
        exact T.absent emp (P := fun v => ∃ b, v = .ref b ∧ IsTupleKey knd s.heap k' b) (fun i hi j e1 l1 l2 l3 ⟨b1, l4, l5⟩ => by
          obtain ⟨j2, e2, x1, x2, x3⟩ := seen i hi
          rw [l1] at x1
          cases x1
          rw [l2] at x2
          cases x2
          exact x3 l3 b1 l4 l5) e hel h1 ⟨b, eb, isk⟩
      · rename_i hm
        exact (hm _ (pr _ pe)).elim
    · obtain ⟨e, le, ej⟩ := T.live.mp liv
      obtain ⟨k', b, h1, h2, h3⟩ := keys e (List.mem_of_getElem? le)
      obtain ⟨pp, hv, v⟩ := e
      have h2 : v = .ref b := h2
      subst h2
      have ei : es[i]? = some (hv, .ref b) := by rw [T.es_, le]; rfl
      have sm : t.sameMemory t.moves t.mask = some true := by
        unfold sameMemory
        rw [if_pos (beq_self_eq_true _)]
      have mne : m ≠ n0 := fun z => by rw [z, he] at liv; cases liv
      have nxt : k' ≠ k → ∀ i', i' < m + 1 → ∃ j e, t.slot (way t.mask (tupleKeyHash knd k) i').j = .live j ∧ L[j]? = some e ∧ (e.2.1 = tupleKeyHash knd k → ∀ b, e.2.2 = .ref b → ¬ IsTupleKey knd s.heap k b) := fun c i' hi' => by
        rcases Nat.lt_or_ge i' m with z | z
        · exact seen i' z
        · have : i' = m := by omega
          subst this
          refine ⟨i, _, liv, le, fun _ b2 eb isk => c ?_⟩
          have eb : Value.ref b = Value.ref b2 := eb
          cases eb
          exact h3.inj isk
      have stk : ∀ y ∈ (List.map (fun x : Int × Value => x.snd) (Array.filter (fun x => x.fst == tupleKeyHash knd k) es).toList), ∃ ks' b, y = .ref b ∧ IsTupleKey knd s.heap ks' b := fun y hy => by
        obtain ⟨x, hx, rfl⟩ := List.mem_map.mp hy
        rw [Array.toList_filter, T.el] at hx
        obtain ⟨e', he', rfl⟩ := List.mem_map.mp (List.mem_filter.mp hx).1
        obtain ⟨k2, b2, _, x2, x3⟩ := keys e' he'
        exact ⟨k2, b2, x2, x3⟩
      split
      · rename_i met hm
        cases hm.symm.trans (pr _ pc)
        simp only []
        refine wpAny_ite_split (fun _ => wpAny_bind (unseen hk stk ?_)) (fun _ => ?_)
        · simp only [Bool.false_eq_true, if_false]
          rw [ei]
          simp only []
          refine wpAny_bind (wpAny_holding (wpAny_eqBool_tuple hu h3 hk ?_))
          refine wpAny_bind (wpAny_setState_of ho hd hf ?_)
          by_cases c : k' = k
          · rw [decide_eq_true c]
            simp only [Bool.and_self, if_true]
            exact wpAny_pure (yes ⟨_, List.mem_of_getElem? le, b, rfl, c ▸ h3⟩)
          · rw [decide_eq_false c]
            simp only [Bool.and_false, Bool.false_eq_true, if_false]
            rw [sm]
            simp only [if_true]
            rw [liv]
            simp only []
            rw [ei]
            simp only []
            refine wpAny_bind (wpAny_isSame_ref_self ?_)
            refine wpAny_bind (wpAny_pure ?_)
            simp only [if_true]
            exact search T ho hd hf hu hk keys he hn0 yes no fuel (m + 1) (some (toP (way t.mask (tupleKeyHash knd k) (m + 1)))) (by omega) (by omega) rfl (nxt c)
        · skip
          rw [ei]
          simp only []
          refine wpAny_bind (wpAny_holding (wpAny_eqBool_tuple hu h3 hk ?_))
          refine wpAny_bind (wpAny_setState_of ho hd hf ?_)
          by_cases c : k' = k
          · rw [decide_eq_true c]
            simp only [Bool.and_self, if_true]
            exact wpAny_pure (yes ⟨_, List.mem_of_getElem? le, b, rfl, c ▸ h3⟩)
          · rw [decide_eq_false c]
            simp only [Bool.and_false, Bool.false_eq_true, if_false]
            rw [sm]
            simp only [if_true]
            rw [liv]
            simp only []
            rw [ei]
            simp only []
            refine wpAny_bind (wpAny_isSame_ref_self ?_)
            refine wpAny_bind (wpAny_pure ?_)
            simp only [if_true]
            exact search T ho hd hf hu hk keys he hn0 yes no fuel (m + 1) (some (toP (way t.mask (tupleKeyHash knd k) (m + 1)))) (by omega) (by omega) rfl (nxt c)
      · rename_i hm
        exact (hm _ (pr _ pc)).elim
end
end XS
set_option maxRecDepth 100000
set_option maxHeartbeats 4000000
namespace XS
open PySem PySem.Spec PySem.SetTable
theorem Tab.plainly {t : SetTable} {es : Array (Int × Value)} {L : List Row} (T : Tab t es L) (b : Bool) : Tab { t with plain := b } es L := ⟨T.pl, T.el, T.srt, T.dm, T.mok, T.bd, T.rc⟩
theorem Tab.fits {t : SetTable} {es : Array (Int × Value)} {L : List Row} (T : Tab t es L) (le : L.length ≤ t.mask) : t.fits es.size = true := by
  unfold SetTable.fits fill
  rw [T.size.1, T.size.2, T.dm]
  simp
  exact le
section
variable {prog : Program} {w : World} {K : Type} [DecidableEq K] {knd : KeyKind prog w K} {A : Around} {E : Value → Shared → Prop} {s : Shared}
theorem hashBy_any (n : Nat) {v : Value} (h : carriedByValue v = true) : ∃ b, hashByValue n v = pure b := by
  cases v with
  | ref a => simp [carriedByValue] at h
  | _ => cases n <;> exact ⟨_, by unfold hashByValue; rfl⟩
theorem hashBy_tuple {ks : List K} {a : Addr} {Q : Bool → Shared → Prop} (hk : IsTupleKey knd s.heap ks a) (h : ∀ b, Q b s) : wpAny (model prog w) A (hashByValue 8 (.ref a)) Q E s := by
  have hT := hk.typeIs
  obtain ⟨o, items, n, ho, hc, hd, hi⟩ := hk
  unfold hashByValue
  refine wpAny_bind (wpAny_specialOf hT F.slot_tuple_hash.lookup ?_)
  show wpAny _ _ (seqItems? (.ref a) >>= _) _ _ s
  refine wpAny_bind (wpAny_seqItems ho hd ?_)
  refine wpAny_bind ?_
  show wpAny _ _ (forIn items _ _) _ _ s
  rw [← Array.forIn_toList]
  refine wpAny_forIn_list _ (fun rest r s' => s' = s ∧ ∀ v ∈ rest, carriedByValue v = true) _ ?_ ?_ _ _ ⟨rfl, hi.byValue⟩
  · rintro v rest r s' ⟨rfl, hall⟩
    obtain ⟨b, eb⟩ := hashBy_any 7 (hall v List.mem_cons_self)
    rw [eb]
    refine wpAny_bind (wpAny_pure ?_)
    cases b with
    | true =>
      simp only [Bool.not_true, Bool.false_eq_true, if_false]
      exact wpAny_pure ⟨rfl, fun u hu' => hall u (List.mem_cons_of_mem _ hu')⟩
    | false =>
      simp only [Bool.not_false, if_true]
      exact wpAny_pure (wpAny_pure (h _))
  · rintro ⟨r1, r2⟩ s' ⟨rfl, _⟩
    cases r1 with
    | none => exact wpAny_pure (h _)
    | some b => exact wpAny_pure (h _)
theorem key_keeps {h h' : Heap} {ks : List K} {a d : Addr} {o : Obj} {es ep t} (x : IsTupleKey knd h ks a) (ho : h.get? d = some o) (hd : o.data = .set es ep t) (hs : Heap.SameBut d h h') : IsTupleKey knd h' ks a := by
  obtain ⟨o', items, n, ho', hc, hd', hi⟩ := x
  have hne : a ≠ d := by
    rintro rfl
    obtain rfl : o' = o := Option.some.inj (ho'.symm.trans ho)
    rw [hd] at hd'
    exact nomatch hd'
  exact ⟨o', items, n, (hs.2 a hne).trans ho', hc, hd', hi⟩
def SetT (knd : KeyKind prog w K) (h : Heap) (d : Addr) (xs : List (List K × Addr)) : Prop := ∃ o es ep t L, h.get? d = some o ∧ o.ExactSet ∧ o.data = .set es ep t ∧ Tab t es L ∧ (L.map (·.2)).Perm (xs.map fun x => (tupleKeyHash knd x.1, .ref x.2)) ∧ (∀ x ∈ xs, IsTupleKey knd h x.1 x.2) ∧ ((t.mask = 7 ∧ L.length ≤ 4) ∨ (t.mask = 31 ∧ L.length ≤ 18))
theorem SetT.nil {h : Heap} {d : Addr} {o : Obj} {ep fg mv : Nat} {led : Bool} (ho : h.get? d = some o) (hex : o.ExactSet) (hd : o.data = .set #[] ep (.fresh fg mv led)) : SetT knd h d [] :=
  ⟨o, #[], ep, _, [], ho, hex, hd, ⟨rfl, rfl, List.Pairwise.nil, rfl, .inl rfl, fun _ z => (nomatch z), fun _ z => (nomatch z)⟩, List.Perm.refl _, fun _ z => (nomatch z), .inl ⟨rfl, Nat.zero_le _⟩⟩
theorem stored {h : Heap} {d : Addr} {o : Obj} {es : Array (Int × Value)} {ep : Nat} {t : SetTable} (ho : h.get? d = some o) (hd : o.data = .set es ep t) (es' : Array (Int × Value)) (t' : SetTable) :
    (h.update d (Obj.putSet es' t')).get? d = some { o with data := .set es' (ep + 1) t' } := by
  have := Heap.get?_update_self (Obj.putSet es' t') ho (by rw [putSet_of es' t' hd]; rfl)
  rw [putSet_of es' t' hd] at this
  exact this
theorem relay_set {d : Addr} {o : Obj} {es : Array (Int × Value)} {ep : Nat} {t : SetTable} {L : List Row} {Q : Unit → Shared → Prop} (T : Tab t es L) (le : L.length ≤ t.mask) (l5 : L.length = 5) (ho : s.heap.get? d = some o) (hd : o.data = .set es ep t)
    (h : ∀ es' t' L', (L'.map (·.2)).Perm (L.map (·.2)) → Tab t' es' L' → t'.mask = 31 → L'.length = 5 → Q () { s with heap := s.heap.update d (Obj.putSet es' t') }) :
    wpAny (model prog w) A (setRelay d (SetTable.grown 5)) Q E s := by
  unfold setRelay
  refine wpAny_bind (wpAny_setState_of ho hd (T.fits le) ?_)
  simp only []
  have sa : SetTable.sizeAbove (SetTable.grown 5) = 32 := by decide
  rw [sa]
  have nl : ¬ (32 > sizeLine) := by decide
  rw [if_neg nl]
  obtain ⟨t', order, L', e1, pm, T', mk, _⟩ := relay (mask := 31) (.inr rfl) es (by rw [T.size.2, l5]; decide) t.finger (t.movedTo 31) t.led t.plain
  have rl : t.relaid (es.map (·.1)) (SetTable.grown 5) = some (t', order) := by
    unfold relaid
    rw [sa]
    exact e1
  rw [rl]
  have l' : L'.length = 5 := by
    have := pm.length_eq
    rw [List.length_map, T.el, List.length_map, l5] at this
    exact this
  have sz : (order.filterMap (es[·]?)).size = es.size := by rw [T'.size.2, T.size.2, l', l5]
  refine wpAny_bind ?_
  show wpAny _ _ (if (order.filterMap (es[·]?)).size != es.size then _ else _) _ _ _
  rw [if_neg (by rw [sz]; simp)]
  refine wpAny_pure ?_
  have pm2 : (L'.map (·.2)).Perm (L.map (·.2)) := by
    rw [← T.el]
    exact pm
  exact wpAny_storeSet_of ho hd (h _ _ L' pm2 T' mk l') (by rw [sz, T.size.2, l5]; decide)
theorem add {d a : Addr} {k : List K} {xs : List (List K × Addr)} {Q : Bool → Shared → Prop} (hu : A.units < cLine) (S : SetT knd s.heap d xs) (hk : IsTupleKey knd s.heap k a) (small : xs.length < 18)
    (yes : k ∈ xs.map (·.1) → Q false s) (no : k ∉ xs.map (·.1) → ∀ h', Heap.SameBut d s.heap h' → SetT knd h' d (xs ++ [(k, a)]) → Q true { s with heap := h' }) :
    wpAny (model prog w) A (setAddHashed d (.ref a) (tupleKeyHash knd k)) Q E s := by
  obtain ⟨o, es, ep, t, L, ho, hex, hd, T, pm, ks, cap⟩ := S
  have ll : L.length = xs.length := by
    have := pm.length_eq
    rwa [List.length_map, List.length_map] at this
  have le : L.length ≤ t.mask := by omega
  have lt : L.length < t.mask := by omega
  have hf := T.fits le
  unfold setAddHashed setAddHashedIn
  refine wpAny_holding (wpAny_bind (wpAny_setState_of ho hd hf ?_))
  simp only []
  have nb : byScan (.ref a) es = false := rfl
  rw [nb]
  simp only [Bool.false_eq_true, if_false]
  obtain ⟨n0, hn0, he⟩ := T.some_free le (tupleKeyHash knd k)
  have keys : ∀ e ∈ L, ∃ k' b, e.2.1 = tupleKeyHash knd k' ∧ e.2.2 = .ref b ∧ IsTupleKey knd s.heap k' b := fun e hel => by
    have m := pm.mem_iff.mp (List.mem_map.mpr ⟨e, hel, rfl⟩)
    obtain ⟨x, hx, ex⟩ := List.mem_map.mp m
    refine ⟨x.1, x.2, ?_, ?_, ks x hx⟩
    · rw [← ex]
    · rw [← ex]
  have n100 : n0 < 100000 := by
    refine Nat.lt_of_lt_of_le hn0 ?_
    unfold turns
    rcases T.mok with e | e <;> rw [e] <;> decide
  refine wpAny_bind (search T ho hd hf hu hk keys he hn0 (fun hy => ?_) (fun m em inL nk => ?_) 100000 0 none (by omega) (Nat.zero_le _) rfl (fun i hi => absurd hi (Nat.not_lt_zero _)))
  · simp only []
    refine wpAny_pure (yes ?_)
    obtain ⟨e, hel, b, eb, isk⟩ := hy
    have mm := pm.mem_iff.mp (List.mem_map.mpr ⟨e, hel, rfl⟩)
    obtain ⟨x, hx, ex⟩ := List.mem_map.mp mm
    have : x.2 = b := by
      rw [← ex] at eb
      have eb : Value.ref x.2 = Value.ref b := eb
      injection eb
    have kx := ks x hx
    rw [this] at kx
    rw [isk.inj kx]
    exact List.mem_map.mpr ⟨x, hx, rfl⟩
  · simp only []
    have nin : k ∉ xs.map (·.1) := fun z => by
      obtain ⟨x, hx, rfl⟩ := List.mem_map.mp z
      have mm := pm.mem_iff.mpr (List.mem_map.mpr ⟨x, hx, rfl⟩)
      obtain ⟨e, hel, ee⟩ := List.mem_map.mp mm
      exact nk e hel x.2 (by rw [ee]) (ks x hx)
    refine wpAny_bind (wpAny_setState_of ho hd hf ?_)
    simp only []
    obtain ⟨L', pm', T', mk'⟩ := T.add (x := .ref a) em inL (way_le _ _ _)
    generalize hput : t.put (way t.mask (tupleKeyHash knd k) m).j = tp at *
    obtain ⟨t1, p1⟩ := tp
    simp only [] at *
    have l1 : L'.length = L.length + 1 := by
      have := pm'.length_eq
      rwa [List.length_cons] at this
    have pm2 : (L'.map (·.2)).Perm ((xs ++ [(k, a)]).map fun x => (tupleKeyHash knd x.1, Value.ref x.2)) := by
      rw [List.map_append]
      have q1 : (L'.map (·.2)).Perm ((tupleKeyHash knd k, Value.ref a) :: L.map (·.2)) := pm'.map fun x : Row => x.2
      exact q1.trans ((pm.cons _).trans (List.perm_append_singleton _ _).symm)
    have kk : ∀ h', Heap.SameBut d s.heap h' → ∀ x ∈ xs ++ [(k, a)], IsTupleKey knd h' x.1 x.2 := fun h' sb x hx => by
      rcases List.mem_append.mp hx with hx | hx
      · exact key_keeps (ks x hx) ho hd sb
      · rw [List.mem_singleton.mp hx]
        exact key_keeps hk ho hd sb
    generalize hes1 : insertAt es p1 (tupleKeyHash knd k, Value.ref a) = es1 at *
    have fin : ∀ t2 : SetTable, Tab t2 es1 L' → t2.mask = t.mask → wpAny (model prog w) A (do storeSet d es1 t2; if (!false && t2.tooFull) = true then do setRelay d (grown (es.size + 1)); pure true else pure true) Q E s := fun t2 T2 m2 => by
      refine wpAny_bind (wpAny_storeSet_of ho hd ?_ (by rw [T2.size.2]; exact Nat.le_trans (by omega : _ ≤ 1000) (by decide)))
      have ho2 := stored ho hd es1 t2
      have sb := Heap.SameBut.update s.heap d (Obj.putSet es1 t2)
      have fl : t2.fill = L'.length := by
        unfold fill
        rw [T2.size.1, T2.dm]
        rfl
      by_cases c : t2.tooFull = true
      · rw [c]
        simp only [Bool.not_false, Bool.and_self, if_true]
        have c2 := c
        unfold tooFull at c2
        rw [fl, m2] at c2
        have c2 := of_decide_eq_true c2
        have l5 : L'.length = 5 := by omega
        have e5 : es.size + 1 = 5 := by rw [T.size.2]; omega
        rw [e5]
        refine wpAny_bind (relay_set T2 (by omega) l5 ho2 rfl fun es' t' L2 p2 T3 m3 l3 => ?_)
        have sb2 := sb.trans (Heap.SameBut.update (s.heap.update d (Obj.putSet es1 t2)) d (Obj.putSet es' t'))
        exact wpAny_pure (no nin _ sb2 ⟨_, es', _, t', L2, stored ho2 rfl es' t', hex, rfl, T3, p2.trans pm2, kk _ sb2, .inr ⟨m3, by omega⟩⟩)
      · rw [Bool.eq_false_iff.mpr c]
        simp only [Bool.and_false, Bool.false_eq_true, if_false]
        refine wpAny_pure (no nin _ sb ⟨_, es1, _, t2, L', ho2, hex, rfl, T2, pm2, kk _ sb, ?_⟩)
        have c2 : ¬ (t2.fill * 5 ≥ t2.mask * 3) := fun z => c (decide_eq_true z)
        rw [fl, m2] at c2
        rw [m2]
        omega
    refine wpAny_ite_split (fun _ => wpAny_bind (hashBy_tuple hk fun b => ?_)) (fun _ => wpAny_bind (wpAny_pure ?_))
    · cases b with
      | true => exact fin t1 T' mk'
      | false => exact fin _ (T'.plainly false) mk'
    · exact fin t1 T' mk'
end
end XS
set_option maxRecDepth 100000
set_option maxHeartbeats 4000000
namespace XS
open PySem PySem.Spec PyProof.Rows
section
variable {K : Type} [DecidableEq K]
def oneT (acc : List (List K × Addr)) (x : List K × Addr) : List (List K × Addr) := if x.1 ∈ acc.map (·.1) then acc else acc ++ [x]
def firstsT (ky : Nat → List K) (ad : Nat → Addr) (i : Nat) : List (List K × Addr) := ((List.range i).map fun j => (ky j, ad j)).foldl oneT []
theorem firstsT_succ (ky : Nat → List K) (ad : Nat → Addr) (i : Nat) : firstsT ky ad (i + 1) = oneT (firstsT ky ad i) (ky i, ad i) := by
  unfold firstsT
  rw [List.range_succ, List.map_append, List.foldl_append]
  rfl
theorem firstsT_mem (ky : Nat → List K) (ad : Nat → Addr) : ∀ i, ∀ x ∈ firstsT ky ad i, ∃ j, j < i ∧ x = (ky j, ad j)
  | 0, x, h => nomatch h
  | i + 1, x, h => by
    rw [firstsT_succ] at h
    unfold oneT at h
    split at h
    · obtain ⟨j, a, b⟩ := firstsT_mem ky ad i x h
      exact ⟨j, by omega, b⟩
    · rcases List.mem_append.mp h with h | h
      · obtain ⟨j, a, b⟩ := firstsT_mem ky ad i x h
        exact ⟨j, by omega, b⟩
      · exact ⟨i, by omega, List.mem_singleton.mp h⟩
theorem firstsT_le (ky : Nat → List K) (ad : Nat → Addr) : ∀ i, (firstsT ky ad i).length ≤ i
  | 0 => Nat.le_refl _
  | i + 1 => by
    have ih := firstsT_le ky ad i
    rw [firstsT_succ]
    unfold oneT
    split
    · omega
    · rw [List.length_append, List.length_singleton]
      omega
end
section
variable {pr : Program} {wd : World} {K : Type} [DecidableEq K] {knd : KeyKind pr wd K}
theorem SetT.move {h h' : Heap} {d : Addr} {xs : List (List K × Addr)} (S : SetT knd h d xs) (g : ∀ o, h.get? d = some o → h'.get? d = some o) (ks : ∀ x ∈ xs, IsTupleKey knd h' x.1 x.2) : SetT knd h' d xs := by
  obtain ⟨o, es, ep, t, L, ho, hex, hd, T, pm, _, cap⟩ := S
  exact ⟨o, es, ep, t, L, g o ho, hex, hd, T, pm, ks, cap⟩
theorem key_move {h h' : Heap} {k : List K} {a : Addr} (x : IsTupleKey knd h k a) (g : ∀ o, h.get? a = some o → h'.get? a = some o) : IsTupleKey knd h' k a := by
  obtain ⟨o, items, n, ho, r⟩ := x
  exact ⟨o, items, n, g o ho, r⟩
variable {ar : Around} {R : Result → Shared → Prop} {it : Addr} {fp wr : List Addr} {G : Array GenState → Array GenState → Prop} {n : Nat} {P : Nat → Value → Prop} {St : Nat → Shared → Prop}
theorem loop_tuples (wk : WalksS pr wd ar.in1 it fp wr G n P St) (d : Addr) (nd : d ∉ fp) (ky : Nat → List K) (ad : Nat → Addr) (hv : ∀ i v, P i v → v = .ref (ad i)) (far : ∀ i, i < n → ad i ∉ d :: wr) (hu : ar.in1.units < cLine) (small : n ≤ 18) :
    ∀ (k i : Nat) (s : Shared), n - i = k → i ≤ n → St i s → SetT knd s.heap d (firstsT ky ad i) → (∀ j, j < n → IsTupleKey knd s.heap (ky j) (ad j)) →
      (∀ s2, Moved (d :: wr) G s s2 → SetT knd s2.heap d (firstsT ky ad n) → R (.ok (.ret .none)) s2) →
      codeAny (model pr wd) ar (.builtin "set.update.loop" ⟨[.ref d, .ref it], []⟩) R s := by
  have nw : d ∉ wr := fun z => nd (wk.sub _ z)
  have more : ∀ b ∈ wr, b ∈ d :: wr := fun b z => List.mem_cons_of_mem _ z
  have kmv : ∀ {s s2 : Shared}, Moved (d :: wr) G s s2 → (∀ j, j < n → IsTupleKey knd s.heap (ky j) (ad j)) → ∀ j, j < n → IsTupleKey knd s2.heap (ky j) (ad j) := fun mv ks j hj => key_move (ks j hj) fun o e => mv.heap _ _ (far j hj) e
  have smv : ∀ {s s2 : Shared} {i : Nat}, i ≤ n → Moved wr G s s2 → (∀ j, j < n → IsTupleKey knd s2.heap (ky j) (ad j)) → SetT knd s.heap d (firstsT ky ad i) → SetT knd s2.heap d (firstsT ky ad i) := fun hi mv ks S => S.move (fun o e => mv.heap d _ nw e) fun x hx => by
    obtain ⟨j, a, rfl⟩ := firstsT_mem ky ad _ x hx
    exact ks j (by omega)
  intro k
  induction k with
  | zero =>
    intro i s ek le st so ks fin
    obtain rfl : i = n := by omega
    refine codeAny_builtin F.entry_set_update_loop ?_
    rw [Around.under_plainId F.plain_set_update_loop _]
    refine wpAny_bind (m := pyNext (.ref it)) (wk.done s _ _ st fun s2 mv => ?_)
    exact wpAny_pure (fin s2 (mv.mono more) (smv (Nat.le_refl _) mv (kmv (mv.mono more) ks) so))
  | succ k ih =>
    intro i s ek le st so ks fin
    have lt : i < n := by omega
    refine codeAny_builtin F.entry_set_update_loop ?_
    rw [Around.under_plainId F.plain_set_update_loop _]
    refine wpAny_bind (m := pyNext (.ref it)) (wk.item i s _ _ lt st fun v s2 pv st2 mv => ?_)
    obtain rfl := hv i v pv
    have ks2 := kmv (mv.mono more) ks
    have so2 := smv le mv ks2 so
    show wpAny _ ar.in1 (holding [Value.ref (ad i)] (setAdd d (.ref (ad i))) >>= _) _ _ s2
    refine wpAny_bind (wpAny_holding ?_)
    unfold setAdd
    refine wpAny_holding (wpAny_bind (wpAny_pyHash_tuple hu (ks2 i lt) ?_))
    have rm : (firstsT ky ad i).length < 18 := by have := firstsT_le ky ad i; omega
    refine add (s := { s2 with toks := s2.toks + ((ky i).length + 1) }) hu so2 (ks2 i lt) rm (fun hin => ?_) (fun nin h2 sb so3 => ?_)
    · have e1 : firstsT ky ad (i + 1) = firstsT ky ad i := by
        rw [firstsT_succ]
        exact if_pos hin
      refine wpAny_pure ⟨plainId_quiet F.plain_set_update_loop _, ih (i + 1) _ (by omega) lt (wk.frame _ s2 _ _ st2 (Nat.le_add_right _ _) fun b z o e => e) (by rw [e1]; exact so2) ks2 fun s3 mv3 so5 => ?_⟩
      exact fin s3 (Moved.trans wk.gtrans ((mv.mono more).then_heap (Nat.le_add_right _ _) fun b o z e => e) mv3) so5
    · have e1 : firstsT ky ad (i + 1) = firstsT ky ad i ++ [(ky i, ad i)] := by
        rw [firstsT_succ]
        exact if_neg nin
      have ks3 : ∀ j, j < n → IsTupleKey knd h2 (ky j) (ad j) := fun j hj => key_move (ks2 j hj) fun o e => by
        rw [sb.2 _ (fun e2 : ad j = d => far j hj (e2 ▸ List.mem_cons_self))]
        exact e
      refine wpAny_pure ⟨plainId_quiet F.plain_set_update_loop _, ih (i + 1) _ (by omega) lt (wk.frame _ s2 _ _ st2 (Nat.le_add_right _ _) fun b z o e => ?_) (by rw [e1]; exact so3) ks3 fun s3 mv3 so5 => ?_⟩
      · rw [sb.2 b (fun e2 : b = d => nd (e2 ▸ z))]
        exact e
      · refine fin s3 (Moved.trans wk.gtrans ((mv.mono more).then_heap (Nat.le_add_right _ _) fun b o z e => ?_) mv3) so5
        rw [sb.2 b (fun e2 : b = d => z (e2 ▸ List.mem_cons_self))]
        exact e
end
end XS
set_option maxRecDepth 100000
set_option maxHeartbeats 4000000
namespace XS
open PySem PySem.Spec PyProof.Rows XL
section
variable {pr : Program} {wd : World} {K : Type} [DecidableEq K] {knd : KeyKind pr wd K} {ar : Around} {E : Value → Shared → Prop} {s : Shared}
theorem call_set_tuples {l : Addr} {its : Array Value} (ky : Nat → List K) (ad : Nat → Addr) {Q : Value → Shared → Prop} (hd : ar.handled = none) (hu : ar.in1.in1.in1.units < cLine) (hl : s.heap.IsList l its) (hi : ∀ (i : Nat) (v : Value), its[i]? = some v → v = .ref (ad i)) (hk : ∀ i, i < its.size → IsTupleKey knd s.heap (ky i) (ad i)) (small : its.size ≤ 18)
    (h : ∀ (h2 : Heap) (tk : Nat), SetT knd h2 s.heap.objs.size (firstsT ky ad its.size) → (∀ b o, b < s.heap.objs.size → s.heap.get? b = some o → h2.get? b = some o) → Q (.ref s.heap.objs.size) { s with heap := h2, toks := tk }) :
    wpAny (model pr wd) ar (call (.type "set") [.ref l]) Q E s := by
  obtain ⟨c0, tl0, mro0⟩ := F.called_set.mro
  have made0 := F.called_set.made
  have sub0 := F.called_set.sub
  refine wpAny_call (codeAny_of_tree ?_)
  show wpAny _ _ (callAny (.type "set") _) _ _ _
  refine wpAny_pure ⟨Code.quiet_builtin _ (by decide +kernel), codeAny_builtin F.entry_type_call ?_⟩
  rw [Around.under_plain (weight_type_call_type "set" [.ref l] []) rfl]
  have k1 := F.called_set.notType
  have k2 := F.called_set.canCreate
  have k3 := F.typeCall_set_1 (.ref l)
  repeat (any_goals (first | assumption | wp_step))
  refine codeAny_mono (code_set_new_1 (.ref l) (E := E) (Q₁ := fun ob s1 => ∃ led : Bool, ob = .ref s.heap.objs.size ∧ s1 = { s with heap := s.heap.push { cls := .type "set", dict := none, data := .set #[] 0 (.fresh 0 0 led) } }) fun led => ⟨led, rfl, rfl⟩) fun r s1 hr => ?_
  cases r with
  | error e => exact hr
  | ok fl =>
    cases fl with
    | ret ob =>
      obtain ⟨led, rfl, rfl⟩ := hr
      have g0 : (s.heap.push { cls := .type "set", dict := none, data := .set #[] 0 (.fresh 0 0 led) }).get? s.heap.objs.size = some { cls := .type "set", dict := none, data := .set #[] 0 (.fresh 0 0 led) } := Heap.get?_push_size _ rfl
      have ty0 : Shared.TypeIs { s with heap := s.heap.push { cls := .type "set", dict := none, data := .set #[] 0 (.fresh 0 0 led) } } (.ref s.heap.objs.size) "set" := ⟨_, g0, rfl⟩
      have li0 := F.called_set.init.lookup
      have bi0 := F.called_set.init.bind (.ref s.heap.objs.size)
      repeat (any_goals (first | assumption | wp_step))
      refine codeAny_mono (codeAny_call_builtin (R := wants (fun r s2 => r = .none ∧ ∃ h2 tk, s2 = { s with heap := h2, toks := tk } ∧ SetT knd h2 s.heap.objs.size (firstsT ky ad its.size) ∧ (∀ b o, b < s.heap.objs.size → s.heap.get? b = some o → h2.get? b = some o)) E) F.called_set.init.plain F.entry_set_init (check_set_init_1 ty0 ?_)) fun r2 s2 hr2 => ?_
      · obtain ⟨ol, gl, cl, nl, dl⟩ := hl
        obtain ⟨ocls, odict, odata, oslots⟩ := ol
        simp only at cl dl
        subst cl dl
        have gl1 : (s.heap.push { cls := .type "set", dict := none, data := .set #[] 0 (.fresh 0 0 led) }).get? l = some { cls := .type "list", dict := odict, data := .seq its nl, slots := oslots } := Heap.get?_push_of_some _ gl
        have a1 := F.sub_list_set
        have a2 := F.sub_list_frozenset
        have a3 : (Value.type "list" == Value.type "dict") = false := by decide
        have l1 : (s.heap.push { cls := .type "set", dict := none, data := .set #[] 0 (.fresh 0 0 led) }).IsList l its := ⟨_, gl1, rfl, nl, rfl⟩
        unfold Builtin.«set.__init__» noKeywords Builtin.Frozenset.updateFrom
        generalize ePI : pyIter = PI
        wp_walk
        subst ePI
        refine wpAny_pyIter_list l1 (wpAny_bind (wpAny_runValue ?_))
        have ll : l < s.heap.objs.size := Heap.lt_size gl
        have h3 : ar.in1.in1.in1.handled = none := by simp [hd]
        have n1 : l ≠ (s.heap.push { cls := .type "set", dict := none, data := .set #[] 0 (.fresh 0 0 led) }).objs.size := by
          rw [Heap.size_push]
          exact Nat.ne_of_lt (Nat.lt_of_lt_of_le ll (Nat.le_succ _))
        have n2 : s.heap.objs.size ∉ [(s.heap.push { cls := .type "set", dict := none, data := .set #[] 0 (.fresh 0 0 led) }).objs.size, l] := by
          rw [Heap.size_push]
          simp only [List.mem_cons, List.not_mem_nil, or_false, not_or]
          exact ⟨Nat.ne_of_lt (Nat.lt_succ_self _), Nat.ne_of_gt ll⟩
        have kl : ∀ i, i < its.size → ad i < s.heap.objs.size := fun i hi' => by
          obtain ⟨o', _, _, ho', _⟩ := hk i hi'
          exact Heap.lt_size ho'
        refine loop_tuples (knd := knd) ((Walks.list h3 _ l n1 its).toS) s.heap.objs.size n2 ky ad hi (fun i hi' => ?_) hu small (its.size - 0) 0 _ (by omega) (Nat.zero_le _) ⟨⟨_, Heap.get?_push_size _ rfl, rfl, rfl⟩, (l1.push _)⟩ ?hS (fun j hj => key_move (hk j hj) fun o e => Heap.get?_push_of_some _ (Heap.get?_push_of_some _ e)) ?hE
        · have := kl i hi'
          rw [Heap.size_push]
          simp only [List.mem_cons, List.not_mem_nil, or_false, not_or]
          exact ⟨Nat.ne_of_lt this, Nat.ne_of_lt (Nat.lt_of_lt_of_le this (Nat.le_succ _))⟩
        case hS =>
          have g1 : ((s.heap.push { cls := .type "set", dict := none, data := .set #[] 0 (.fresh 0 0 led) }).push { cls := .type "list_iterator", data := .fields #[.ref l, .int 0 0] }).get? s.heap.objs.size = some { cls := .type "set", dict := none, data := .set #[] 0 (.fresh 0 0 led) } := Heap.get?_push_of_some _ g0
          exact SetT.nil g1 ⟨rfl, rfl, rfl⟩ rfl
        case hE =>
          intro s3 mv so
          obtain ⟨hp3, gn3, dr3, tk3, os3⟩ := s3
          obtain rfl : gn3 = s.gens := mv.gens
          obtain rfl : dr3 = s.drawn := mv.drawn
          obtain rfl : os3 = s.os := mv.os
          refine wpAny_pure (wpAny_pure ⟨rfl, hp3, tk3, rfl, so, fun b o lb e => mv.heap b o ?_ (Heap.get?_push_of_some _ (Heap.get?_push_of_some _ e))⟩)
          rw [Heap.size_push]
          simp only [List.mem_cons, List.not_mem_nil, or_false, not_or]
          exact ⟨Nat.ne_of_lt lb, Nat.ne_of_lt (Nat.lt_of_lt_of_le lb (Nat.le_succ _))⟩
      · cases r2 with
        | error e => exact hr2
        | ok fl2 =>
          cases fl2 with
          | ret r =>
            obtain ⟨rfl, h2, tk, rfl, so, kp⟩ := hr2
            repeat (any_goals (first | assumption | wp_step))
            exact h _ _ so kp
          | _ => exact hr2.elim
    | _ => exact hr.elim
end
end XS
set_option maxRecDepth 100000
set_option maxHeartbeats 4000000
namespace L2
open PySem PySem.Spec PyProof.Rows XL XS
section
variable {K : Type} [DecidableEq K]
def oneK (acc : List (List K)) (x : List K) : List (List K) := if x ∈ acc then acc else acc ++ [x]
def unlikeT (xs : List (List K)) : Nat := (xs.foldl oneK []).length
theorem oneT_map : ∀ (xs : List (List K × Addr)) (acc : List (List K × Addr)), (xs.foldl oneT acc).map (·.1) = (xs.map (·.1)).foldl oneK (acc.map (·.1))
  | [], acc => rfl
  | x :: r, acc => by
    rw [List.foldl_cons, oneT_map r, List.map_cons, List.foldl_cons]
    congr 1
    unfold oneT oneK
    split
    · rfl
    · rw [List.map_append]
      rfl
theorem firstsT_is (xs : List (List K)) (ad : Nat → Addr) : (firstsT (fun i => xs.getD i []) ad xs.length).length = unlikeT xs := by
  unfold unlikeT
  rw [← List.length_map (f := (·.1)), show (firstsT (fun i => xs.getD i []) ad xs.length).map (·.1) = xs.foldl oneK [] from ?_]
  unfold firstsT
  rw [oneT_map, List.map_map]
  congr 1
  refine List.ext_getElem (by simp) fun i h1 h2 => ?_
  simp [List.getElem?_eq_getElem h2]
theorem oneK_nd : ∀ (xs acc : List (List K)), (xs.foldl oneK acc).length = acc.length + xs.length ↔ (∀ x ∈ xs, x ∉ acc) ∧ xs.Nodup
  | [], acc => by simp
  | x :: r, acc => by
    have le : ∀ (xs acc : List (List K)), (xs.foldl oneK acc).length ≤ acc.length + xs.length := by
      intro xs
      induction xs with
      | nil => intro acc; exact Nat.le_refl _
      | cons x r ih =>
        intro acc
        refine Nat.le_trans (ih _) ?_
        rw [List.length_cons]
        unfold oneK
        split
        · omega
        · rw [List.length_append, List.length_singleton]
          omega
    show ((r.foldl oneK (oneK acc x)).length = _) ↔ _
    rw [List.length_cons, List.nodup_cons]
    by_cases hx : x ∈ acc
    · rw [show oneK acc x = acc from if_pos hx]
      constructor
      · intro z
        have := le r acc
        omega
      · intro z
        exact absurd hx (z.1 x (List.mem_cons_self ..))
    · rw [show oneK acc x = acc ++ [x] from if_neg hx]
      have ih := oneK_nd r (acc ++ [x])
      rw [List.length_append, List.length_singleton] at ih
      rw [show acc.length + (r.length + 1) = acc.length + 1 + r.length by omega, ih]
      constructor
      · rintro ⟨h1, h2⟩
        refine ⟨fun y hy => ?_, fun z => h1 x z (List.mem_append_right _ (List.mem_singleton.mpr rfl)), h2⟩
        rcases List.mem_cons.mp hy with rfl | hy
        · exact hx
        · exact fun z => h1 y hy (List.mem_append_left _ z)
      · rintro ⟨h1, h2, h3⟩
        refine ⟨fun y hy z => ?_, h3⟩
        rcases List.mem_append.mp z with z | z
        · exact h1 y (List.mem_cons_of_mem _ hy) z
        · rw [List.mem_singleton.mp z] at hy
          exact h2 hy
theorem unlikeT_nd {xs : List (List K)} : unlikeT xs = xs.length ↔ xs.Nodup := by
  have := oneK_nd xs []
  unfold unlikeT
  simpa using this
end
def tLenSetT (K : PySem.W.Frag) (ta : TA) : TE := fun σ H Q => ta σ H fun vs H1 => ∃ (a : Addr) (qs : List Addr) (kss : List (List Key)), vs = [.ref a] ∧ SqL K H1 a (qs.map V.ref) ∧ qs.length = kss.length ∧ (∀ (i : Nat) q ks, qs[i]? = some q → kss[i]? = some ks → H1 q = some (.tup (ks.map kV))) ∧ qs.length ≤ 18 ∧ Q (.int (unlikeT kss : Int)) H1
section
variable {X : Cx}
theorem pe_lenSetT {a : Expr} {ta : TA} {p p2 pos pos2 : Pos} (hu : X.A.units + 20 < cLine) (hc : X.calm = true) (hg : Gl X "len") (hm : X.mg "len" = none) (hg2 : Gl X "set") (hm2 : X.mg "set" = none) (ha : PA X [a] ta)
    (hs : starEach [a] X.env = [(false, eval a X.env)] := by rfl) (hs3 : starEach [.Call (.Name "set" p2) [a] [] pos2] X.env = [(false, eval (.Call (.Name "set" p2) [a] [] pos2) X.env)] := by rfl) :
    PE X (.Call (.Name "len" p) [.Call (.Name "set" p2) [a] [] pos2] [] pos) (tLenSetT X.K ta) := by
  intro pins s σ H Q I h
  refine wpAny_Call_Name_kw (ld_blt I hg hm PyProof.Rows.Boot.«len» ?_)
  refine PyProof.Rows.callWith_builtin1 ?_ (by rw [hs3]; rfl) rfl
  rw [hs3]
  show wpAny _ _ (spliced ((false, eval (.Call (.Name "set" p2) [a] [] pos2) X.env) :: backTo pos [])) _ _ s
  refine Calls.spliced_cons ?_
  refine Call_ (ld_blt I hg2 hm2 PyProof.Rows.Boot.«set» (PyProof.Rows.callWith_type1 (thn (ha pos2 pins s σ H _ I h) fun us s1 ⟨vs, H1, I1, r1, q1⟩ => ?_) hs rfl))
  obtain ⟨l, qs, kss, e, hq, hlen2, hks, hx, q⟩ := q1
  subst e
  obtain ⟨u, rfl, ru⟩ := vals1 r1
  obtain rfl : u = Value.ref l := ru
  obtain ⟨its, rv, pl, hz⟩ := I1.list hq
  have hlen := rv.length
  rw [List.length_map] at hlen
  have sz : its.toArray.size = qs.length := by rw [List.size_toArray, hlen]
  refine call_set_tuples (knd := mixKind X.prog X.w) (fun i => kss.getD i []) (fun i => qs.getD i 0) (I.ok.hd hc) ?hu pl.isList (fun i v e => ?_) (fun i hi => ?_) (by rw [sz]; exact hx) fun h2 tk so kp => ?_
  case hu =>
    show X.A.units + 1 + 1 + 1 < cLine
    omega
  · have e' : its[i]? = some v := by simpa using e
    have lt : i < qs.length := by
      have := (List.getElem?_eq_some_iff.mp e').1
      omega
    obtain ⟨v', hv', rv'⟩ := rv.get (i := i) (x := V.ref qs[i]) (by rw [List.getElem?_map, List.getElem?_eq_getElem lt]; rfl)
    rw [e'] at hv'
    cases hv'
    obtain rfl : v = Value.ref qs[i] := rv'
    simp [List.getElem?_eq_getElem lt]
  · rw [sz] at hi
    have hi2 : i < kss.length := by omega
    have := key_of (P := X.prog) (w := X.w) I1.hok (hks i qs[i] kss[i] (List.getElem?_eq_getElem hi) (List.getElem?_eq_getElem hi2))
    have e1 : kss.getD i [] = kss[i] := by simp [List.getElem?_eq_getElem hi2]
    have e2 : qs.getD i 0 = qs[i] := by simp [List.getElem?_eq_getElem hi]
    show IsTupleKey (mixKind X.prog X.w) s1.heap (kss.getD i []) (qs.getD i 0)
    rw [e1, e2]
    exact this
  refine Calls.spliced_nil ?_
  rw [sz, hlen2] at so
  have I2 : Inv X pins σ H1 { s1 with heap := h2, toks := tk } := I1.kept (t' := tk) fun b o e => kp b o (Heap.lt_size e) e
  obtain ⟨o, es, ep, t, L, ho, hex, hd, T, pm, _, cap⟩ := so
  have ll : es.size = unlikeT kss := by
    have := pm.length_eq
    rw [List.length_map, List.length_map, firstsT_is] at this
    rw [T.size.2, this]
  refine call_len_set ho hex hd (T.fits (by omega)) ?_ ⟨.int (unlikeT kss : Int), H1, I2.tok _, ⟨tk + 1, by rw [ll]⟩, q⟩
  rw [T.size.2]
  omega
end
end L2
namespace L2
open PySem PySem.Spec PyProof.Rows
section
variable {X : Cx}
theorem op_notTr : OpR X (compareOp .IsNot) (fun x y H Q => ∃ b c : Bool, x = .bl b ∧ y = .bl c ∧ Q (.bl (!decide (b = c))) H) := by
  intro pins s σ H x y v u Q I rx ry h
  obtain ⟨b, c, rfl, rfl, q⟩ := h
  obtain rfl : v = Value.bool b := rx
  obtain rfl : u = Value.bool c := ry
  refine wpAny_isNot_plain rfl ⟨.bl (!decide (b = c)), H, I, ?_, q⟩
  cases b <;> cases c <;> rfl
end
end L2
set_option maxRecDepth 100000
set_option maxHeartbeats 1000000
namespace L2
open PySem PySem.Spec PyProof.Rows XL PySem.W
section
variable {J : It} {n : Nat} {g : TG} {σ : St} {fr : List Nat} {tc : TT} {te : TE} {l : Addr} {H1 : Hp} {Q : VK} {α : Type}
theorem sub_snoc {α : Type} {bs as : List α} {i : Nat} {x : α} (h : bs.Sublist (as.take i)) (hx : as[i]? = some x) : (bs ++ [x]).Sublist (as.take (i + 1)) := by
  rw [List.take_add_one, hx]
  exact h.append (List.Sublist.refl _)
theorem sub_stay {α : Type} {bs as : List α} {i : Nat} (h : bs.Sublist (as.take i)) : bs.Sublist (as.take (i + 1)) := by
  rw [List.take_add_one]
  exact h.trans (List.sublist_append_left _ _)
theorem comp_enumS {K : PySem.W.Frag} {a : Addr} {as : List α} {f gv : α → V} (hs : SqL K H1 a (as.map f)) (hlen : as.length < sizeLine) (hl : H1 l = none)
    (step : ∀ (i : Nat) (x : α) (p : Addr) (H2 : Hp), as[i]? = some x → Same H1 H2 → H2 p = none → ∀ (N : V → Hp → Prop) (M : Hp → Prop), (∀ H', Same (upd H2 p (.tup [.int i, f x])) H' → N (gv x) H') → (∀ H', Same (upd H2 p (.tup [.int i, f x])) H' → M H') →
      g (.ref p) (blk0 σ fr n) (upd H2 p (.tup [.int i, f x])) fun σ' H3 => tc σ' H3 fun b H4 => if b = true then te σ' H4 N else M H4)
    (fin : ∀ H2 bs, List.Sublist bs as → Same H1 H2 → H2 l = some (.lst (bs.map gv)) → Q (.ref l) H2) : CompG (Ite K a) n g σ fr tc te l H1 Q := by
  refine compG_by as.length (fun i ys H2 => ∃ bs : List α, Same H1 H2 ∧ H2 l = some (.lst ys) ∧ ys = bs.map gv ∧ List.Sublist bs (as.take i)) ?_ ?_ ?_ ?_
  · exact ⟨[], fun b u e => by rw [upd_ne (ne_of_none e hl)]; exact e, upd_same, rfl, List.nil_sublist _⟩
  · rintro i ys H2 lt ⟨bs, s, _⟩
    exact ⟨_, f as[i], Same.seqL s hs, by rw [List.getElem?_map, List.getElem?_eq_getElem lt]; rfl⟩
  · rintro i ys H2 v H3 lt ⟨bs, s, e, rfl, sb⟩ ⟨p, x, ex, rfl, hp, rfl⟩ N hN
    have ex := ex _ (Same.seqL s hs)
    have hx : as[i]? = some as[i] := List.getElem?_eq_getElem lt
    rw [List.getElem?_map, hx] at ex
    cases ex
    have e1 : upd H2 p (.tup [.int i, f as[i]]) l = some (.lst (bs.map gv)) := by
      rw [upd_ne (ne_of_none e hp)]
      exact e
    have s1 : Same H1 (upd H2 p (.tup [.int i, f as[i]])) := fun b u z => by
      have z2 := s _ _ z
      rw [upd_ne (ne_of_none z2 hp)]
      exact z2
    refine step i _ p H2 hx s hp _ _ (fun H' s' => ?_) (fun H' s' => ?_)
    · have e' := s' _ _ e1
      refine ⟨e', ?_, hN _ _ ⟨bs ++ [as[i]], fun b u z => ?_, upd_same, by rw [List.map_append]; rfl, sub_snoc sb hx⟩⟩
      · have := sb.length_le
        rw [List.length_map]
        rw [List.length_take] at this
        omega
      · rw [upd_ne (ne_of_none z hl)]
        exact s' _ _ (s1 _ _ z)
    · exact hN _ _ ⟨bs, fun b u z => s' _ _ (s1 _ _ z), s' _ _ e1, rfl, sub_stay sb⟩
  · rintro ys H2 ⟨bs, s, e, rfl, sb⟩
    refine ⟨⟨_, Same.seqL s hs, by rw [List.length_map]; exact Nat.le_refl _⟩, fin H2 bs (by rw [List.take_length] at sb; exact sb) s e⟩
end
end L2
namespace Geo
def dn (y r : Int) : Int := if y < r then 1 else -1
def upN (y r : Int) : Nat := if y < r then (r - y).toNat else (y - r).toNat
def wayI (b : Bool) : Int := if b then -1 else 1
def lvN (w x : Int) (b : Bool) : Nat := if b then (x + 1).toNat else (w + 2 - x).toNat
def upL (x y r : Int) : List (Int × Int) := (List.range (upN y r)).map fun (i : Nat) => (x, y + (i : Int) * dn y r)
def lvL (w x : Int) (b : Bool) (r : Int) : List (Int × Int) := (List.range (lvN w x b)).map fun (i : Nat) => (x + (i : Int) * wayI b, r)
def cells (w x y : Int) (b : Bool) (r : Int) : List (Int × Int) := upL x y r ++ lvL w x b r
def btw (v a b : Int) : Prop := min a b ≤ v ∧ v ≤ max a b
instance (v a b : Int) : Decidable (btw v a b) := inferInstanceAs (Decidable (_ ∧ _))
theorem erase_ok {ls : List Int} {k : Nat} {y : Int} (nd : ls.Nodup) (h : ls[k]? = some y) : (ls.eraseIdx k).Nodup ∧ y ∉ ls.eraseIdx k ∧ (∀ z ∈ ls.eraseIdx k, z ∈ ls) ∧ y ∈ ls := by
  obtain ⟨hk, hy⟩ := List.getElem?_eq_some_iff.mp h
  have e : ls.take k ++ y :: ls.drop (k + 1) = ls := by
    rw [← hy, List.getElem_cons_drop, List.take_append_drop]
  have e2 : ls.eraseIdx k = ls.take k ++ ls.drop (k + 1) := List.eraseIdx_eq_take_drop_succ ls k
  have nd2 := nd
  rw [← e, List.nodup_append, List.nodup_cons] at nd2
  obtain ⟨n1, ⟨n2, n3⟩, n4⟩ := nd2
  refine ⟨?_, ?_, fun z hz => List.mem_of_mem_eraseIdx hz, hy ▸ List.getElem_mem hk⟩
  · rw [e2, List.nodup_append]
    exact ⟨n1, n3, fun a ha b hb => n4 a ha b (List.mem_cons_of_mem _ hb)⟩
  · rw [e2, List.mem_append]
    rintro (z | z)
    · exact n4 _ z _ List.mem_cons_self rfl
    · exact n2 z
end Geo
set_option maxRecDepth 100000
set_option maxHeartbeats 4000000
namespace S13
open PySem L2 XL
def top (i : Nat) : Stmt := PySem.Challenge.pw_rimnotes_k13_givings_told.main.body.getD i (.Pass ⟨0, 0, 0, 0⟩)
abbrev s_Side_init : Stmt := inClass (top 17) 0
abbrev s_side_of : Stmt := top 20
abbrev s_is_giving : Stmt := top 22
abbrev s_is_whole : Stmt := top 24
abbrev s_is_name : Stmt := top 25
abbrev s_Picture_init : Stmt := inClass (top 31) 0
abbrev s_Picture_put : Stmt := inClass (top 31) 1
abbrev s_Picture_open_seat : Stmt := inClass (top 31) 4
abbrev s_Picture_points : Stmt := inClass (top 31) 6
abbrev s_Picture_seats : Stmt := inClass (top 31) 7
abbrev s_Picture_may : Stmt := inClass (top 31) 9
abbrev s_Picture_check_name : Stmt := inClass (top 31) 15
abbrev s_Picture_check_cell : Stmt := inClass (top 31) 16
abbrev s_Picture_check_lines : Stmt := inClass (top 31) 17
abbrev s_Picture_check_seat : Stmt := inClass (top 31) 18
abbrev s_law_cell : Stmt := top 33
abbrev s_law_mix : Stmt := top 34
abbrev s_law_names : Stmt := top 36
abbrev s_law_places : Stmt := top 37
abbrev s_law_size : Stmt := top 38
abbrev s_law_picture : Stmt := top 39
abbrev s_law_may : Stmt := top 40
abbrev s_law_pairs : Stmt := top 41
abbrev s_law_spoiled : Stmt := top 42
abbrev s_law_due : Stmt := top 43
abbrev s_law : Stmt := top 44
set_option genInjectivity false in
set_option genSizeOf false in
structure Adr where
  f_Side_init : Addr
  d_Side_init : FuncData
  f_side_of : Addr
  d_side_of : FuncData
  f_is_giving : Addr
  d_is_giving : FuncData
  f_is_whole : Addr
  d_is_whole : FuncData
  f_is_name : Addr
  d_is_name : FuncData
  f_Picture_init : Addr
  d_Picture_init : FuncData
  f_Picture_put : Addr
  d_Picture_put : FuncData
  T_Picture_put : Addr
  f_Picture_open_seat : Addr
  d_Picture_open_seat : FuncData
  f_Picture_points : Addr
  d_Picture_points : FuncData
  f_Picture_seats : Addr
  d_Picture_seats : FuncData
  f_Picture_may : Addr
  d_Picture_may : FuncData
  f_Picture_check_name : Addr
  d_Picture_check_name : FuncData
  f_Picture_check_cell : Addr
  d_Picture_check_cell : FuncData
  f_Picture_check_lines : Addr
  d_Picture_check_lines : FuncData
  f_Picture_check_seat : Addr
  d_Picture_check_seat : FuncData
  f_law_cell : Addr
  d_law_cell : FuncData
  f_law_mix : Addr
  d_law_mix : FuncData
  f_law_names : Addr
  d_law_names : FuncData
  f_law_places : Addr
  d_law_places : FuncData
  f_law_size : Addr
  d_law_size : FuncData
  f_law_picture : Addr
  d_law_picture : FuncData
  f_law_may : Addr
  d_law_may : FuncData
  f_law_pairs : Addr
  d_law_pairs : FuncData
  f_law_spoiled : Addr
  d_law_spoiled : FuncData
  f_law_due : Addr
  d_law_due : FuncData
  f_law : Addr
  d_law : FuncData
  C_Side : Addr
  C_LeftSide : Addr
  C_RightSide : Addr
  C_Picture : Addr
  D_MIRRORED_SIDES : Addr
structure Txt (w : World) (K : PySem.W.Frag) (mg : Str → Option Value) (t : Adr) : Prop where
  g_Side : mg "Side" = some (.ref t.C_Side)
  g_LeftSide : mg "LeftSide" = some (.ref t.C_LeftSide)
  g_RightSide : mg "RightSide" = some (.ref t.C_RightSide)
  g_Picture : mg "Picture" = some (.ref t.C_Picture)
  F_Side_init : Fun K "__init__" "Side.__init__" s_Side_init t.f_Side_init t.d_Side_init
  b_Side_init : Binds K t.d_Side_init ["self", "width"] []
  g_side_of : mg "side_of" = some (.ref t.f_side_of)
  F_side_of : Fun K "side_of" "side_of" s_side_of t.f_side_of t.d_side_of
  b_side_of : Binds K t.d_side_of ["word", "width"] []
  g_is_giving : mg "is_giving" = some (.ref t.f_is_giving)
  F_is_giving : Fun K "is_giving" "is_giving" s_is_giving t.f_is_giving t.d_is_giving
  b_is_giving : Binds K t.d_is_giving ["picture", "names", "pairs"] []
  g_is_whole : mg "is_whole" = some (.ref t.f_is_whole)
  F_is_whole : Fun K "is_whole" "is_whole" s_is_whole t.f_is_whole t.d_is_whole
  b_is_whole : Binds K t.d_is_whole ["thing", "low", "high"] []
  g_is_name : mg "is_name" = some (.ref t.f_is_name)
  F_is_name : Fun K "is_name" "is_name" s_is_name t.f_is_name t.d_is_name
  b_is_name : Binds K t.d_is_name ["thing"] []
  F_Picture_init : Fun K "__init__" "Picture.__init__" s_Picture_init t.f_Picture_init t.d_Picture_init
  b_Picture_init : Binds K t.d_Picture_init ["self", "width", "height"] []
  F_Picture_put : FunD K "put" "Picture.put" s_Picture_put t.T_Picture_put t.f_Picture_put t.d_Picture_put
  b_Picture_put : Binds K t.d_Picture_put ["self", "name", "x", "y", "sides", "low", "high"] []
  F_Picture_open_seat : Fun K "open_seat" "Picture.open_seat" s_Picture_open_seat t.f_Picture_open_seat t.d_Picture_open_seat
  b_Picture_open_seat : Binds K t.d_Picture_open_seat ["self", "side", "row"] []
  F_Picture_points : Fun K "points" "Picture.points" s_Picture_points t.f_Picture_points t.d_Picture_points
  b_Picture_points : Binds K t.d_Picture_points ["self"] []
  F_Picture_seats : Fun K "seats" "Picture.seats" s_Picture_seats t.f_Picture_seats t.d_Picture_seats
  b_Picture_seats : Binds K t.d_Picture_seats ["self"] []
  F_Picture_may : Fun K "may" "Picture.may" s_Picture_may t.f_Picture_may t.d_Picture_may
  b_Picture_may : Binds K t.d_Picture_may ["self", "name", "side", "row"] []
  F_Picture_check_name : Fun K "check_name" "Picture.check_name" s_Picture_check_name t.f_Picture_check_name t.d_Picture_check_name
  b_Picture_check_name : Binds K t.d_Picture_check_name ["self", "name"] []
  F_Picture_check_cell : Fun K "check_cell" "Picture.check_cell" s_Picture_check_cell t.f_Picture_check_cell t.d_Picture_check_cell
  b_Picture_check_cell : Binds K t.d_Picture_check_cell ["self", "x", "y"] []
  F_Picture_check_lines : Fun K "check_lines" "Picture.check_lines" s_Picture_check_lines t.f_Picture_check_lines t.d_Picture_check_lines
  b_Picture_check_lines : Binds K t.d_Picture_check_lines ["self", "name", "x", "y"] []
  F_Picture_check_seat : Fun K "check_seat" "Picture.check_seat" s_Picture_check_seat t.f_Picture_check_seat t.d_Picture_check_seat
  b_Picture_check_seat : Binds K t.d_Picture_check_seat ["self", "side", "row"] []
  g_law_cell : mg "_law_cell" = some (.ref t.f_law_cell)
  F_law_cell : Fun K "_law_cell" "_law_cell" s_law_cell t.f_law_cell t.d_law_cell
  b_law_cell : Binds K t.d_law_cell ["_law_script", "_law_k"] []
  g_law_mix : mg "_law_mix" = some (.ref t.f_law_mix)
  F_law_mix : Fun K "_law_mix" "_law_mix" s_law_mix t.f_law_mix t.d_law_mix
  b_law_mix : Binds K t.d_law_mix ["_law_cell_here", "_law_k"] []
  g_law_names : mg "_law_names" = some (.ref t.f_law_names)
  F_law_names : Fun K "_law_names" "_law_names" s_law_names t.f_law_names t.d_law_names
  b_law_names : Binds K t.d_law_names ["_law_cell_here", "_law_many"] []
  g_law_places : mg "_law_places" = some (.ref t.f_law_places)
  F_law_places : Fun K "_law_places" "_law_places" s_law_places t.f_law_places t.d_law_places
  b_law_places : Binds K t.d_law_places ["_law_cell_here", "_law_size_here", "_law_many"] []
  g_law_size : mg "_law_size" = some (.ref t.f_law_size)
  F_law_size : Fun K "_law_size" "_law_size" s_law_size t.f_law_size t.d_law_size
  b_law_size : Binds K t.d_law_size ["_law_cell_here"] []
  g_law_picture : mg "_law_picture" = some (.ref t.f_law_picture)
  F_law_picture : Fun K "_law_picture" "_law_picture" s_law_picture t.f_law_picture t.d_law_picture
  b_law_picture : Binds K t.d_law_picture ["_law_script"] []
  g_law_may : mg "_law_may" = some (.ref t.f_law_may)
  F_law_may : Fun K "_law_may" "_law_may" s_law_may t.f_law_may t.d_law_may
  b_law_may : Binds K t.d_law_may ["_law_picture_here", "_law_name", "_law_seat"] []
  g_law_pairs : mg "_law_pairs" = some (.ref t.f_law_pairs)
  F_law_pairs : Fun K "_law_pairs" "_law_pairs" s_law_pairs t.f_law_pairs t.d_law_pairs
  b_law_pairs : Binds K t.d_law_pairs ["_law_picture_here", "_law_names_here", "_law_cell_here"] []
  g_law_spoiled : mg "_law_spoiled" = some (.ref t.f_law_spoiled)
  F_law_spoiled : Fun K "_law_spoiled" "_law_spoiled" s_law_spoiled t.f_law_spoiled t.d_law_spoiled
  b_law_spoiled : Binds K t.d_law_spoiled ["_law_picture_here", "_law_pairs_here", "_law_way", "_law_cell_here"] []
  g_law_due : mg "_law_due" = some (.ref t.f_law_due)
  F_law_due : Fun K "_law_due" "_law_due" s_law_due t.f_law_due t.d_law_due
  b_law_due : Binds K t.d_law_due ["_law_picture_here", "_law_names_here", "_law_pairs_here"] []
  g_law : mg "law" = some (.ref t.f_law)
  F_law : Fun K "law" "law" s_law t.f_law t.d_law
  b_law : Binds K t.d_law ["_law_script"] []
  c_Side : Cls K t.C_Side
  ca_Side : PySem.W.findIn K (.ref t.C_Side) "__class__" = some (some (.builtin "object.__class__"))
  mo_Side : PySem.W.mroIn K t.C_Side (.type "object") = some true
  k_Side : Mk K t.C_Side t.f_Side_init
  c_LeftSide : Cls K t.C_LeftSide
  ca_LeftSide : PySem.W.findIn K (.ref t.C_LeftSide) "__class__" = some (some (.builtin "object.__class__"))
  mo_LeftSide : PySem.W.mroIn K t.C_LeftSide (.type "object") = some true
  k_LeftSide : Mk K t.C_LeftSide t.f_Side_init
  c_RightSide : Cls K t.C_RightSide
  ca_RightSide : PySem.W.findIn K (.ref t.C_RightSide) "__class__" = some (some (.builtin "object.__class__"))
  mo_RightSide : PySem.W.mroIn K t.C_RightSide (.type "object") = some true
  k_RightSide : Mk K t.C_RightSide t.f_Side_init
  c_Picture : Cls K t.C_Picture
  ca_Picture : PySem.W.findIn K (.ref t.C_Picture) "__class__" = some (some (.builtin "object.__class__"))
  mo_Picture : PySem.W.mroIn K t.C_Picture (.type "object") = some true
  k_Picture : Mk K t.C_Picture t.f_Picture_init
  m_Picture_put : Meth K t.C_Picture "put" t.f_Picture_put
  m_Picture_open_seat : Meth K t.C_Picture "open_seat" t.f_Picture_open_seat
  m_Picture_points : Meth K t.C_Picture "points" t.f_Picture_points
  m_Picture_seats : Meth K t.C_Picture "seats" t.f_Picture_seats
  m_Picture_may : Meth K t.C_Picture "may" t.f_Picture_may
  m_Picture_check_name : Meth K t.C_Picture "check_name" t.f_Picture_check_name
  m_Picture_check_cell : Meth K t.C_Picture "check_cell" t.f_Picture_check_cell
  m_Picture_check_lines : Meth K t.C_Picture "check_lines" t.f_Picture_check_lines
  m_Picture_check_seat : Meth K t.C_Picture "check_seat" t.f_Picture_check_seat
  cg : PySem.W.specialIn K (.builtin "object.__class__") "__get__" = some (some (.builtin "getset_descriptor.__get__"))
  ct : PySem.W.takesIn K (.builtin "object.__class__") = some true
  n_Picture_placed : PySem.W.findIn K (.ref t.C_Picture) "placed" = some none
  n_Picture_height : PySem.W.findIn K (.ref t.C_Picture) "height" = some none
  n_Picture_width : PySem.W.findIn K (.ref t.C_Picture) "width" = some none
  n_Picture_opened : PySem.W.findIn K (.ref t.C_Picture) "opened" = some none
  n_Side_width : PySem.W.findIn K (.ref t.C_Side) "width" = some none
  n_LeftSide_width : PySem.W.findIn K (.ref t.C_LeftSide) "width" = some none
  n_RightSide_width : PySem.W.findIn K (.ref t.C_RightSide) "width" = some none
  n_all : mg "all" = none
  n_bool : mg "bool" = none
  n_enumerate : mg "enumerate" = none
  n_int : mg "int" = none
  n_isinstance : mg "isinstance" = none
  n_len : mg "len" = none
  n_list : mg "list" = none
  n_min : mg "min" = none
  n_range : mg "range" = none
  n_reversed : mg "reversed" = none
  n_set : mg "set" = none
  n_sorted : mg "sorted" = none
  n_str : mg "str" = none
  v_MOST_ROWS : ∃ tk, mg "MOST_ROWS" = some (.int 16 tk)
  v_MOST_COLUMNS : ∃ tk, mg "MOST_COLUMNS" = some (.int 30 tk)
  v_MOST_POINTS : ∃ tk, mg "MOST_POINTS" = some (.int 12 tk)
  g_MIRRORED_SIDES : mg "MIRRORED_SIDES" = some (.ref t.D_MIRRORED_SIDES)
  D_MIRRORED_SIDES : GDict w K t.D_MIRRORED_SIDES [(.inr "left", .str "right"), (.inr "right", .str "left"), (.inr "both", .str "both")]
theorem txt_mk {w : World} {K : PySem.W.Frag} {h : Heap} {mg : Str → Option Value} (X : K.In h) (G : h.Ns mainGlobals mg) {C_Side C_LeftSide C_RightSide C_Picture f_Side_init f_side_of f_is_giving f_is_whole f_is_name f_Picture_init f_Picture_put T_Picture_put f_Picture_open_seat f_Picture_points f_Picture_seats f_Picture_may f_Picture_check_name f_Picture_check_cell f_Picture_check_lines f_Picture_check_seat f_law_cell f_law_mix f_law_names f_law_places f_law_size f_law_picture f_law_may f_law_pairs f_law_spoiled f_law_due f_law : Addr} {oc_Side_init kv_Side_init dc_Side_init pm_Side_init cd_Side_init ct_Side_init : Value} {od_Side_init an_Side_init : Option Addr} {sl_Side_init : Array (Option Value)} {oc_side_of kv_side_of dc_side_of pm_side_of cd_side_of ct_side_of : Value} {od_side_of an_side_of : Option Addr} {sl_side_of : Array (Option Value)} {oc_is_giving kv_is_giving dc_is_giving pm_is_giving cd_is_giving ct_is_giving : Value} {od_is_giving an_is_giving : Option Addr} {sl_is_giving : Array (Option Value)} {oc_is_whole kv_is_whole dc_is_whole pm_is_whole cd_is_whole ct_is_whole : Value} {od_is_whole an_is_whole : Option Addr} {sl_is_whole : Array (Option Value)} {oc_is_name kv_is_name dc_is_name pm_is_name cd_is_name ct_is_name : Value} {od_is_name an_is_name : Option Addr} {sl_is_name : Array (Option Value)} {oc_Picture_init kv_Picture_init dc_Picture_init pm_Picture_init cd_Picture_init ct_Picture_init : Value} {od_Picture_init an_Picture_init : Option Addr} {sl_Picture_init : Array (Option Value)} {oc_Picture_put kv_Picture_put dc_Picture_put pm_Picture_put cd_Picture_put ct_Picture_put : Value} {od_Picture_put an_Picture_put : Option Addr} {sl_Picture_put : Array (Option Value)} {oc_Picture_open_seat kv_Picture_open_seat dc_Picture_open_seat pm_Picture_open_seat cd_Picture_open_seat ct_Picture_open_seat : Value} {od_Picture_open_seat an_Picture_open_seat : Option Addr} {sl_Picture_open_seat : Array (Option Value)} {oc_Picture_points kv_Picture_points dc_Picture_points pm_Picture_points cd_Picture_points ct_Picture_points : Value} {od_Picture_points an_Picture_points : Option Addr} {sl_Picture_points : Array (Option Value)} {oc_Picture_seats kv_Picture_seats dc_Picture_seats pm_Picture_seats cd_Picture_seats ct_Picture_seats : Value} {od_Picture_seats an_Picture_seats : Option Addr} {sl_Picture_seats : Array (Option Value)} {oc_Picture_may kv_Picture_may dc_Picture_may pm_Picture_may cd_Picture_may ct_Picture_may : Value} {od_Picture_may an_Picture_may : Option Addr} {sl_Picture_may : Array (Option Value)} {oc_Picture_check_name kv_Picture_check_name dc_Picture_check_name pm_Picture_check_name cd_Picture_check_name ct_Picture_check_name : Value} {od_Picture_check_name an_Picture_check_name : Option Addr} {sl_Picture_check_name : Array (Option Value)} {oc_Picture_check_cell kv_Picture_check_cell dc_Picture_check_cell pm_Picture_check_cell cd_Picture_check_cell ct_Picture_check_cell : Value} {od_Picture_check_cell an_Picture_check_cell : Option Addr} {sl_Picture_check_cell : Array (Option Value)} {oc_Picture_check_lines kv_Picture_check_lines dc_Picture_check_lines pm_Picture_check_lines cd_Picture_check_lines ct_Picture_check_lines : Value} {od_Picture_check_lines an_Picture_check_lines : Option Addr} {sl_Picture_check_lines : Array (Option Value)} {oc_Picture_check_seat kv_Picture_check_seat dc_Picture_check_seat pm_Picture_check_seat cd_Picture_check_seat ct_Picture_check_seat : Value} {od_Picture_check_seat an_Picture_check_seat : Option Addr} {sl_Picture_check_seat : Array (Option Value)} {oc_law_cell kv_law_cell dc_law_cell pm_law_cell cd_law_cell ct_law_cell : Value} {od_law_cell an_law_cell : Option Addr} {sl_law_cell : Array (Option Value)} {oc_law_mix kv_law_mix dc_law_mix pm_law_mix cd_law_mix ct_law_mix : Value} {od_law_mix an_law_mix : Option Addr} {sl_law_mix : Array (Option Value)} {oc_law_names kv_law_names dc_law_names pm_law_names cd_law_names ct_law_names : Value} {od_law_names an_law_names : Option Addr} {sl_law_names : Array (Option Value)} {oc_law_places kv_law_places dc_law_places pm_law_places cd_law_places ct_law_places : Value} {od_law_places an_law_places : Option Addr} {sl_law_places : Array (Option Value)} {oc_law_size kv_law_size dc_law_size pm_law_size cd_law_size ct_law_size : Value} {od_law_size an_law_size : Option Addr} {sl_law_size : Array (Option Value)} {oc_law_picture kv_law_picture dc_law_picture pm_law_picture cd_law_picture ct_law_picture : Value} {od_law_picture an_law_picture : Option Addr} {sl_law_picture : Array (Option Value)} {oc_law_may kv_law_may dc_law_may pm_law_may cd_law_may ct_law_may : Value} {od_law_may an_law_may : Option Addr} {sl_law_may : Array (Option Value)} {oc_law_pairs kv_law_pairs dc_law_pairs pm_law_pairs cd_law_pairs ct_law_pairs : Value} {od_law_pairs an_law_pairs : Option Addr} {sl_law_pairs : Array (Option Value)} {oc_law_spoiled kv_law_spoiled dc_law_spoiled pm_law_spoiled cd_law_spoiled ct_law_spoiled : Value} {od_law_spoiled an_law_spoiled : Option Addr} {sl_law_spoiled : Array (Option Value)} {oc_law_due kv_law_due dc_law_due pm_law_due cd_law_due ct_law_due : Value} {od_law_due an_law_due : Option Addr} {sl_law_due : Array (Option Value)} {oc_law kv_law dc_law pm_law cd_law ct_law : Value} {od_law an_law : Option Addr} {sl_law : Array (Option Value)} {tk0_Picture_put : Tok} {tk1_Picture_put : Tok} {toc_Picture_put : Value} {tod_Picture_put : Option Addr} {tn_Picture_put : Nat} {tsl_Picture_put : Array (Option Value)} {tkc_MOST_ROWS : Tok} {tkc_MOST_COLUMNS : Tok} {tkc_MOST_POINTS : Tok} {D_MIRRORED_SIDES : Addr} {ta0_MIRRORED_SIDES tb0_MIRRORED_SIDES : Tok} {ta1_MIRRORED_SIDES tb1_MIRRORED_SIDES : Tok} {ta2_MIRRORED_SIDES tb2_MIRRORED_SIDES : Tok} {ep_MIRRORED_SIDES : Nat}
    (g_Side : PySem.W.nsIn K mainGlobals "Side" = some (some (.ref C_Side)))
    (g_LeftSide : PySem.W.nsIn K mainGlobals "LeftSide" = some (some (.ref C_LeftSide)))
    (g_RightSide : PySem.W.nsIn K mainGlobals "RightSide" = some (some (.ref C_RightSide)))
    (g_Picture : PySem.W.nsIn K mainGlobals "Picture" = some (some (.ref C_Picture)))
    (a_Side_init : PySem.W.findIn K (.ref C_Side) "__init__" = some (some (.ref f_Side_init)))
    (l_Side_init : K.lookup f_Side_init = some ⟨oc_Side_init, od_Side_init, .func (PySem.W.fnOf "__init__" "Side.__init__" (defArgs s_Side_init) (defBody s_Side_init) (defScope s_Side_init) .none kv_Side_init dc_Side_init pm_Side_init an_Side_init cd_Side_init ct_Side_init), sl_Side_init⟩)
    (c_Side_init : PySem.W.codeIn K cd_Side_init "Side.__init__" = true)
    (k_Side_init : PySem.W.keepIn K (.ref f_Side_init) = true)
    (i_Side_init : PySem.W.isFn K (.ref f_Side_init) = true)
    (a_side_of : PySem.W.nsIn K mainGlobals "side_of" = some (some (.ref f_side_of)))
    (l_side_of : K.lookup f_side_of = some ⟨oc_side_of, od_side_of, .func (PySem.W.fnOf "side_of" "side_of" (defArgs s_side_of) (defBody s_side_of) (defScope s_side_of) .none kv_side_of dc_side_of pm_side_of an_side_of cd_side_of ct_side_of), sl_side_of⟩)
    (c_side_of : PySem.W.codeIn K cd_side_of "side_of" = true)
    (k_side_of : PySem.W.keepIn K (.ref f_side_of) = true)
    (i_side_of : PySem.W.isFn K (.ref f_side_of) = true)
    (a_is_giving : PySem.W.nsIn K mainGlobals "is_giving" = some (some (.ref f_is_giving)))
    (l_is_giving : K.lookup f_is_giving = some ⟨oc_is_giving, od_is_giving, .func (PySem.W.fnOf "is_giving" "is_giving" (defArgs s_is_giving) (defBody s_is_giving) (defScope s_is_giving) .none kv_is_giving dc_is_giving pm_is_giving an_is_giving cd_is_giving ct_is_giving), sl_is_giving⟩)
    (c_is_giving : PySem.W.codeIn K cd_is_giving "is_giving" = true)
    (k_is_giving : PySem.W.keepIn K (.ref f_is_giving) = true)
    (i_is_giving : PySem.W.isFn K (.ref f_is_giving) = true)
    (a_is_whole : PySem.W.nsIn K mainGlobals "is_whole" = some (some (.ref f_is_whole)))
    (l_is_whole : K.lookup f_is_whole = some ⟨oc_is_whole, od_is_whole, .func (PySem.W.fnOf "is_whole" "is_whole" (defArgs s_is_whole) (defBody s_is_whole) (defScope s_is_whole) .none kv_is_whole dc_is_whole pm_is_whole an_is_whole cd_is_whole ct_is_whole), sl_is_whole⟩)
    (c_is_whole : PySem.W.codeIn K cd_is_whole "is_whole" = true)
    (k_is_whole : PySem.W.keepIn K (.ref f_is_whole) = true)
    (i_is_whole : PySem.W.isFn K (.ref f_is_whole) = true)
    (a_is_name : PySem.W.nsIn K mainGlobals "is_name" = some (some (.ref f_is_name)))
    (l_is_name : K.lookup f_is_name = some ⟨oc_is_name, od_is_name, .func (PySem.W.fnOf "is_name" "is_name" (defArgs s_is_name) (defBody s_is_name) (defScope s_is_name) .none kv_is_name dc_is_name pm_is_name an_is_name cd_is_name ct_is_name), sl_is_name⟩)
    (c_is_name : PySem.W.codeIn K cd_is_name "is_name" = true)
    (k_is_name : PySem.W.keepIn K (.ref f_is_name) = true)
    (i_is_name : PySem.W.isFn K (.ref f_is_name) = true)
    (a_Picture_init : PySem.W.findIn K (.ref C_Picture) "__init__" = some (some (.ref f_Picture_init)))
    (l_Picture_init : K.lookup f_Picture_init = some ⟨oc_Picture_init, od_Picture_init, .func (PySem.W.fnOf "__init__" "Picture.__init__" (defArgs s_Picture_init) (defBody s_Picture_init) (defScope s_Picture_init) .none kv_Picture_init dc_Picture_init pm_Picture_init an_Picture_init cd_Picture_init ct_Picture_init), sl_Picture_init⟩)
    (c_Picture_init : PySem.W.codeIn K cd_Picture_init "Picture.__init__" = true)
    (k_Picture_init : PySem.W.keepIn K (.ref f_Picture_init) = true)
    (i_Picture_init : PySem.W.isFn K (.ref f_Picture_init) = true)
    (a_Picture_put : PySem.W.findIn K (.ref C_Picture) "put" = some (some (.ref f_Picture_put)))
    (l_Picture_put : K.lookup f_Picture_put = some ⟨oc_Picture_put, od_Picture_put, .func (PySem.W.fnOf "put" "Picture.put" (defArgs s_Picture_put) (defBody s_Picture_put) (defScope s_Picture_put) (.ref T_Picture_put) kv_Picture_put dc_Picture_put pm_Picture_put an_Picture_put cd_Picture_put ct_Picture_put), sl_Picture_put⟩)
    (c_Picture_put : PySem.W.codeIn K cd_Picture_put "Picture.put" = true)
    (k_Picture_put : PySem.W.keepIn K (.ref f_Picture_put) = true)
    (i_Picture_put : PySem.W.isFn K (.ref f_Picture_put) = true)
    (t_Picture_put : K.lookup T_Picture_put = some ⟨toc_Picture_put, tod_Picture_put, .seq #[.str "both" tk0_Picture_put, .int 1 tk1_Picture_put, .none] tn_Picture_put, tsl_Picture_put⟩)
    (a_Picture_open_seat : PySem.W.findIn K (.ref C_Picture) "open_seat" = some (some (.ref f_Picture_open_seat)))
    (l_Picture_open_seat : K.lookup f_Picture_open_seat = some ⟨oc_Picture_open_seat, od_Picture_open_seat, .func (PySem.W.fnOf "open_seat" "Picture.open_seat" (defArgs s_Picture_open_seat) (defBody s_Picture_open_seat) (defScope s_Picture_open_seat) .none kv_Picture_open_seat dc_Picture_open_seat pm_Picture_open_seat an_Picture_open_seat cd_Picture_open_seat ct_Picture_open_seat), sl_Picture_open_seat⟩)
    (c_Picture_open_seat : PySem.W.codeIn K cd_Picture_open_seat "Picture.open_seat" = true)
    (k_Picture_open_seat : PySem.W.keepIn K (.ref f_Picture_open_seat) = true)
    (i_Picture_open_seat : PySem.W.isFn K (.ref f_Picture_open_seat) = true)
    (a_Picture_points : PySem.W.findIn K (.ref C_Picture) "points" = some (some (.ref f_Picture_points)))
    (l_Picture_points : K.lookup f_Picture_points = some ⟨oc_Picture_points, od_Picture_points, .func (PySem.W.fnOf "points" "Picture.points" (defArgs s_Picture_points) (defBody s_Picture_points) (defScope s_Picture_points) .none kv_Picture_points dc_Picture_points pm_Picture_points an_Picture_points cd_Picture_points ct_Picture_points), sl_Picture_points⟩)
    (c_Picture_points : PySem.W.codeIn K cd_Picture_points "Picture.points" = true)
    (k_Picture_points : PySem.W.keepIn K (.ref f_Picture_points) = true)
    (i_Picture_points : PySem.W.isFn K (.ref f_Picture_points) = true)
    (a_Picture_seats : PySem.W.findIn K (.ref C_Picture) "seats" = some (some (.ref f_Picture_seats)))
    (l_Picture_seats : K.lookup f_Picture_seats = some ⟨oc_Picture_seats, od_Picture_seats, .func (PySem.W.fnOf "seats" "Picture.seats" (defArgs s_Picture_seats) (defBody s_Picture_seats) (defScope s_Picture_seats) .none kv_Picture_seats dc_Picture_seats pm_Picture_seats an_Picture_seats cd_Picture_seats ct_Picture_seats), sl_Picture_seats⟩)
    (c_Picture_seats : PySem.W.codeIn K cd_Picture_seats "Picture.seats" = true)
    (k_Picture_seats : PySem.W.keepIn K (.ref f_Picture_seats) = true)
    (i_Picture_seats : PySem.W.isFn K (.ref f_Picture_seats) = true)
    (a_Picture_may : PySem.W.findIn K (.ref C_Picture) "may" = some (some (.ref f_Picture_may)))
    (l_Picture_may : K.lookup f_Picture_may = some ⟨oc_Picture_may, od_Picture_may, .func (PySem.W.fnOf "may" "Picture.may" (defArgs s_Picture_may) (defBody s_Picture_may) (defScope s_Picture_may) .none kv_Picture_may dc_Picture_may pm_Picture_may an_Picture_may cd_Picture_may ct_Picture_may), sl_Picture_may⟩)
    (c_Picture_may : PySem.W.codeIn K cd_Picture_may "Picture.may" = true)
    (k_Picture_may : PySem.W.keepIn K (.ref f_Picture_may) = true)
    (i_Picture_may : PySem.W.isFn K (.ref f_Picture_may) = true)
    (a_Picture_check_name : PySem.W.findIn K (.ref C_Picture) "check_name" = some (some (.ref f_Picture_check_name)))
    (l_Picture_check_name : K.lookup f_Picture_check_name = some ⟨oc_Picture_check_name, od_Picture_check_name, .func (PySem.W.fnOf "check_name" "Picture.check_name" (defArgs s_Picture_check_name) (defBody s_Picture_check_name) (defScope s_Picture_check_name) .none kv_Picture_check_name dc_Picture_check_name pm_Picture_check_name an_Picture_check_name cd_Picture_check_name ct_Picture_check_name), sl_Picture_check_name⟩)
    (c_Picture_check_name : PySem.W.codeIn K cd_Picture_check_name "Picture.check_name" = true)
    (k_Picture_check_name : PySem.W.keepIn K (.ref f_Picture_check_name) = true)
    (i_Picture_check_name : PySem.W.isFn K (.ref f_Picture_check_name) = true)
    (a_Picture_check_cell : PySem.W.findIn K (.ref C_Picture) "check_cell" = some (some (.ref f_Picture_check_cell)))
    (l_Picture_check_cell : K.lookup f_Picture_check_cell = some ⟨oc_Picture_check_cell, od_Picture_check_cell, .func (PySem.W.fnOf "check_cell" "Picture.check_cell" (defArgs s_Picture_check_cell) (defBody s_Picture_check_cell) (defScope s_Picture_check_cell) .none kv_Picture_check_cell dc_Picture_check_cell pm_Picture_check_cell an_Picture_check_cell cd_Picture_check_cell ct_Picture_check_cell), sl_Picture_check_cell⟩)
    (c_Picture_check_cell : PySem.W.codeIn K cd_Picture_check_cell "Picture.check_cell" = true)
    (k_Picture_check_cell : PySem.W.keepIn K (.ref f_Picture_check_cell) = true)
    (i_Picture_check_cell : PySem.W.isFn K (.ref f_Picture_check_cell) = true)
    (a_Picture_check_lines : PySem.W.findIn K (.ref C_Picture) "check_lines" = some (some (.ref f_Picture_check_lines)))
    (l_Picture_check_lines : K.lookup f_Picture_check_lines = some ⟨oc_Picture_check_lines, od_Picture_check_lines, .func (PySem.W.fnOf "check_lines" "Picture.check_lines" (defArgs s_Picture_check_lines) (defBody s_Picture_check_lines) (defScope s_Picture_check_lines) .none kv_Picture_check_lines dc_Picture_check_lines pm_Picture_check_lines an_Picture_check_lines cd_Picture_check_lines ct_Picture_check_lines), sl_Picture_check_lines⟩)
    (c_Picture_check_lines : PySem.W.codeIn K cd_Picture_check_lines "Picture.check_lines" = true)
    (k_Picture_check_lines : PySem.W.keepIn K (.ref f_Picture_check_lines) = true)
    (i_Picture_check_lines : PySem.W.isFn K (.ref f_Picture_check_lines) = true)
    (a_Picture_check_seat : PySem.W.findIn K (.ref C_Picture) "check_seat" = some (some (.ref f_Picture_check_seat)))
    (l_Picture_check_seat : K.lookup f_Picture_check_seat = some ⟨oc_Picture_check_seat, od_Picture_check_seat, .func (PySem.W.fnOf "check_seat" "Picture.check_seat" (defArgs s_Picture_check_seat) (defBody s_Picture_check_seat) (defScope s_Picture_check_seat) .none kv_Picture_check_seat dc_Picture_check_seat pm_Picture_check_seat an_Picture_check_seat cd_Picture_check_seat ct_Picture_check_seat), sl_Picture_check_seat⟩)
    (c_Picture_check_seat : PySem.W.codeIn K cd_Picture_check_seat "Picture.check_seat" = true)
    (k_Picture_check_seat : PySem.W.keepIn K (.ref f_Picture_check_seat) = true)
    (i_Picture_check_seat : PySem.W.isFn K (.ref f_Picture_check_seat) = true)
    (a_law_cell : PySem.W.nsIn K mainGlobals "_law_cell" = some (some (.ref f_law_cell)))
    (l_law_cell : K.lookup f_law_cell = some ⟨oc_law_cell, od_law_cell, .func (PySem.W.fnOf "_law_cell" "_law_cell" (defArgs s_law_cell) (defBody s_law_cell) (defScope s_law_cell) .none kv_law_cell dc_law_cell pm_law_cell an_law_cell cd_law_cell ct_law_cell), sl_law_cell⟩)
    (c_law_cell : PySem.W.codeIn K cd_law_cell "_law_cell" = true)
    (k_law_cell : PySem.W.keepIn K (.ref f_law_cell) = true)
    (i_law_cell : PySem.W.isFn K (.ref f_law_cell) = true)
    (a_law_mix : PySem.W.nsIn K mainGlobals "_law_mix" = some (some (.ref f_law_mix)))
    (l_law_mix : K.lookup f_law_mix = some ⟨oc_law_mix, od_law_mix, .func (PySem.W.fnOf "_law_mix" "_law_mix" (defArgs s_law_mix) (defBody s_law_mix) (defScope s_law_mix) .none kv_law_mix dc_law_mix pm_law_mix an_law_mix cd_law_mix ct_law_mix), sl_law_mix⟩)
    (c_law_mix : PySem.W.codeIn K cd_law_mix "_law_mix" = true)
    (k_law_mix : PySem.W.keepIn K (.ref f_law_mix) = true)
    (i_law_mix : PySem.W.isFn K (.ref f_law_mix) = true)
    (a_law_names : PySem.W.nsIn K mainGlobals "_law_names" = some (some (.ref f_law_names)))
    (l_law_names : K.lookup f_law_names = some ⟨oc_law_names, od_law_names, .func (PySem.W.fnOf "_law_names" "_law_names" (defArgs s_law_names) (defBody s_law_names) (defScope s_law_names) .none kv_law_names dc_law_names pm_law_names an_law_names cd_law_names ct_law_names), sl_law_names⟩)
    (c_law_names : PySem.W.codeIn K cd_law_names "_law_names" = true)
    (k_law_names : PySem.W.keepIn K (.ref f_law_names) = true)
    (i_law_names : PySem.W.isFn K (.ref f_law_names) = true)
    (a_law_places : PySem.W.nsIn K mainGlobals "_law_places" = some (some (.ref f_law_places)))
    (l_law_places : K.lookup f_law_places = some ⟨oc_law_places, od_law_places, .func (PySem.W.fnOf "_law_places" "_law_places" (defArgs s_law_places) (defBody s_law_places) (defScope s_law_places) .none kv_law_places dc_law_places pm_law_places an_law_places cd_law_places ct_law_places), sl_law_places⟩)
    (c_law_places : PySem.W.codeIn K cd_law_places "_law_places" = true)
    (k_law_places : PySem.W.keepIn K (.ref f_law_places) = true)
    (i_law_places : PySem.W.isFn K (.ref f_law_places) = true)
    (a_law_size : PySem.W.nsIn K mainGlobals "_law_size" = some (some (.ref f_law_size)))
    (l_law_size : K.lookup f_law_size = some ⟨oc_law_size, od_law_size, .func (PySem.W.fnOf "_law_size" "_law_size" (defArgs s_law_size) (defBody s_law_size) (defScope s_law_size) .none kv_law_size dc_law_size pm_law_size an_law_size cd_law_size ct_law_size), sl_law_size⟩)
    (c_law_size : PySem.W.codeIn K cd_law_size "_law_size" = true)
    (k_law_size : PySem.W.keepIn K (.ref f_law_size) = true)
    (i_law_size : PySem.W.isFn K (.ref f_law_size) = true)
    (a_law_picture : PySem.W.nsIn K mainGlobals "_law_picture" = some (some (.ref f_law_picture)))
    (l_law_picture : K.lookup f_law_picture = some ⟨oc_law_picture, od_law_picture, .func (PySem.W.fnOf "_law_picture" "_law_picture" (defArgs s_law_picture) (defBody s_law_picture) (defScope s_law_picture) .none kv_law_picture dc_law_picture pm_law_picture an_law_picture cd_law_picture ct_law_picture), sl_law_picture⟩)
    (c_law_picture : PySem.W.codeIn K cd_law_picture "_law_picture" = true)
    (k_law_picture : PySem.W.keepIn K (.ref f_law_picture) = true)
    (i_law_picture : PySem.W.isFn K (.ref f_law_picture) = true)
    (a_law_may : PySem.W.nsIn K mainGlobals "_law_may" = some (some (.ref f_law_may)))
    (l_law_may : K.lookup f_law_may = some ⟨oc_law_may, od_law_may, .func (PySem.W.fnOf "_law_may" "_law_may" (defArgs s_law_may) (defBody s_law_may) (defScope s_law_may) .none kv_law_may dc_law_may pm_law_may an_law_may cd_law_may ct_law_may), sl_law_may⟩)
    (c_law_may : PySem.W.codeIn K cd_law_may "_law_may" = true)
    (k_law_may : PySem.W.keepIn K (.ref f_law_may) = true)
    (i_law_may : PySem.W.isFn K (.ref f_law_may) = true)
    (a_law_pairs : PySem.W.nsIn K mainGlobals "_law_pairs" = some (some (.ref f_law_pairs)))
    (l_law_pairs : K.lookup f_law_pairs = some ⟨oc_law_pairs, od_law_pairs, .func (PySem.W.fnOf "_law_pairs" "_law_pairs" (defArgs s_law_pairs) (defBody s_law_pairs) (defScope s_law_pairs) .none kv_law_pairs dc_law_pairs pm_law_pairs an_law_pairs cd_law_pairs ct_law_pairs), sl_law_pairs⟩)
    (c_law_pairs : PySem.W.codeIn K cd_law_pairs "_law_pairs" = true)
    (k_law_pairs : PySem.W.keepIn K (.ref f_law_pairs) = true)
    (i_law_pairs : PySem.W.isFn K (.ref f_law_pairs) = true)
    (a_law_spoiled : PySem.W.nsIn K mainGlobals "_law_spoiled" = some (some (.ref f_law_spoiled)))
    (l_law_spoiled : K.lookup f_law_spoiled = some ⟨oc_law_spoiled, od_law_spoiled, .func (PySem.W.fnOf "_law_spoiled" "_law_spoiled" (defArgs s_law_spoiled) (defBody s_law_spoiled) (defScope s_law_spoiled) .none kv_law_spoiled dc_law_spoiled pm_law_spoiled an_law_spoiled cd_law_spoiled ct_law_spoiled), sl_law_spoiled⟩)
    (c_law_spoiled : PySem.W.codeIn K cd_law_spoiled "_law_spoiled" = true)
    (k_law_spoiled : PySem.W.keepIn K (.ref f_law_spoiled) = true)
    (i_law_spoiled : PySem.W.isFn K (.ref f_law_spoiled) = true)
    (a_law_due : PySem.W.nsIn K mainGlobals "_law_due" = some (some (.ref f_law_due)))
    (l_law_due : K.lookup f_law_due = some ⟨oc_law_due, od_law_due, .func (PySem.W.fnOf "_law_due" "_law_due" (defArgs s_law_due) (defBody s_law_due) (defScope s_law_due) .none kv_law_due dc_law_due pm_law_due an_law_due cd_law_due ct_law_due), sl_law_due⟩)
    (c_law_due : PySem.W.codeIn K cd_law_due "_law_due" = true)
    (k_law_due : PySem.W.keepIn K (.ref f_law_due) = true)
    (i_law_due : PySem.W.isFn K (.ref f_law_due) = true)
    (a_law : PySem.W.nsIn K mainGlobals "law" = some (some (.ref f_law)))
    (l_law : K.lookup f_law = some ⟨oc_law, od_law, .func (PySem.W.fnOf "law" "law" (defArgs s_law) (defBody s_law) (defScope s_law) .none kv_law dc_law pm_law an_law cd_law ct_law), sl_law⟩)
    (c_law : PySem.W.codeIn K cd_law "law" = true)
    (k_law : PySem.W.keepIn K (.ref f_law) = true)
    (i_law : PySem.W.isFn K (.ref f_law) = true)
    (kc_Side : PySem.W.keepIn K (.ref C_Side) = true)
    (pg_Side : PySem.W.plainGet K C_Side Str.empty = true)
    (hd_Side : PySem.W.hasDictIn K C_Side = true)
    (po_Side : PySem.W.plainOver K C_Side = true)
    (sa_Side : PySem.W.findIn K (.ref C_Side) "__setattr__" = some (some (.builtin "object.__setattr__")))
    (mk_Side : PySem.W.makesIn K C_Side = true)
    (ca_Side : PySem.W.findIn K (.ref C_Side) "__class__" = some (some (.builtin "object.__class__")))
    (mo_Side : PySem.W.mroIn K C_Side (.type "object") = some true)
    (kc_LeftSide : PySem.W.keepIn K (.ref C_LeftSide) = true)
    (pg_LeftSide : PySem.W.plainGet K C_LeftSide Str.empty = true)
    (hd_LeftSide : PySem.W.hasDictIn K C_LeftSide = true)
    (po_LeftSide : PySem.W.plainOver K C_LeftSide = true)
    (sa_LeftSide : PySem.W.findIn K (.ref C_LeftSide) "__setattr__" = some (some (.builtin "object.__setattr__")))
    (mk_LeftSide : PySem.W.makesIn K C_LeftSide = true)
    (ca_LeftSide : PySem.W.findIn K (.ref C_LeftSide) "__class__" = some (some (.builtin "object.__class__")))
    (mo_LeftSide : PySem.W.mroIn K C_LeftSide (.type "object") = some true)
    (a_LeftSide_init : PySem.W.findIn K (.ref C_LeftSide) "__init__" = some (some (.ref f_Side_init)))
    (kc_RightSide : PySem.W.keepIn K (.ref C_RightSide) = true)
    (pg_RightSide : PySem.W.plainGet K C_RightSide Str.empty = true)
    (hd_RightSide : PySem.W.hasDictIn K C_RightSide = true)
    (po_RightSide : PySem.W.plainOver K C_RightSide = true)
    (sa_RightSide : PySem.W.findIn K (.ref C_RightSide) "__setattr__" = some (some (.builtin "object.__setattr__")))
    (mk_RightSide : PySem.W.makesIn K C_RightSide = true)
    (ca_RightSide : PySem.W.findIn K (.ref C_RightSide) "__class__" = some (some (.builtin "object.__class__")))
    (mo_RightSide : PySem.W.mroIn K C_RightSide (.type "object") = some true)
    (a_RightSide_init : PySem.W.findIn K (.ref C_RightSide) "__init__" = some (some (.ref f_Side_init)))
    (kc_Picture : PySem.W.keepIn K (.ref C_Picture) = true)
    (pg_Picture : PySem.W.plainGet K C_Picture Str.empty = true)
    (hd_Picture : PySem.W.hasDictIn K C_Picture = true)
    (po_Picture : PySem.W.plainOver K C_Picture = true)
    (sa_Picture : PySem.W.findIn K (.ref C_Picture) "__setattr__" = some (some (.builtin "object.__setattr__")))
    (mk_Picture : PySem.W.makesIn K C_Picture = true)
    (ca_Picture : PySem.W.findIn K (.ref C_Picture) "__class__" = some (some (.builtin "object.__class__")))
    (mo_Picture : PySem.W.mroIn K C_Picture (.type "object") = some true)
    (cg : PySem.W.specialIn K (.builtin "object.__class__") "__get__" = some (some (.builtin "getset_descriptor.__get__")))
    (ct : PySem.W.takesIn K (.builtin "object.__class__") = some true)
    (n_Picture_placed : PySem.W.findIn K (.ref C_Picture) "placed" = some none)
    (n_Picture_height : PySem.W.findIn K (.ref C_Picture) "height" = some none)
    (n_Picture_width : PySem.W.findIn K (.ref C_Picture) "width" = some none)
    (n_Picture_opened : PySem.W.findIn K (.ref C_Picture) "opened" = some none)
    (n_Side_width : PySem.W.findIn K (.ref C_Side) "width" = some none)
    (n_LeftSide_width : PySem.W.findIn K (.ref C_LeftSide) "width" = some none)
    (n_RightSide_width : PySem.W.findIn K (.ref C_RightSide) "width" = some none)
    (n_all : PySem.W.nsIn K mainGlobals "all" = some none)
    (n_bool : PySem.W.nsIn K mainGlobals "bool" = some none)
    (n_enumerate : PySem.W.nsIn K mainGlobals "enumerate" = some none)
    (n_int : PySem.W.nsIn K mainGlobals "int" = some none)
    (n_isinstance : PySem.W.nsIn K mainGlobals "isinstance" = some none)
    (n_len : PySem.W.nsIn K mainGlobals "len" = some none)
    (n_list : PySem.W.nsIn K mainGlobals "list" = some none)
    (n_min : PySem.W.nsIn K mainGlobals "min" = some none)
    (n_range : PySem.W.nsIn K mainGlobals "range" = some none)
    (n_reversed : PySem.W.nsIn K mainGlobals "reversed" = some none)
    (n_set : PySem.W.nsIn K mainGlobals "set" = some none)
    (n_sorted : PySem.W.nsIn K mainGlobals "sorted" = some none)
    (n_str : PySem.W.nsIn K mainGlobals "str" = some none)
    (v_MOST_ROWS : PySem.W.nsIn K mainGlobals "MOST_ROWS" = some (some (.int 16 tkc_MOST_ROWS)))
    (v_MOST_COLUMNS : PySem.W.nsIn K mainGlobals "MOST_COLUMNS" = some (some (.int 30 tkc_MOST_COLUMNS)))
    (v_MOST_POINTS : PySem.W.nsIn K mainGlobals "MOST_POINTS" = some (some (.int 12 tkc_MOST_POINTS)))
    (g_MIRRORED_SIDES : PySem.W.nsIn K mainGlobals "MIRRORED_SIDES" = some (some (.ref D_MIRRORED_SIDES)))
    (l_MIRRORED_SIDES : K.lookup D_MIRRORED_SIDES = some ⟨.type "dict", none, .dict #[⟨hashStr w "left", .str "left" ta0_MIRRORED_SIDES, .str "right" tb0_MIRRORED_SIDES⟩, ⟨hashStr w "right", .str "right" ta1_MIRRORED_SIDES, .str "left" tb1_MIRRORED_SIDES⟩, ⟨hashStr w "both", .str "both" ta2_MIRRORED_SIDES, .str "both" tb2_MIRRORED_SIDES⟩] ep_MIRRORED_SIDES, #[]⟩)
    (ns_MIRRORED_SIDES : (D_MIRRORED_SIDES == sysModules) = false)
    : ∃ t, Txt w K mg t :=
  ⟨⟨f_Side_init, _, f_side_of, _, f_is_giving, _, f_is_whole, _, f_is_name, _, f_Picture_init, _, f_Picture_put, _, T_Picture_put, f_Picture_open_seat, _, f_Picture_points, _, f_Picture_seats, _, f_Picture_may, _, f_Picture_check_name, _, f_Picture_check_cell, _, f_Picture_check_lines, _, f_Picture_check_seat, _, f_law_cell, _, f_law_mix, _, f_law_names, _, f_law_places, _, f_law_size, _, f_law_picture, _, f_law_may, _, f_law_pairs, _, f_law_spoiled, _, f_law_due, _, f_law, _, C_Side, C_LeftSide, C_RightSide, C_Picture, D_MIRRORED_SIDES⟩, {
    g_Side := PySem.W.mg_of X G g_Side
    g_LeftSide := PySem.W.mg_of X G g_LeftSide
    g_RightSide := PySem.W.mg_of X G g_RightSide
    g_Picture := PySem.W.mg_of X G g_Picture
    F_Side_init := fun_mk (st := s_Side_init) l_Side_init c_Side_init k_Side_init
    b_Side_init := (fun_mk (st := s_Side_init) l_Side_init c_Side_init k_Side_init).binds (ps := ["self", "width"]) fun _ _ _ _ _ _ us hl => match us, hl with | [_, _], _ => rfl
    g_side_of := PySem.W.mg_of X G a_side_of
    F_side_of := fun_mk (st := s_side_of) l_side_of c_side_of k_side_of
    b_side_of := (fun_mk (st := s_side_of) l_side_of c_side_of k_side_of).binds (ps := ["word", "width"]) fun _ _ _ _ _ _ us hl => match us, hl with | [_, _], _ => rfl
    g_is_giving := PySem.W.mg_of X G a_is_giving
    F_is_giving := fun_mk (st := s_is_giving) l_is_giving c_is_giving k_is_giving
    b_is_giving := (fun_mk (st := s_is_giving) l_is_giving c_is_giving k_is_giving).binds (ps := ["picture", "names", "pairs"]) fun _ _ _ _ _ _ us hl => match us, hl with | [_, _, _], _ => rfl
    g_is_whole := PySem.W.mg_of X G a_is_whole
    F_is_whole := fun_mk (st := s_is_whole) l_is_whole c_is_whole k_is_whole
    b_is_whole := (fun_mk (st := s_is_whole) l_is_whole c_is_whole k_is_whole).binds (ps := ["thing", "low", "high"]) fun _ _ _ _ _ _ us hl => match us, hl with | [_, _, _], _ => rfl
    g_is_name := PySem.W.mg_of X G a_is_name
    F_is_name := fun_mk (st := s_is_name) l_is_name c_is_name k_is_name
    b_is_name := (fun_mk (st := s_is_name) l_is_name c_is_name k_is_name).binds (ps := ["thing"]) fun _ _ _ _ _ _ us hl => match us, hl with | [_], _ => rfl
    F_Picture_init := fun_mk (st := s_Picture_init) l_Picture_init c_Picture_init k_Picture_init
    b_Picture_init := (fun_mk (st := s_Picture_init) l_Picture_init c_Picture_init k_Picture_init).binds (ps := ["self", "width", "height"]) fun _ _ _ _ _ _ us hl => match us, hl with | [_, _, _], _ => rfl
    F_Picture_put := (fund_mk (st := s_Picture_put) l_Picture_put c_Picture_put k_Picture_put)
    b_Picture_put := (fund_mk (st := s_Picture_put) l_Picture_put c_Picture_put k_Picture_put).binds t_Picture_put rfl 7 rfl fun _ _ _ _ _ _ us hl => match us, hl with | [_, _, _, _, _, _, _], _ => ⟨_, rfl, rfl⟩
    F_Picture_open_seat := fun_mk (st := s_Picture_open_seat) l_Picture_open_seat c_Picture_open_seat k_Picture_open_seat
    b_Picture_open_seat := (fun_mk (st := s_Picture_open_seat) l_Picture_open_seat c_Picture_open_seat k_Picture_open_seat).binds (ps := ["self", "side", "row"]) fun _ _ _ _ _ _ us hl => match us, hl with | [_, _, _], _ => rfl
    F_Picture_points := fun_mk (st := s_Picture_points) l_Picture_points c_Picture_points k_Picture_points
    b_Picture_points := (fun_mk (st := s_Picture_points) l_Picture_points c_Picture_points k_Picture_points).binds (ps := ["self"]) fun _ _ _ _ _ _ us hl => match us, hl with | [_], _ => rfl
    F_Picture_seats := fun_mk (st := s_Picture_seats) l_Picture_seats c_Picture_seats k_Picture_seats
    b_Picture_seats := (fun_mk (st := s_Picture_seats) l_Picture_seats c_Picture_seats k_Picture_seats).binds (ps := ["self"]) fun _ _ _ _ _ _ us hl => match us, hl with | [_], _ => rfl
    F_Picture_may := fun_mk (st := s_Picture_may) l_Picture_may c_Picture_may k_Picture_may
    b_Picture_may := (fun_mk (st := s_Picture_may) l_Picture_may c_Picture_may k_Picture_may).binds (ps := ["self", "name", "side", "row"]) fun _ _ _ _ _ _ us hl => match us, hl with | [_, _, _, _], _ => rfl
    F_Picture_check_name := fun_mk (st := s_Picture_check_name) l_Picture_check_name c_Picture_check_name k_Picture_check_name
    b_Picture_check_name := (fun_mk (st := s_Picture_check_name) l_Picture_check_name c_Picture_check_name k_Picture_check_name).binds (ps := ["self", "name"]) fun _ _ _ _ _ _ us hl => match us, hl with | [_, _], _ => rfl
    F_Picture_check_cell := fun_mk (st := s_Picture_check_cell) l_Picture_check_cell c_Picture_check_cell k_Picture_check_cell
    b_Picture_check_cell := (fun_mk (st := s_Picture_check_cell) l_Picture_check_cell c_Picture_check_cell k_Picture_check_cell).binds (ps := ["self", "x", "y"]) fun _ _ _ _ _ _ us hl => match us, hl with | [_, _, _], _ => rfl
    F_Picture_check_lines := fun_mk (st := s_Picture_check_lines) l_Picture_check_lines c_Picture_check_lines k_Picture_check_lines
    b_Picture_check_lines := (fun_mk (st := s_Picture_check_lines) l_Picture_check_lines c_Picture_check_lines k_Picture_check_lines).binds (ps := ["self", "name", "x", "y"]) fun _ _ _ _ _ _ us hl => match us, hl with | [_, _, _, _], _ => rfl
    F_Picture_check_seat := fun_mk (st := s_Picture_check_seat) l_Picture_check_seat c_Picture_check_seat k_Picture_check_seat
    b_Picture_check_seat := (fun_mk (st := s_Picture_check_seat) l_Picture_check_seat c_Picture_check_seat k_Picture_check_seat).binds (ps := ["self", "side", "row"]) fun _ _ _ _ _ _ us hl => match us, hl with | [_, _, _], _ => rfl
    g_law_cell := PySem.W.mg_of X G a_law_cell
    F_law_cell := fun_mk (st := s_law_cell) l_law_cell c_law_cell k_law_cell
    b_law_cell := (fun_mk (st := s_law_cell) l_law_cell c_law_cell k_law_cell).binds (ps := ["_law_script", "_law_k"]) fun _ _ _ _ _ _ us hl => match us, hl with | [_, _], _ => rfl
    g_law_mix := PySem.W.mg_of X G a_law_mix
    F_law_mix := fun_mk (st := s_law_mix) l_law_mix c_law_mix k_law_mix
    b_law_mix := (fun_mk (st := s_law_mix) l_law_mix c_law_mix k_law_mix).binds (ps := ["_law_cell_here", "_law_k"]) fun _ _ _ _ _ _ us hl => match us, hl with | [_, _], _ => rfl
    g_law_names := PySem.W.mg_of X G a_law_names
    F_law_names := fun_mk (st := s_law_names) l_law_names c_law_names k_law_names
    b_law_names := (fun_mk (st := s_law_names) l_law_names c_law_names k_law_names).binds (ps := ["_law_cell_here", "_law_many"]) fun _ _ _ _ _ _ us hl => match us, hl with | [_, _], _ => rfl
    g_law_places := PySem.W.mg_of X G a_law_places
    F_law_places := fun_mk (st := s_law_places) l_law_places c_law_places k_law_places
    b_law_places := (fun_mk (st := s_law_places) l_law_places c_law_places k_law_places).binds (ps := ["_law_cell_here", "_law_size_here", "_law_many"]) fun _ _ _ _ _ _ us hl => match us, hl with | [_, _, _], _ => rfl
    g_law_size := PySem.W.mg_of X G a_law_size
    F_law_size := fun_mk (st := s_law_size) l_law_size c_law_size k_law_size
    b_law_size := (fun_mk (st := s_law_size) l_law_size c_law_size k_law_size).binds (ps := ["_law_cell_here"]) fun _ _ _ _ _ _ us hl => match us, hl with | [_], _ => rfl
    g_law_picture := PySem.W.mg_of X G a_law_picture
    F_law_picture := fun_mk (st := s_law_picture) l_law_picture c_law_picture k_law_picture
    b_law_picture := (fun_mk (st := s_law_picture) l_law_picture c_law_picture k_law_picture).binds (ps := ["_law_script"]) fun _ _ _ _ _ _ us hl => match us, hl with | [_], _ => rfl
    g_law_may := PySem.W.mg_of X G a_law_may
    F_law_may := fun_mk (st := s_law_may) l_law_may c_law_may k_law_may
    b_law_may := (fun_mk (st := s_law_may) l_law_may c_law_may k_law_may).binds (ps := ["_law_picture_here", "_law_name", "_law_seat"]) fun _ _ _ _ _ _ us hl => match us, hl with | [_, _, _], _ => rfl
    g_law_pairs := PySem.W.mg_of X G a_law_pairs
    F_law_pairs := fun_mk (st := s_law_pairs) l_law_pairs c_law_pairs k_law_pairs
    b_law_pairs := (fun_mk (st := s_law_pairs) l_law_pairs c_law_pairs k_law_pairs).binds (ps := ["_law_picture_here", "_law_names_here", "_law_cell_here"]) fun _ _ _ _ _ _ us hl => match us, hl with | [_, _, _], _ => rfl
    g_law_spoiled := PySem.W.mg_of X G a_law_spoiled
    F_law_spoiled := fun_mk (st := s_law_spoiled) l_law_spoiled c_law_spoiled k_law_spoiled
    b_law_spoiled := (fun_mk (st := s_law_spoiled) l_law_spoiled c_law_spoiled k_law_spoiled).binds (ps := ["_law_picture_here", "_law_pairs_here", "_law_way", "_law_cell_here"]) fun _ _ _ _ _ _ us hl => match us, hl with | [_, _, _, _], _ => rfl
    g_law_due := PySem.W.mg_of X G a_law_due
    F_law_due := fun_mk (st := s_law_due) l_law_due c_law_due k_law_due
    b_law_due := (fun_mk (st := s_law_due) l_law_due c_law_due k_law_due).binds (ps := ["_law_picture_here", "_law_names_here", "_law_pairs_here"]) fun _ _ _ _ _ _ us hl => match us, hl with | [_, _, _], _ => rfl
    g_law := PySem.W.mg_of X G a_law
    F_law := fun_mk (st := s_law) l_law c_law k_law
    b_law := (fun_mk (st := s_law) l_law c_law k_law).binds (ps := ["_law_script"]) fun _ _ _ _ _ _ us hl => match us, hl with | [_], _ => rfl
    c_Side := ⟨pg_Side, hd_Side, po_Side, sa_Side⟩
    ca_Side := ca_Side
    mo_Side := mo_Side
    k_Side := ⟨mk_Side, a_Side_init, i_Side_init, kc_Side⟩
    c_LeftSide := ⟨pg_LeftSide, hd_LeftSide, po_LeftSide, sa_LeftSide⟩
    ca_LeftSide := ca_LeftSide
    mo_LeftSide := mo_LeftSide
    k_LeftSide := ⟨mk_LeftSide, a_LeftSide_init, i_Side_init, kc_LeftSide⟩
    c_RightSide := ⟨pg_RightSide, hd_RightSide, po_RightSide, sa_RightSide⟩
    ca_RightSide := ca_RightSide
    mo_RightSide := mo_RightSide
    k_RightSide := ⟨mk_RightSide, a_RightSide_init, i_Side_init, kc_RightSide⟩
    c_Picture := ⟨pg_Picture, hd_Picture, po_Picture, sa_Picture⟩
    ca_Picture := ca_Picture
    mo_Picture := mo_Picture
    k_Picture := ⟨mk_Picture, a_Picture_init, i_Picture_init, kc_Picture⟩
    m_Picture_put := ⟨a_Picture_put, i_Picture_put, k_Picture_put⟩
    m_Picture_open_seat := ⟨a_Picture_open_seat, i_Picture_open_seat, k_Picture_open_seat⟩
    m_Picture_points := ⟨a_Picture_points, i_Picture_points, k_Picture_points⟩
    m_Picture_seats := ⟨a_Picture_seats, i_Picture_seats, k_Picture_seats⟩
    m_Picture_may := ⟨a_Picture_may, i_Picture_may, k_Picture_may⟩
    m_Picture_check_name := ⟨a_Picture_check_name, i_Picture_check_name, k_Picture_check_name⟩
    m_Picture_check_cell := ⟨a_Picture_check_cell, i_Picture_check_cell, k_Picture_check_cell⟩
    m_Picture_check_lines := ⟨a_Picture_check_lines, i_Picture_check_lines, k_Picture_check_lines⟩
    m_Picture_check_seat := ⟨a_Picture_check_seat, i_Picture_check_seat, k_Picture_check_seat⟩
    cg := cg
    ct := ct
    n_Picture_placed := n_Picture_placed
    n_Picture_height := n_Picture_height
    n_Picture_width := n_Picture_width
    n_Picture_opened := n_Picture_opened
    n_Side_width := n_Side_width
    n_LeftSide_width := n_LeftSide_width
    n_RightSide_width := n_RightSide_width
    n_all := PySem.W.mg_none_of X G n_all
    n_bool := PySem.W.mg_none_of X G n_bool
    n_enumerate := PySem.W.mg_none_of X G n_enumerate
    n_int := PySem.W.mg_none_of X G n_int
    n_isinstance := PySem.W.mg_none_of X G n_isinstance
    n_len := PySem.W.mg_none_of X G n_len
    n_list := PySem.W.mg_none_of X G n_list
    n_min := PySem.W.mg_none_of X G n_min
    n_range := PySem.W.mg_none_of X G n_range
    n_reversed := PySem.W.mg_none_of X G n_reversed
    n_set := PySem.W.mg_none_of X G n_set
    n_sorted := PySem.W.mg_none_of X G n_sorted
    n_str := PySem.W.mg_none_of X G n_str
    v_MOST_ROWS := ⟨_, PySem.W.mg_of X G v_MOST_ROWS⟩
    v_MOST_COLUMNS := ⟨_, PySem.W.mg_of X G v_MOST_COLUMNS⟩
    v_MOST_POINTS := ⟨_, PySem.W.mg_of X G v_MOST_POINTS⟩
    g_MIRRORED_SIDES := PySem.W.mg_of X G g_MIRRORED_SIDES
    D_MIRRORED_SIDES := ⟨ns_MIRRORED_SIDES, _, _, l_MIRRORED_SIDES, .cons rfl ⟨_, rfl⟩ ⟨_, rfl⟩ (.cons rfl ⟨_, rfl⟩ ⟨_, rfl⟩ (.cons rfl ⟨_, rfl⟩ ⟨_, rfl⟩ (.nil))), by decide⟩ }⟩
theorem sc_Side_init : FnScope ["self", "width"] ["self", "width"] (defScope s_Side_init) := ⟨rfl, rfl, rfl, by decide +kernel, rfl, by decide +kernel, by decide +kernel⟩
theorem sc_side_of : FnScope ["word", "width"] ["word", "width"] (defScope s_side_of) := ⟨rfl, rfl, rfl, by decide +kernel, rfl, by decide +kernel, by decide +kernel⟩
theorem sc_is_giving : FnScope ["picture", "names", "pairs", "seats"] ["picture", "names", "pairs"] (defScope s_is_giving) := ⟨rfl, rfl, rfl, by decide +kernel, rfl, by decide +kernel, by decide +kernel⟩
theorem sc_is_whole : FnScope ["thing", "low", "high"] ["thing", "low", "high"] (defScope s_is_whole) := ⟨rfl, rfl, rfl, by decide +kernel, rfl, by decide +kernel, by decide +kernel⟩
theorem sc_is_name : FnScope ["thing"] ["thing"] (defScope s_is_name) := ⟨rfl, rfl, rfl, by decide +kernel, rfl, by decide +kernel, by decide +kernel⟩
theorem sc_Picture_init : FnScope ["self", "width", "height"] ["self", "width", "height"] (defScope s_Picture_init) := ⟨rfl, rfl, rfl, by decide +kernel, rfl, by decide +kernel, by decide +kernel⟩
theorem sc_Picture_put : FnScope ["self", "name", "x", "y", "sides", "low", "high", "highest"] ["self", "name", "x", "y", "sides", "low", "high"] (defScope s_Picture_put) := ⟨rfl, rfl, rfl, by decide +kernel, rfl, by decide +kernel, by decide +kernel⟩
theorem sc_Picture_open_seat : FnScope ["self", "side", "row"] ["self", "side", "row"] (defScope s_Picture_open_seat) := ⟨rfl, rfl, rfl, by decide +kernel, rfl, by decide +kernel, by decide +kernel⟩
theorem sc_Picture_points : FnScope ["self"] ["self"] (defScope s_Picture_points) := ⟨rfl, rfl, rfl, by decide +kernel, rfl, by decide +kernel, by decide +kernel⟩
theorem sc_Picture_seats : FnScope ["self"] ["self"] (defScope s_Picture_seats) := ⟨rfl, rfl, rfl, by decide +kernel, rfl, by decide +kernel, by decide +kernel⟩
theorem sc_Picture_may : FnScope ["self", "name", "side", "row", "x", "y", "sides", "low", "high"] ["self", "name", "side", "row"] (defScope s_Picture_may) := ⟨rfl, rfl, rfl, by decide +kernel, rfl, by decide +kernel, by decide +kernel⟩
theorem sc_Picture_check_name : FnScope ["self", "name"] ["self", "name"] (defScope s_Picture_check_name) := ⟨rfl, rfl, rfl, by decide +kernel, rfl, by decide +kernel, by decide +kernel⟩
theorem sc_Picture_check_cell : FnScope ["self", "x", "y"] ["self", "x", "y"] (defScope s_Picture_check_cell) := ⟨rfl, rfl, rfl, by decide +kernel, rfl, by decide +kernel, by decide +kernel⟩
theorem sc_Picture_check_lines : FnScope ["self", "name", "x", "y", "others", "other"] ["self", "name", "x", "y"] (defScope s_Picture_check_lines) := ⟨rfl, rfl, rfl, by decide +kernel, rfl, by decide +kernel, by decide +kernel⟩
theorem sc_Picture_check_seat : FnScope ["self", "side", "row"] ["self", "side", "row"] (defScope s_Picture_check_seat) := ⟨rfl, rfl, rfl, by decide +kernel, rfl, by decide +kernel, by decide +kernel⟩
theorem sc_law_cell : FnScope ["_law_script", "_law_k"] ["_law_script", "_law_k"] (defScope s_law_cell) := ⟨rfl, rfl, rfl, by decide +kernel, rfl, by decide +kernel, by decide +kernel⟩
theorem sc_law_mix : FnScope ["_law_cell_here", "_law_k", "_law_number"] ["_law_cell_here", "_law_k"] (defScope s_law_mix) := ⟨rfl, rfl, rfl, by decide +kernel, rfl, by decide +kernel, by decide +kernel⟩
theorem sc_law_names : FnScope ["_law_cell_here", "_law_many", "_law_letters", "_law_step"] ["_law_cell_here", "_law_many"] (defScope s_law_names) := ⟨rfl, rfl, rfl, by decide +kernel, rfl, by decide +kernel, by decide +kernel⟩
theorem sc_law_places : FnScope ["_law_cell_here", "_law_size_here", "_law_many", "_law_left", "_law_found", "_law_k"] ["_law_cell_here", "_law_size_here", "_law_many"] (defScope s_law_places) := ⟨rfl, rfl, rfl, by decide +kernel, rfl, by decide +kernel, by decide +kernel⟩
theorem sc_law_size : FnScope ["_law_cell_here"] ["_law_cell_here"] (defScope s_law_size) := ⟨rfl, rfl, rfl, by decide +kernel, rfl, by decide +kernel, by decide +kernel⟩
theorem sc_law_picture : FnScope ["_law_script", "_law_width", "_law_height", "_law_most", "_law_many", "_law_names_here", "_law_xs", "_law_ys", "_law_picture_here", "_law_k", "_law_number", "_law_low", "_law_high", "_law_row", "_law_side"] ["_law_script"] (defScope s_law_picture) := ⟨rfl, rfl, rfl, by decide +kernel, rfl, by decide +kernel, by decide +kernel⟩
theorem sc_law_may : FnScope ["_law_picture_here", "_law_name", "_law_seat", "_law_one", "_law_x", "_law_y", "_law_sides", "_law_low", "_law_high"] ["_law_picture_here", "_law_name", "_law_seat"] (defScope s_law_may) := ⟨rfl, rfl, rfl, by decide +kernel, rfl, by decide +kernel, by decide +kernel⟩
theorem sc_law_pairs : FnScope ["_law_picture_here", "_law_names_here", "_law_cell_here", "_law_pairs_here", "_law_k", "_law_taken", "_law_good", "_law_side", "_law_row"] ["_law_picture_here", "_law_names_here", "_law_cell_here"] (defScope s_law_pairs) := ⟨rfl, rfl, rfl, by decide +kernel, rfl, by decide +kernel, by decide +kernel⟩
theorem sc_law_spoiled : FnScope ["_law_picture_here", "_law_pairs_here", "_law_way", "_law_cell_here", "_law_at", "_law_to", "_law_found"] ["_law_picture_here", "_law_pairs_here", "_law_way", "_law_cell_here"] (defScope s_law_spoiled) := ⟨rfl, rfl, rfl, by decide +kernel, rfl, by decide +kernel, by decide +kernel⟩
theorem sc_law_due : FnScope ["_law_picture_here", "_law_names_here", "_law_pairs_here", "_law_seats", "_law_k"] ["_law_picture_here", "_law_names_here", "_law_pairs_here"] (defScope s_law_due) := ⟨rfl, rfl, rfl, by decide +kernel, rfl, by decide +kernel, by decide +kernel⟩
theorem sc_law : FnScope ["_law_script", "_law_picture_here", "_law_names_here", "_law_spots", "_law_some", "_law_pairs_here", "_law_cell_here", "_law_spoiled_here", "_law_asked", "_law_handed", "_law_told", "_law_found"] ["_law_script"] (defScope s_law) := ⟨rfl, rfl, rfl, by decide +kernel, rfl, by decide +kernel, by decide +kernel⟩
end S13
set_option maxRecDepth 100000
set_option maxHeartbeats 4000000
namespace S13
open PySem L2 XL PyProof.Rows
theorem kit_same {K : PySem.W.Frag} {v : Value} : PySem.W.kitOne K v v = some true := if_pos (by simp)
theorem same_upd {H H' : Hp} {p : Addr} {o : HO} (s : Same H H') (hp : H' p = none) : Same H (L2.upd H' p o) := fun b u z => by
  have z' := s b u z
  rw [upd_ne (ne_of_none z' hp)]
  exact z'
theorem same2 {H : Hp} {x dx : Addr} {a b c : HO} (hx : H x = none) (hd : H dx = none) : Same H (upd (upd (upd H dx a) x b) x c) := fun y o e => by
  rw [upd_ne (ne_of_none e hx), upd_ne (ne_of_none e hx), upd_ne (ne_of_none e hd)]
  exact e
def sideW (b : Bool) : Str := if b then "left" else "right"
def SideAt (t : Adr) (H : Hp) (p : Addr) (b : Bool) (w : Int) : Prop := ∃ dx, H p = some (.ins (if b then t.C_LeftSide else t.C_RightSide) dx [("width", .int w)])
def spInit (K : PySem.W.Frag) : Sp := fun vs H Q _ => ∃ (p C dx : Addr) (n : Int), vs = [.ref p, .int n] ∧ H p = some (.ins C dx []) ∧ Cls K C ∧ NoAttr K C "width" ∧ Q .non (upd H p (.ins C dx [("width", .int n)]))
def spSideOf (t : Adr) : Sp := fun vs H Q _ => ∃ (b : Bool) (n : Int), vs = [.str (sideW b), .int n] ∧ ∀ p H', H p = none → SideAt t H' p b n → Same H H' → Q (.ref p) H'
section
variable {P : Program} {w : World} {K : PySem.W.Frag} {mg : Str → Option Value} {base : Heap} {t : Adr}
theorem ok_Side_init (T : Txt w K mg t) : FnOk true P w K mg base (CXo P w) 1 t.f_Side_init t.d_Side_init ["self", "width"] (spInit K) := by
  refine T.F_Side_init.okn (k := 0) sc_Side_init (fun vs H Q E h => ?_) (fun cdv A outer s H vs Q E hr h => ?_)
  · obtain ⟨p, C, dx, n, rfl, _⟩ := h
    rfl
  · obtain ⟨p, C, dx, n, rfl, h⟩ := h
    refine ⟨_, pss_one (ps_fld (pv 0) (pv 1) rfl), ?_⟩
    obtain ⟨hp, c, na, q⟩ := h
    exact ⟨_, rfl, _, rfl, p, C, dx, [], rfl, hp, c, na, (by show 0 < 1000; decide), q⟩
theorem ok_side_of (T : Txt w K mg t) : FnOk true P w K mg base (CXo P w) 3 t.f_side_of t.d_side_of ["word", "width"] (spSideOf t) := by
  refine T.F_side_of.okn (k := 2) sc_side_of (fun vs H Q E h => ?_) (fun cdv A outer s H vs Q E hr h => ?_)
  · obtain ⟨b, n, rfl, _⟩ := h
    rfl
  · obtain ⟨b, n, rfl, h⟩ := h
    refine ⟨_, pss_cons (ps_if (pt_val (pe_callB call_isin rfl T.n_isinstance boot_isinstance (pa_cons (pv 0) (pa_cons (pe_bltn (v := .ty "str") rfl T.n_str boot_str rfl) (pa_nil))))) (pss_cons (ps_if (pt_cmpR op_eq (pv 0) (pe_str) (nomark _)) (pss_one (ps_ret (pe_make T.k_LeftSide (ok_Side_init T) (hr.mono (by decide)) rfl T.g_LeftSide T.b_Side_init .nil pass_none (pa_cons (pv 1) (pa_nil))))) (pss_nil))
      (pss_one (ps_if (pt_cmpR op_eq (pv 0) (pe_str) (nomark _)) (pss_one (ps_ret (pe_make T.k_RightSide (ok_Side_init T) (hr.mono (by decide)) rfl T.g_RightSide T.b_Side_init .nil pass_none (pa_cons (pv 1) (pa_nil))))) (pss_nil)))) (pss_nil))
      (pss_one (ps_never)), ?_⟩
    cases b with
    | true =>
      refine ⟨_, rfl, _, _, rfl, .inl ⟨_, _, true, .str _, rfl, kit_same, true, rfl, iteT ?_⟩⟩
      refine ⟨_, rfl, rfl, _, rfl, ?_⟩
      refine ifP (by decide +kernel) ?_
      exact ⟨_, rfl, fun x dx hx hdx ne => ⟨x, t.C_LeftSide, dx, n, rfl, upd_same, T.c_LeftSide, T.n_LeftSide_width, rfl, h x _ hx ⟨dx, upd_same⟩ (same2 hx hdx)⟩⟩
    | false =>
      refine ⟨_, rfl, _, _, rfl, .inl ⟨_, _, true, .str _, rfl, kit_same, true, rfl, iteT ?_⟩⟩
      refine ⟨_, rfl, rfl, _, rfl, ?_⟩
      refine ifN (by decide +kernel) ?_
      refine ⟨_, rfl, rfl, _, rfl, ?_⟩
      refine ifP (by decide +kernel) ?_
      exact ⟨_, rfl, fun x dx hx hdx ne => ⟨x, t.C_RightSide, dx, n, rfl, upd_same, T.c_RightSide, T.n_RightSide_width, rfl, h x _ hx ⟨dx, upd_same⟩ (same2 hx hdx)⟩⟩
end
def isNm (x : Str) : Bool := decide (x.length = 1) && (!decide (x.cps.toList < [97]) && !decide ([122] < x.cps.toList))
def spIsW : Sp := fun vs H Q _ => ∃ (i lo hi : Int), vs = [.int i, .int lo, .int hi] ∧ lo ≤ i ∧ i ≤ hi ∧ Q (.bl true) H
def spIsN : Sp := fun vs H Q _ => ∃ (x : Str), vs = [.str x] ∧ isNm x = true ∧ Q (.bl true) H
theorem a_cps : ("a" : Str).cps.toList = [97] := by decide +kernel
theorem z_cps : ("z" : Str).cps.toList = [122] := by decide +kernel
section
variable {P : Program} {w : World} {K : PySem.W.Frag} {mg : Str → Option Value} {base : Heap} {t : Adr}
theorem ok_is_whole (T : Txt w K mg t) : FnOk true P w K mg base (CXo P w) 1 t.f_is_whole t.d_is_whole ["thing", "low", "high"] (spIsW) := by
  refine T.F_is_whole.okn (k := 0) sc_is_whole (fun vs H Q E h => ?_) (fun cdv A outer s H vs Q E hr h => ?_)
  · obtain ⟨i, lo, hi, rfl, _⟩ := h
    rfl
  · obtain ⟨i, lo, hi, rfl, h⟩ := h
    refine ⟨_, pss_one (ps_ret (pe_and (pe_callB call_isin rfl T.n_isinstance boot_isinstance (pa_cons (pv 0) (pa_cons (pe_bltn (v := .ty "int") rfl T.n_int boot_int rfl) (pa_nil)))) (pe_and (pe_not (pe_callB call_isin rfl T.n_isinstance boot_isinstance (pa_cons (pv 0) (pa_cons (pe_bltn (v := .ty "bool") rfl T.n_bool boot_bool rfl) (pa_nil))))) (pe_one (pe_chain op_le op_le (pv 1) (pv 0) (pv 2)))))), ?_⟩
    obtain ⟨c1, c2, q⟩ := h
    refine ⟨_, rfl, _, _, rfl, .inl ⟨_, _, true, .int i, rfl, kit_same, true, rfl, iteT ?_⟩⟩
    refine ⟨_, rfl, _, _, rfl, .inl ⟨_, _, false, .int i, rfl, (by rfl), false, rfl, true, rfl, iteT ?_⟩⟩
    refine ⟨_, rfl, _, rfl, _, _, rfl, rfl, _, rfl, ite2 (fun c => ?_) (fun c => ?_)⟩
    · refine ⟨_, rfl, _, _, rfl, rfl, ?_⟩
      show Q (.bl (decide (i ≤ hi))) H
      rw [decide_eq_true c2]
      exact q
    · exact absurd (decide_eq_true c1) c
theorem ok_is_name (T : Txt w K mg t) : FnOk true P w K mg base (CXo P w) 1 t.f_is_name t.d_is_name ["thing"] (spIsN) := by
  refine T.F_is_name.okn (k := 0) sc_is_name (fun vs H Q E h => ?_) (fun cdv A outer s H vs Q E hr h => ?_)
  · obtain ⟨x, rfl, _⟩ := h
    rfl
  · obtain ⟨x, rfl, h⟩ := h
    refine ⟨_, pss_one (ps_ret (pe_and (pe_callB call_isin rfl T.n_isinstance boot_isinstance (pa_cons (pv 0) (pa_cons (pe_bltn (v := .ty "str") rfl T.n_str boot_str rfl) (pa_nil)))) (pe_and (pe_cmpR op_eq (pe_callB call_len_str rfl T.n_len boot_len (pa_cons (pv 0) (pa_nil))) (pe_int) (nomark _)) (pe_one (pe_chain op_le_str op_le_str (pe_str) (pv 0) (pe_str)))))), ?_⟩
    obtain ⟨hn, q⟩ := h
    unfold isNm at hn
    simp only [Bool.and_eq_true, decide_eq_true_eq, Bool.not_eq_true', decide_eq_false_iff_not] at hn
    obtain ⟨l1, n1, n2⟩ := hn
    refine ⟨_, rfl, _, _, rfl, .inl ⟨_, _, true, .str x, rfl, kit_same, true, rfl, iteT ?_⟩⟩
    refine ⟨_, rfl, _, rfl, (by rw [l1]; decide), rfl, _, rfl, ite2 (fun c => ?_) (fun c => ?_)⟩
    · refine ⟨_, rfl, _, _, rfl, rfl, _, rfl, ite2 (fun d => ?_) (fun d => ?_)⟩
      · refine ⟨_, _, rfl, rfl, ?_⟩
        rw [z_cps, decide_eq_false n2]
        exact q
      · rw [a_cps, decide_eq_false n1] at d
        exact absurd rfl d
    · exact absurd (decide_eq_true (by rw [l1]; rfl)) c
end
section
end
end S13
set_option maxRecDepth 100000
set_option maxHeartbeats 4000000
namespace S13
open PySem L2 XL PyProof.Rows
structure Pt where
  nm : Str
  x : Int
  y : Int
  sd : Str
  lo : Int
  hi : Int
def ptV (p : Pt) : List V := [.int p.x, .int p.y, .str p.sd, .int p.lo, .int p.hi]
inductive Pl (H : Hp) : List Pt → List (Key × V) → Prop
  | nil : Pl H [] []
  | cons {p : Pt} {q : Addr} {ps : List Pt} {kvs : List (Key × V)} (h : H q = some (.tup (ptV p))) (r : Pl H ps kvs) : Pl H (p :: ps) ((.inr p.nm, .ref q) :: kvs)
inductive PtsL (H : Hp) : List Pt → List Addr → Prop
  | nil : PtsL H [] []
  | cons {p : Pt} {q : Addr} {ps : List Pt} {qs : List Addr} (h : H q = some (.tup (.str p.nm :: ptV p))) (r : PtsL H ps qs) : PtsL H (p :: ps) (q :: qs)
theorem tT_if {σ : L2.St} {H : Hp} {A B : Hp → Prop} (h : A H) : tTrue σ H (fun b H4 => if b = true then A H4 else B H4) := by
  show if true = true then A H else B H
  rw [if_pos rfl]
  exact h
theorem gT_if {i : Nat} {v : V} {σ : L2.St} {H : Hp} {A B : L2.St → Hp → Prop} (h : A (σ.set i (some v)) H) : gName i v σ H (fun σ' H' => tTrue σ' H' fun b H4 => if b = true then A σ' H4 else B σ' H4) := by
  show if true = true then A (σ.set i (some v)) H else B (σ.set i (some v)) H
  rw [if_pos rfl]
  exact h
def Tups (H H' : Hp) : Prop := ∀ b xs, H b = some (.tup xs) → H' b = some (.tup xs)
theorem Pl.keep {H H' : Hp} (s : Tups H H') {ps : List Pt} {kvs : List (Key × V)} (h : Pl H ps kvs) : Pl H' ps kvs := by
  induction h with
  | nil => exact .nil
  | cons h _ ih => exact .cons (s _ _ h) ih
theorem PtsL.keep {H H' : Hp} (s : Tups H H') {ps : List Pt} {qs : List Addr} (h : PtsL H ps qs) : PtsL H' ps qs := by
  induction h with
  | nil => exact .nil
  | cons h _ ih => exact .cons (s _ _ h) ih
theorem Pl.len {H : Hp} {ps : List Pt} {kvs : List (Key × V)} (h : Pl H ps kvs) : kvs.length = ps.length := by
  induction h with
  | nil => rfl
  | cons _ _ ih => simp [ih]
theorem PtsL.len {H : Hp} {ps : List Pt} {qs : List Addr} (h : PtsL H ps qs) : qs.length = ps.length := by
  induction h with
  | nil => rfl
  | cons _ _ ih => simp [ih]
theorem Pl.find {H : Hp} {ps : List Pt} {kvs : List (Key × V)} (h : Pl H ps kvs) {nm : Str} {pt : Pt} (e : ps.find? (fun p => decide (p.nm = nm)) = some pt) : ∃ q, valV kvs (.inr nm) = some (.ref q) ∧ H q = some (.tup (ptV pt)) := by
  induction h with
  | nil => simp at e
  | @cons p q ps kvs h _ ih =>
    by_cases c : p.nm = nm
    · rw [List.find?_cons_of_pos (by simpa using c)] at e
      cases e
      exact ⟨q, valV_pos (by rw [c]), h⟩
    · rw [List.find?_cons_of_neg (by simpa using c)] at e
      obtain ⟨q', h1, h2⟩ := ih e
      exact ⟨q', by rw [valV_neg (fun z => c (Sum.inr.inj z))]; exact h1, h2⟩
theorem Pl.no {H : Hp} {ps : List Pt} {kvs : List (Key × V)} (h : Pl H ps kvs) {nm : Str} (e : ∀ p ∈ ps, p.nm ≠ nm) : valV kvs (.inr nm) = none := by
  induction h with
  | nil => rfl
  | @cons p q ps kvs h _ ih =>
    rw [valV_neg (fun z => e p List.mem_cons_self (Sum.inr.inj z))]
    exact ih fun p' hp => e p' (List.mem_cons_of_mem _ hp)
theorem Pl.get {H : Hp} {ps : List Pt} {kvs : List (Key × V)} (h : Pl H ps kvs) {i : Nat} {k : Key} {x : V} (e : kvs[i]? = some (k, x)) : ∃ p q, ps[i]? = some p ∧ k = .inr p.nm ∧ x = .ref q ∧ H q = some (.tup (ptV p)) := by
  induction h generalizing i with
  | nil => simp at e
  | @cons p q ps kvs h _ ih =>
    cases i with
    | zero =>
      simp at e
      exact ⟨p, q, rfl, e.1.symm, e.2.symm, h⟩
    | succ j => exact ih (by simpa using e)
theorem PtsL.get {H : Hp} {ps : List Pt} {qs : List Addr} (h : PtsL H ps qs) {i : Nat} {q : Addr} (e : qs[i]? = some q) : ∃ p, ps[i]? = some p ∧ H q = some (.tup (.str p.nm :: ptV p)) := by
  induction h generalizing i with
  | nil => simp at e
  | @cons p q' ps qs h _ ih =>
    cases i with
    | zero =>
      simp at e
      subst e
      exact ⟨p, rfl, h⟩
    | succ j => exact ih (by simpa using e)
theorem Pl.snoc {H : Hp} {ps : List Pt} {kvs : List (Key × V)} (h : Pl H ps kvs) {p : Pt} {q : Addr} (e : H q = some (.tup (ptV p))) : Pl H (ps ++ [p]) (kvs ++ [(.inr p.nm, .ref q)]) := by
  induction h with
  | nil => exact .cons e .nil
  | cons h _ ih => exact .cons h ih
theorem PtsL.snoc {H : Hp} {ps : List Pt} {qs : List Addr} (h : PtsL H ps qs) {p : Pt} {q : Addr} (e : H q = some (.tup (.str p.nm :: ptV p))) : PtsL H (ps ++ [p]) (qs ++ [q]) := by
  induction h with
  | nil => exact .cons e .nil
  | cons h _ ih => exact .cons h ih
abbrev picF (w h : Int) (dp do_ : Addr) : List (Str × V) := [("width", .int w), ("height", .int h), ("placed", .ref dp), ("opened", .ref do_)]
structure Pic (t : Adr) (H : Hp) (a dp do_ : Addr) (w h : Int) (ps : List Pt) : Prop where
  ins : ∃ dx, H a = some (.ins t.C_Picture dx (picF w h dp do_))
  pl : ∃ kvs, H dp = some (.dK kvs) ∧ Pl H ps kvs
  w1 : 1 ≤ w
  w2 : w ≤ 30
  h1 : 1 ≤ h
  h2 : h ≤ 16
  len : ps.length ≤ 12
theorem Same.tups {H H' : Hp} (s : Same H H') : Tups H H' := fun b xs e => s b _ e
theorem Pic.same {t : Adr} {H H' : Hp} {a dp do_ : Addr} {w h : Int} {ps : List Pt} (s : Same H H') (p : Pic t H a dp do_ w h ps) : Pic t H' a dp do_ w h ps :=
  ⟨let ⟨dx, e⟩ := p.ins; ⟨dx, s _ _ e⟩, let ⟨kvs, e, q⟩ := p.pl; ⟨kvs, s _ _ e, q.keep (Same.tups s)⟩, p.w1, p.w2, p.h1, p.h2, p.len⟩
theorem lk_no {w h : Int} {dp do_ : Addr} {m : Str} (e : ((["width", "height", "placed", "opened"] : List Str).all fun k => !(m == k)) = true) : (picF w h dp do_).lookup m = none := by
  simp only [List.all_cons, List.all_nil, Bool.and_eq_true, Bool.not_eq_true'] at e
  obtain ⟨e1, e2, e3, e4, _⟩ := e
  unfold picF
  rw [List.lookup_cons, e1]
  show List.lookup m [("height", V.int h), ("placed", V.ref dp), ("opened", V.ref do_)] = none
  rw [List.lookup_cons, e2]
  show List.lookup m [("placed", V.ref dp), ("opened", V.ref do_)] = none
  rw [List.lookup_cons, e3]
  show List.lookup m [("opened", V.ref do_)] = none
  rw [List.lookup_cons, e4]
  rfl
theorem lkW {w h : Int} {dp do_ : Addr} : (picF w h dp do_).lookup ("width" : Str) = some (.int w) := by
  unfold picF
  rw [List.lookup_cons, show (("width" : Str) == "width") = true from by decide +kernel]
theorem lkH {w h : Int} {dp do_ : Addr} : (picF w h dp do_).lookup ("height" : Str) = some (.int h) := by
  unfold picF
  rw [List.lookup_cons, show (("height" : Str) == "width") = false from by decide +kernel]
  show List.lookup ("height" : Str) [("height", V.int h), ("placed", V.ref dp), ("opened", V.ref do_)] = _
  rw [List.lookup_cons, show (("height" : Str) == "height") = true from by decide +kernel]
theorem lkP {w h : Int} {dp do_ : Addr} : (picF w h dp do_).lookup ("placed" : Str) = some (.ref dp) := by
  unfold picF
  rw [List.lookup_cons, show (("placed" : Str) == "width") = false from by decide +kernel]
  show List.lookup ("placed" : Str) [("height", V.int h), ("placed", V.ref dp), ("opened", V.ref do_)] = _
  rw [List.lookup_cons, show (("placed" : Str) == "height") = false from by decide +kernel]
  show List.lookup ("placed" : Str) [("placed", V.ref dp), ("opened", V.ref do_)] = _
  rw [List.lookup_cons, show (("placed" : Str) == "placed") = true from by decide +kernel]
def spPInit (t : Adr) : Sp := fun vs H Q _ => ∃ (p dx : Addr) (w h : Int), vs = [.ref p, .int w, .int h] ∧ H p = some (.ins t.C_Picture dx []) ∧ 1 ≤ w ∧ w ≤ 30 ∧ 1 ≤ h ∧ h ≤ 16 ∧
  ∀ H' dp do_, H dp = none → H do_ = none → (∀ b u, b ≠ p → H b = some u → H' b = some u) → Pic t H' p dp do_ w h [] → H' do_ = some (.dT []) → Q .non H'
def spCN (t : Adr) : Sp := fun vs H Q _ => ∃ (a dp do_ : Addr) (pw ph : Int) (ps : List Pt) (nm : Str) (pt : Pt), vs = [.ref a, .str nm] ∧ Pic t H a dp do_ pw ph ps ∧ isNm nm = true ∧ ps.find? (fun p => decide (p.nm = nm)) = some pt ∧ Q .non H
def spCC (t : Adr) : Sp := fun vs H Q _ => ∃ (a dp do_ : Addr) (pw ph : Int) (ps : List Pt) (x y : Int), vs = [.ref a, .int x, .int y] ∧ Pic t H a dp do_ pw ph ps ∧ 1 ≤ x ∧ x ≤ pw ∧ 1 ≤ y ∧ y ≤ ph ∧ Q .non H
def spPts (t : Adr) : Sp := fun vs H Q _ => ∃ (a dp do_ : Addr) (pw ph : Int) (ps : List Pt), vs = [.ref a] ∧ Pic t H a dp do_ pw ph ps ∧ ∀ H' l qs, Same H H' → H' l = some (.lst (qs.map V.ref)) → PtsL H' ps qs → Q (.ref l) H'
def spCL (t : Adr) : Sp := fun vs H Q _ => ∃ (a dp do_ : Addr) (pw ph : Int) (ps : List Pt) (nm : Str) (x y : Int), vs = [.ref a, .str nm, .int x, .int y] ∧ Pic t H a dp do_ pw ph ps ∧ (∀ p ∈ ps, p.nm ≠ nm → p.x ≠ x ∧ p.y ≠ y) ∧ ∀ H', Same H H' → Q .non H'
def spCS (t : Adr) : Sp := fun vs H Q _ => ∃ (a dp do_ : Addr) (pw ph : Int) (ps : List Pt) (b : Bool) (r : Int), vs = [.ref a, .str (sideW b), .int r] ∧ Pic t H a dp do_ pw ph ps ∧ 1 ≤ r ∧ r ≤ ph ∧ ∀ H', Same H H' → Q .non H'
def spPut (t : Adr) : Sp := fun vs H Q _ => ∃ (a dp do_ : Addr) (pw ph : Int) (ps : List Pt) (nm : Str) (x y : Int) (sd : Str) (lo hi : Int) (hv : V), vs = [.ref a, .str nm, .int x, .int y, .str sd, .int lo, hv] ∧ Pic t H a dp do_ pw ph ps ∧
  ((hv = .non ∧ hi = ph) ∨ hv = .int hi) ∧ isNm nm = true ∧ 1 ≤ x ∧ x ≤ pw ∧ 1 ≤ y ∧ y ≤ ph ∧ (sd = "left" ∨ sd = "right" ∨ sd = "both") ∧ 1 ≤ lo ∧ lo ≤ hi ∧ hi ≤ ph ∧ (∀ p ∈ ps, p.nm ≠ nm ∧ p.x ≠ x ∧ p.y ≠ y) ∧ ps.length < 12 ∧
  ∀ H', (∀ b u, b ≠ dp → H b = some u → H' b = some u) → Pic t H' a dp do_ pw ph (ps ++ [⟨nm, x, y, sd, lo, hi⟩]) → Q .non H'
section
variable {P : Program} {w : World} {K : PySem.W.Frag} {mg : Str → Option Value} {base : Heap} {t : Adr}
theorem ok_Picture_init (T : Txt w K mg t) : FnOk true P w K mg base (CXo P w) 2 t.f_Picture_init t.d_Picture_init ["self", "width", "height"] (spPInit t) := by
  refine T.F_Picture_init.okn (k := 1) sc_Picture_init (fun vs H Q E h => ?_) (fun cdv A outer s H vs Q E hr h => ?_)
  · obtain ⟨p, dx, pw, ph, rfl, _⟩ := h
    rfl
  · obtain ⟨p, dx, pw, ph, rfl, h⟩ := h
    refine ⟨_, pss_cons (ps_if (PW.pt (pw_or (pt_not (pt_val (pe_call (ok_is_whole T) (hr.mono (by decide)) rfl T.g_is_whole T.F_is_whole.kp T.b_is_whole .nil pass_none (pa_cons (pv 1) (pa_cons (pe_int) (pa_cons (pe_glob (v := .int 30) rfl T.v_MOST_COLUMNS.choose_spec ⟨_, rfl⟩) (pa_nil))))))) (pw_or1 (pt_not (pt_val (pe_call (ok_is_whole T) (hr.mono (by decide)) rfl T.g_is_whole T.F_is_whole.kp T.b_is_whole .nil pass_none (pa_cons (pv 2) (pa_cons (pe_int) (pa_cons (pe_glob (v := .int 16) rfl T.v_MOST_ROWS.choose_spec ⟨_, rfl⟩) (pa_nil)))))))))) (pss_one (ps_never)) (pss_nil))
      (pss_cons (ps_fld (pv 0) (pv 1) rfl)
      (pss_cons (ps_fld (pv 0) (pv 2) rfl)
      (pss_cons (ps_fld (pv 0) (pe_dnewK) rfl)
      (pss_one (ps_fld (pv 0) (pe_dnewT) rfl))))), ?_⟩
    obtain ⟨hp, w1, w2, h1, h2, q⟩ := h
    refine ⟨_, rfl, pw, 1, 30, rfl, w1, w2, true, rfl, iteF ⟨_, rfl, ph, 1, 16, rfl, h1, h2, true, rfl, iteF ?_⟩⟩
    refine ⟨_, rfl, _, rfl, p, _, dx, _, rfl, hp, T.c_Picture, T.n_Picture_width, (by show 0 < 1000; decide), ?_⟩
    refine ⟨_, rfl, _, rfl, p, _, dx, _, rfl, upd_same, T.c_Picture, T.n_Picture_height, (by show 1 < 1000; decide), ?_⟩
    rw [upd_upd]
    refine fun dp hdp => ?_
    have n1 : p ≠ dp := ne_of_none upd_same hdp
    refine ⟨_, rfl, p, _, dx, _, rfl, (by rw [upd_ne n1]; exact upd_same), T.c_Picture, T.n_Picture_placed, (by show 2 < 1000; decide), fun do_ hdo => ?_⟩
    have n2 : p ≠ do_ := ne_of_none upd_same hdo
    have n3 : dp ≠ do_ := ne_of_none (by rw [upd_ne (Ne.symm n1)]; exact upd_same) hdo
    refine ⟨_, rfl, p, _, dx, _, rfl, (by rw [upd_ne n2]; exact upd_same), T.c_Picture, T.n_Picture_opened, (by show 3 < 1000; decide), ?_⟩
    rw [upd_ne (Ne.symm n1)] at hdp
    have hdo' : H do_ = none := by
      have z := hdo
      rw [upd_ne (Ne.symm n2), upd_ne (Ne.symm n3), upd_ne (Ne.symm n2)] at z
      exact z
    refine q _ dp do_ hdp hdo' (fun b u nb e => ?_) ⟨⟨dx, upd_same⟩, ⟨[], ?_, .nil⟩, w1, w2, h1, h2, Nat.zero_le _⟩ ?_
    · have c1 : b ≠ dp := ne_of_none e hdp
      have c2 : b ≠ do_ := fun z => by
        subst z
        rw [upd_ne nb, upd_ne c1, upd_ne nb] at hdo
        rw [e] at hdo
        cases hdo
      rw [upd_ne nb, upd_ne c2, upd_ne nb, upd_ne c1, upd_ne nb]
      exact e
    · rw [upd_ne (Ne.symm n1), upd_ne n3, upd_ne (Ne.symm n1)]
      exact upd_same
    · rw [upd_ne (Ne.symm n2)]
      exact upd_same
theorem ok_Picture_check_name (T : Txt w K mg t) : FnOk true P w K mg base (CXo P w) 2 t.f_Picture_check_name t.d_Picture_check_name ["self", "name"] (spCN t) := by
  refine T.F_Picture_check_name.okn (k := 1) sc_Picture_check_name (fun vs H Q E h => ?_) (fun cdv A outer s H vs Q E hr h => ?_)
  · obtain ⟨a, dp, do_, pw, ph, ps, nm, pt, rfl, _⟩ := h
    rfl
  · obtain ⟨a, dp, do_, pw, ph, ps, nm, pt, rfl, h⟩ := h
    refine ⟨_, pss_one (ps_if (PW.pt (pw_or (pt_not (pt_val (pe_call (ok_is_name T) (hr.mono (by decide)) rfl T.g_is_name T.F_is_name.kp T.b_is_name .nil pass_none (pa_cons (pv 1) (pa_nil))))) (pw_or1 (pt_cmp (pc_dnotin (hu_of hr) (pv 1) (pe_fld (pv 0) rfl)))))) (pss_one (ps_never)) (pss_nil)), ?_⟩
    obtain ⟨pic, hn, hf, q⟩ := h
    obtain ⟨⟨dx, hp⟩, ⟨kvs, hk, pl⟩, _⟩ := id pic
    obtain ⟨q0, e, _⟩ := pl.find hf
    exact ⟨_, rfl, nm, rfl, hn, true, rfl, iteF ⟨_, rfl, _, rfl, a, _, dx, _, _, rfl, hp, T.c_Picture, T.n_Picture_placed, lkP, dp, some (.ref q0), rfl, (by rw [← e]; exact DGet.k (k := .inr nm) hk), false, rfl, iteF q⟩⟩
theorem ok_Picture_check_cell (T : Txt w K mg t) : FnOk true P w K mg base (CXo P w) 2 t.f_Picture_check_cell t.d_Picture_check_cell ["self", "x", "y"] (spCC t) := by
  refine T.F_Picture_check_cell.okn (k := 1) sc_Picture_check_cell (fun vs H Q E h => ?_) (fun cdv A outer s H vs Q E hr h => ?_)
  · obtain ⟨a, dp, do_, pw, ph, ps, x, y, rfl, _⟩ := h
    rfl
  · obtain ⟨a, dp, do_, pw, ph, ps, x, y, rfl, h⟩ := h
    refine ⟨_, pss_one (ps_if (PW.pt (pw_or (pt_not (pt_val (pe_call (ok_is_whole T) (hr.mono (by decide)) rfl T.g_is_whole T.F_is_whole.kp T.b_is_whole .nil pass_none (pa_cons (pv 1) (pa_cons (pe_int) (pa_cons (pe_fld (pv 0) rfl) (pa_nil))))))) (pw_or1 (pt_not (pt_val (pe_call (ok_is_whole T) (hr.mono (by decide)) rfl T.g_is_whole T.F_is_whole.kp T.b_is_whole .nil pass_none (pa_cons (pv 2) (pa_cons (pe_int) (pa_cons (pe_fld (pv 0) rfl) (pa_nil)))))))))) (pss_one (ps_never)) (pss_nil)), ?_⟩
    obtain ⟨pic, x1, x2, y1, y2, q⟩ := h
    obtain ⟨⟨dx, hp⟩, _, _⟩ := id pic
    exact ⟨_, rfl, _, rfl, a, _, dx, _, _, rfl, hp, T.c_Picture, T.n_Picture_width, lkW, x, 1, pw, rfl, x1, x2, true, rfl, iteF ⟨_, rfl, _, rfl, a, _, dx, _, _, rfl, hp, T.c_Picture, T.n_Picture_height, lkH, y, 1, ph, rfl, y1, y2, true, rfl, iteF q⟩⟩
theorem ok_Picture_points (T : Txt w K mg t) : FnOk true P w K mg base (CXo P w) 1 t.f_Picture_points t.d_Picture_points ["self"] (spPts t) := by
  refine T.F_Picture_points.okn (k := 0) sc_Picture_points (fun vs H Q E h => ?_) (fun cdv A outer s H vs Q E hr h => ?_)
  · obtain ⟨a, dp, do_, pw, ph, ps, rfl, _⟩ := h
    rfl
  · obtain ⟨a, dp, do_, pw, ph, ps, rfl, h⟩ := h
    refine ⟨_, pss_one (ps_ret (pe_thaw (pe_compG rfl (blkG_of (zs := ["name", "rest"]) (ys := []) (fr := []) (N0 := ["self"]) (sc0 := defScope s_Picture_points) (by decide +kernel) rfl rfl rfl) (pi_items (pe_fld (pv 0) rfl)) (fun _ _ _ _ _ ow nd => (pg_tup rfl (pgs_cons (pg_name (i := 0) nd rfl (Or.inl (ow _ (by simp))) (Or.inr (ow _ (by simp)))) (pgs_cons (pg_name (i := 1) nd rfl (Or.inl (ow _ (by simp))) (Or.inr (ow _ (by simp)))) (pgs_nil))) : PG _ _ (gTup K 2 _))) (gok_tup (goks_cons (by decide) (goks_cons (by decide) (goks_nil)))) (fun _ _ _ _ _ => pif_nil) (fun _ _ _ _ _ => pe_op (r := rCatT K) op_catT (pe_tup (pa_cons (pv 0) (pa_nil))) (pv 1))))), ?_⟩
    obtain ⟨pic, q⟩ := h
    obtain ⟨⟨dx, hp⟩, ⟨kvs, hk, pl⟩, _⟩ := id pic
    refine ⟨_, rfl, a, _, dx, _, _, rfl, hp, T.c_Picture, T.n_Picture_placed, lkP, dp, kvs, rfl, hk, fun ob nf l hl => ?_⟩
    have nl : l ≠ dp := fun z => by
      rw [z, upd_same] at hl
      cases hl
    have hl0 : H l = none := by rwa [upd_ne nl] at hl
    refine compG_by kvs.length (fun i xs H2 => ∃ qs : List Addr, xs = qs.map V.ref ∧ qs.length ≤ i ∧ H2 dp = some (.frz ob (.dK kvs)) ∧ (∀ b u, b ≠ dp → H b = some u → H2 b = some u) ∧ H2 l = some (.lst xs) ∧ PtsL H2 (ps.take i) qs) ?_ ?_ ?_ ?_
    · refine ⟨[], rfl, Nat.le_refl _, ?_, fun b u nb e => ?_, upd_same, by simpa using PtsL.nil⟩
      · rw [upd_ne (Ne.symm nl)]
        exact upd_same
      · rw [upd_ne (ne_of_none e hl0), upd_ne nb]
        exact e
    · rintro i xs H2 lt ⟨qs, _, _, hd, _⟩
      exact ⟨hd, lt⟩
    · rintro i xs H2 v H3 lt ⟨qs, rfl, ql, hd, sm, hl2, pts⟩ ⟨p, k, x, hx, rfl, hpn, rfl⟩ N hN
      obtain ⟨pt, q0, hpt, rfl, rfl, hq0⟩ := pl.get hx
      have e0 : H2 q0 = some (.tup (ptV pt)) := sm _ _ (ne_of hq0 hk (fun z => nomatch z)) hq0
      refine ⟨p, _, rfl, SqT.of upd_same, rfl, _, _, rfl, _, _, rfl, rfl, ?_⟩
      refine tT_if ?_
      have n0 : q0 ≠ p := ne_of_none e0 hpn
      refine ⟨_, rfl, (by show 1 ≤ sizeLine; decide), fun p1 h1 => ⟨_, rfl, p1, q0, _, ptV pt, rfl, rfl, SqT.of upd_same, SqT.of ?_, (by simp), (by show 1 + 5 ≤ sizeLine; decide), (fun z => nomatch z), fun _ p2 h2 => ?_⟩⟩
      · rw [upd_ne (ne_of_none (by rw [upd_ne n0]; exact e0) h1), upd_ne n0]
        exact e0
      have up : ∀ b u, H2 b = some u → (upd (upd (upd H2 p (.tup [.str pt.nm, .ref q0])) p1 (.tup [.str pt.nm])) p2 (.tup ([.str pt.nm] ++ ptV pt))) b = some u := fun b u e => by
        have c1 : b ≠ p := ne_of_none e hpn
        have e1 : upd H2 p (.tup [.str pt.nm, .ref q0]) b = some u := by rw [upd_ne c1]; exact e
        have c2 : b ≠ p1 := ne_of_none e1 h1
        have e2 : upd (upd H2 p (.tup [.str pt.nm, .ref q0])) p1 (.tup [.str pt.nm]) b = some u := by rw [upd_ne c2]; exact e1
        rw [upd_ne (ne_of_none e2 h2)]
        exact e2
      have c3 : l ≠ p2 := ne_of_none (show upd (upd H2 p (.tup [.str pt.nm, .ref q0])) p1 (.tup [.str pt.nm]) l = some (.lst (qs.map V.ref)) from by
        have c1 : l ≠ p := ne_of_none hl2 hpn
        have e1 : upd H2 p (.tup [.str pt.nm, .ref q0]) l = some (.lst (qs.map V.ref)) := by rw [upd_ne c1]; exact hl2
        rw [upd_ne (ne_of_none e1 h1)]
        exact e1) h2
      have tk : ps.take (i + 1) = ps.take i ++ [pt] := by
        rw [List.take_add_one, hpt]
        rfl
      have ll : qs.length < sizeLine := Nat.lt_trans (by have := pl.len; have := pic.len; omega : qs.length < 13) (by decide)
      refine ⟨up _ _ hl2, by rw [List.length_map]; exact ll, hN _ _ ⟨qs ++ [p2], by simp, by simp; omega, ?_, fun b u nb e => ?_, upd_same, ?_⟩⟩
      · rw [upd_ne (Ne.symm nl)]
        exact up _ _ hd
      · have e2 := up _ _ (sm b u nb e)
        rw [upd_ne (ne_of_none e hl0)]
        exact e2
      · rw [tk]
        refine PtsL.snoc (PtsL.keep (fun b xs e => ?_) pts) ?_
        · have e2 := up _ _ e
          rw [upd_ne (ne_of e2 (up _ _ hl2) (fun z => nomatch z))]
          exact e2
        · rw [upd_ne (Ne.symm c3)]
          exact upd_same
    · rintro xs H2 ⟨qs, rfl, _, hd, sm, hl2, pts⟩
      refine ⟨⟨hd, Nat.le_refl _⟩, dp, ob, _, hd, nf, q _ l qs (fun b u e => ?_) ?_ (PtsL.keep (fun b xs e => ?_) (by rw [pl.len, List.take_length] at pts; exact pts))⟩
      · by_cases c : b = dp
        · subst c
          rw [hk] at e
          cases e
          exact upd_same
        · rw [upd_ne c]
          exact sm b u c e
      · rw [upd_ne nl]
        exact hl2
      · rw [upd_ne (ne_of e hd (fun z => nomatch z))]
        exact e
theorem ok_Picture_check_lines (T : Txt w K mg t) : FnOk true P w K mg base (CXo P w) 2 t.f_Picture_check_lines t.d_Picture_check_lines ["self", "name", "x", "y"] (spCL t) := by
  refine T.F_Picture_check_lines.okn (k := 1) sc_Picture_check_lines (fun vs H Q E h => ?_) (fun cdv A outer s H vs Q E hr h => ?_)
  · obtain ⟨a, dp, do_, pw, ph, ps, nm, x, y, rfl, _⟩ := h
    rfl
  · obtain ⟨a, dp, do_, pw, ph, ps, nm, x, y, rfl, h⟩ := h
    refine ⟨_, pss_cons (ps_setcG rfl (blkG_of (zs := ["other"]) (ys := ["name"]) (fr := [1]) (N0 := ["self", "name", "x", "y", "others", "other"]) (sc0 := defScope s_Picture_check_lines) (by decide +kernel) rfl rfl rfl) (pi_list (pe_meth0 (pv 0) T.c_Picture T.m_Picture_points (ok_Picture_points T) (hr.mono (by decide)) T.b_Picture_points .nil pass_none)) (fun _ _ _ _ _ ow nd => pg_name (i := 0) nd rfl (Or.inl (ow _ (by simp))) (Or.inr (ow _ (by simp)))) (gok_name (by decide)) (fun _ _ _ _ _ => pif_one (pt_cmpR op_ne (pe_ix (r := rIxT K) ix_tup (pv 0) (pe_int) (fun _ _ => rfl)) (pv 1) (nomark _))) (fun _ _ _ _ _ => pv 0) (j := 4) rfl (Or.inl rfl))
      (pss_cons (ps_for PassesOwn.never rfl (pi_list (pv 4)) (pg_name (i := 5) sc_Picture_check_lines.nd rfl (Or.inl rfl)) (pss_one (ps_if (pt_cmpR op_eq (pe_ix ix_tup (pv 5) (pe_int) (fun _ _ => rfl)) (pv 2) (nomark _)) (pss_one (ps_never)) (pss_nil))))
      (pss_one (ps_for PassesOwn.never rfl (pi_list (pv 4)) (pg_name (i := 5) sc_Picture_check_lines.nd rfl (Or.inl rfl)) (pss_one (ps_if (pt_cmpR op_eq (pe_ix ix_tup (pv 5) (pe_int) (fun _ _ => rfl)) (pv 3) (nomark _)) (pss_one (ps_never)) (pss_nil)))))), ?_⟩
    obtain ⟨pic, no, q⟩ := h
    obtain ⟨⟨dx, hp⟩, ⟨kvs, hk, pl⟩, _⟩ := id pic
    refine ⟨_, rfl, a, dx, _, rfl, hp, lk_no (by decide +kernel), a, dp, do_, pw, ph, ps, rfl, pic, fun H1 l1 qs s1 hl1 pt1 => ⟨l1, rfl, ⟨_, SqL.of hl1⟩, fun l hl => ?_⟩⟩
    refine compG_by qs.length (fun i xs H2 => ∃ os : List Addr, xs = os.map V.ref ∧ os.length ≤ i ∧ Same H1 H2 ∧ H2 l = some (.lst xs) ∧ ∀ o ∈ os, ∃ p ∈ ps, p.nm ≠ nm ∧ H1 o = some (.tup (.str p.nm :: ptV p))) ?_ ?_ ?_ ?_
    · exact ⟨[], rfl, Nat.le_refl _, same_upd (Same.refl _) hl, upd_same, fun o z => nomatch z⟩
    · rintro i xs H2 lt ⟨os, _, _, s2, _⟩
      exact ⟨_, .ref qs[i], SqL.of (s2 _ _ hl1), by simp [lt]⟩
    · rintro i xs H2 v H3 lt ⟨os, rfl, ol, s2, hl2, hos⟩ ⟨rfl, hv⟩ N hN
      have hv' := hv _ (SqL.of (s2 _ _ hl1))
      rw [List.getElem?_map] at hv'
      obtain ⟨o, ho, rfl⟩ := Option.map_eq_some_iff.mp hv'
      obtain ⟨p, hpp, ep⟩ := pt1.get ho
      refine ⟨_, rfl, o, _, 0, _, rfl, rfl, SqT.of (s2 _ _ ep), rfl, _, rfl, rfl, _, rfl, ite2 (fun c => ?_) (fun c => ?_)⟩
      · have cn : p.nm ≠ nm := fun z => by
          rw [z] at c
          simp at c
        refine ⟨_, rfl, hl2, (by rw [List.length_map]; exact Nat.lt_trans (by have := pt1.len; have := pic.len; omega : os.length < 13) (by decide)), hN _ _ ⟨os ++ [o], by simp, by simp; omega, ?_, upd_same, ?_⟩⟩
        · intro b u e
          by_cases cb : b = l
          · subst cb
            rw [e] at hl
            cases hl
          · rw [upd_ne cb]
            exact s2 b u e
        · intro o' ho'
          rcases List.mem_append.mp ho' with z | z
          · exact hos o' z
          · have := List.mem_singleton.mp z
            subst this
            exact ⟨p, List.mem_of_getElem? hpp, cn, ep⟩
      · exact hN _ _ ⟨os, rfl, by omega, s2, hl2, hos⟩
    · rintro xs H2 ⟨os, rfl, ol, s2, hl2, hos⟩
      refine ⟨⟨_, SqL.of (s2 _ _ hl1), by simp⟩, ?_⟩
      have loop : ∀ (o : Addr), o ∈ os → ∃ p ∈ ps, p.nm ≠ nm ∧ H2 o = some (.tup (.str p.nm :: ptV p)) := fun o ho => by
        obtain ⟨p, h1, h2, h3⟩ := hos o ho
        exact ⟨p, h1, h2, s2 _ _ h3⟩
      refine ⟨_, rfl, l, rfl, ⟨_, SqL.of hl2⟩, for_list (xs := os.map V.ref) (Pv := fun i σ H3 => ∃ v5 : Option V, σ = [some (.ref a), some (.str nm), some (.int x), some (.int y), some (.ref l), v5] ∧ H2 = H3) ⟨_, rfl, rfl⟩ (fun _ _ _ _ ⟨_, _, z⟩ => by rw [← z]; exact SqL.of hl2) ?_ ?_⟩
      · rintro i v σ _ hv ⟨v5, rfl, rfl⟩
        rw [List.getElem?_map] at hv
        obtain ⟨o, ho, rfl⟩ := Option.map_eq_some_iff.mp hv
        obtain ⟨p, m1, m2, m3⟩ := loop o (List.mem_of_getElem? ho)
        refine ⟨_, rfl, o, _, 1, _, rfl, rfl, SqT.of m3, rfl, _, rfl, rfl, _, rfl, ifN (decide_eq_false fun z => (no p m1 m2).1 (V.int.inj z)) ⟨_, rfl, rfl⟩⟩
      · rintro σ _ ⟨v5, rfl, rfl⟩
        refine ⟨_, rfl, l, rfl, ⟨_, SqL.of hl2⟩, for_list (xs := os.map V.ref) (Pv := fun i σ H3 => ∃ v5 : Option V, σ = [some (.ref a), some (.str nm), some (.int x), some (.int y), some (.ref l), v5] ∧ H2 = H3) ⟨_, rfl, rfl⟩ (fun _ _ _ _ ⟨_, _, z⟩ => by rw [← z]; exact SqL.of hl2) ?_ ?_⟩
        · rintro i v σ _ hv ⟨v5, rfl, rfl⟩
          rw [List.getElem?_map] at hv
          obtain ⟨o, ho, rfl⟩ := Option.map_eq_some_iff.mp hv
          obtain ⟨p, m1, m2, m3⟩ := loop o (List.mem_of_getElem? ho)
          refine ⟨_, rfl, o, _, 2, _, rfl, rfl, SqT.of m3, rfl, _, rfl, rfl, _, rfl, ifN (decide_eq_false fun z => (no p m1 m2).2 (V.int.inj z)) ⟨_, rfl, rfl⟩⟩
        · rintro σ _ ⟨v5, rfl, rfl⟩
          exact q _ (s1.trans s2)
theorem ok_Picture_check_seat (T : Txt w K mg t) : FnOk true P w K mg base (CXo P w) 4 t.f_Picture_check_seat t.d_Picture_check_seat ["self", "side", "row"] (spCS t) := by
  refine T.F_Picture_check_seat.okn (k := 3) sc_Picture_check_seat (fun vs H Q E h => ?_) (fun cdv A outer s H vs Q E hr h => ?_)
  · obtain ⟨a, dp, do_, pw, ph, ps, b, r, rfl, _⟩ := h
    rfl
  · obtain ⟨a, dp, do_, pw, ph, ps, b, r, rfl, h⟩ := h
    refine ⟨_, pss_cons (ps_expr (pe_call (ok_side_of T) (hr.mono (by decide)) rfl T.g_side_of T.F_side_of.kp T.b_side_of .nil pass_none (pa_cons (pv 1) (pa_cons (pe_fld (pv 0) rfl) (pa_nil)))))
      (pss_one (ps_if (pt_not (pt_val (pe_call (ok_is_whole T) (hr.mono (by decide)) rfl T.g_is_whole T.F_is_whole.kp T.b_is_whole .nil pass_none (pa_cons (pv 2) (pa_cons (pe_int) (pa_cons (pe_fld (pv 0) rfl) (pa_nil))))))) (pss_one (ps_never)) (pss_nil))), ?_⟩
    obtain ⟨pic, r1, r2, q⟩ := h
    obtain ⟨⟨dx, hp⟩, _, _⟩ := id pic
    refine ⟨_, rfl, _, rfl, a, _, dx, _, _, rfl, hp, T.c_Picture, T.n_Picture_width, lkW, b, pw, rfl, fun p H1 hp1 sd1 s1 => ?_⟩
    exact ⟨_, rfl, _, rfl, a, _, dx, _, _, rfl, (s1 _ _ hp), T.c_Picture, T.n_Picture_height, lkH, r, 1, ph, rfl, r1, r2, true, rfl, iteF (q H1 s1)⟩
theorem ok_Picture_put (T : Txt w K mg t) : FnOk true P w K mg base (CXo P w) 3 t.f_Picture_put t.d_Picture_put ["self", "name", "x", "y", "sides", "low", "high"] (spPut t) := by
  refine T.F_Picture_put.okn (k := 2) sc_Picture_put (fun vs H Q E h => ?_) (fun cdv A outer s H vs Q E hr h => ?_)
  · obtain ⟨a, dp, do_, pw, ph, ps, nm, x, y, sd, lo, hi, hv, rfl, _⟩ := h
    rfl
  · obtain ⟨a, dp, do_, pw, ph, ps, nm, x, y, sd, lo, hi, hv, rfl, h⟩ := h
    refine ⟨_, pss_cons (ps_set (i := 7) sc_Picture_put.nd rfl (Or.inl rfl) (pe_ifExp (pt_cmpR op_isN (pv 6) (pe_non) (nomark _)) (pe_fld (pv 0) rfl) (pv 6)))
      (pss_cons (ps_if (pt_not (pt_val (pe_call (ok_is_name T) (hr.mono (by decide)) rfl T.g_is_name T.F_is_name.kp T.b_is_name .nil pass_none (pa_cons (pv 1) (pa_nil))))) (pss_one (ps_never)) (pss_nil))
      (pss_cons (ps_expr (pe_meth (pv 0) T.c_Picture T.m_Picture_check_cell (ok_Picture_check_cell T) (hr.mono (by decide)) T.b_Picture_check_cell .nil pass_none (pa_cons (pv 2) (pa_cons (pv 3) (pa_nil)))))
      (pss_cons (ps_if (PW.pt (pw_or (pt_not (pt_val (pe_callB call_isin rfl T.n_isinstance boot_isinstance (pa_cons (pv 4) (pa_cons (pe_bltn (v := .ty "str") rfl T.n_str boot_str rfl) (pa_nil)))))) (pw_or1 (pt_cmp (pc_gnotin (pv 4) rfl T.g_MIRRORED_SIDES T.D_MIRRORED_SIDES))))) (pss_one (ps_never)) (pss_nil))
      (pss_cons (ps_if (PW.pt (pw_or (pt_not (pt_val (pe_call (ok_is_whole T) (hr.mono (by decide)) rfl T.g_is_whole T.F_is_whole.kp T.b_is_whole .nil pass_none (pa_cons (pv 5) (pa_cons (pe_int) (pa_cons (pe_fld (pv 0) rfl) (pa_nil))))))) (pw_or1 (pt_not (pt_val (pe_call (ok_is_whole T) (hr.mono (by decide)) rfl T.g_is_whole T.F_is_whole.kp T.b_is_whole .nil pass_none (pa_cons (pv 7) (pa_cons (pv 5) (pa_cons (pe_fld (pv 0) rfl) (pa_nil)))))))))) (pss_one (ps_never)) (pss_nil))
      (pss_cons (ps_if (pt_cmp (pc_din (hu_of hr) (pv 1) (pe_fld (pv 0) rfl))) (pss_one (ps_never)) (pss_nil))
      (pss_cons (ps_if (pt_cmpR op_ge (pe_callB call_lenD rfl T.n_len boot_len (pa_cons (pe_fld (pv 0) rfl) (pa_nil))) (pe_glob (v := .int 12) rfl T.v_MOST_POINTS.choose_spec ⟨_, rfl⟩) (nomark _)) (pss_one (ps_never)) (pss_nil))
      (pss_cons (ps_expr (pe_meth (pv 0) T.c_Picture T.m_Picture_check_lines (ok_Picture_check_lines T) (hr.mono (by decide)) T.b_Picture_check_lines .nil pass_none (pa_cons (pv 1) (pa_cons (pv 2) (pa_cons (pv 3) (pa_nil))))))
      (pss_one (ps_dput (hu_of hr) (pe_fld (pv 0) rfl) (pv 1) (pe_tup (pa_cons (pv 2) (pa_cons (pv 3) (pa_cons (pv 4) (pa_cons (pv 5) (pa_cons (pv 7) (pa_nil))))))) rfl))))))))), ?_⟩
    obtain ⟨pic, hhv, hn, x1, x2, y1, y2, hsd, l1, l2, l3, no, len, q⟩ := h
    obtain ⟨⟨dx, hp⟩, ⟨kvs, hk, pl⟩, _⟩ := id pic
    have hsd' : (valV ([(Sum.inr "left", V.str "right"), (Sum.inr "right", V.str "left"), (Sum.inr "both", V.str "both")] : List (Key × V)) (Sum.inr sd)).isSome = true := by
      rcases hsd with rfl | rfl | rfl <;> decide +kernel
    rcases hhv with ⟨rfl, e⟩ | rfl
    · obtain rfl := e.symm
      refine ⟨_, rfl, rfl, _, rfl, ifP (by rfl) ⟨_, rfl, a, _, dx, _, _, rfl, hp, T.c_Picture, T.n_Picture_height, lkH, ?_⟩⟩
      refine ⟨_, rfl, nm, rfl, hn, true, rfl, iteF ?_⟩
      refine ⟨_, rfl, a, dx, _, rfl, hp, lk_no (by decide +kernel), _, rfl, _, rfl, a, dp, do_, pw, ph, ps, x, y, rfl, pic, x1, x2, y1, y2, ?_⟩
      refine ⟨_, rfl, _, _, rfl, .inl ⟨_, _, true, .str _, rfl, kit_same, true, rfl, iteF ⟨_, rfl, .inr sd, rfl, false, (by rw [hsd']; rfl), iteF ?_⟩⟩⟩
      refine ⟨_, rfl, _, rfl, a, _, dx, _, _, rfl, hp, T.c_Picture, T.n_Picture_height, lkH, lo, 1, ph, rfl, l1, (by omega), true, rfl, iteF ⟨_, rfl, _, rfl, _, rfl, a, _, dx, _, _, rfl, hp, T.c_Picture, T.n_Picture_height, lkH, ph, lo, ph, rfl, (by omega), (by omega), true, rfl, iteF ?_⟩⟩
      refine ⟨_, rfl, _, rfl, a, _, dx, _, _, rfl, hp, T.c_Picture, T.n_Picture_placed, lkP, dp, none, rfl, (by rw [← pl.no (nm := nm) (fun p hp => (no p hp).1)]; exact DGet.k (k := .inr nm) hk), false, rfl, iteF ?_⟩
      refine ⟨_, rfl, a, _, dx, _, _, rfl, hp, T.c_Picture, T.n_Picture_placed, lkP, dp, kvs, rfl, hk, _, _, rfl, rfl, _, rfl, ifN (decide_eq_false (by have := pl.len; omega)) ?_⟩
      refine ⟨_, rfl, a, dx, _, rfl, hp, lk_no (by decide +kernel), _, rfl, _, rfl, _, rfl, a, dp, do_, pw, ph, ps, nm, x, y, rfl, pic, fun p hp _ => (no p hp).2, fun H1 s1 => ?_⟩
      refine ⟨_, rfl, _, rfl, _, rfl, _, rfl, _, rfl, (by show 5 ≤ sizeLine; decide), fun q1 hq1 => ?_⟩
      have hp1 : upd H1 q1 (.tup [.int x, .int y, .str sd, .int lo, .int ph]) a = some (.ins t.C_Picture dx (picF pw ph dp do_)) := by rw [upd_ne (ne_of_none (s1 _ _ hp) hq1)]; exact s1 _ _ hp
      have hk1 : upd H1 q1 (.tup [.int x, .int y, .str sd, .int lo, .int ph]) dp = some (.dK kvs) := by rw [upd_ne (ne_of_none (s1 _ _ hk) hq1)]; exact s1 _ _ hk
      refine ⟨_, rfl, a, _, dx, _, _, rfl, hp1, T.c_Picture, T.n_Picture_placed, lkP, _, rfl, dp, _, rfl, DPut.k (k := .inr nm) hk1 (Nat.lt_trans (by have := pl.len; omega : kvs.length < 12) (by decide)), ?_⟩
      rw [putK_new (.ref q1) (pl.no (nm := nm) (fun p hp => (no p hp).1))]
      have nq : q1 ≠ dp := fun z => by
        subst z
        rw [s1 _ _ hk] at hq1
        cases hq1
      refine q _ (fun b u nb e => ?_) ⟨⟨dx, ?_⟩, ⟨_, upd_same, Pl.snoc (p := ⟨nm, x, y, sd, lo, ph⟩) (pl.keep (fun b xs e => ?_)) ?_⟩, pic.w1, pic.w2, pic.h1, pic.h2, (by rw [List.length_append]; exact len)⟩
      · rw [upd_ne nb, upd_ne (ne_of_none (s1 _ _ e) hq1)]
        exact s1 _ _ e
      · rw [upd_ne (ne_of hp1 hk1 (fun z => nomatch z))]
        exact hp1
      · have e' := s1 _ _ e
        rw [upd_ne (ne_of e' (s1 _ _ hk) (fun z => nomatch z)), upd_ne (ne_of_none e' hq1)]
        exact e'
      · rw [upd_ne nq]
        exact upd_same
    · refine ⟨_, rfl, rfl, _, rfl, ifN (by rfl) ⟨_, rfl, ?_⟩⟩
      refine ⟨_, rfl, nm, rfl, hn, true, rfl, iteF ?_⟩
      refine ⟨_, rfl, a, dx, _, rfl, hp, lk_no (by decide +kernel), _, rfl, _, rfl, a, dp, do_, pw, ph, ps, x, y, rfl, pic, x1, x2, y1, y2, ?_⟩
      refine ⟨_, rfl, _, _, rfl, .inl ⟨_, _, true, .str _, rfl, kit_same, true, rfl, iteF ⟨_, rfl, .inr sd, rfl, false, (by rw [hsd']; rfl), iteF ?_⟩⟩⟩
      refine ⟨_, rfl, _, rfl, a, _, dx, _, _, rfl, hp, T.c_Picture, T.n_Picture_height, lkH, lo, 1, ph, rfl, l1, (by omega), true, rfl, iteF ⟨_, rfl, _, rfl, _, rfl, a, _, dx, _, _, rfl, hp, T.c_Picture, T.n_Picture_height, lkH, hi, lo, ph, rfl, (by omega), (by omega), true, rfl, iteF ?_⟩⟩
      refine ⟨_, rfl, _, rfl, a, _, dx, _, _, rfl, hp, T.c_Picture, T.n_Picture_placed, lkP, dp, none, rfl, (by rw [← pl.no (nm := nm) (fun p hp => (no p hp).1)]; exact DGet.k (k := .inr nm) hk), false, rfl, iteF ?_⟩
      refine ⟨_, rfl, a, _, dx, _, _, rfl, hp, T.c_Picture, T.n_Picture_placed, lkP, dp, kvs, rfl, hk, _, _, rfl, rfl, _, rfl, ifN (decide_eq_false (by have := pl.len; omega)) ?_⟩
      refine ⟨_, rfl, a, dx, _, rfl, hp, lk_no (by decide +kernel), _, rfl, _, rfl, _, rfl, a, dp, do_, pw, ph, ps, nm, x, y, rfl, pic, fun p hp _ => (no p hp).2, fun H1 s1 => ?_⟩
      refine ⟨_, rfl, _, rfl, _, rfl, _, rfl, _, rfl, (by show 5 ≤ sizeLine; decide), fun q1 hq1 => ?_⟩
      have hp1 : upd H1 q1 (.tup [.int x, .int y, .str sd, .int lo, .int hi]) a = some (.ins t.C_Picture dx (picF pw ph dp do_)) := by rw [upd_ne (ne_of_none (s1 _ _ hp) hq1)]; exact s1 _ _ hp
      have hk1 : upd H1 q1 (.tup [.int x, .int y, .str sd, .int lo, .int hi]) dp = some (.dK kvs) := by rw [upd_ne (ne_of_none (s1 _ _ hk) hq1)]; exact s1 _ _ hk
      refine ⟨_, rfl, a, _, dx, _, _, rfl, hp1, T.c_Picture, T.n_Picture_placed, lkP, _, rfl, dp, _, rfl, DPut.k (k := .inr nm) hk1 (Nat.lt_trans (by have := pl.len; omega : kvs.length < 12) (by decide)), ?_⟩
      rw [putK_new (.ref q1) (pl.no (nm := nm) (fun p hp => (no p hp).1))]
      have nq : q1 ≠ dp := fun z => by
        subst z
        rw [s1 _ _ hk] at hq1
        cases hq1
      refine q _ (fun b u nb e => ?_) ⟨⟨dx, ?_⟩, ⟨_, upd_same, Pl.snoc (p := ⟨nm, x, y, sd, lo, hi⟩) (pl.keep (fun b xs e => ?_)) ?_⟩, pic.w1, pic.w2, pic.h1, pic.h2, (by rw [List.length_append]; exact len)⟩
      · rw [upd_ne nb, upd_ne (ne_of_none (s1 _ _ e) hq1)]
        exact s1 _ _ e
      · rw [upd_ne (ne_of hp1 hk1 (fun z => nomatch z))]
        exact hp1
      · have e' := s1 _ _ e
        rw [upd_ne (ne_of e' (s1 _ _ hk) (fun z => nomatch z)), upd_ne (ne_of_none e' hq1)]
        exact e'
      · rw [upd_ne nq]
        exact upd_same
end
end S13
set_option maxRecDepth 100000
set_option maxHeartbeats 4000000
namespace S13
open PySem L2 XL PyProof.Rows
theorem lkO {w h : Int} {dp do_ : Addr} : (picF w h dp do_).lookup ("opened" : Str) = some (.ref do_) := by
  unfold picF
  rw [List.lookup_cons, show (("opened" : Str) == "width") = false from by decide +kernel]
  show List.lookup ("opened" : Str) [("height", V.int h), ("placed", V.ref dp), ("opened", V.ref do_)] = _
  rw [List.lookup_cons, show (("opened" : Str) == "height") = false from by decide +kernel]
  show List.lookup ("opened" : Str) [("placed", V.ref dp), ("opened", V.ref do_)] = _
  rw [List.lookup_cons, show (("opened" : Str) == "placed") = false from by decide +kernel]
  show List.lookup ("opened" : Str) [("opened", V.ref do_)] = _
  rw [List.lookup_cons, show (("opened" : Str) == "opened") = true from by decide +kernel]
abbrev Seat := Bool × Int
def seatK (s : Seat) : List Key := [.inr (sideW s.1), .inl s.2]
def seatV (s : Seat) : List V := [.str (sideW s.1), .int s.2]
theorem sideW_inj {a b : Bool} (h : sideW a = sideW b) : a = b := by
  cases a <;> cases b <;> first | rfl | exact absurd h (by decide +kernel)
theorem seatK_inj {s t : Seat} (h : seatK s = seatK t) : s = t := by
  simp only [seatK, List.cons.injEq, Sum.inr.injEq, Sum.inl.injEq] at h
  exact Prod.ext (sideW_inj h.1) h.2.1
def Sts (H : Hp) (do_ : Addr) (ss : List Seat) : Prop := ∃ kvs : List (List Key × V), H do_ = some (.dT kvs) ∧ kvs.map (·.1) = ss.map seatK ∧ ss.Nodup ∧ ss.length ≤ 32
theorem Sts.same {H H' : Hp} {do_ : Addr} {ss : List Seat} (s : Same H H') (h : Sts H do_ ss) : Sts H' do_ ss := let ⟨k, e, r⟩ := h; ⟨k, s _ _ e, r⟩
theorem val_no {kvs : List (List Key × V)} {ss : List Seat} (e : kvs.map (·.1) = ss.map seatK) {s : Seat} (h : s ∉ ss) : valV kvs (seatK s) = none := by
  cases z : valV kvs (seatK s) with
  | none => rfl
  | some v =>
    obtain ⟨i, hi⟩ := valV_ix z
    have m : seatK s ∈ kvs.map (·.1) := List.mem_map.mpr ⟨_, List.mem_of_getElem? hi, rfl⟩
    rw [e] at m
    obtain ⟨t, ht, et⟩ := List.mem_map.mp m
    exact absurd ht (by rw [seatK_inj et]; exact h)
theorem val_yes {kvs : List (List Key × V)} {ss : List Seat} (e : kvs.map (·.1) = ss.map seatK) {s : Seat} (h : s ∈ ss) : ∃ v, valV kvs (seatK s) = some v := by
  cases z : valV kvs (seatK s) with
  | some v => exact ⟨v, rfl⟩
  | none =>
    have m : seatK s ∈ kvs.map (·.1) := by rw [e]; exact List.mem_map.mpr ⟨s, h, rfl⟩
    obtain ⟨p, hp, ep⟩ := List.mem_map.mp m
    have a := valV_any (seatK s) kvs
    rw [z] at a
    have : (kvs.any fun kv => decide (kv.1 = seatK s)) = true := List.any_eq_true.mpr ⟨p, hp, by simpa using ep⟩
    rw [this] at a
    cases a
inductive SeatsL (H : Hp) : List Seat → List Addr → Prop
  | nil : SeatsL H [] []
  | cons {s : Seat} {q : Addr} {ss : List Seat} {qs : List Addr} (h : H q = some (.tup (seatV s))) (r : SeatsL H ss qs) : SeatsL H (s :: ss) (q :: qs)
theorem SeatsL.keep {H H' : Hp} (k : Tups H H') {ss : List Seat} {qs : List Addr} (h : SeatsL H ss qs) : SeatsL H' ss qs := by
  induction h with
  | nil => exact .nil
  | cons h _ ih => exact .cons (k _ _ h) ih
theorem SeatsL.len {H : Hp} {ss : List Seat} {qs : List Addr} (h : SeatsL H ss qs) : qs.length = ss.length := by
  induction h with
  | nil => rfl
  | cons _ _ ih => simp [ih]
def seatLt (s t : Seat) : Prop := (s.1 = true ∧ t.1 = false) ∨ (s.1 = t.1 ∧ s.2 < t.2)
theorem lex_seat {s t : Seat} (h : lexK (seatK s) (seatK t) = true) : seatLt s t := by
  obtain ⟨a, i⟩ := s
  obtain ⟨b, j⟩ := t
  unfold seatK at h
  unfold lexK at h
  by_cases e : sideW a = sideW b
  · rw [if_pos (by rw [e])] at h
    unfold lexK at h
    by_cases e2 : i = j
    · rw [if_pos (by rw [e2])] at h
      unfold lexK at h
      cases h
    · rw [if_neg (fun z => e2 (Sum.inl.inj z))] at h
      exact .inr ⟨sideW_inj e, of_decide_eq_true h⟩
  · rw [if_neg (fun z => e (Sum.inr.inj z))] at h
    cases a <;> cases b
    · exact absurd rfl e
    · exact absurd h (by show ¬ kLess (.inr (sideW false)) (.inr (sideW true)) = true; decide +kernel)
    · exact .inl ⟨rfl, rfl⟩
    · exact absurd rfl e
def unK : List Key → Seat
  | [.inr s, .inl r] => (decide (s = "left"), r)
  | _ => (true, 0)
theorem unK_seat (s : Seat) : unK (seatK s) = s := by
  obtain ⟨b, r⟩ := s
  cases b
  · show (decide (("right" : Str) = "left"), r) = _
    rw [decide_eq_false (by decide +kernel)]
  · show (decide (("left" : Str) = "left"), r) = _
    rw [decide_eq_true rfl]
def spOpen (t : Adr) : Sp := fun vs H Q _ => ∃ (a dp do_ : Addr) (pw ph : Int) (ps : List Pt) (ss : List Seat) (b : Bool) (r : Int), vs = [.ref a, .str (sideW b), .int r] ∧ Pic t H a dp do_ pw ph ps ∧ Sts H do_ ss ∧ 1 ≤ r ∧ r ≤ ph ∧ (b, r) ∉ ss ∧ ss.length < 32 ∧
  ∀ H', (∀ c u, c ≠ do_ → H c = some u → H' c = some u) → Pic t H' a dp do_ pw ph ps → Sts H' do_ (ss ++ [(b, r)]) → Q .non H'
def spSeats (t : Adr) : Sp := fun vs H Q _ => ∃ (a dp do_ : Addr) (pw ph : Int) (ps : List Pt) (ss : List Seat), vs = [.ref a] ∧ Pic t H a dp do_ pw ph ps ∧ Sts H do_ ss ∧
  ∀ (l : Addr) (ss' : List Seat) (qs : List Addr), H l = none → SeatsL H ss' qs → ss'.Perm ss → ss'.Pairwise seatLt → Q (.ref l) (upd H l (.lst (qs.map V.ref)))
theorem Pic.but {t : Adr} {H H' : Hp} {a dp do_ : Addr} {w h : Int} {ps : List Pt} {kvs : List (List Key × V)} (e : H do_ = some (.dT kvs)) (s : ∀ c u, c ≠ do_ → H c = some u → H' c = some u) (p : Pic t H a dp do_ w h ps) : Pic t H' a dp do_ w h ps :=
  ⟨let ⟨dx, x⟩ := p.ins; ⟨dx, s _ _ (ne_of x e (fun z => nomatch z)) x⟩, let ⟨k, x, q⟩ := p.pl; ⟨k, s _ _ (ne_of x e (fun z => nomatch z)) x, q.keep fun b xs x => s _ _ (ne_of x e (fun z => nomatch z)) x⟩, p.w1, p.w2, p.h1, p.h2, p.len⟩
section
variable {P : Program} {w : World} {K : PySem.W.Frag} {mg : Str → Option Value} {base : Heap} {t : Adr}
theorem ok_Picture_open_seat (T : Txt w K mg t) : FnOk true P w K mg base (CXo P w) 5 t.f_Picture_open_seat t.d_Picture_open_seat ["self", "side", "row"] (spOpen t) := by
  refine T.F_Picture_open_seat.okn (k := 4) sc_Picture_open_seat (fun vs H Q E h => ?_) (fun cdv A outer s H vs Q E hr h => ?_)
  · obtain ⟨a, dp, do_, pw, ph, ps, ss, b, r, rfl, _⟩ := h
    rfl
  · obtain ⟨a, dp, do_, pw, ph, ps, ss, b, r, rfl, h⟩ := h
    refine ⟨_, pss_cons (ps_expr (pe_meth (pv 0) T.c_Picture T.m_Picture_check_seat (ok_Picture_check_seat T) (hr.mono (by decide)) T.b_Picture_check_seat .nil pass_none (pa_cons (pv 1) (pa_cons (pv 2) (pa_nil)))))
      (pss_cons (ps_if (pt_cmp (pc_din (hu_of hr) (pe_tup (pa_cons (pv 1) (pa_cons (pv 2) (pa_nil)))) (pe_fld (pv 0) rfl))) (pss_one (ps_never)) (pss_nil))
      (pss_one (ps_dput (hu_of hr) (pe_fld (pv 0) rfl) (pe_tup (pa_cons (pv 1) (pa_cons (pv 2) (pa_nil)))) (pe_bl) rfl))), ?_⟩
    obtain ⟨pic, st, r1, r2, no, len, q⟩ := h
    obtain ⟨⟨dx, hp⟩, _, _⟩ := id pic
    obtain ⟨kvs, hk, ek, nd, l32⟩ := id st
    refine ⟨_, rfl, a, dx, _, rfl, hp, lk_no (by decide +kernel), _, rfl, _, rfl, a, dp, do_, pw, ph, ps, b, r, rfl, pic, r1, r2, fun H1 s1 => ?_⟩
    refine ⟨_, rfl, _, rfl, (by show 2 ≤ sizeLine; decide), fun q1 hq1 => ?_⟩
    have s2 : Same H1 (upd H1 q1 (.tup [.str (sideW b), .int r])) := same_upd (Same.refl _) hq1
    have g2 : upd H1 q1 (.tup [.str (sideW b), .int r]) q1 = some (.tup [.str (sideW b), .int r]) := upd_same
    revert s2 g2
    generalize upd H1 q1 (.tup [.str (sideW b), .int r]) = H2
    intro s2 g2
    have hk2 := s2 _ _ (s1 _ _ hk)
    have hp2 := s2 _ _ (s1 _ _ hp)
    have n0 : valV kvs (seatK (b, r)) = none := val_no ek no
    refine ⟨_, rfl, a, _, dx, _, _, rfl, hp2, T.c_Picture, T.n_Picture_opened, lkO, do_, none, rfl, (by rw [← n0]; exact DGet.t (k := seatK (b, r)) hk2 g2), false, rfl, iteF ?_⟩
    refine ⟨_, rfl, a, _, dx, _, _, rfl, hp2, T.c_Picture, T.n_Picture_opened, lkO, _, rfl, _, rfl, (by show 2 ≤ sizeLine; decide), fun q3 hq3 => ?_⟩
    have s3 : Same H2 (upd H2 q3 (.tup [.str (sideW b), .int r])) := same_upd (Same.refl _) hq3
    have g3 : upd H2 q3 (.tup [.str (sideW b), .int r]) q3 = some (.tup [.str (sideW b), .int r]) := upd_same
    revert s3 g3
    generalize upd H2 q3 (.tup [.str (sideW b), .int r]) = H3
    intro s3 g3
    have kl : kvs.length = ss.length := by
      have := congrArg List.length ek
      simpa using this
    refine ⟨do_, _, rfl, DPut.t (k := seatK (b, r)) (s3 _ _ hk2) g3 (Nat.lt_trans (by omega : kvs.length < 33) (by decide)), ?_⟩
    have bt : ∀ c u, c ≠ do_ → H c = some u → upd H3 do_ (.dT (putK kvs (seatK (b, r)) (.bl true))) c = some u := fun c u nc e => by
      rw [upd_ne nc]
      exact s3 _ _ (s2 _ _ (s1 _ _ e))
    refine q _ bt (Pic.but hk bt pic) ⟨_, upd_same, ?_, ?_, ?_⟩
    · rw [putK_new _ n0, List.map_append, List.map_append, ek]
      rfl
    · rw [List.nodup_append]
      exact ⟨nd, by simp, fun x hx y hy => by rw [List.mem_singleton.mp hy]; exact fun e => no (e ▸ hx)⟩
    · rw [List.length_append]
      show ss.length + 1 ≤ 32
      omega
theorem ok_Picture_seats (T : Txt w K mg t) : FnOk true P w K mg base (CXo P w) 1 t.f_Picture_seats t.d_Picture_seats ["self"] (spSeats t) := by
  refine T.F_Picture_seats.okn (k := 0) sc_Picture_seats (fun vs H Q E h => ?_) (fun cdv A outer s H vs Q E hr h => ?_)
  · obtain ⟨a, dp, do_, pw, ph, ps, ss, rfl, _⟩ := h
    rfl
  · obtain ⟨a, dp, do_, pw, ph, ps, ss, rfl, h⟩ := h
    refine ⟨_, pss_one (ps_ret (pe_callB (call_sortedD rfl) rfl T.n_sorted PyProof.Rows.Boot.«sorted» (pa_cons (pe_fld (pv 0) rfl) (pa_nil)))), ?_⟩
    obtain ⟨pic, st, q⟩ := h
    obtain ⟨⟨dx, hp⟩, _, _⟩ := id pic
    obtain ⟨kvs, hk, ek, nd, l32⟩ := id st
    have kl : kvs.length = ss.length := by
      have := congrArg List.length ek
      simpa using this
    refine ⟨_, rfl, a, _, dx, _, _, rfl, hp, T.c_Picture, T.n_Picture_opened, lkO, do_, kvs, [false, true], rfl, hk, by omega, fun p hp' => ?_, by decide, fun l ts fr tm pm pw' => ?_⟩
    · have m : p.1 ∈ kvs.map (·.1) := List.mem_map.mpr ⟨p, hp', rfl⟩
      rw [ek] at m
      obtain ⟨s, _, e⟩ := List.mem_map.mp m
      rw [← e]
      rfl
    rw [ek] at pm
    have back : ∀ t ∈ ts, seatK (unK t.1) = t.1 := fun t ht => by
      obtain ⟨s, _, e⟩ := List.mem_map.mp (pm.mem_iff.mp (List.mem_map.mpr ⟨t, ht, rfl⟩))
      rw [← e, unK_seat]
    have z := q l ((ts.map (·.1)).map unK) (ts.map (·.2)) fr ?_ ?_ ?_
    · rw [List.map_map] at z
      exact z
    · clear pm pw'
      induction ts with
      | nil => exact .nil
      | cons t ts ih =>
        refine .cons ?_ (ih (fun x hx => tm x (List.mem_cons_of_mem _ hx)) fun x hx => back x (List.mem_cons_of_mem _ hx))
        have e := tm t List.mem_cons_self
        rw [← back t List.mem_cons_self] at e
        exact e
    · have z2 := pm.map unK
      have e2 : (ss.map seatK).map unK = ss := by
        rw [List.map_map, show (unK ∘ seatK) = id from funext unK_seat]
        exact List.map_id _
      rw [e2] at z2
      exact z2
    · rw [List.pairwise_map] at pw'
      rw [List.map_map, List.pairwise_map]
      refine pw'.imp_of_mem fun {x y} hx hy hxy => lex_seat ?_
      show lexK (seatK (unK x.1)) (seatK (unK y.1)) = true
      rw [back x hx, back y hy]
      exact hxy
end
end S13
set_option maxRecDepth 100000
set_option maxHeartbeats 4000000
namespace S13
open PySem L2 XL PyProof.Rows
def SsOk (h : Int) (ss : List Seat) : Prop := ss.Nodup ∧ ss.length ≤ 32 ∧ ∀ s ∈ ss, 1 ≤ s.2 ∧ s.2 ≤ h
theorem SeatsL.get {H : Hp} {ss : List Seat} {qs : List Addr} (h : SeatsL H ss qs) {i : Nat} {q : Addr} (e : qs[i]? = some q) : ∃ s, ss[i]? = some s ∧ H q = some (.tup (seatV s)) := by
  induction h generalizing i with
  | nil => simp at e
  | @cons s q' ss qs h _ ih =>
    cases i with
    | zero =>
      simp at e
      subst e
      exact ⟨s, rfl, h⟩
    | succ j => exact ih (by simpa using e)
theorem perm_sorted {α : Type} {R : α → α → Prop} (as : ∀ a b, R a b → ¬ R b a) : ∀ {l l' : List α}, l.Perm l' → l.Pairwise R → l'.Pairwise R → l = l'
  | [], l', p, _, _ => (List.Perm.nil_eq p)
  | a :: t, [], p, _, _ => absurd p.symm (by intro z; exact absurd (List.Perm.nil_eq z) (by simp))
  | a :: t, b :: t', p, h, h' => by
    have h1 := List.pairwise_cons.mp h
    have h2 := List.pairwise_cons.mp h'
    by_cases e : a = b
    · subst e
      rw [perm_sorted as ((List.perm_cons a).mp p) h1.2 h2.2]
    · have ma : a ∈ t' := by
        have := p.mem_iff.mp (List.mem_cons_self (a := a) (l := t))
        rcases List.mem_cons.mp this with z | z
        · exact absurd z e
        · exact z
      have mb : b ∈ t := by
        have := p.mem_iff.mpr (List.mem_cons_self (a := b) (l := t'))
        rcases List.mem_cons.mp this with z | z
        · exact absurd z.symm e
        · exact z
      exact absurd (h2.1 a ma) (as _ _ (h1.1 b mb))
theorem seatLt_as (a b : Seat) (h : seatLt a b) : ¬ seatLt b a := by
  rintro (⟨x, y⟩ | ⟨x, y⟩) <;> rcases h with ⟨z, w⟩ | ⟨z, w⟩
  · rw [x] at w; cases w
  · rw [x, y] at z; cases z
  · rw [z, w] at x; cases x
  · omega
def seatD (s : Seat) : DV := .tup [.str (sideW s.1), .int s.2]
theorem seatD_inj {s t : Seat} : seatD s = seatD t ↔ s = t := by
  constructor
  · intro h
    unfold seatD at h
    simp only [DV.tup.injEq, List.cons.injEq, DV.str.injEq, DV.int.injEq, and_true] at h
    exact Prod.ext (sideW_inj h.1) h.2
  · intro h
    rw [h]
theorem dEq_seat (s t : Seat) : dEq (seatD s) (seatD t) = decide (s = t) := dEq_dec rfl rfl seatD_inj
theorem any_seat (ss : List Seat) (s : Seat) : (ss.map seatD).any (fun z => dEq z (seatD s)) = decide (s ∈ ss) := by
  rw [Bool.eq_iff_iff, List.any_eq_true, decide_eq_true_iff]
  constructor
  · rintro ⟨z, hz, e⟩
    obtain ⟨t, ht, rfl⟩ := List.mem_map.mp hz
    rw [dEq_seat, decide_eq_true_iff] at e
    exact e ▸ ht
  · intro h
    exact ⟨_, List.mem_map.mpr ⟨s, h, rfl⟩, dEq_refl _⟩
theorem dv_seat {K : PySem.W.Frag} {H : Hp} {q : Addr} {s : Seat} (h : H q = some (.tup (seatV s))) : Dv K H 1 (.ref q) (seatD s) := by
  refine .tup (SqT.of h) rfl fun j x d h1 h2 => ?_
  match j, h1, h2 with
  | 0, h1, h2 => cases h1; cases h2; exact .str
  | 1, h1, h2 => cases h1; cases h2; exact .int
  | j + 2, h1, h2 => simp [seatV] at h1
theorem SeatsL.dv {K : PySem.W.Frag} {H : Hp} {ss : List Seat} {qs : List Addr} (h : SeatsL H ss qs) {l : Addr} (e : H l = some (.lst (qs.map V.ref))) : Dv K H 2 (.ref l) (.lst (ss.map seatD)) := by
  refine .lst (SqL.of e) (by rw [List.length_map, List.length_map, h.len]) fun j x d h1 h2 => ?_
  rw [List.getElem?_map] at h1 h2
  obtain ⟨q, hq, rfl⟩ := Option.map_eq_some_iff.mp h1
  obtain ⟨p, hp, rfl⟩ := Option.map_eq_some_iff.mp h2
  obtain ⟨p', hp', e'⟩ := h.get hq
  rw [hp] at hp'
  cases hp'
  exact dv_seat e'
theorem SeatsL.pick {H : Hp} : ∀ {ss : List Seat} {ys : List V}, ys.length = ss.length → (∀ (j : Nat) (y : V) (s : Seat), ys[j]? = some y → ss[j]? = some s → ∃ q, y = .ref q ∧ H q = some (.tup (seatV s))) → ∃ rs : List Addr, ys = rs.map V.ref ∧ SeatsL H ss rs
  | [], [], _, _ => ⟨[], rfl, .nil⟩
  | [], _ :: _, h, _ => by cases h
  | _ :: _, [], h, _ => by cases h
  | s :: ss, y :: ys, h, k => by
    obtain ⟨q, e, hq⟩ := k 0 y s rfl rfl
    obtain ⟨rs, e2, r⟩ := SeatsL.pick (ss := ss) (ys := ys) (by simpa using h) fun j y s h1 h2 => k (j + 1) y s (by simpa using h1) (by simpa using h2)
    exact ⟨q :: rs, by rw [e, e2]; rfl, .cons hq r⟩
section
variable {P : Program} {w : World} {K : PySem.W.Frag} {mg : Str → Option Value} {base : Heap} {t : Adr}
end
structure PtOk (w h : Int) (p : Pt) : Prop where
  nm : isNm p.nm = true
  x1 : 1 ≤ p.x
  x2 : p.x ≤ w
  y1 : 1 ≤ p.y
  y2 : p.y ≤ h
  sd : p.sd = "left" ∨ p.sd = "right" ∨ p.sd = "both"
  l1 : 1 ≤ p.lo
  l2 : p.lo ≤ p.hi
  l3 : p.hi ≤ h
structure PtsOk (w h : Int) (ps : List Pt) : Prop where
  ok : ∀ p ∈ ps, PtOk w h p
  nn : (ps.map (·.nm)).Nodup
  nx : (ps.map (·.x)).Nodup
  ny : (ps.map (·.y)).Nodup
  le : ps.length ≤ 12
section
variable {P : Program} {w : World} {K : PySem.W.Frag} {mg : Str → Option Value} {base : Heap} {t : Adr}
end
def wantB (p : Pt) (s : Seat) : Bool := (decide (p.sd = "both") || decide (p.sd = sideW s.1)) && (decide (p.lo ≤ s.2) && decide (s.2 ≤ p.hi))
theorem inV_sd (sd w : Str) : inV (.str sd) [.str "both", .str w] = (decide (sd = "both") || decide (sd = w)) := by
  have e : ∀ a b : Str, (a == b) = decide (b = a) := fun a b => by
    rw [Bool.eq_iff_iff, beq_iff_eq, decide_eq_true_iff]
    exact eq_comm
  show ((("both" : Str) == sd) || ((w == sd) || false)) = _
  rw [Bool.or_false, e, e]
def spMay8 (t : Adr) : Sp := fun vs H Q _ => ∃ (a dp do_ : Addr) (pw ph : Int) (ps : List Pt) (ss : List Seat) (pt : Pt) (b : Bool) (i : Int), vs = [.ref a, .str pt.nm, .str (sideW b), .int i] ∧ Pic t H a dp do_ pw ph ps ∧ Sts H do_ ss ∧ isNm pt.nm = true ∧ ps.find? (fun p => decide (p.nm = pt.nm)) = some pt ∧ 1 ≤ i ∧ i ≤ ph ∧ ∀ H', Same H H' → Q (.bl (decide ((b, i) ∈ ss) && wantB pt (b, i))) H'
section
variable {P : Program} {w : World} {K : PySem.W.Frag} {mg : Str → Option Value} {base : Heap} {t : Adr}
theorem ok_Picture_may (T : Txt w K mg t) : FnOk true P w K mg base (CXo P w) 5 t.f_Picture_may t.d_Picture_may ["self", "name", "side", "row"] (spMay8 t) := by
  refine T.F_Picture_may.okn (k := 4) sc_Picture_may (fun vs H Q E h => ?_) (fun cdv A outer s H vs Q E hr h => ?_)
  · obtain ⟨a, dp, do_, pw, ph, ps, ss, pt, b, i, rfl, _⟩ := h
    rfl
  · obtain ⟨a, dp, do_, pw, ph, ps, ss, pt, b, i, rfl, h⟩ := h
    refine ⟨_, pss_cons (ps_expr (pe_meth (pv 0) T.c_Picture T.m_Picture_check_name (ok_Picture_check_name T) (hr.mono (by decide)) T.b_Picture_check_name .nil pass_none (pa_cons (pv 1) (pa_nil))))
      (pss_cons (ps_expr (pe_meth (pv 0) T.c_Picture T.m_Picture_check_seat (ok_Picture_check_seat T) (hr.mono (by decide)) T.b_Picture_check_seat .nil pass_none (pa_cons (pv 2) (pa_cons (pv 3) (pa_nil)))))
      (pss_cons (ps_asg (pe_dget (hu_of hr) (pe_fld (pv 0) rfl) (pv 1) (fun _ _ => rfl)) (pg_tup rfl (pgs_cons (pg_name (i := 4) sc_Picture_may.nd rfl (Or.inl rfl)) (pgs_cons (pg_name (i := 5) sc_Picture_may.nd rfl (Or.inl rfl)) (pgs_cons (pg_name (i := 6) sc_Picture_may.nd rfl (Or.inl rfl)) (pgs_cons (pg_name (i := 7) sc_Picture_may.nd rfl (Or.inl rfl)) (pgs_cons (pg_name (i := 8) sc_Picture_may.nd rfl (Or.inl rfl)) (pgs_nil))))))))
      (pss_one (ps_ret (pe_and (pe_cmp (pc_din (hu_of hr) (pe_tup (pa_cons (pv 2) (pa_cons (pv 3) (pa_nil)))) (pe_fld (pv 0) rfl))) (pe_and (pe_cmpR op_in_seq (pv 6) (pe_tup (pa_cons (pe_str) (pa_cons (pv 2) (pa_nil)))) (by rfl)) (pe_one (pe_chain op_le op_le (pv 7) (pv 3) (pv 8))))))))), ?_⟩
    obtain ⟨pic, st, hn, hf, i1, i2, q⟩ := h
    obtain ⟨⟨dx0, hp⟩, ⟨kvs, hk, pl⟩, _⟩ := id pic
    refine ⟨_, rfl, a, dx0, _, rfl, hp, lk_no (by decide +kernel), _, rfl, a, dp, do_, pw, ph, ps, pt.nm, pt, rfl, pic, hn, hf, ?_⟩
    refine ⟨_, rfl, a, dx0, _, rfl, hp, lk_no (by decide +kernel), _, rfl, _, rfl, a, dp, do_, pw, ph, ps, b, i, rfl, pic, i1, i2, fun H1 s1 => ?_⟩
    obtain ⟨q0, e0, hq0⟩ := pl.find hf
    have hp1 := s1 _ _ hp
    have hk1 := s1 _ _ hk
    refine ⟨_, rfl, a, _, _, _, _, rfl, hp1, T.c_Picture, T.n_Picture_placed, lkP, _, rfl, dp, .ref q0, rfl, (by rw [← e0]; exact DGet.k (k := .inr pt.nm) hk1), q0, _, rfl, SqT.of (s1 _ _ hq0), rfl, _, _, rfl, _, _, rfl, _, _, rfl, _, _, rfl, _, _, rfl, rfl, ?_⟩
    refine ⟨_, rfl, _, rfl, (by show 2 ≤ sizeLine; decide), fun q1 hq1 => ?_⟩
    have s2 : Same H1 (upd H1 q1 (.tup [.str (sideW b), .int i])) := same_upd (Same.refl _) hq1
    have g2 : upd H1 q1 (.tup [.str (sideW b), .int i]) q1 = some (.tup [.str (sideW b), .int i]) := upd_same
    revert s2 g2
    generalize upd H1 q1 (.tup [.str (sideW b), .int i]) = H2
    intro s2 g2
    have hp2 := s2 _ _ hp1
    have s02 := s1.trans s2
    obtain ⟨ko, hko, ek, nd, l32⟩ := id st
    have hko2 := s02 _ _ hko
    have qq := q
    by_cases cin : (b, i) ∈ ss
    · obtain ⟨v, hv⟩ := val_yes ek cin
      refine ⟨_, rfl, a, _, _, _, _, rfl, hp2, T.c_Picture, T.n_Picture_opened, lkO, do_, some v, rfl, (by rw [← hv]; exact DGet.t (k := seatK (b, i)) hko2 g2), true, rfl, iteT ?_⟩
      refine ⟨_, rfl, _, rfl, (by show 2 ≤ sizeLine; decide), fun q3 hq3 => ?_⟩
      have s3 : Same H2 (upd H2 q3 (.tup [.str "both", .str (sideW b)])) := same_upd (Same.refl _) hq3
      have g3 : upd H2 q3 (.tup [.str "both", .str (sideW b)]) q3 = some (.tup [.str "both", .str (sideW b)]) := upd_same
      revert s3 g3
      generalize upd H2 q3 (.tup [.str "both", .str (sideW b)]) = H3
      intro s3 g3
      have z := qq H3 (s02.trans s3)
      rw [decide_eq_true cin, Bool.true_and] at z
      unfold wantB at z
      refine ⟨q3, _, rfl, .inr (SqT.of g3), rfl, rfl, _, rfl, ite2 (fun c => ?_) (fun c => ?_)⟩
      · rw [if_neg (by decide), inV_sd] at c
        dsimp only at z
        rw [c, Bool.true_and] at z
        refine ⟨_, rfl, _, rfl, _, _, rfl, rfl, _, rfl, ite2 (fun c2 => ?_) (fun c2 => ?_)⟩
        · rw [c2, Bool.true_and] at z
          exact ⟨_, rfl, _, _, rfl, rfl, z⟩
        · rw [Bool.eq_false_iff.mpr c2, Bool.false_and] at z
          exact z
      · rw [if_neg (by decide), inV_sd] at c
        dsimp only at z
        rw [Bool.eq_false_iff.mpr c, Bool.false_and] at z
        exact z
    · have n0 : valV ko (seatK (b, i)) = none := val_no ek cin
      have z := qq H2 s02
      rw [decide_eq_false cin, Bool.false_and] at z
      exact ⟨_, rfl, a, _, _, _, _, rfl, hp2, T.c_Picture, T.n_Picture_opened, lkO, do_, none, rfl, (by rw [← n0]; exact DGet.t (k := seatK (b, i)) hko2 g2), false, rfl, iteF z⟩
end
structure Dr (t : Adr) (H : Hp) (a dp do_ : Addr) (w h : Nat) (ps : List Pt) (ss srt : List Seat) : Prop where
  pic : Pic t H a dp do_ (w : Int) (h : Int) ps
  sts : Sts H do_ ss
  ok : SsOk (h : Int) ss
  pm : srt.Perm ss
  lt : srt.Pairwise seatLt
  nm : ∀ p ∈ ps, isNm p.nm = true
theorem Dr.same {t : Adr} {H H' : Hp} {a dp do_ : Addr} {w h : Nat} {ps : List Pt} {ss srt : List Seat} (d : Dr t H a dp do_ w h ps ss srt) (s : Same H H') : Dr t H' a dp do_ w h ps ss srt := ⟨Pic.same s d.pic, d.sts.same s, d.ok, d.pm, d.lt, d.nm⟩
section
variable {P : Program} {w : World} {K : PySem.W.Frag} {mg : Str → Option Value} {base : Heap} {t : Adr}
end
end S13
set_option maxRecDepth 100000
set_option maxHeartbeats 4000000
namespace S13
open PySem L2 XL PyProof.Rows
theorem cm_mod {x d : Int} (h : 0 < d) (h2 : d ≤ 4294967296) : -(2 ^ 64) < x % d ∧ x % d < 2 ^ 64 := by
  have a := Int.emod_nonneg x (show d ≠ 0 by omega)
  have b := Int.emod_lt_of_pos x h
  exact ⟨by omega, by omega⟩
theorem mod_in (x : Int) {d : Int} (h : 0 < d) : 0 ≤ x % d ∧ x % d < d := ⟨Int.emod_nonneg _ (by omega), Int.emod_lt_of_pos _ h⟩
def spCell (K : PySem.W.Frag) : Sp := fun vs H Q _ => ∃ (a : Addr) (ns : List Int) (k : Int), vs = [.ref a, .int k] ∧ SqL K H a (ns.map V.int) ∧ 0 ≤ k ∧ k < 2 ^ 62 ∧ ∀ c : Int, Q (.int c) H
def spMix : Sp := fun vs H Q _ => ∃ c k : Int, vs = [.int c, .int k] ∧ ∀ m : Int, 0 ≤ m → m < 2147483587 → Q (.int m) H
def abc : Str := "abcdefghijklmnopqrstuvwxyz"
theorem abc_cps : abc.cps.toList = (List.range 26).map (97 + ·) := by decide +kernel
def ltr (i : Int) : Str := ⟨#[97 + i.toNat]⟩
theorem abc_ltr {i : Int} (h0 : 0 ≤ i) (h1 : i < 26) : atI abc.cps.toList i = some (97 + i.toNat) := by
  obtain ⟨j, rfl⟩ := Int.eq_ofNat_of_zero_le h0
  have lt : j < 26 := by omega
  refine atI_nat ?_
  rw [abc_cps, List.getElem?_map, List.getElem?_range lt]
  rfl
theorem ltr_inj {i j : Int} (hi : 0 ≤ i) (hj : 0 ≤ j) (h : ltr i = ltr j) : i = j := by
  unfold ltr at h
  have := congrArg (fun s : Str => s.cps.toList) h
  simp at this
  omega
theorem isNm_ltr {i : Int} (h0 : 0 ≤ i) (h1 : i < 26) : isNm (ltr i) = true := by
  unfold isNm ltr
  have g1 : ¬ ([97 + i.toNat] < [97]) := by rw [List.cons_lt_cons_iff]; rintro (z | ⟨_, z⟩); omega; cases z
  have g2 : ¬ ([122] < [97 + i.toNat]) := by rw [List.cons_lt_cons_iff]; rintro (z | ⟨_, z⟩); omega; cases z
  show (decide (1 = 1) && (!decide ([97 + i.toNat] < [97]) && !decide ([122] < [97 + i.toNat]))) = true
  rw [decide_eq_false g1, decide_eq_false g2]
  rfl
def steps : List Int := [1, 3, 5, 7, 9, 11, 15, 17, 19, 21, 23, 25]
theorem step_at (m : Int) : ∃ s : Int, atI (steps.map V.int) (m % 12) = some (.int s) ∧ s ∈ steps := by
  obtain ⟨h0, h1⟩ := mod_in m (show (0 : Int) < 12 by decide)
  obtain ⟨j, hj⟩ := Int.eq_ofNat_of_zero_le h0
  rw [hj] at h1 ⊢
  have lt : j < steps.length := by show j < 12; omega
  exact ⟨steps[j], atI_nat (by rw [List.getElem?_map, List.getElem?_eq_getElem lt]; rfl), List.getElem_mem lt⟩
def spNames : Sp := fun vs H Q _ => ∃ (c : Int) (n : Nat), vs = [.int c, .int n] ∧ n ≤ 26 ∧ ∀ (s : Int) (H' : Hp) (l : Addr), s ∈ steps → Same H H' → H' l = some (.lst ((List.range n).map fun (k : Nat) => V.str (ltr ((c + s * (k : Int)) % 26)))) → Q (.ref l) H'
def spPlaces : Sp := fun vs H Q _ => ∃ (c sz : Int) (n : Nat), vs = [.int c, .int sz, .int n] ∧ (n : Int) ≤ sz ∧ sz ≤ 30 ∧ ∀ (zs : List Int) (H' : Hp) (l : Addr), zs.length = n → zs.Nodup → (∀ z ∈ zs, 1 ≤ z ∧ z ≤ sz) → Same H H' → H' l = some (.lst (zs.map V.int)) → Q (.ref l) H'
def spSize : Sp := fun vs H Q _ => ∃ c : Int, vs = [.int c] ∧ ∀ (w h : Int) (H' : Hp) (p : Addr), 1 ≤ w → w ≤ 30 → 1 ≤ h → h ≤ 16 → Same H H' → H' p = some (.tup [.int w, .int h]) → Q (.ref p) H'
section
variable {P : Program} {w : World} {K : PySem.W.Frag} {mg : Str → Option Value} {base : Heap} {t : Adr}
theorem ok_law_cell (T : Txt w K mg t) : FnOk true P w K mg base (CXo P w) 1 t.f_law_cell t.d_law_cell ["_law_script", "_law_k"] (spCell K) := by
  refine T.F_law_cell.okn (k := 0) sc_law_cell (fun vs H Q E h => ?_) (fun cdv A outer s H vs Q E hr h => ?_)
  · obtain ⟨a, ns, k, rfl, _⟩ := h
    rfl
  · obtain ⟨a, ns, k, rfl, h⟩ := h
    refine ⟨_, pss_cons (ps_if (pt_cmpR op_lt (pv 1) (pe_callB call_len_seq rfl T.n_len boot_len (pa_cons (pv 0) (pa_nil))) (nomark _)) (pss_one (ps_ret (pe_ix ix_list (pv 0) (pv 1) (fun _ _ => rfl)))) (pss_nil))
      (pss_one (ps_ret (pe_op op_add (pe_op op_mul (pe_int) (pv 1)) (pe_int)))), ?_⟩
    obtain ⟨hs, k0, k1, q⟩ := h
    refine ⟨_, rfl, _, rfl, a, _, rfl, .inl hs, _, _, rfl, rfl, _, rfl, ?_⟩
    refine ite2 (fun c => ?_) (fun c => ?_)
    · have c' : k < (ns.length : Int) := by simpa using c
      obtain ⟨j, rfl⟩ := Int.eq_ofNat_of_zero_le k0
      have lt : j < ns.length := by omega
      exact ⟨_, rfl, _, rfl, a, _, _, _, rfl, rfl, hs, atI_nat (by rw [List.getElem?_map, List.getElem?_eq_getElem lt]; rfl), q _⟩
    · exact ⟨_, rfl, _, _, rfl, rfl, .inl ⟨by decide, by decide⟩, _, _, rfl, rfl, q _⟩
theorem ok_law_mix (T : Txt w K mg t) : FnOk true P w K mg base (CXo P w) 1 t.f_law_mix t.d_law_mix ["_law_cell_here", "_law_k"] (spMix) := by
  refine T.F_law_mix.okn (k := 0) sc_law_mix (fun vs H Q E h => ?_) (fun cdv A outer s H vs Q E hr h => ?_)
  · obtain ⟨c, k, rfl, _⟩ := h
    rfl
  · obtain ⟨c, k, rfl, h⟩ := h
    refine ⟨_, pss_cons (ps_set (i := 2) sc_law_mix.nd rfl (Or.inl rfl) (pe_op op_mod (pe_op op_mul (pe_op op_add (pv 0) (pe_op op_mul (pe_int) (pv 1))) (pe_int)) (pe_int)))
      (pss_cons (ps_set (i := 2) sc_law_mix.nd rfl (Or.inl rfl) (pe_op op_mod (pe_op op_mul (pv 2) (pv 2)) (pe_int)))
      (pss_one (ps_ret (pe_op op_mod (pe_op op_add (pe_op op_add (pe_op op_mul (pv 2) (pv 2)) (pe_op op_mul (pe_int) (pv 2))) (pv 1)) (pe_int))))), ?_⟩
    refine ⟨_, rfl, _, rfl, _, _, rfl, rfl, .inl ⟨by decide, by decide⟩, _, _, rfl, rfl, _, _, rfl, rfl, .inr ⟨by decide, by decide⟩, _, _, rfl, rfl, (by show (0 : Int) < 2147483647; decide), ?_⟩
    refine ⟨_, rfl, _, rfl, _, _, rfl, rfl, .inl (cm_mod (by decide) (by decide)), _, _, rfl, rfl, (by show (0 : Int) < 2147483629; decide), ?_⟩
    refine ⟨_, rfl, _, rfl, _, _, rfl, rfl, .inl (cm_mod (by decide) (by decide)), _, rfl, _, _, rfl, rfl, .inl ⟨by decide, by decide⟩, _, _, rfl, rfl, _, rfl, _, _, rfl, rfl, _, _, rfl, rfl, (by show (0 : Int) < 2147483587; decide), ?_⟩
    exact h _ (mod_in _ (by decide)).1 (mod_in _ (by decide)).2
end
end S13
set_option maxRecDepth 100000
set_option maxHeartbeats 4000000
namespace S13
open PySem L2 XL PyProof.Rows
section
variable {P : Program} {w : World} {K : PySem.W.Frag} {mg : Str → Option Value} {base : Heap} {t : Adr}
theorem ok_law_names (T : Txt w K mg t) : FnOk true P w K mg base (CXo P w) 1 t.f_law_names t.d_law_names ["_law_cell_here", "_law_many"] (spNames) := by
  refine T.F_law_names.okn (k := 0) sc_law_names (fun vs H Q E h => ?_) (fun cdv A outer s H vs Q E hr h => ?_)
  · obtain ⟨c, n, rfl, _⟩ := h
    rfl
  · obtain ⟨c, n, rfl, h⟩ := h
    refine ⟨_, pss_cons (ps_set (i := 2) sc_law_names.nd rfl (Or.inr rfl) (pe_str))
      (by
      with_reducible refine' pss_cons ?a ?b
      case a =>
        with_reducible refine' ps_set (i := 3) ?n ?i ?x ?e ?s ?f
        case n => exact sc_law_names.nd
        case i => rfl
        case x => exact Or.inr rfl
        case f => exact Or.inl rfl
        case e =>
          with_reducible refine' pe_ix (r := rIxL K) ?r ?l ?j ?p
          case r => exact ix_list
          case j => exact pe_op op_mod (pe_op op_fdiv (pv 0) (pe_int)) (pe_int)
          case p => exact fun _ _ => rfl
          case l =>
            with_reducible refine' pe_lst ?pa
            case pa =>
              with_reducible refine' pa_cons pe_int ?q1 rfl
              case q1 =>
                with_reducible refine' pa_cons pe_int ?q2 rfl
                case q2 =>
                  with_reducible refine' pa_cons pe_int ?q3 rfl
                  case q3 =>
                    with_reducible refine' pa_cons pe_int ?q4 rfl
                    case q4 =>
                      with_reducible refine' pa_cons pe_int ?q5 rfl
                      case q5 =>
                        with_reducible refine' pa_cons pe_int ?q6 rfl
                        case q6 =>
                          with_reducible refine' pa_cons pe_int ?q7 rfl
                          case q7 =>
                            with_reducible refine' pa_cons pe_int ?q8 rfl
                            case q8 =>
                              with_reducible refine' pa_cons pe_int ?q9 rfl
                              case q9 =>
                                with_reducible refine' pa_cons pe_int ?q10 rfl
                                case q10 =>
                                  with_reducible refine' pa_cons pe_int ?q11 rfl
                                  case q11 =>
                                    with_reducible refine' pa_cons pe_int ?q12 rfl
                                    case q12 =>
                                      exact pa_nil
        case s => rfl
      case b =>
        exact (pss_one (ps_ret (pe_compG rfl (blkG_of (zs := ["_law_k"]) (ys := ["_law_letters", "_law_cell_here", "_law_step"]) (fr := [2, 0, 3]) (N0 := ["_law_cell_here", "_law_many", "_law_letters", "_law_step"]) (sc0 := defScope s_law_names) (by decide +kernel) rfl rfl rfl) (pi_range1 rfl T.n_range (pa_cons (pv 1) (pa_nil))) (fun _ _ _ _ _ ow nd => pg_name (i := 0) nd rfl (Or.inl (ow _ (by simp))) (Or.inr (ow _ (by simp)))) (gok_name (by decide)) (fun _ _ _ _ _ => pif_nil) (fun _ _ _ _ _ => pe_ix ix_str (pv 1) (pe_op op_mod (pe_op op_add (pv 2) (pe_op op_mul (pv 3) (pv 0))) (pe_int)) (fun _ _ => rfl)))))), ?_⟩
    obtain ⟨hn, q⟩ := h
    obtain ⟨s, es, ms⟩ := step_at (c / 26)
    refine ⟨(by show 12 ≤ sizeLine; decide), fun q0 hq0 => ⟨_, rfl, _, _, rfl, rfl, ⟨by decide, by decide⟩, _, _, rfl, rfl, (by show (0 : Int) < 12; decide), q0, _, _, .int s, rfl, rfl, SqL.of upd_same, es, ?_⟩⟩
    refine ⟨_, rfl, (n : Int), rfl, by omega, by omega, fun l hl => ?_⟩
    have s1 : Same H (upd H q0 (.lst (steps.map V.int))) := same_upd (Same.refl _) hq0
    refine compG_by n (fun i xs H2 => xs = (List.range i).map (fun (k : Nat) => V.str (ltr ((c + s * (k : Int)) % 26))) ∧ Same H H2 ∧ H2 l = some (.lst xs)) ?_ ?_ ?_ ?_
    · exact ⟨rfl, same_upd s1 hl, upd_same⟩
    · rintro i xs H2 lt _
      show i < ((n : Nat) : Int).toNat
      simpa using lt
    · rintro i xs H2 v H3 lt ⟨rfl, s2, hl2⟩ ⟨rfl, rfl⟩ N hN
      refine gT_if ?_
      refine ⟨_, rfl, _, rfl, _, rfl, _, rfl, _, _, rfl, rfl, .inl ?_, _, _, rfl, rfl, _, _, rfl, rfl, (by show (0 : Int) < 26; decide), abc, _, _, rfl, rfl, (by decide +kernel), abc_ltr (mod_in _ (by decide)).1 (mod_in _ (by decide)).2, hl2, ?_, ?_⟩
      · have hs : ∀ z ∈ steps, 1 ≤ z ∧ z ≤ 25 := by decide
        have := hs s ms
        constructor <;> omega
      · rw [List.length_map, List.length_range]
        exact Nat.lt_trans (by omega : i < 27) (by decide)
      · refine hN _ _ ⟨?_, fun b u e => ?_, upd_same⟩
        · rw [List.range_succ, List.map_append]
          simp [ltr]
        · rw [upd_ne (ne_of_none (s1 _ _ e) hl)]
          exact s2 b u e
    · rintro xs H2 ⟨rfl, s2, hl2⟩
      exact ⟨by simp [Itr], q s H2 l ms s2 (by simpa using hl2)⟩
end
end S13
set_option maxRecDepth 100000
set_option maxHeartbeats 4000000
namespace S13
open PySem L2 XL PyProof.Rows
section
variable {P : Program} {w : World} {K : PySem.W.Frag} {mg : Str → Option Value} {base : Heap} {t : Adr}
theorem ok_law_places (T : Txt w K mg t) : FnOk true P w K mg base (CXo P w) 2 t.f_law_places t.d_law_places ["_law_cell_here", "_law_size_here", "_law_many"] (spPlaces) := by
  refine T.F_law_places.okn (k := 1) sc_law_places (fun vs H Q E h => ?_) (fun cdv A outer s H vs Q E hr h => ?_)
  · obtain ⟨c, sz, n, rfl, _⟩ := h
    rfl
  · obtain ⟨c, sz, n, rfl, h⟩ := h
    refine ⟨_, pss_cons (ps_set (i := 3) sc_law_places.nd rfl (Or.inl rfl) (pe_callTy (call_list_rng rfl) rfl T.n_list boot_list (pa_cons (pe_callTy call_range2 rfl T.n_range boot_range (pa_cons (pe_int) (pa_cons (pe_op op_add (pv 1) (pe_int)) (pa_nil)))) (pa_nil))))
      (pss_cons (ps_set (i := 4) sc_law_places.nd rfl (Or.inl rfl) (pe_lst (pa_nil)))
      (pss_cons (ps_for PassesOwn.never rfl (pi_range1 rfl T.n_range (pa_cons (pv 2) (pa_nil))) (pg_name (i := 5) sc_law_places.nd rfl (Or.inl rfl)) (pss_one (ps_expr (pe_bm PySem.F.plainAttrs_list PySem.F.slot_list_append PySem.F.type_list_append mt_append (pv 4) (pa_cons (pe_bm PySem.F.plainAttrs_list PySem.F.slot_list_pop PySem.F.type_list_pop mt_popAt (pv 3) (pa_cons (pe_op op_mod (pe_call (ok_law_mix T) (hr.mono (by decide)) rfl T.g_law_mix T.F_law_mix.kp T.b_law_mix .nil pass_none (pa_cons (pv 0) (pa_cons (pv 5) (pa_nil)))) (pe_callB call_len_seq rfl T.n_len boot_len (pa_cons (pv 3) (pa_nil)))) (pa_nil))) (pa_nil))))))
      (pss_one (ps_ret (pv 4))))), ?_⟩
    obtain ⟨n1, n2, q⟩ := h
    refine ⟨_, rfl, _, _, rfl, rfl, 1, sz + 1, rfl, fun p hp => ⟨p, 1, sz + 1, rfl, upd_same, ⟨by decide, by decide, by omega, by omega⟩, by omega, fun lf hlf => ?_⟩⟩
    refine ⟨(by show 0 ≤ sizeLine; exact Nat.zero_le _), fun fd hfd => ?_⟩
    have hr0 : rngL 1 (sz + 1) = ((List.range sz.toNat).map fun (i : Nat) => (1 : Int) + (i : Int)).map V.int := by
      unfold rngL
      rw [List.map_map, show (sz + 1 - 1).toNat = sz.toNat from by omega]
      rfl
    rw [hr0] at hfd ⊢
    have nfd : fd ≠ lf := Ne.symm (ne_of_none upd_same hfd)
    refine ⟨_, rfl, (n : Int), rfl, by omega, by omega, ?_⟩
    refine for_range (Pv := fun i σ H2 => ∃ (zs ls : List Int) (v5 : Option V), σ = [some (.int c), some (.int sz), some (.int n), some (.ref lf), some (.ref fd), v5] ∧ H2 lf = some (.lst (ls.map V.int)) ∧ H2 fd = some (.lst (zs.map V.int)) ∧
      zs.length = i ∧ ls.length + i = sz.toNat ∧ zs.Nodup ∧ ls.Nodup ∧ (∀ z ∈ zs, z ∉ ls) ∧ (∀ z ∈ zs, 1 ≤ z ∧ z ≤ sz) ∧ (∀ z ∈ ls, 1 ≤ z ∧ z ≤ sz) ∧ Same H H2) ?_ ?_ ?_
    · refine ⟨[], (List.range sz.toNat).map fun (i : Nat) => (1 : Int) + (i : Int), _, rfl, ?_, upd_same, rfl, by simp, List.nodup_nil, ?_, (fun z h => nomatch h), (fun z h => nomatch h), fun z hz => ?_, same_upd (same_upd (same_upd (Same.refl _) hp) hlf) hfd⟩
      · rw [upd_ne (Ne.symm nfd)]
        exact upd_same
      · refine List.Pairwise.map _ (fun a b h => ?_) List.nodup_range
        intro z
        apply h
        omega
      · obtain ⟨i, hi, rfl⟩ := List.mem_map.mp hz
        rw [List.mem_range] at hi
        omega
    · rintro i σ H2 hi ⟨zs, ls, v5, rfl, h1, h2, e1, e2, d1, d2, d3, b1, b2, s2⟩
      have hi' : i < n := by simpa using hi
      have lp : 0 < ls.length := by omega
      refine ⟨_, rfl, .inl ⟨rfl, _, SqL.of h2⟩, _, rfl, .inl ⟨rfl, _, SqL.of h1⟩, _, rfl, _, rfl, c, _, rfl, fun m m0 m1 => ?_⟩
      have lp' : (0 : Int) < ((ls.map V.int).length : Int) := by rw [List.length_map]; omega
      obtain ⟨k0, k1⟩ := mod_in m lp'
      obtain ⟨j, hj⟩ := Int.eq_ofNat_of_zero_le k0
      have jl : j < ls.length := by
        have z := k1
        rw [hj, List.length_map] at z
        omega
      have gy : (ls.map V.int)[j]? = some (V.int ls[j]) := by rw [List.getElem?_map, List.getElem?_eq_getElem jl]; rfl
      refine ⟨_, rfl, lf, _, rfl, .inl (SqL.of h1), _, _, rfl, rfl, lp', lf, _, _, j, _, rfl, rfl, h1, by omega, ?_, ?_, gy, fd, zs.map V.int, _, rfl, rfl, ?_, ?_, ?_⟩
      · rw [List.length_map] at k1
        have : (ls.length : Int) < 2 ^ 63 := by omega
        omega
      · rw [seqIndex_of k0 k1, hj]
        rfl
      · rw [upd_ne nfd]
        exact h2
      · rw [List.length_map]
        exact Nat.lt_trans (by omega : zs.length < 31) (by decide)
      · obtain ⟨a1, a2, a3, a4⟩ := Geo.erase_ok d2 (List.getElem?_eq_getElem jl)
        have em : (ls.map V.int).eraseIdx j = (ls.eraseIdx j).map V.int := by simp [List.eraseIdx_eq_take_drop_succ, List.map_take, List.map_drop]
        have el := List.length_eraseIdx_of_lt jl
        refine ⟨zs ++ [ls[j]], ls.eraseIdx j, _, rfl, ?_, ?_, ?_, ?_, ?_, a1, ?_, ?_, fun z hz => b2 z (a3 z hz), ?_⟩
        · rw [upd_ne (Ne.symm nfd), upd_same, em]
        · rw [upd_same, List.map_append]
          rfl
        · rw [List.length_append, e1]
          rfl
        · omega
        · rw [List.nodup_append]
          exact ⟨d1, by simp, fun a ha b hb => by
            have := List.mem_singleton.mp hb
            subst this
            intro z
            exact d3 a ha (z ▸ a4)⟩
        · intro z hz
          rcases List.mem_append.mp hz with y | y
          · exact fun k => d3 z y (a3 z k)
          · have := List.mem_singleton.mp y
            subst this
            exact a2
        · intro z hz
          rcases List.mem_append.mp hz with y | y
          · exact b1 z y
          · have := List.mem_singleton.mp y
            subst this
            exact b2 _ a4
        · intro b u e
          have nb1 : b ≠ lf := fun z => by
            subst z
            rw [upd_ne (ne_of_none e hp)] at hlf
            rw [e] at hlf
            cases hlf
          have nb2 : b ≠ fd := fun z => by
            subst z
            rw [upd_ne nb1, upd_ne (ne_of_none e hp)] at hfd
            rw [e] at hfd
            cases hfd
          rw [upd_ne nb2, upd_ne nb1]
          exact s2 b u e
    · rintro σ H2 ⟨zs, ls, v5, rfl, h1, h2, e1, e2, d1, d2, d3, b1, b2, s2⟩
      exact ⟨_, rfl, q zs H2 fd (by simpa using e1) d1 b1 s2 h2⟩
end
end S13
set_option maxRecDepth 100000
set_option maxHeartbeats 4000000
namespace S13
open PySem L2 XL PyProof.Rows
section
variable {P : Program} {w : World} {K : PySem.W.Frag} {mg : Str → Option Value} {base : Heap} {t : Adr}
theorem ok_law_size (T : Txt w K mg t) : FnOk true P w K mg base (CXo P w) 1 t.f_law_size t.d_law_size ["_law_cell_here"] (spSize) := by
  refine T.F_law_size.okn (k := 0) sc_law_size (fun vs H Q E h => ?_) (fun cdv A outer s H vs Q E hr h => ?_)
  · obtain ⟨c, rfl, _⟩ := h
    rfl
  · obtain ⟨c, rfl, h⟩ := h
    refine ⟨_, pss_cons (ps_if (pt_cmpR op_eq (pe_op op_mod (pv 0) (pe_int)) (pe_int) (nomark _)) (pss_one (ps_ret (pe_tup (pa_cons (pe_op op_add (pe_int) (pe_op op_mod (pe_op op_fdiv (pv 0) (pe_int)) (pe_int))) (pa_cons (pe_op op_add (pe_int) (pe_op op_mod (pe_op op_fdiv (pv 0) (pe_int)) (pe_int))) (pa_nil)))))) (pss_nil))
      (pss_one (ps_ret (pe_tup (pa_cons (pe_op op_add (pe_int) (pe_op op_mod (pe_op op_fdiv (pv 0) (pe_int)) (pe_int))) (pa_cons (pe_op op_add (pe_int) (pe_op op_mod (pe_op op_fdiv (pv 0) (pe_int)) (pe_int))) (pa_nil)))))), ?_⟩
    refine ⟨_, rfl, _, _, rfl, rfl, (by show (0 : Int) < 8; decide), rfl, _, rfl, ite2 (fun d => ?_) (fun d => ?_)⟩
    · refine ⟨_, rfl, _, _, rfl, rfl, ⟨by decide, by decide⟩, _, _, rfl, rfl, (by show (0 : Int) < 30; decide), _, _, rfl, rfl, _, rfl, _, _, rfl, rfl, ⟨by decide, by decide⟩, _, _, rfl, rfl, (by show (0 : Int) < 16; decide), _, _, rfl, rfl, (by show 2 ≤ sizeLine; decide), fun p hp => h _ _ _ p ?_ ?_ ?_ ?_ (same_upd (Same.refl _) hp) upd_same⟩
      · have := (mod_in (c / 8) (show (0 : Int) < 30 by decide)).1; omega
      · have := (mod_in (c / 8) (show (0 : Int) < 30 by decide)).2; omega
      · have := (mod_in (c / 240) (show (0 : Int) < 16 by decide)).1; omega
      · have := (mod_in (c / 240) (show (0 : Int) < 16 by decide)).2; omega
    · refine ⟨_, rfl, _, _, rfl, rfl, ⟨by decide, by decide⟩, _, _, rfl, rfl, (by show (0 : Int) < 9; decide), _, _, rfl, rfl, _, rfl, _, _, rfl, rfl, ⟨by decide, by decide⟩, _, _, rfl, rfl, (by show (0 : Int) < 7; decide), _, _, rfl, rfl, (by show 2 ≤ sizeLine; decide), fun p hp => h _ _ _ p ?_ ?_ ?_ ?_ (same_upd (Same.refl _) hp) upd_same⟩
      · have := (mod_in (c / 8) (show (0 : Int) < 9 by decide)).1; omega
      · have := (mod_in (c / 8) (show (0 : Int) < 9 by decide)).2; omega
      · have := (mod_in (c / 72) (show (0 : Int) < 7 by decide)).1; omega
      · have := (mod_in (c / 72) (show (0 : Int) < 7 by decide)).2; omega
end
end S13
set_option maxRecDepth 100000
set_option maxHeartbeats 4000000
namespace S13
open PySem L2 XL PyProof.Rows
abbrev Pr := Pt × Bool × Int
def prV (p : Pr) : List V := [.str p.1.nm, .str (sideW p.2.1), .int p.2.2]
inductive PrsL (H : Hp) : List Pr → List Addr → Prop
  | nil : PrsL H [] []
  | cons {p : Pr} {q : Addr} {ps : List Pr} {qs : List Addr} (h : H q = some (.tup (prV p))) (r : PrsL H ps qs) : PrsL H (p :: ps) (q :: qs)
theorem PrsL.keep {H H' : Hp} (s : Tups H H') {ps : List Pr} {qs : List Addr} (h : PrsL H ps qs) : PrsL H' ps qs := by
  induction h with
  | nil => exact .nil
  | cons h _ ih => exact .cons (s _ _ h) ih
theorem PrsL.len {H : Hp} {ps : List Pr} {qs : List Addr} (h : PrsL H ps qs) : qs.length = ps.length := by
  induction h with
  | nil => rfl
  | cons _ _ ih => simp [ih]
theorem PrsL.snoc {H : Hp} {ps : List Pr} {qs : List Addr} (h : PrsL H ps qs) {p : Pr} {q : Addr} (e : H q = some (.tup (prV p))) : PrsL H (ps ++ [p]) (qs ++ [q]) := by
  induction h with
  | nil => exact .cons e .nil
  | cons h _ ih => exact .cons h ih
theorem PrsL.get {H : Hp} {ps : List Pr} {qs : List Addr} (h : PrsL H ps qs) {i : Nat} {q : Addr} (e : qs[i]? = some q) : ∃ p, ps[i]? = some p ∧ H q = some (.tup (prV p)) := by
  induction h generalizing i with
  | nil => simp at e
  | @cons p q' ps qs h _ ih =>
    cases i with
    | zero =>
      simp at e
      subst e
      exact ⟨p, rfl, h⟩
    | succ j => exact ih (by simpa using e)
section
variable {P : Program} {w : World} {K : PySem.W.Frag} {mg : Str → Option Value} {base : Heap} {t : Adr}
end
end S13
set_option maxRecDepth 100000
set_option maxHeartbeats 4000000
namespace S13
open PySem L2 XL PyProof.Rows
theorem nms_dv {K : PySem.W.Frag} {H : Hp} {l : Addr} {nms : List Str} (e : H l = some (.lst (nms.map V.str))) : Dv K H 1 (.ref l) (.lst (nms.map DV.str)) := .lst (SqL.of e) (by rw [List.length_map, List.length_map]) fun j x d h1 h2 => by
  rw [List.getElem?_map, Option.map_eq_some_iff] at h1 h2
  obtain ⟨z, hz, rfl⟩ := h1
  obtain ⟨z', hz', rfl⟩ := h2
  rw [hz] at hz'
  cases hz'
  exact .str
theorem pls_str : ∀ l : List Str, pls (l.map DV.str) = true
  | [] => rfl
  | _ :: r => by
    show (true && pls (r.map DV.str)) = true
    rw [pls_str r]
    rfl
theorem nms_q (as bs : List Str) : dEq (.lst (as.map DV.str)) (.lst (bs.map DV.str)) = decide (as = bs) := dEq_dec (x := as) (y := bs) (pls_str as) (pls_str bs) (by
  constructor
  · intro h
    injection h with h
    exact List.map_inj_right (fun a b e => by injection e) |>.mp h
  · intro h
    rw [h])
def prS (p : Pr) : Seat := (p.2.1, p.2.2)
def gvB (ss : List Seat) (names : List Str) (prs : List Pr) : Bool := decide (prs.map (fun p => p.1.nm) = names) && (decide ((prs.map prS).Nodup) && prs.all fun p => decide (prS p ∈ ss) && wantB p.1 (prS p))
def spGiving (t : Adr) : Sp := fun vs H Q _ => ∃ (a ln lp dp do_ : Addr) (w h : Nat) (ps : List Pt) (st ss : List Seat) (names : List Str) (prs : List Pr) (qs : List Addr), vs = [.ref a, .ref ln, .ref lp] ∧ Dr t H a dp do_ w h ps st ss ∧ H ln = some (.lst (names.map V.str)) ∧ H lp = some (.lst (qs.map V.ref)) ∧ PrsL H prs qs ∧ prs.length ≤ 12 ∧ (∀ p ∈ prs, isNm p.1.nm = true ∧ ps.find? (fun z => decide (z.nm = p.1.nm)) = some p.1 ∧ 1 ≤ p.2.2 ∧ p.2.2 ≤ (h : Int)) ∧ ∀ H', Same H H' → Q (.bl (gvB ss names prs)) H'
theorem seatK_nd {l : List Seat} : (l.map seatK).Nodup ↔ l.Nodup := by
  rw [List.Nodup, List.pairwise_map]
  constructor
  · intro h
    exact h.imp fun ne e => ne (by rw [e])
  · intro h
    exact List.Pairwise.imp (fun ne e => ne (seatK_inj e)) h
theorem refs_of {H : Hp} : ∀ {ys : List V} {prs : List Pr}, ys.length = prs.length → (∀ (i : Nat) y, ys[i]? = some y → ∃ p qa, prs[i]? = some p ∧ y = .ref qa ∧ H qa = some (.tup (seatV (prS p)))) → ∃ qs : List Addr, ys = qs.map V.ref ∧ qs.length = prs.length ∧ ∀ (i : Nat) q ks, qs[i]? = some q → ((prs.map prS).map seatK)[i]? = some ks → H q = some (.tup (ks.map kV))
  | [], [], _, _ => ⟨[], rfl, rfl, fun i q ks h => by simp at h⟩
  | y :: ys, p :: prs, l, f => by
    obtain ⟨qs, e, ql, k⟩ := refs_of (H := H) (ys := ys) (prs := prs) (by simpa using l) (fun i y h => by
      obtain ⟨p', qa, a, b, c⟩ := f (i + 1) y (by simpa using h)
      exact ⟨p', qa, by simpa using a, b, c⟩)
    obtain ⟨p', qa, a, b, c⟩ := f 0 y rfl
    have a : p = p' := by simpa using a
    subst a b
    refine ⟨qa :: qs, by rw [e]; rfl, by simp [ql], fun i q ks h1 h2 => ?_⟩
    cases i with
    | zero =>
      simp at h1 h2
      subst h1 h2
      exact c
    | succ j => exact k j q ks (by simpa using h1) (by simpa using h2)
section
variable {P : Program} {w : World} {K : PySem.W.Frag} {mg : Str → Option Value} {base : Heap} {t : Adr}
theorem ok_is_giving (T : Txt w K mg t) : FnOk true P w K mg base (CXo P w) 6 t.f_is_giving t.d_is_giving ["picture", "names", "pairs"] (spGiving t) := by
  refine T.F_is_giving.okn (k := 5) sc_is_giving (fun vs H Q E h => ?_) (fun cdv A outer s H vs Q E hr h => ?_)
  · obtain ⟨a, ln, lp, dp, do_, w', h', ps, st, ss, names, prs, qs, rfl, _⟩ := h
    rfl
  · obtain ⟨a, ln, lp, dp, do_, w', h', ps, st, ss, names, prs, qs, rfl, h⟩ := h
    refine ⟨_, pss_cons (ps_if (pt_cmpR (op_neV (hu20_of hr)) (pe_compG rfl (blkG_of (zs := ["name", "side", "row"]) (ys := []) (fr := []) (N0 := ["picture", "names", "pairs", "seats"]) (sc0 := defScope s_is_giving) (by decide +kernel) rfl rfl rfl) (pi_list (pv 2)) (fun _ _ _ _ _ ow nd => (pg_tup rfl (pgs_cons (pg_name (i := 0) nd rfl (Or.inl (ow _ (by simp))) (Or.inr (ow _ (by simp)))) (pgs_cons (pg_name (i := 1) nd rfl (Or.inl (ow _ (by simp))) (Or.inr (ow _ (by simp)))) (pgs_cons (pg_name (i := 2) nd rfl (Or.inl (ow _ (by simp))) (Or.inr (ow _ (by simp)))) (pgs_nil)))) : PG _ _ (gTup K 3 _))) (gok_tup (goks_cons (by decide) (goks_cons (by decide) (goks_cons (by decide) (goks_nil))))) (fun _ _ _ _ _ => pif_nil) (fun _ _ _ _ _ => pv 0)) (pv 1) (nomark _)) (pss_one (ps_ret (pe_bl))) (pss_nil))
      (pss_cons (ps_setcG rfl (blkG_of (zs := ["name", "side", "row"]) (ys := []) (fr := []) (N0 := ["picture", "names", "pairs", "seats"]) (sc0 := defScope s_is_giving) (by decide +kernel) rfl rfl rfl) (pi_list (pv 2)) (fun _ _ _ _ _ ow nd => (pg_tup rfl (pgs_cons (pg_name (i := 0) nd rfl (Or.inl (ow _ (by simp))) (Or.inr (ow _ (by simp)))) (pgs_cons (pg_name (i := 1) nd rfl (Or.inl (ow _ (by simp))) (Or.inr (ow _ (by simp)))) (pgs_cons (pg_name (i := 2) nd rfl (Or.inl (ow _ (by simp))) (Or.inr (ow _ (by simp)))) (pgs_nil)))) : PG _ _ (gTup K 3 _))) (gok_tup (goks_cons (by decide) (goks_cons (by decide) (goks_cons (by decide) (goks_nil))))) (fun _ _ _ _ _ => pif_nil) (fun _ _ _ _ _ => pe_tup (pa_cons (pv 1) (pa_cons (pv 2) (pa_nil)))) (j := 3) rfl (Or.inl rfl))
      (pss_one (ps_ret (pe_and (pe_cmpR op_eq (pe_lenSetT (hu20_of hr) rfl rfl T.n_len rfl T.n_set (pa_cons (pv 3) (pa_nil))) (pe_callB call_len_seq rfl T.n_len boot_len (pa_cons (pv 3) (pa_nil))) (nomark _)) (pe_one (pe_callB (call_allL rfl) rfl T.n_all PyProof.Rows.Boot.«all» (pa_cons (pe_compG rfl (blkG_of (zs := ["name", "side", "row"]) (ys := ["picture"]) (fr := [0]) (N0 := ["picture", "names", "pairs", "seats"]) (sc0 := defScope s_is_giving) (by decide +kernel) rfl rfl rfl) (pi_list (pv 2)) (fun _ _ _ _ _ ow nd => (pg_tup rfl (pgs_cons (pg_name (i := 0) nd rfl (Or.inl (ow _ (by simp))) (Or.inr (ow _ (by simp)))) (pgs_cons (pg_name (i := 1) nd rfl (Or.inl (ow _ (by simp))) (Or.inr (ow _ (by simp)))) (pgs_cons (pg_name (i := 2) nd rfl (Or.inl (ow _ (by simp))) (Or.inr (ow _ (by simp)))) (pgs_nil)))) : PG _ _ (gTup K 3 _))) (gok_tup (goks_cons (by decide) (goks_cons (by decide) (goks_cons (by decide) (goks_nil))))) (fun _ _ _ _ _ => pif_nil) (fun _ _ _ _ _ => pe_meth (pv 3) T.c_Picture T.m_Picture_may (ok_Picture_may T) (hr.mono (by decide)) T.b_Picture_may .nil pass_none (pa_cons (pv 0) (pa_cons (pv 1) (pa_cons (pv 2) (pa_nil)))))) (pa_nil)))))))), ?_⟩
    obtain ⟨dr, hln, hlp, pl, n12, ok, q⟩ := h
    have qll := pl.len
    have BIG : ∀ {n : Nat}, n ≤ 12 → n < sizeLine := fun h => Nat.lt_of_le_of_lt (by omega : _ ≤ 1000) (by decide)
    refine ⟨_, rfl, lp, rfl, ⟨_, SqL.of hlp⟩, fun l1 hl1 => ?_⟩
    refine comp_list (SqL.of hlp) (by rw [List.length_map]; exact BIG (by omega)) hl1 (fun i y _ => ∃ p, prs[i]? = some p ∧ y = .str p.1.nm) (fun _ _ _ _ _ z => z) (fun i x H2 hx s2 N hN => ?_) (fun ys H2 s2 e2 ly fy => ?_)
    · rw [List.getElem?_map, Option.map_eq_some_iff] at hx
      obtain ⟨qa, hqa, rfl⟩ := hx
      obtain ⟨p, hp, hpq⟩ := pl.get hqa
      exact ⟨qa, _, rfl, SqT.of (s2 _ _ hpq), rfl, _, _, rfl, _, _, rfl, _, _, rfl, rfl, _, rfl, hN _ _ (Same.refl _) ⟨p, hp, rfl⟩⟩
    have ey : ys = (prs.map fun p => p.1.nm).map V.str := by
      refine ys_eq (by rw [ly, List.length_map, List.length_map, qll]) fun i y b hy hb => ?_
      obtain ⟨p, hp, rfl⟩ := fy i y hy
      rw [List.getElem?_map, hp] at hb
      cases hb
      rfl
    rw [ey] at e2
    have hln2 := s2 _ _ hln
    have hlp2 := s2 _ _ hlp
    refine ⟨_, rfl, 1, 1, _, _, nms_dv e2, nms_dv hln2, by decide, by decide, _, rfl, ite2 (fun c => ?_) (fun c => ?_)⟩
    · rw [nms_q] at c
      have c : ¬ (prs.map fun p => p.1.nm) = names := by simpa using c
      have g : gvB ss names prs = false := by
        unfold gvB
        rw [decide_eq_false c]
        rfl
      rw [g] at q
      exact q _ s2
    · rw [nms_q] at c
      have c : (prs.map fun p => p.1.nm) = names := by simpa using c
      refine ⟨_, rfl, lp, rfl, ⟨_, SqL.of hlp2⟩, fun l3 hl3 => ?_⟩
      refine comp_list (SqL.of hlp2) (by rw [List.length_map]; exact BIG (by omega)) hl3 (fun i y H => ∃ p qa, prs[i]? = some p ∧ y = .ref qa ∧ H qa = some (.tup (seatV (prS p)))) (fun _ _ _ _ tp ⟨p, qa, z1, z2, z3⟩ => ⟨p, qa, z1, z2, tp _ _ z3⟩) (fun i x H3 hx s3 N hN => ?_) (fun ys3 H3 s3 e3 ly3 fy3 => ?_)
      · rw [List.getElem?_map, Option.map_eq_some_iff] at hx
        obtain ⟨qa, hqa, rfl⟩ := hx
        obtain ⟨p, hp, hpq⟩ := pl.get hqa
        refine ⟨qa, _, rfl, SqT.of (s3 _ _ (s2 _ _ hpq)), rfl, _, _, rfl, _, _, rfl, _, _, rfl, rfl, _, rfl, _, rfl, (by show 2 ≤ sizeLine; decide), fun q5 hq5 => ?_⟩
        exact hN _ _ (same_upd (Same.refl _) hq5) ⟨p, q5, hp, rfl, upd_same⟩
      rw [List.length_map, qll] at ly3
      obtain ⟨as, rfl, al, ak⟩ := refs_of ly3 fy3
      refine ⟨_, rfl, l3, as, (prs.map prS).map seatK, rfl, SqL.of e3, by rw [List.length_map, List.length_map, al], ak, by omega, _, rfl, l3, _, rfl, .inl (SqL.of e3), rfl, ?_⟩
      have nde : (decide (V.int (unlikeT ((prs.map prS).map seatK) : Int) = V.int ((as.map V.ref).length : Int))) = decide ((prs.map prS).Nodup) := by
        rw [Bool.eq_iff_iff, decide_eq_true_iff, decide_eq_true_iff, ← seatK_nd, ← unlikeT_nd, List.length_map, List.length_map, List.length_map, al]
        constructor
        · intro h
          injection h with h
          omega
        · intro h
          rw [h]
      rw [nde]
      have s03 := s2.trans s3
      have hlp3 := s3 _ _ hlp2
      refine ⟨_, rfl, ite2 (fun nd => ?_) (fun nd => ?_)⟩
      · have nd := of_decide_eq_true nd
        refine ⟨_, rfl, lp, rfl, ⟨_, SqL.of hlp3⟩, fun l5 hl5 => ?_⟩
        refine comp_list (SqL.of hlp3) (by rw [List.length_map]; exact BIG (by omega)) hl5 (fun i y _ => ∃ p, prs[i]? = some p ∧ y = .bl (decide (prS p ∈ ss) && wantB p.1 (prS p))) (fun _ _ _ _ _ z => z) (fun i x H4 hx s4 N hN => ?_) (fun ys5 H5 s5 e5 ly5 fy5 => ?_)
        · rw [List.getElem?_map, Option.map_eq_some_iff] at hx
          obtain ⟨qa, hqa, rfl⟩ := hx
          obtain ⟨p, hp, hpq⟩ := pl.get hqa
          obtain ⟨k1, k2, k3, k4⟩ := ok p (List.mem_of_getElem? hp)
          have s04 := s03.trans s4
          have dr4 := dr.same s04
          obtain ⟨⟨dx, hpi⟩, _⟩ := id dr4.pic
          refine ⟨qa, _, rfl, SqT.of (s04 _ _ hpq), rfl, _, _, rfl, _, _, rfl, _, _, rfl, rfl, _, rfl, a, dx, _, rfl, hpi, lk_no (by decide +kernel), _, rfl, _, rfl, _, rfl, a, dp, do_, w', h', ps, st, p.1, p.2.1, p.2.2, rfl, dr4.pic, dr4.sts, k1, k2, k3, k4, fun H6 s6 => ?_⟩
          refine hN _ _ s6 ⟨p, hp, ?_⟩
          have e : decide ((p.2.1, p.2.2) ∈ st) = decide (prS p ∈ ss) := by
            rw [Bool.eq_iff_iff, decide_eq_true_iff, decide_eq_true_iff]
            exact dr.pm.mem_iff.symm
          rw [e]
          rfl
        have ey5 : ys5 = (prs.map fun p => decide (prS p ∈ ss) && wantB p.1 (prS p)).map V.bl := by
          refine ys_eq (by rw [ly5, List.length_map, List.length_map, qll]) fun i y b hy hb => ?_
          obtain ⟨p, hp, rfl⟩ := fy5 i y hy
          rw [List.getElem?_map, hp] at hb
          cases hb
          rfl
        rw [ey5] at e5
        refine ⟨l5, _, rfl, SqL.of e5, ?_⟩
        have g : gvB ss names prs = (prs.map fun p => decide (prS p ∈ ss) && wantB p.1 (prS p)).all id := by
          unfold gvB
          rw [decide_eq_true c, decide_eq_true nd, List.all_map]
          rfl
        rw [← g]
        exact q _ (s03.trans s5)
      · have g : gvB ss names prs = false := by
          unfold gvB
          rw [Bool.eq_false_iff.mpr nd]
          simp
        rw [g] at q
        exact q _ s03
end
end S13
set_option maxRecDepth 100000
set_option maxHeartbeats 4000000
namespace S13
open PySem L2 XL PyProof.Rows
theorem find_isN {ps : List Pt} (nd : (ps.map (·.nm)).Nodup) {p : Pt} (h : p ∈ ps) : ps.find? (fun z => decide (z.nm = p.nm)) = some p := by
  induction ps with
  | nil => exact nomatch h
  | cons x r ih =>
    rw [List.map_cons, List.nodup_cons] at nd
    rcases List.mem_cons.mp h with rfl | h
    · rw [List.find?_cons_of_pos (by simp)]
    · rw [List.find?_cons_of_neg, ih nd.2 h]
      intro e
      exact nd.1 (List.mem_map.mpr ⟨p, h, (of_decide_eq_true e).symm⟩)
def spMayP (t : Adr) : Sp := fun vs H Q _ => ∃ (a sq dp do_ : Addr) (w h : Nat) (ps : List Pt) (st ss : List Seat) (p : Pt) (s : Seat), vs = [.ref a, .str p.nm, .ref sq] ∧ Dr t H a dp do_ w h ps st ss ∧ PtsOk (w : Int) (h : Int) ps ∧ p ∈ ps ∧ H sq = some (.tup (seatV s)) ∧ ∀ H', Same H H' → Q (.bl (decide (s ∈ ss) && wantB p s)) H'
section
variable {P : Program} {w : World} {K : PySem.W.Frag} {mg : Str → Option Value} {base : Heap} {t : Adr}
theorem ok_law_may (T : Txt w K mg t) : FnOk true P w K mg base (CXo P w) 4 t.f_law_may t.d_law_may ["_law_picture_here", "_law_name", "_law_seat"] (spMayP t) := by
  refine T.F_law_may.okn (k := 3) sc_law_may (fun vs H Q E h => ?_) (fun cdv A outer s H vs Q E hr h => ?_)
  · obtain ⟨a, sq, dp, do_, w', h', ps, st, ss, p, s0, rfl, _⟩ := h
    rfl
  · obtain ⟨a, sq, dp, do_, w', h', ps, st, ss, p, s0, rfl, h⟩ := h
    refine ⟨_, pss_cons (ps_for PassesOwn.never rfl (pi_list (pe_meth0 (pv 0) T.c_Picture T.m_Picture_points (ok_Picture_points T) (hr.mono (by decide)) T.b_Picture_points .nil pass_none)) (pg_tup rfl (pgs_cons (pg_name (i := 3) sc_law_may.nd rfl (Or.inl rfl)) (pgs_cons (pg_name (i := 4) sc_law_may.nd rfl (Or.inl rfl)) (pgs_cons (pg_name (i := 5) sc_law_may.nd rfl (Or.inl rfl)) (pgs_cons (pg_name (i := 6) sc_law_may.nd rfl (Or.inl rfl)) (pgs_cons (pg_name (i := 7) sc_law_may.nd rfl (Or.inl rfl)) (pgs_cons (pg_name (i := 8) sc_law_may.nd rfl (Or.inl rfl)) (pgs_nil)))))))) (pss_one (ps_if (pt_cmpR op_eq (pv 3) (pv 1) (nomark _)) (pss_one (ps_ret (pe_and (pe_cmpR (op_inV (hu20_of hr)) (pv 2) (pe_meth0 (pv 0) T.c_Picture T.m_Picture_seats (ok_Picture_seats T) (hr.mono (by decide)) T.b_Picture_seats .nil pass_none) (by rfl)) (pe_and (pe_cmpR op_in_seq (pv 6) (pe_lst (pa_cons (pe_str) (pa_cons (pe_ix ix_tup (pv 2) (pe_int) (fun _ _ => rfl)) (pa_nil)))) (by rfl)) (pe_one (pe_chain op_le op_le (pv 7) (pe_ix ix_tup (pv 2) (pe_int) (fun _ _ => rfl)) (pv 8))))))) (pss_nil))))
      (pss_one (ps_ret (pe_bl))), ?_⟩
    obtain ⟨dr, pok, pin, hsq, q⟩ := h
    obtain ⟨⟨dx, hpi⟩, _⟩ := id dr.pic
    refine ⟨_, rfl, a, dx, _, rfl, hpi, lk_no (by decide +kernel), a, dp, do_, w', h', ps, rfl, dr.pic, fun H1 lp qs s1 e1 pt1 => ?_⟩
    refine ⟨lp, rfl, ⟨_, SqL.of e1⟩, ?_⟩
    refine for_list (xs := qs.map V.ref) (Pv := fun i σ H2 => ∃ (v3 v4 v5 v6 v7 v8 : Option V), σ = [some (.ref a), some (.str p.nm), some (.ref sq), v3, v4, v5, v6, v7, v8] ∧ Same H1 H2 ∧ ∀ j z, j < i → ps[j]? = some z → z.nm ≠ p.nm) ⟨_, _, _, _, _, _, rfl, Same.refl _, fun j z h => absurd h (Nat.not_lt_zero _)⟩ ?_ ?_ ?_
    · rintro i σ H2 _ ⟨_, _, _, _, _, _, rfl, s2, _⟩
      exact SqL.of (s2 _ _ e1)
    · rintro i x σ H2 hx ⟨v3, v4, v5, v6, v7, v8, rfl, s2, no⟩
      rw [List.getElem?_map, Option.map_eq_some_iff] at hx
      obtain ⟨qa, hqa, rfl⟩ := hx
      obtain ⟨z, hz, hzq⟩ := pt1.get hqa
      refine ⟨qa, _, rfl, SqT.of (s2 _ _ hzq), rfl, _, _, rfl, _, _, rfl, _, _, rfl, _, _, rfl, _, _, rfl, _, _, rfl, rfl, ?_⟩
      refine ⟨_, rfl, _, rfl, rfl, _, rfl, ite2 (fun c => ?_) (fun c => ?_)⟩
      · have ez : z.nm = p.nm := by
          have c := of_decide_eq_true c
          injection c
        have zp : z = p := by
          have a1 := find_isN pok.nn (List.mem_of_getElem? hz)
          have a2 := find_isN pok.nn pin
          rw [ez] at a1
          rw [a1] at a2
          exact Option.some.inj a2
        subst zp
        have s02 := s1.trans s2
        have dr2 := dr.same s02
        have hsq2 := s02 _ _ hsq
        refine ⟨_, rfl, _, rfl, a, dx, _, rfl, s02 _ _ hpi, lk_no (by decide +kernel), a, dp, do_, w', h', ps, st, rfl, dr2.pic, dr2.sts, fun l5 ss5 us hl5 sl4 pm' lt' => ?_⟩
        obtain rfl : ss5 = ss := perm_sorted seatLt_as (pm'.trans dr.pm.symm) lt' dr.lt
        have s5 : Same H2 (upd H2 l5 (.lst (us.map V.ref))) := same_upd (Same.refl _) hl5
        have g5 : upd H2 l5 (.lst (us.map V.ref)) l5 = some (.lst (us.map V.ref)) := upd_same
        revert s5 g5
        generalize upd H2 l5 (.lst (us.map V.ref)) = H5
        intro s5 g5
        have hsq5 := s5 _ _ hsq2
        refine ⟨1, 2, seatD s0, _, dv_seat hsq5, (sl4.keep (Same.tups s5)).dv g5, by decide, by decide, _, rfl, ite2 (fun y => ?_) (fun y => ?_)⟩
        · rw [if_neg (by decide), any_seat] at y
          rw [y, Bool.true_and] at q
          unfold wantB at q
          refine ⟨_, rfl, _, rfl, sq, _, 0, .str (sideW s0.1), rfl, rfl, SqT.of hsq5, rfl, (by show 2 ≤ sizeLine; decide), fun l6 hl6 => ?_⟩
          have s6 : Same H5 (upd H5 l6 (.lst [V.str (Str.ofString "both"), V.str (sideW s0.1)])) := same_upd (Same.refl _) hl6
          have g6 : upd H5 l6 (.lst [V.str (Str.ofString "both"), V.str (sideW s0.1)]) l6 = some (.lst [V.str (Str.ofString "both"), V.str (sideW s0.1)]) := upd_same
          revert s6 g6
          generalize upd H5 l6 (.lst [V.str (Str.ofString "both"), V.str (sideW s0.1)]) = H6
          intro s6 g6
          have s06 := (s02.trans s5).trans s6
          refine ⟨l6, _, rfl, .inl (SqL.of g6), rfl, rfl, _, rfl, ite2 (fun y2 => ?_) (fun y2 => ?_)⟩
          · rw [if_neg (by decide), inV_sd] at y2
            rw [y2, Bool.true_and] at q
            refine ⟨_, rfl, _, rfl, sq, _, 1, .int s0.2, rfl, rfl, SqT.of (s6 _ _ hsq5), rfl, _, _, rfl, rfl, _, rfl, ite2 (fun y3 => ?_) (fun y3 => ?_)⟩
            · rw [y3, Bool.true_and] at q
              exact ⟨_, rfl, _, _, rfl, rfl, q _ s06⟩
            · rw [Bool.eq_false_iff.mpr y3, Bool.false_and] at q
              exact q _ s06
          · rw [if_neg (by decide), inV_sd] at y2
            rw [Bool.eq_false_iff.mpr y2, Bool.false_and] at q
            exact q _ s06
        · rw [if_neg (by decide), any_seat] at y
          rw [Bool.eq_false_iff.mpr y, Bool.false_and] at q
          exact q _ (s02.trans s5)
      · exact ⟨_, _, _, _, _, _, rfl, s2, fun j y hj hy => by
          rcases Nat.lt_or_ge j i with w | w
          · exact no j y w hy
          · have : j = i := by omega
            subst this
            rw [hz] at hy
            cases hy
            exact fun e => c (decide_eq_true (by rw [e]))⟩
    · rintro σ H2 ⟨v3, v4, v5, v6, v7, v8, rfl, s2, no⟩
      obtain ⟨j, hj, e⟩ := List.mem_iff_getElem.mp pin
      have := pt1.len
      exact absurd rfl (no j p (by rw [List.length_map]; omega) (by rw [List.getElem?_eq_getElem hj, e]))
end
end S13
set_option maxRecDepth 100000
set_option maxHeartbeats 4000000
namespace S13
open PySem L2 XL PyProof.Rows
theorem seatLt_tr {a b c : Seat} (h : seatLt a b) (k : seatLt b c) : seatLt a c := by
  unfold seatLt at *
  rcases h with ⟨h1, h2⟩ | ⟨h1, h2⟩ <;> rcases k with ⟨k1, k2⟩ | ⟨k1, k2⟩
  · exact .inl ⟨h1, k2⟩
  · exact .inl ⟨h1, by rw [← k1]; exact h2⟩
  · exact .inl ⟨by rw [h1]; exact k1, k2⟩
  · exact .inr ⟨h1.trans k1, by omega⟩
theorem seatLt_tot {a b : Seat} (h : a ≠ b) : seatLt a b ∨ seatLt b a := by
  obtain ⟨a1, a2⟩ := a
  obtain ⟨b1, b2⟩ := b
  unfold seatLt
  cases a1 <;> cases b1
  · have : a2 ≠ b2 := fun e => h (by rw [e])
    rcases Int.lt_or_gt_of_ne this with z | z
    · exact .inl (.inr ⟨rfl, z⟩)
    · exact .inr (.inr ⟨rfl, z⟩)
  · exact .inr (.inl ⟨rfl, rfl⟩)
  · exact .inl (.inl ⟨rfl, rfl⟩)
  · have : a2 ≠ b2 := fun e => h (by rw [e])
    rcases Int.lt_or_gt_of_ne this with z | z
    · exact .inl (.inr ⟨rfl, z⟩)
    · exact .inr (.inr ⟨rfl, z⟩)
theorem ins_sorted : ∀ {ss : List Seat} {x : Seat}, ss.Pairwise seatLt → x ∉ ss → ∃ srt : List Seat, srt.Perm (x :: ss) ∧ srt.Pairwise seatLt
  | [], x, _, _ => ⟨[x], List.Perm.refl _, List.pairwise_singleton _ _⟩
  | y :: r, x, h, nx => by
    rw [List.pairwise_cons] at h
    rw [List.mem_cons, not_or] at nx
    by_cases c : seatLt x y
    · refine ⟨x :: y :: r, List.Perm.refl _, List.pairwise_cons.mpr ⟨fun z hz => ?_, List.pairwise_cons.mpr h⟩⟩
      rcases List.mem_cons.mp hz with rfl | hz
      · exact c
      · exact seatLt_tr c (h.1 z hz)
    · obtain ⟨srt, pm, lt⟩ := ins_sorted h.2 nx.2
      refine ⟨y :: srt, (pm.cons y).trans (List.Perm.swap _ _ _), List.pairwise_cons.mpr ⟨fun z hz => ?_, lt⟩⟩
      rcases List.mem_cons.mp (pm.mem_iff.mp hz) with rfl | hz
      · exact (seatLt_tot nx.1).resolve_left c
      · exact h.1 z hz
theorem sorted_of : ∀ {st : List Seat}, st.Nodup → ∃ srt : List Seat, srt.Perm st ∧ srt.Pairwise seatLt
  | [], _ => ⟨[], .refl _, .nil⟩
  | x :: r, h => by
    obtain ⟨h1, h2⟩ := List.nodup_cons.mp h
    obtain ⟨s1, p1, l1⟩ := sorted_of h2
    obtain ⟨s2, p2, l2⟩ := ins_sorted l1 (fun z => h1 (p1.mem_iff.mp z))
    exact ⟨s2, p2.trans (List.Perm.cons _ p1), l2⟩
theorem ltrs_nd {c s : Int} (h : s ∈ steps) {n : Nat} (hn : n ≤ 12) : ((List.range n).map fun (k : Nat) => ltr ((c + s * (k : Int)) % 26)).Nodup := by
  rw [List.nodup_iff_pairwise_ne, List.pairwise_map]
  refine List.Pairwise.imp_of_mem (fun {i j} hi hj hij e => ?_) (List.pairwise_lt_range (n := n))
  rw [List.mem_range] at hi hj
  have e' := ltr_inj (mod_in _ (by decide)).1 (mod_in _ (by decide)).1 e
  have hj' : j < 12 := by omega
  obtain ⟨d, rfl⟩ : ∃ d, j = i + d := ⟨j - i, by omega⟩
  have hd : 0 < d ∧ d < 12 := by omega
  have hs : ∀ z ∈ steps, z = 1 ∨ z = 3 ∨ z = 5 ∨ z = 7 ∨ z = 9 ∨ z = 11 ∨ z = 15 ∨ z = 17 ∨ z = 19 ∨ z = 21 ∨ z = 23 ∨ z = 25 := by decide
  rw [Int.natCast_add, Int.mul_add] at e'
  rcases hs s h with rfl | rfl | rfl | rfl | rfl | rfl | rfl | rfl | rfl | rfl | rfl | rfl <;> omega
theorem sd_at (m : Int) : ∃ x : Str, atI [V.str "left", V.str "both", V.str "right"] (m % 3) = some (.str x) ∧ (x = "left" ∨ x = "right" ∨ x = "both") := by
  obtain ⟨h0, h1⟩ := mod_in m (show (0 : Int) < 3 by decide)
  have : m % 3 = 0 ∨ m % 3 = 1 ∨ m % 3 = 2 := by omega
  rcases this with e | e | e <;> rw [e]
  · exact ⟨"left", rfl, .inl rfl⟩
  · exact ⟨"both", rfl, .inr (.inr rfl)⟩
  · exact ⟨"right", rfl, .inr (.inl rfl)⟩
theorem six_at (k : Bool) : ∃ x : Int, atI [V.int 6, V.int 12] (if k = true then 1 else 0) = some (.int x) ∧ 1 ≤ x ∧ x ≤ 12 := by
  cases k
  · exact ⟨6, rfl, by decide, by decide⟩
  · exact ⟨12, rfl, by decide, by decide⟩
def spPict (K : PySem.W.Frag) (t : Adr) : Sp := fun vs H Q _ => ∃ (sc : Addr) (ns : List Int), vs = [.ref sc] ∧ SqL K H sc (ns.map V.int) ∧ ∀ (H' : Hp) (tp a ln ls dp do_ : Addr) (w h : Nat) (ps : List Pt) (st ss : List Seat),
  Same H H' → H' tp = some (.tup [.ref a, .ref ln, .ref ls]) → Dr t H' a dp do_ w h ps st ss → PtsOk (w : Int) (h : Int) ps → H' ln = some (.lst ((ps.map (·.nm)).map V.str)) → Q (.ref tp) H'
section
variable {P : Program} {w : World} {K : PySem.W.Frag} {mg : Str → Option Value} {base : Heap} {t : Adr}
theorem ok_law_picture (T : Txt w K mg t) : FnOk true P w K mg base (CXo P w) 6 t.f_law_picture t.d_law_picture ["_law_script"] (spPict K t) := by
  refine T.F_law_picture.okn (k := 5) sc_law_picture (fun vs H Q E h => ?_) (fun cdv A outer s H vs Q E hr h => ?_)
  · obtain ⟨sc, ns, rfl, _⟩ := h
    rfl
  · obtain ⟨sc, ns, rfl, h⟩ := h
    refine ⟨_, pss_cons (ps_asg (pe_call (ok_law_size T) (hr.mono (by decide)) rfl T.g_law_size T.F_law_size.kp T.b_law_size .nil pass_none (pa_cons (pe_call (ok_law_cell T) (hr.mono (by decide)) rfl T.g_law_cell T.F_law_cell.kp T.b_law_cell .nil pass_none (pa_cons (pv 0) (pa_cons (pe_int) (pa_nil)))) (pa_nil))) (pg_tup rfl (pgs_cons (pg_name (i := 1) sc_law_picture.nd rfl (Or.inl rfl)) (pgs_cons (pg_name (i := 2) sc_law_picture.nd rfl (Or.inl rfl)) (pgs_nil)))))
      (pss_cons (ps_set (i := 3) sc_law_picture.nd rfl (Or.inl rfl) (pe_callB (call_min3 rfl) rfl T.n_min boot_min (pa_cons (pe_ix ix_list (pe_lst (pa_cons (pe_int) (pa_cons (pe_int) (pa_nil)))) (pe_callTy call_int1 rfl T.n_int boot_int (pa_cons (pe_cmpR op_eq (pe_op op_mod (pe_call (ok_law_cell T) (hr.mono (by decide)) rfl T.g_law_cell T.F_law_cell.kp T.b_law_cell .nil pass_none (pa_cons (pv 0) (pa_cons (pe_int) (pa_nil)))) (pe_int)) (pe_int) (nomark _)) (pa_nil))) (fun _ _ => rfl)) (pa_cons (pv 1) (pa_cons (pv 2) (pa_nil))))))
      (pss_cons (ps_set (i := 4) sc_law_picture.nd rfl (Or.inl rfl) (pe_op op_add (pe_int) (pe_op op_mod (pe_op op_fdiv (pe_call (ok_law_cell T) (hr.mono (by decide)) rfl T.g_law_cell T.F_law_cell.kp T.b_law_cell .nil pass_none (pa_cons (pv 0) (pa_cons (pe_int) (pa_nil)))) (pe_int)) (pv 3))))
      (pss_cons (ps_set (i := 5) sc_law_picture.nd rfl (Or.inl rfl) (pe_call (ok_law_names T) (hr.mono (by decide)) rfl T.g_law_names T.F_law_names.kp T.b_law_names .nil pass_none (pa_cons (pe_call (ok_law_cell T) (hr.mono (by decide)) rfl T.g_law_cell T.F_law_cell.kp T.b_law_cell .nil pass_none (pa_cons (pv 0) (pa_cons (pe_int) (pa_nil)))) (pa_cons (pv 4) (pa_nil)))))
      (pss_cons (ps_set (i := 6) sc_law_picture.nd rfl (Or.inr rfl) (pe_call (ok_law_places T) (hr.mono (by decide)) rfl T.g_law_places T.F_law_places.kp T.b_law_places .nil pass_none (pa_cons (pe_call (ok_law_cell T) (hr.mono (by decide)) rfl T.g_law_cell T.F_law_cell.kp T.b_law_cell .nil pass_none (pa_cons (pv 0) (pa_cons (pe_int) (pa_nil)))) (pa_cons (pv 1) (pa_cons (pv 4) (pa_nil))))))
      (pss_cons (ps_set (i := 7) sc_law_picture.nd rfl (Or.inr rfl) (pe_call (ok_law_places T) (hr.mono (by decide)) rfl T.g_law_places T.F_law_places.kp T.b_law_places .nil pass_none (pa_cons (pe_op op_fdiv (pe_call (ok_law_cell T) (hr.mono (by decide)) rfl T.g_law_cell T.F_law_cell.kp T.b_law_cell .nil pass_none (pa_cons (pv 0) (pa_cons (pe_int) (pa_nil)))) (pe_int)) (pa_cons (pv 2) (pa_cons (pv 4) (pa_nil))))))
      (pss_cons (ps_set (i := 8) sc_law_picture.nd rfl (Or.inl rfl) (pe_make T.k_Picture (ok_Picture_init T) (hr.mono (by decide)) rfl T.g_Picture T.b_Picture_init .nil pass_none (pa_cons (pv 1) (pa_cons (pv 2) (pa_nil)))))
      (pss_cons (ps_for PassesOwn.never rfl (pi_range1 rfl T.n_range (pa_cons (pv 4) (pa_nil))) (pg_name (i := 9) sc_law_picture.nd rfl (Or.inl rfl)) (pss_cons (ps_set (i := 10) sc_law_picture.nd rfl (Or.inl rfl) (pe_call (ok_law_mix T) (hr.mono (by decide)) rfl T.g_law_mix T.F_law_mix.kp T.b_law_mix .nil pass_none (pa_cons (pe_call (ok_law_cell T) (hr.mono (by decide)) rfl T.g_law_cell T.F_law_cell.kp T.b_law_cell .nil pass_none (pa_cons (pv 0) (pa_cons (pe_int) (pa_nil)))) (pa_cons (pv 9) (pa_nil)))))
      (pss_cons (ps_set (i := 11) sc_law_picture.nd rfl (Or.inl rfl) (pe_op op_add (pe_int) (pe_op op_mod (pe_op op_fdiv (pv 10) (pe_int)) (pv 2))))
      (pss_cons (ps_set (i := 12) sc_law_picture.nd rfl (Or.inl rfl) (pe_op op_add (pv 11) (pe_op op_mod (pe_op op_fdiv (pv 10) (pe_int)) (pe_op op_sub (pe_op op_add (pv 2) (pe_int)) (pv 11)))))
      (pss_one (ps_expr (pe_meth (pv 8) T.c_Picture T.m_Picture_put (ok_Picture_put T) (hr.mono (by decide)) T.b_Picture_put .nil pass_none (pa_consP (pe_ix ix_list (pv 5) (pv 9) (fun _ _ => rfl)) (pa_consP (pe_ix ix_list (pv 6) (pv 9) (fun _ _ => rfl)) (pa_consP (pe_ix ix_list (pv 7) (pv 9) (fun _ _ => rfl)) (pa_consP (pe_ix ix_list (pe_lst (pa_cons (pe_str) (pa_cons (pe_str) (pa_cons (pe_str) (pa_nil))))) (pe_op op_mod (pv 10) (pe_int)) (fun _ _ => rfl)) (pa_consP (pv 11) (pa_consP (pv 12) (pa_nil) rfl) rfl) rfl) rfl) rfl) rfl))))))))
      (pss_cons (ps_for PassesOwn.never rfl (pi_range2 rfl T.n_range (pa_cons (pe_int) (pa_cons (pe_op op_add (pv 2) (pe_int)) (pa_nil)))) (pg_name (i := 13) sc_law_picture.nd rfl (Or.inl rfl)) (pss_one (ps_for PassesOwn.never rfl (pi_list (pe_lst (pa_cons (pe_str) (pa_cons (pe_str) (pa_nil))))) (pg_name (i := 14) sc_law_picture.nd rfl (Or.inl rfl)) (pss_one (ps_mid (ps_if (pt_cmpR op_gt (pe_op op_mod (pe_call (ok_law_mix T) (hr.mono (by decide)) rfl T.g_law_mix T.F_law_mix.kp T.b_law_mix .nil pass_none (pa_cons (pe_call (ok_law_cell T) (hr.mono (by decide)) rfl T.g_law_cell T.F_law_cell.kp T.b_law_cell .nil pass_none (pa_cons (pv 0) (pa_cons (pe_int) (pa_nil)))) (pa_cons (pe_op op_add (pe_op op_mul (pe_int) (pv 13)) (pe_callTy call_int1 rfl T.n_int boot_int (pa_cons (pe_cmpR op_eq (pv 14) (pe_str) (nomark _)) (pa_nil)))) (pa_nil)))) (pe_int)) (pe_int) (nomark _)) (pss_one (ps_expr (pe_meth (pv 8) T.c_Picture T.m_Picture_open_seat (ok_Picture_open_seat T) (hr.mono (by decide)) T.b_Picture_open_seat .nil pass_none (pa_cons (pv 14) (pa_cons (pv 13) (pa_nil)))))) (pss_nil)))))))
      (pss_one (ps_ret (pe_tup (pa_cons (pv 8) (pa_cons (pv 5) (pa_cons (pe_compG rfl (blkG_of (zs := ["_law_k"]) (ys := ["_law_xs", "_law_ys"]) (fr := [6, 7]) (N0 := ["_law_script", "_law_width", "_law_height", "_law_most", "_law_many", "_law_names_here", "_law_xs", "_law_ys", "_law_picture_here", "_law_k", "_law_number", "_law_low", "_law_high", "_law_row", "_law_side"]) (sc0 := defScope s_law_picture) (by decide +kernel) rfl rfl rfl) (pi_range1 rfl T.n_range (pa_cons (pv 4) (pa_nil))) (fun _ _ _ _ _ ow nd => pg_name (i := 0) nd rfl (Or.inl (ow _ (by simp))) (Or.inr (ow _ (by simp)))) (gok_name (by decide)) (fun _ _ _ _ _ => pif_nil) (fun _ _ _ _ _ => pe_tup (pa_cons (pe_ix (r := rIxL K) ix_list (pv 1) (pv 0) (fun _ _ => rfl)) (pa_cons (pe_ix (r := rIxL K) ix_list (pv 2) (pv 0) (fun _ _ => rfl)) (pa_nil))))) (pa_nil))))))))))))))), ?_⟩
    obtain ⟨hs, q⟩ := h
    refine ⟨_, rfl, sc, ns, 0, rfl, hs, by decide, by decide, fun c0 => ⟨c0, rfl, fun w ph H1 p1 w1 w2 h1 h2 s1 hp1 => ⟨p1, _, rfl, SqT.of hp1, rfl, _, _, rfl, _, _, rfl, rfl, ?_⟩⟩⟩
    refine ⟨(by show 2 ≤ sizeLine; decide), fun q0 hq0 => ?_⟩
    have s2 : Same H (upd H1 q0 (.lst [.int 6, .int 12])) := s1.trans (same_upd (Same.refl _) hq0)
    refine ⟨_, rfl, sc, ns, 1, rfl, s2.seqL hs, by decide, by decide, fun c1 => ⟨_, _, rfl, rfl, (by show (0 : Int) < 8; decide), rfl, .inr ⟨_, rfl, ?_⟩⟩⟩
    obtain ⟨mx, emx, mx1, mx2⟩ := six_at (decide (V.int (c1 % 8) = V.int 3))
    refine ⟨q0, _, _, .int mx, rfl, rfl, SqL.of upd_same, emx, _, rfl, _, rfl, _, _, _, rfl, fun m m1 m2 m3 mo => ?_⟩
    have mp : 1 ≤ m := by rcases mo with rfl | rfl | rfl <;> omega
    refine ⟨_, rfl, sc, ns, 1, rfl, s2.seqL hs, by decide, by decide, fun c1' => ⟨_, _, rfl, rfl, ⟨by decide, by decide⟩, _, rfl, _, _, rfl, rfl, (by show 0 < m; omega), _, _, rfl, rfl, ?_⟩⟩
    have bm := mod_in (c1' / 8) (show 0 < m by omega)
    obtain ⟨n, hn⟩ : ∃ n : Nat, 1 + c1' / 8 % m = (n : Int) := ⟨(1 + c1' / 8 % m).toNat, by omega⟩
    have n1 : 1 ≤ n ∧ (n : Int) ≤ m := by omega
    refine ⟨_, rfl, sc, ns, 1, rfl, s2.seqL hs, by decide, by decide, fun c1b => ⟨_, rfl, c1b, n, (by show [V.int c1b, V.int (1 + c1' / 8 % m)] = _; rw [hn]), by omega, fun st H2 ln ms s3 hln => ?_⟩⟩
    refine ⟨_, rfl, sc, ns, 2, rfl, (s2.trans s3).seqL hs, by decide, by decide, fun c2 => ⟨_, rfl, _, rfl, c2, w, n, (by show [V.int c2, V.int w, V.int (1 + c1' / 8 % m)] = _; rw [hn]), by omega, by omega, fun xs H3 lx lx2 ndx bx s4 hlx => ?_⟩⟩
    refine ⟨_, rfl, sc, ns, 2, rfl, ((s2.trans s3).trans s4).seqL hs, by decide, by decide, fun c2b => ⟨_, _, rfl, rfl, ⟨by decide, by decide⟩, _, rfl, _, rfl, c2b / 7, ph, n, (by show [V.int (c2b / 7), V.int ph, V.int (1 + c1' / 8 % m)] = _; rw [hn]), by omega, by omega, fun ys H4 ly ly2 ndy by_ s5 hly => ?_⟩⟩
    refine ⟨_, rfl, _, rfl, fun a dx hx hdx ne => ⟨a, dx, w, ph, rfl, upd_same, by omega, by omega, by omega, by omega, fun H5 dp do_ hdp5 hdo5 s6 pic5 hdt5 => ⟨rfl, ?_⟩⟩⟩
    have k5 : Same H4 H5 := fun b u e => s6 b u (ne_of_none e hx) (by rw [upd_ne (ne_of_none e hx), upd_ne (ne_of_none e hdx)]; exact e)
    have s14 : Same H H4 := ((s2.trans s3).trans s4).trans s5
    have fr : ∀ z, upd (upd H4 dx (.own a)) a (.ins t.C_Picture dx []) z = none → H z = none := fun z hz => by
      cases e : H z with
      | none => rfl
      | some u =>
        have e4 := s14 _ _ e
        rw [upd_ne (ne_of_none e4 hx), upd_ne (ne_of_none e4 hdx), e4] at hz
        cases hz
    have fdp := fr _ hdp5
    have fdo := fr _ hdo5
    have sAll : Same H H5 := s14.trans k5
    obtain ⟨nms, hnms⟩ : ∃ nms : List Str, nms = (List.range n).map fun (k : Nat) => ltr ((c1b + st * (k : Int)) % 26) := ⟨_, rfl⟩
    have ln2 : nms.length = n := by rw [hnms]; simp
    have ndn : nms.Nodup := by rw [hnms]; exact ltrs_nd ms (by omega)
    have isn : ∀ z ∈ nms, isNm z = true := fun z hz => by
      rw [hnms] at hz
      obtain ⟨k, _, rfl⟩ := List.mem_map.mp hz
      exact isNm_ltr (mod_in _ (by decide)).1 (mod_in _ (by decide)).2
    have hln' : H2 ln = some (.lst (nms.map V.str)) := by
      rw [hln, hnms, List.map_map]
      rfl
    refine ⟨_, rfl, (n : Int), (by show [V.int (1 + c1' / 8 % m)] = _; rw [hn]), by omega, by omega, ?_⟩
    refine for_range (Pv := fun i σ H6 => ∃ (v9 v10 v11 v12 v13 v14 : Option V) (ps : List Pt), σ = [some (.ref sc), some (.int w), some (.int ph), some (.int m), some (.int (1 + c1' / 8 % m)), some (.ref ln), some (.ref lx), some (.ref ly), some (.ref a), v9, v10, v11, v12, v13, v14] ∧ Same H H6 ∧ H6 ln = some (.lst (nms.map V.str)) ∧ H6 lx = some (.lst (xs.map V.int)) ∧ H6 ly = some (.lst (ys.map V.int)) ∧
      Pic t H6 a dp do_ w ph ps ∧ H6 do_ = some (.dT []) ∧ ps.length = i ∧ ps.map (·.nm) = nms.take i ∧ ps.map (·.x) = xs.take i ∧ ps.map (·.y) = ys.take i ∧ (∀ p ∈ ps, PtOk w ph p)) ?_ ?_ ?_
    · exact ⟨_, _, _, _, _, _, [], rfl, sAll, k5 _ _ (s5 _ _ (s4 _ _ hln')), k5 _ _ (s5 _ _ hlx), k5 _ _ hly, pic5, hdt5, rfl, rfl, rfl, rfl, fun p hp => (nomatch hp)⟩
    · rintro i σ H6 hi ⟨v9, v10, v11, v12, v13, v14, ps, rfl, s7, g1, g2, g3, pic6, hdt6, pl, pn, px, py, pok⟩
      have hi' : i < n := by simpa using hi
      obtain ⟨dx6, hp6⟩ := pic6.ins
      refine ⟨_, rfl, sc, ns, 3, rfl, s7.seqL hs, by decide, by decide, fun c3 => ⟨_, rfl, c3, (0 + (i : Int)), rfl, fun m0 m00 m01 => ?_⟩⟩
      refine ⟨_, rfl, _, _, rfl, rfl, ⟨by decide, by decide⟩, _, rfl, _, _, rfl, rfl, (by show 0 < ph; omega), _, _, rfl, rfl, ?_⟩
      have b1 := mod_in (m0 / 3) (show 0 < ph by omega)
      refine ⟨_, rfl, _, rfl, _, _, rfl, rfl, ⟨by decide, by decide⟩, _, rfl, _, _, rfl, rfl, _, rfl, _, _, rfl, rfl, _, _, rfl, rfl, (by show 0 < ph + 1 - (1 + m0 / 3 % ph); omega), _, _, rfl, rfl, ?_⟩
      have b2 := mod_in (m0 / 64) (show 0 < ph + 1 - (1 + m0 / 3 % ph) by omega)
      have at_ : ∀ {α : Type} (zs : List α) (f : α → V) (hz : zs.length = n), atI (zs.map f) (0 + (i : Int)) = some (f (zs[i]'(by omega))) := fun {α} zs f hz => by
        rw [Int.zero_add]
        exact atI_nat (by rw [List.getElem?_map, List.getElem?_eq_getElem (by omega)]; rfl)
      obtain ⟨sd, esd, hsd⟩ := sd_at m0
      have mem_ : ∀ p ∈ ps, p.nm ≠ nms[i]'(by omega) ∧ p.x ≠ xs[i]'(by omega) ∧ p.y ≠ ys[i]'(by omega) := fun p hp => by
        have no : ∀ {α : Type} {zs : List α} (hz : i < zs.length), zs.Nodup → ∀ z ∈ zs.take i, z ≠ zs[i] := fun {α} {zs} hz nd z hm e => by
          have h1 := List.take_append_drop i zs
          rw [List.drop_eq_getElem_cons hz] at h1
          rw [← h1, List.nodup_append] at nd
          exact nd.2.2 z hm _ List.mem_cons_self e
        refine ⟨no _ ndn _ ?_, no _ ndx _ ?_, no _ ndy _ ?_⟩
        · rw [← pn]; exact List.mem_map.mpr ⟨p, hp, rfl⟩
        · rw [← px]; exact List.mem_map.mpr ⟨p, hp, rfl⟩
        · rw [← py]; exact List.mem_map.mpr ⟨p, hp, rfl⟩
      have bxi := bx (xs[i]'(by omega)) (List.getElem_mem _)
      have byi := by_ (ys[i]'(by omega)) (List.getElem_mem _)
      refine ⟨_, rfl, a, dx6, _, rfl, hp6, lk_no (by decide +kernel), _, rfl, _, rfl, ln, _, _, _, rfl, rfl, SqL.of g1, at_ nms V.str ln2, _, rfl, _, rfl, lx, _, _, _, rfl, rfl, SqL.of g2, at_ xs V.int lx2, _, rfl, _, rfl, ly, _, _, _, rfl, rfl, SqL.of g3, at_ ys V.int ly2, (by show 3 ≤ sizeLine; decide), fun q3 hq3 => ?_⟩
      have s8 : Same H6 (upd H6 q3 (.lst [.str "left", .str "both", .str "right"])) := same_upd (Same.refl _) hq3
      refine ⟨_, rfl, _, _, rfl, rfl, (by show (0 : Int) < 3; decide), q3, _, _, .str sd, rfl, rfl, SqL.of upd_same, esd, _, rfl, _, rfl, ?_⟩
      refine ⟨a, dp, do_, w, ph, ps, nms[i]'(by omega), xs[i]'(by omega), ys[i]'(by omega), sd, 1 + m0 / 3 % ph, 1 + m0 / 3 % ph + m0 / 64 % (ph + 1 - (1 + m0 / 3 % ph)), .int _, rfl, Pic.same s8 pic6, .inr rfl, isn _ (List.getElem_mem _), bxi.1, bxi.2, byi.1, byi.2, hsd, by omega, by omega, by omega, mem_, by omega, fun H7 k7 pic7 => ?_⟩
      obtain ⟨kvs, hk, _⟩ := pic6.pl
      have tk : ∀ {α : Type} {zs : List α} (hz : i < zs.length), zs.take (i + 1) = zs.take i ++ [zs[i]] := fun {α} {zs} hz => by
        rw [List.take_add_one, List.getElem?_eq_getElem hz]
        rfl
      refine ⟨_, _, _, _, _, _, _, rfl, fun b u e => k7 b u (ne_of_none e fdp) (s8 _ _ (s7 b u e)), k7 _ _ (ne_of g1 hk (fun z => nomatch z)) (s8 _ _ g1), k7 _ _ (ne_of g2 hk (fun z => nomatch z)) (s8 _ _ g2), k7 _ _ (ne_of g3 hk (fun z => nomatch z)) (s8 _ _ g3), pic7, k7 _ _ (ne_of hdt6 hk (fun z => nomatch z)) (s8 _ _ hdt6), by simp [pl], ?_, ?_, ?_, fun p hp => ?_⟩
      · rw [List.map_append, pn, tk (by omega)]; rfl
      · rw [List.map_append, px, tk (by omega)]; rfl
      · rw [List.map_append, py, tk (by omega)]; rfl
      · rcases List.mem_append.mp hp with z | z
        · exact pok p z
        · rw [List.mem_singleton.mp z]
          exact ⟨isn _ (List.getElem_mem _), bxi.1, bxi.2, byi.1, byi.2, hsd, by show (1 : Int) ≤ 1 + m0 / 3 % ph; omega, by show 1 + m0 / 3 % ph ≤ 1 + m0 / 3 % ph + m0 / 64 % (ph + 1 - (1 + m0 / 3 % ph)); omega, by show 1 + m0 / 3 % ph + m0 / 64 % (ph + 1 - (1 + m0 / 3 % ph)) ≤ ph; omega⟩
    · rintro σ H6 ⟨v9, v10, v11, v12, v13, v14, ps, rfl, s7, g1, g2, g3, pic6, hdt6, pl, pn, px, py, pok⟩
      have pl' : ps.length = n := by simpa using pl
      have tkn : ∀ {α : Type} {zs : List α}, zs.length = n → zs.take ((n : Int).toNat) = zs := fun {α} {zs} hz => by
        rw [List.take_of_length_le (by omega)]
      rw [tkn ln2] at pn
      rw [tkn lx2] at px
      rw [tkn ly2] at py
      refine ⟨_, rfl, _, _, rfl, rfl, 1, ph + 1, rfl, ⟨by decide, by decide, by omega, by omega⟩, ?_⟩
      refine for_range (Pv := fun j σ H7 => ∃ (v13 v14 : Option V) (st : List Seat), σ = [some (.ref sc), some (.int w), some (.int ph), some (.int m), some (.int (1 + c1' / 8 % m)), some (.ref ln), some (.ref lx), some (.ref ly), some (.ref a), v9, v10, v11, v12, v13, v14] ∧ Same H H7 ∧ H7 ln = some (.lst (nms.map V.str)) ∧ H7 lx = some (.lst (xs.map V.int)) ∧ H7 ly = some (.lst (ys.map V.int)) ∧
        Pic t H7 a dp do_ w ph ps ∧ Sts H7 do_ st ∧ st.length ≤ 2 * j ∧ ∀ s ∈ st, 1 ≤ s.2 ∧ s.2 ≤ (j : Int)) ?_ ?_ ?_
      · exact ⟨_, _, [], rfl, s7, g1, g2, g3, pic6, ⟨[], hdt6, rfl, List.nodup_nil, by decide⟩, Nat.le_refl _, fun s hs => (nomatch hs)⟩
      · rintro j σ H7 hj ⟨v13, v14, st, rfl, s7', g1', g2', g3', pic7, st7, sl7, sb7⟩
        have hj' : (j : Int) < ph := by omega
        refine ⟨(by show 2 ≤ sizeLine; decide), fun le hle => ?_⟩
        have s8 : Same H7 (upd H7 le (.lst [.str (Str.ofString "left"), .str (Str.ofString "right")])) := same_upd (Same.refl _) hle
        have g8 : upd H7 le (.lst [.str (Str.ofString "left"), .str (Str.ofString "right")]) le = some (.lst [.str (Str.ofString "left"), .str (Str.ofString "right")]) := upd_same
        revert s8 g8
        generalize upd H7 le (.lst [.str (Str.ofString "left"), .str (Str.ofString "right")]) = H8
        intro s8 g8
        refine ⟨le, rfl, ⟨_, SqL.of g8⟩, ?_⟩
        refine for_list (xs := [.str (Str.ofString "left"), .str (Str.ofString "right")]) (Pv := fun i σ H9 => ∃ (v14 : Option V) (st : List Seat), σ = [some (.ref sc), some (.int w), some (.int ph), some (.int m), some (.int (1 + c1' / 8 % m)), some (.ref ln), some (.ref lx), some (.ref ly), some (.ref a), v9, v10, v11, v12, some (.int (1 + (j : Int))), v14] ∧ Same H H9 ∧ H9 ln = some (.lst (nms.map V.str)) ∧ H9 lx = some (.lst (xs.map V.int)) ∧ H9 ly = some (.lst (ys.map V.int)) ∧ H9 le = some (.lst [.str (Str.ofString "left"), .str (Str.ofString "right")]) ∧
          Pic t H9 a dp do_ w ph ps ∧ Sts H9 do_ st ∧ st.length ≤ 2 * j + i ∧ ∀ s ∈ st, 1 ≤ s.2 ∧ (s.2 ≤ (j : Int) ∨ (s.2 = 1 + (j : Int) ∧ (if s.1 then 0 else 1) < i))) ?_ ?_ ?_ ?_
        · exact ⟨_, st, rfl, s7'.trans s8, s8 _ _ g1', s8 _ _ g2', s8 _ _ g3', g8, Pic.same s8 pic7, st7.same s8, sl7, fun s hs => ⟨(sb7 s hs).1, .inl (sb7 s hs).2⟩⟩
        · rintro i σ H9 _ ⟨v14, st, rfl, _, _, _, _, e9, _⟩
          exact SqL.of e9
        · rintro i x σ H9 hx ⟨v14, st, rfl, s9, e1, e2, e3, e9, pic9, st9, sl9, sb9⟩
          have hi : i < 2 := by
            have := (List.getElem?_eq_some_iff.mp hx).1
            simpa using this
          obtain ⟨sb, esb, isb⟩ : ∃ sb : Bool, x = .str (sideW sb) ∧ (if sb then 0 else 1) = i := by
            have : i = 0 ∨ i = 1 := by omega
            rcases this with e | e <;> subst e
            · exact ⟨true, (Option.some.inj hx).symm, rfl⟩
            · exact ⟨false, (Option.some.inj hx).symm, rfl⟩
          subst esb
          obtain ⟨dx9, hp9⟩ := pic9.ins
          have up : ∀ s ∈ st, 1 ≤ s.2 ∧ (s.2 ≤ (j : Int) ∨ (s.2 = 1 + (j : Int) ∧ (if s.1 then 0 else 1) < i + 1)) := fun s hs => ⟨(sb9 s hs).1, by
            rcases (sb9 s hs).2 with z | ⟨z1, z2⟩
            · exact .inl z
            · exact .inr ⟨z1, Nat.lt_succ_of_lt z2⟩⟩
          refine ⟨_, ?_, fun _ _ z => z⟩
          refine ⟨_, rfl, sc, ns, 4, rfl, s9.seqL hs, by decide, by decide, fun c4 => ?_⟩
          refine ⟨_, rfl, _, _, rfl, rfl, .inl ⟨by decide, by decide⟩, _, rfl, rfl, .inr ⟨_, rfl, _, _, rfl, rfl, c4, _, rfl, fun mm _ _ => ?_⟩⟩
          refine ⟨_, _, rfl, rfl, (by show (0 : Int) < 4; decide), _, _, rfl, rfl, _, rfl, ite2 (fun y => ?_) (fun y => ⟨_, st, rfl, s9, e1, e2, e3, e9, pic9, st9, by omega, up⟩)⟩
          have nin : (sb, 1 + (j : Int)) ∉ st := fun hm => by
            rcases (sb9 _ hm).2 with z | ⟨_, z⟩
            · have z : 1 + (j : Int) ≤ (j : Int) := z
              omega
            · have z : (if sb then 0 else 1) < i := z
              omega
          obtain ⟨ko, hko, _⟩ := id st9
          refine ⟨_, rfl, a, dx9, _, rfl, hp9, lk_no (by decide +kernel), _, rfl, _, rfl, a, dp, do_, w, ph, ps, st, sb, 1 + (j : Int), rfl, pic9, st9, by omega, by omega, nin, by omega, fun H10 k10 pc10 st10 => ?_⟩
          refine ⟨_, st ++ [(sb, 1 + (j : Int))], rfl, fun c u e => k10 _ _ (ne_of_none e fdo) (s9 _ _ e), k10 _ _ (ne_of e1 hko (fun z => nomatch z)) e1, k10 _ _ (ne_of e2 hko (fun z => nomatch z)) e2, k10 _ _ (ne_of e3 hko (fun z => nomatch z)) e3, k10 _ _ (ne_of e9 hko (fun z => nomatch z)) e9, pc10, st10, by rw [List.length_append, List.length_singleton]; omega, fun s hs => ?_⟩
          rcases List.mem_append.mp hs with z | z
          · exact up s z
          · rw [List.mem_singleton.mp z]
            exact ⟨by show (1 : Int) ≤ 1 + (j : Int); omega, .inr ⟨rfl, by show (if sb then 0 else 1) < i + 1; omega⟩⟩
        · rintro σ H9 ⟨v14, st, rfl, s9, e1, e2, e3, e9, pic9, st9, sl9, sb9⟩
          refine ⟨_, _, st, rfl, s9, e1, e2, e3, pic9, st9, ?_, fun s hs => ⟨(sb9 s hs).1, ?_⟩⟩
          · have sl9 : st.length ≤ 2 * j + 2 := sl9
            omega
          · rcases (sb9 s hs).2 with z | ⟨z, _⟩ <;> omega
      · rintro σ H7 ⟨v13, v14, st, rfl, s7', g1', g2', g3', pic7, st7, sl7, sb7⟩
        refine ⟨_, rfl, _, rfl, _, rfl, (n : Int), (by show [V.int (1 + c1' / 8 % m)] = _; rw [hn]), by omega, by omega, fun l hl => ?_⟩
        refine comp_range (Nat.lt_of_le_of_lt (by omega : _ ≤ 1000) (by decide)) hl (fun _ _ _ => True) (fun _ _ _ _ _ _ => trivial) (fun i H8 hi s8 N hN => ?_) (fun zs H8 s8 e8 _ _ => ?_)
        · have hi' : i < n := by simpa using hi
          have at_ : ∀ {α : Type} (zs : List α) (f : α → V) (hz : zs.length = n), atI (zs.map f) (0 + (i : Int)) = some (f (zs[i]'(by omega))) := fun {α} zs f hz => by
            rw [Int.zero_add]
            exact atI_nat (by rw [List.getElem?_map, List.getElem?_eq_getElem (by omega)]; rfl)
          exact ⟨_, rfl, _, rfl, lx, _, _, _, rfl, rfl, SqL.of (s8 _ _ g2'), at_ xs V.int lx2, _, rfl, _, rfl, ly, _, _, _, rfl, rfl, SqL.of (s8 _ _ g3'), at_ ys V.int ly2, (by show 2 ≤ sizeLine; decide), fun q3 hq3 => hN _ _ (same_upd (Same.refl _) hq3) trivial⟩
        refine ⟨(by show 3 ≤ sizeLine; decide), fun tp htp => ?_⟩
        have s9 : Same H8 (upd H8 tp (.tup [.ref a, .ref ln, .ref l])) := same_upd (Same.refl _) htp
        have g9 : upd H8 tp (.tup [.ref a, .ref ln, .ref l]) tp = some (.tup [.ref a, .ref ln, .ref l]) := upd_same
        revert s9 g9
        generalize upd H8 tp (.tup [.ref a, .ref ln, .ref l]) = H9
        intro s9 g9
        obtain ⟨w', rfl⟩ := Int.eq_ofNat_of_zero_le (show 0 ≤ w by omega)
        obtain ⟨h', rfl⟩ := Int.eq_ofNat_of_zero_le (show 0 ≤ ph by omega)
        have nds : st.Nodup := st7.choose_spec.2.2.1
        have l32 : st.length ≤ 32 := st7.choose_spec.2.2.2
        obtain ⟨srt, pm, lt⟩ := sorted_of nds
        have s89 := s8.trans s9
        refine q H9 tp a ln l dp do_ w' h' ps st srt (s7'.trans s89) g9 ⟨Pic.same s89 pic7, st7.same s89, ⟨nds, l32, fun s hs => ⟨(sb7 s hs).1, ?_⟩⟩, pm, lt, fun p hp => (pok p hp).nm⟩ ⟨pok, by rw [pn]; exact ndn, by rw [px]; exact ndx, by rw [py]; exact ndy, by omega⟩ ?_
        · have := (sb7 s hs).2
          omega
        · rw [pn]
          exact s89 _ _ g1'
end
end S13
set_option maxRecDepth 100000
set_option maxHeartbeats 4000000
namespace S13
open PySem L2 XL PyProof.Rows
theorem seats_of {H : Hp} {P : Seat → Prop} : ∀ {ys : List V}, (∀ (j : Nat) (y : V), ys[j]? = some y → ∃ q s, y = .ref q ∧ H q = some (.tup (seatV s)) ∧ P s) → ∃ (rs : List Addr) (ss : List Seat), ys = rs.map V.ref ∧ SeatsL H ss rs ∧ ∀ s ∈ ss, P s
  | [], _ => ⟨[], [], rfl, .nil, fun s hs => (nomatch hs)⟩
  | y :: ys, f => by
    obtain ⟨q, s, e, hq, hs⟩ := f 0 y rfl
    obtain ⟨rs, ss, e2, sl, al⟩ := seats_of (P := P) (ys := ys) (fun j y h => f (j + 1) y (by simpa using h))
    exact ⟨q :: rs, s :: ss, by rw [e, e2]; rfl, .cons hq sl, fun z hz => by
      rcases List.mem_cons.mp hz with rfl | hz
      · exact hs
      · exact al z hz⟩
theorem at_mod {α : Type} {f : α → V} {xs : List α} (m : Int) (h : xs ≠ []) : ∃ (j : Nat) (y : α), xs[j]? = some y ∧ atI (xs.map f) (m % (xs.length : Int)) = some (f y) ∧ 0 < (xs.length : Int) := by
  have l0 : 0 < xs.length := List.length_pos_iff.mpr h
  have lp : (0 : Int) < (xs.length : Int) := by omega
  obtain ⟨k0, k1⟩ := mod_in m lp
  obtain ⟨j, hj⟩ := Int.eq_ofNat_of_zero_le k0
  have jl : j < xs.length := by
    rw [hj] at k1
    omega
  exact ⟨j, xs[j], List.getElem?_eq_getElem jl, by rw [hj]; exact atI_nat (by rw [List.getElem?_map, List.getElem?_eq_getElem jl]; rfl), lp⟩
def spLPairs (t : Adr) : Sp := fun vs H Q _ => ∃ (a ln dp do_ : Addr) (c : Int) (w h : Nat) (ps : List Pt) (st ss : List Seat) (names : List Str), vs = [.ref a, .ref ln, .int c] ∧ Dr t H a dp do_ w h ps st ss ∧ PtsOk (w : Int) (h : Int) ps ∧ H ln = some (.lst (names.map V.str)) ∧ (∀ z ∈ names, ∃ p ∈ ps, p.nm = z) ∧ names.length ≤ 12 ∧
  ∀ H' l prs qs, Same H H' → H' l = some (.lst (qs.map V.ref)) → PrsL H' prs qs → prs.length = names.length → (∀ p ∈ prs, p.1 ∈ ps ∧ 1 ≤ p.2.2 ∧ p.2.2 ≤ (h : Int)) → Q (.ref l) H'
section
variable {P : Program} {w : World} {K : PySem.W.Frag} {mg : Str → Option Value} {base : Heap} {t : Adr}
theorem ok_law_pairs (T : Txt w K mg t) : FnOk true P w K mg base (CXo P w) 6 t.f_law_pairs t.d_law_pairs ["_law_picture_here", "_law_names_here", "_law_cell_here"] (spLPairs t) := by
  refine T.F_law_pairs.okn (k := 5) sc_law_pairs (fun vs H Q E h => ?_) (fun cdv A outer s H vs Q E hr h => ?_)
  · obtain ⟨a, ln, dp, do_, c, w', h', ps, st, ss, names, rfl, _⟩ := h
    rfl
  · obtain ⟨a, ln, dp, do_, c, w', h', ps, st, ss, names, rfl, h⟩ := h
    refine ⟨_, pss_cons (ps_set (i := 3) sc_law_pairs.nd rfl (Or.inl rfl) (pe_lst (pa_nil)))
      (pss_cons (ps_for PassesOwn.never rfl (pi_range1 rfl T.n_range (pa_cons (pe_callB call_len_seq rfl T.n_len boot_len (pa_cons (pv 1) (pa_nil))) (pa_nil))) (pg_name (i := 4) sc_law_pairs.nd rfl (Or.inr rfl)) (pss_cons (ps_set (i := 5) sc_law_pairs.nd rfl (Or.inr rfl) (pe_compG rfl (blkG_of (zs := ["_law_name", "_law_side", "_law_row"]) (ys := []) (fr := []) (N0 := ["_law_picture_here", "_law_names_here", "_law_cell_here", "_law_pairs_here", "_law_k", "_law_taken", "_law_good", "_law_side", "_law_row"]) (sc0 := defScope s_law_pairs) (by decide +kernel) rfl rfl rfl) (pi_list (pv 3)) (fun _ _ _ _ _ ow nd => (pg_tup rfl (pgs_cons (pg_name (i := 0) nd rfl (Or.inl (ow _ (by simp))) (Or.inr (ow _ (by simp)))) (pgs_cons (pg_name (i := 1) nd rfl (Or.inl (ow _ (by simp))) (Or.inr (ow _ (by simp)))) (pgs_cons (pg_name (i := 2) nd rfl (Or.inl (ow _ (by simp))) (Or.inr (ow _ (by simp)))) (pgs_nil)))) : PG _ _ (gTup K 3 _))) (gok_tup (goks_cons (by decide) (goks_cons (by decide) (goks_cons (by decide) (goks_nil))))) (fun _ _ _ _ _ => pif_nil) (fun _ _ _ _ _ => pe_tup (pa_cons (pv 1) (pa_cons (pv 2) (pa_nil))))))
      (pss_cons (ps_setcG rfl (blkG_of (zs := ["_law_seat"]) (ys := ["_law_picture_here", "_law_taken", "_law_names_here", "_law_k"]) (fr := [0, 5, 1, 4]) (N0 := ["_law_picture_here", "_law_names_here", "_law_cell_here", "_law_pairs_here", "_law_k", "_law_taken", "_law_good", "_law_side", "_law_row"]) (sc0 := defScope s_law_pairs) (by decide +kernel) rfl rfl rfl) (pi_list (pe_meth0 (pv 0) T.c_Picture T.m_Picture_seats (ok_Picture_seats T) (hr.mono (by decide)) T.b_Picture_seats .nil pass_none)) (fun _ _ _ _ _ ow nd => pg_name (i := 0) nd rfl (Or.inl (ow _ (by simp))) (Or.inr (ow _ (by simp)))) (gok_name (by decide)) (fun _ _ _ _ _ => pif_one (PW.pt (pw_and (pt_val (pe_call (ok_law_may T) (hr.mono (by decide)) rfl T.g_law_may T.F_law_may.kp T.b_law_may .nil pass_none (pa_cons (pv 1) (pa_cons (pe_ix (r := rIxL K) ix_list (pv 3) (pv 4) (fun _ _ => rfl)) (pa_cons (pv 0) (pa_nil)))))) (pw_and1 (pt_cmpR (r := rInV K true) (op_notInV (hu20_of hr)) (pv 0) (pv 2) (by rfl)))))) (fun _ _ _ _ _ => pv 0) (j := 6) rfl (Or.inl rfl))
      (pss_cons (ps_mid (ps_if (pt_cmpR (op_eqV (hu20_of hr)) (pv 6) (pe_lst (pa_nil)) (nomark _)) (pss_one (ps_setcG rfl (blkG_of (zs := ["_law_row"]) (ys := []) (fr := []) (N0 := ["_law_picture_here", "_law_names_here", "_law_cell_here", "_law_pairs_here", "_law_k", "_law_taken", "_law_good", "_law_side", "_law_row"]) (sc0 := defScope s_law_pairs) (by decide +kernel) rfl rfl rfl) (pi_range2 rfl T.n_range (pa_cons (pe_int) (pa_cons (pe_op op_add (pe_fld (pv 0) rfl) (pe_int)) (pa_nil)))) (fun _ _ _ _ _ ow nd => pg_name (i := 0) nd rfl (Or.inl (ow _ (by simp))) (Or.inr (ow _ (by simp)))) (gok_name (by decide)) (fun _ _ _ _ _ => pif_nil) (fun _ _ _ _ _ => pe_tup (pa_cons (pe_str) (pa_cons (pv 0) (pa_nil)))) (j := 6) rfl (Or.inl rfl))) (pss_nil)))
      (pss_cons (ps_asg (pe_ix ix_list (pv 6) (pe_op op_mod (pe_call (ok_law_mix T) (hr.mono (by decide)) rfl T.g_law_mix T.F_law_mix.kp T.b_law_mix .nil pass_none (pa_cons (pv 2) (pa_cons (pv 4) (pa_nil)))) (pe_callB call_len_seq rfl T.n_len boot_len (pa_cons (pv 6) (pa_nil)))) (fun _ _ => rfl)) (pg_tup rfl (pgs_cons (pg_name (i := 7) sc_law_pairs.nd rfl (Or.inl rfl)) (pgs_cons (pg_name (i := 8) sc_law_pairs.nd rfl (Or.inl rfl)) (pgs_nil)))))
      (pss_one (ps_expr (pe_bm PySem.F.plainAttrs_list PySem.F.slot_list_append PySem.F.type_list_append mt_append (pv 3) (pa_cons (pe_tup (pa_cons (pe_ix ix_list (pv 1) (pv 4) (fun _ _ => rfl)) (pa_cons (pv 7) (pa_cons (pv 8) (pa_nil))))) (pa_nil))))))))))
      (pss_one (ps_ret (pv 3)))), ?_⟩
    obtain ⟨dr, pok, hln, nin, n12, q⟩ := h
    have BIG : ∀ {n : Nat}, n ≤ 1000 → n < sizeLine := fun h => Nat.lt_of_le_of_lt h (by decide)
    refine ⟨(by show 0 ≤ sizeLine; decide), fun lp hlp => ?_⟩
    have s1 : Same H (upd H lp (.lst [])) := same_upd (Same.refl _) hlp
    have g1 : upd H lp (.lst []) lp = some (.lst []) := upd_same
    revert s1 g1
    generalize upd H lp (.lst []) = H1
    intro s1 g1
    refine ⟨_, rfl, ln, _, rfl, .inl (SqL.of (s1 _ _ hln)), _, rfl, by rw [List.length_map]; omega, by rw [List.length_map]; omega, ?_⟩
    refine for_range (Pv := fun i σ H2 => ∃ (v4 v5 v6 v7 v8 : Option V) (prs : List Pr) (qs : List Addr), σ = [some (.ref a), some (.ref ln), some (.int c), some (.ref lp), v4, v5, v6, v7, v8] ∧ Same H H2 ∧ H2 lp = some (.lst (qs.map V.ref)) ∧ PrsL H2 prs qs ∧ prs.length = i ∧ ∀ p ∈ prs, p.1 ∈ ps ∧ 1 ≤ p.2.2 ∧ p.2.2 ≤ (h' : Int)) ?_ ?_ ?_
    · exact ⟨_, _, _, _, _, [], [], rfl, s1, g1, .nil, rfl, fun p hp => (nomatch hp)⟩
    · rintro k σ H2 hk ⟨v4, v5, v6, v7, v8, prs, qs, rfl, s2, e2, pl2, pn, pal⟩
      have hk' : k < names.length := by simpa using hk
      have qll := pl2.len
      obtain ⟨p, pin, pe⟩ := nin names[k] (List.getElem_mem hk')
      have at_k : atI (names.map V.str) (0 + (k : Int)) = some (.str p.nm) := by
        rw [Int.zero_add, pe]
        exact atI_nat (by rw [List.getElem?_map, List.getElem?_eq_getElem hk']; rfl)
      refine ⟨_, rfl, lp, rfl, ⟨_, SqL.of e2⟩, fun l3 hl3 => ?_⟩
      refine comp_list (SqL.of e2) (by rw [List.length_map]; exact BIG (by omega)) hl3 (fun i y H => ∃ q s, y = .ref q ∧ H q = some (.tup (seatV s)) ∧ True) (fun _ _ _ _ tp ⟨q, s, z1, z2, z3⟩ => ⟨q, s, z1, tp _ _ z2, z3⟩) (fun i x H3 hx s3 N hN => ?_) (fun ys H3 s3 e3 ly fy => ?_)
      · rw [List.getElem?_map, Option.map_eq_some_iff] at hx
        obtain ⟨qa, hqa, rfl⟩ := hx
        obtain ⟨pr, hp, hpq⟩ := pl2.get hqa
        refine ⟨qa, _, rfl, SqT.of (s3 _ _ hpq), rfl, _, _, rfl, _, _, rfl, _, _, rfl, rfl, _, rfl, _, rfl, (by show 2 ≤ sizeLine; decide), fun q5 hq5 => ?_⟩
        exact hN _ _ (same_upd (Same.refl _) hq5) ⟨q5, (pr.2.1, pr.2.2), rfl, upd_same, trivial⟩
      obtain ⟨tr, tk, rfl, tsl, _⟩ := seats_of (P := fun _ => True) fy
      have s03 := s2.trans s3
      have dr3 := dr.same s03
      obtain ⟨⟨dx, hp3⟩, _⟩ := id dr3.pic
      refine ⟨_, rfl, a, dx, _, rfl, hp3, lk_no (by decide +kernel), a, dp, do_, w', h', ps, st, rfl, dr3.pic, dr3.sts, fun l4 ss4 us hl4 sl4 pm' lt' => ?_⟩
      obtain rfl : ss4 = ss := perm_sorted seatLt_as (pm'.trans dr.pm.symm) lt' dr.lt
      have s4 : Same H3 (upd H3 l4 (.lst (us.map V.ref))) := same_upd (Same.refl _) hl4
      have g4 : upd H3 l4 (.lst (us.map V.ref)) l4 = some (.lst (us.map V.ref)) := upd_same
      revert s4 g4
      generalize upd H3 l4 (.lst (us.map V.ref)) = H4
      intro s4 g4
      have sl4' := sl4.keep (Same.tups s4)
      have usl := sl4.len
      have ssl : ss4.length ≤ 32 := by
        rw [dr.pm.length_eq]
        exact dr.ok.2.1
      refine ⟨l4, rfl, ⟨_, SqL.of g4⟩, fun l5 hl5 => ?_⟩
      refine comp_listF (SqL.of g4) (by rw [List.length_map]; exact BIG (by omega)) hl5 (fun i => (ss4[i]?).elim false fun s => (decide (s ∈ ss4) && wantB p s) && !(tk.map seatD).any fun z => dEq z (seatD s)) (fun i y H => ∃ q s, y = .ref q ∧ H q = some (.tup (seatV s)) ∧ s ∈ ss4) (fun _ _ _ _ tp ⟨q, s, z1, z2, z3⟩ => ⟨q, s, z1, tp _ _ z2, z3⟩) (fun i x H5 hx s5 N M hN hM => ?_) (fun ys5 H5 s5 e5 ly5 fy5 => ?_)
      · rw [List.getElem?_map, Option.map_eq_some_iff] at hx
        obtain ⟨qa, hqa, rfl⟩ := hx
        obtain ⟨s, hs, hsq⟩ := sl4'.get hqa
        have s05 := (s03.trans s4).trans s5
        refine ⟨_, rfl, _, rfl, _, rfl, ln, _, _, _, rfl, rfl, SqL.of (s05 _ _ hln), at_k, _, rfl, a, qa, dp, do_, w', h', ps, st, ss4, p, s, rfl, dr.same s05, pok, pin, s5 _ _ hsq, fun H6 s6 => ⟨_, rfl, ite2 (fun y => ?_) (fun y => ?_)⟩⟩
        · have s36 := (s4.trans s5).trans s6
          refine ⟨_, rfl, _, rfl, 1, 2, seatD s, _, dv_seat (s6 _ _ (s5 _ _ hsq)), (tsl.keep (Same.tups s36)).dv (s36 _ _ e3), by decide, by decide, _, rfl, ite2 (fun y2 => ?_) (fun y2 => ?_)⟩
          · exact ⟨_, rfl, hN _ _ s6 (by rw [hs]; show (_ && _) = true; rw [y, Bool.true_and]; simpa using y2) ⟨qa, s, rfl, s6 _ _ (s5 _ _ hsq), List.mem_of_getElem? hs⟩⟩
          · exact hM _ s6 (by rw [hs]; show (_ && _) = false; rw [y, Bool.true_and]; exact Bool.eq_false_iff.mpr y2)
        · exact hM _ s6 (by rw [hs]; show (_ && _) = false; rw [Bool.eq_false_iff.mpr y, Bool.false_and])
      obtain ⟨gr, gs, rfl, gsl, gin⟩ := seats_of (P := fun s => s ∈ ss4) (H := H5) (ys := ys5) (fun j y hy => by
        have hj := (List.getElem?_eq_some_iff.mp hy).1
        rw [ly5] at hj
        exact fy5 j y _ hy (List.getElem?_eq_getElem hj))
      have s45 := s4.trans s5
      have s05 := s03.trans s45
      have gl : gs.length ≤ 32 := by
        have z := gsl.len
        rw [List.length_map, List.length_map] at ly5
        have := List.length_filter_le (fun i => (ss4[i]?).elim false fun s => (decide (s ∈ ss4) && wantB p s) && !(tk.map seatD).any fun z => dEq z (seatD s)) (List.range us.length)
        rw [List.length_range] at this
        omega
      refine ⟨fun σ H6 => ∃ (l6 : Addr) (rs : List Addr) (gs : List Seat) (v7 v8 : Option V), σ = [some (.ref a), some (.ref ln), some (.int c), some (.ref lp), some (.int (0 + (k : Int))), some (.ref l3), some (.ref l6), v7, v8] ∧ Same H5 H6 ∧ H6 l6 = some (.lst (rs.map V.ref)) ∧ SeatsL H6 gs rs ∧ rs ≠ [] ∧ ∀ s ∈ gs, 1 ≤ s.2 ∧ s.2 ≤ (h' : Int), ?_, ?_⟩
      · refine ⟨_, rfl, (by show 0 ≤ sizeLine; decide), fun l6 hl6 => ?_⟩
        have s6 : Same H5 (upd H5 l6 (.lst [])) := same_upd (Same.refl _) hl6
        have g6 : upd H5 l6 (.lst []) l6 = some (.lst []) := upd_same
        revert s6 g6
        generalize upd H5 l6 (.lst []) = H6
        intro s6 g6
        refine ⟨2, 2, _, _, (gsl.keep (Same.tups s6)).dv (s6 _ _ e5), (SeatsL.nil (H := H6)).dv g6, by decide, by decide, ?_⟩
        have inb : ∀ s ∈ ss4, 1 ≤ s.2 ∧ s.2 ≤ (h' : Int) := fun s hs => dr.ok.2.2 s (dr.pm.mem_iff.mp hs)
        rcases gs with _ | ⟨g0, gt⟩
        · refine ⟨_, rfl, ite2 (fun y => ?_) (fun y => absurd (dEq_refl _) y)⟩
          have dr6 := dr.same (s05.trans s6)
          obtain ⟨⟨dx6, hp6⟩, _⟩ := id dr6.pic
          have hh1 := dr.pic.h1
          have hh2 := dr.pic.h2
          refine ⟨_, rfl, a, _, _, _, _, rfl, hp6, T.c_Picture, T.n_Picture_height, lkH, _, _, rfl, rfl, 1, (h' : Int) + 1, rfl, ⟨by decide, by decide, by omega, by omega⟩, fun l7 hl7 => ?_⟩
          have hh : ((h' : Int) + 1 - 1).toNat = h' := by omega
          refine comp_range (Nat.lt_of_le_of_lt (by omega : _ ≤ 1000) (by decide)) hl7 (fun i y H5 => ∃ q s, y = .ref q ∧ H5 q = some (.tup (seatV s)) ∧ 1 ≤ s.2 ∧ s.2 ≤ (h' : Int)) (fun i y H5 H6 tp ⟨q, s, e, f, g⟩ => ⟨q, s, e, tp _ _ f, g⟩) (fun i H7 hi s7 N hN => ?_) (fun ys7 H7 s7 e7 ly7 fy7 => ?_)
          · exact ⟨_, rfl, (by show 2 ≤ sizeLine; decide), fun p hp => hN _ _ (same_upd (Same.refl _) hp) ⟨p, (true, 1 + (i : Int)), rfl, upd_same, by show (1 : Int) ≤ 1 + (i : Int); omega, by show 1 + (i : Int) ≤ _; omega⟩⟩
          obtain ⟨hr_, hs_, rfl, hsl, hin⟩ := seats_of (P := fun s => 1 ≤ s.2 ∧ s.2 ≤ (h' : Int)) fy7
          rw [hh, List.length_map] at ly7
          exact ⟨l7, hr_, hs_, _, _, rfl, s6.trans s7, e7, hsl, fun z => by rw [z] at ly7; simp at ly7; omega, hin⟩
        · refine ⟨_, rfl, ite2 (fun y => ?_) (fun y => ?_)⟩
          · exact absurd y (by simp [dEq, dEqs])
          · exact ⟨l5, gr, g0 :: gt, _, _, rfl, s6, s6 _ _ e5, gsl.keep (Same.tups s6), (fun z => by rw [z] at gsl; cases gsl), fun s hs => inb s (gin s hs)⟩
      · rintro σ H6 ⟨l6, rs, gs, v7, v8, rfl, s6, e6, sl6, ne6, in6⟩
        refine ⟨_, rfl, _, rfl, _, rfl, c, _, rfl, fun m _ _ => ?_⟩
        obtain ⟨j, qa, hj, hat, hpos⟩ := at_mod (f := V.ref) m ne6
        obtain ⟨s, hs, hsq⟩ := sl6.get hj
        refine ⟨_, rfl, l6, _, rfl, .inl (SqL.of e6), _, _, rfl, rfl, (by show (0 : Int) < ((rs.map V.ref).length : Int); rw [List.length_map]; exact hpos), l6, _, _, .ref qa, rfl, rfl, SqL.of e6, (by rw [List.length_map]; exact hat), ?_⟩
        refine ⟨qa, _, rfl, SqT.of hsq, rfl, _, _, rfl, _, _, rfl, rfl, ?_⟩
        have s26 := (s3.trans s45).trans s6
        have s06 := s2.trans s26
        have hlp6 := s26 _ _ e2
        refine ⟨_, rfl, .inl ⟨rfl, _, SqL.of hlp6⟩, _, rfl, _, rfl, ln, _, _, _, rfl, rfl, SqL.of (s06 _ _ hln), at_k, _, rfl, _, rfl, (by show 3 ≤ sizeLine; decide), fun qn hqn => ?_⟩
        have s7 : Same H6 (upd H6 qn (.tup [.str p.nm, .str (sideW s.1), .int s.2])) := same_upd (Same.refl _) hqn
        have g7 : upd H6 qn (.tup [.str p.nm, .str (sideW s.1), .int s.2]) qn = some (.tup [.str p.nm, .str (sideW s.1), .int s.2]) := upd_same
        revert s7 g7
        generalize upd H6 qn (.tup [.str p.nm, .str (sideW s.1), .int s.2]) = H7
        intro s7 g7
        have hlp7 := s7 _ _ hlp6
        refine ⟨lp, _, _, rfl, rfl, hlp7, ?_, ?_⟩
        · rw [List.length_map]
          exact BIG (by omega)
        have kt : Tups H7 (upd H7 lp (.lst (qs.map V.ref ++ [.ref qn]))) := fun c xs e => by rw [upd_ne (ne_of e hlp7 (fun z => nomatch z))]; exact e
        refine ⟨_, _, _, _, _, prs ++ [(p, s)], qs ++ [qn], rfl, fun b u e => by rw [upd_ne (ne_of_none e hlp)]; exact s7 _ _ (s06 _ _ e), by rw [upd_same, List.map_append]; rfl, ((pl2.keep (Same.tups (s26.trans s7))).keep kt).snoc (kt _ _ g7), by rw [List.length_append, List.length_singleton, pn], fun z hz => ?_⟩
        rcases List.mem_append.mp hz with hz | hz
        · exact pal z hz
        · rw [List.mem_singleton.mp hz]
          exact ⟨pin, in6 s (List.mem_of_getElem? hs)⟩
    · rintro σ H2 ⟨v4, v5, v6, v7, v8, prs, qs, rfl, s2, e2, pl2, pn, pal⟩
      refine ⟨_, rfl, q H2 lp prs qs s2 e2 pl2 ?_ pal⟩
      rw [pn, List.length_map]
      omega
end
end S13
set_option maxRecDepth 100000
set_option maxHeartbeats 4000000
namespace S13
open PySem L2 XL PyProof.Rows
def prD (p : Pr) : DV := .tup [.str p.1.nm, .str (sideW p.2.1), .int p.2.2]
theorem dv_pr {K : PySem.W.Frag} {H : Hp} {q : Addr} {p : Pr} (h : H q = some (.tup (prV p))) : Dv K H 1 (.ref q) (prD p) := by
  refine .tup (SqT.of h) rfl fun j x d h1 h2 => ?_
  match j, h1, h2 with
  | 0, h1, h2 => cases h1; cases h2; exact .str
  | 1, h1, h2 => cases h1; cases h2; exact .str
  | 2, h1, h2 => cases h1; cases h2; exact .int
  | j + 3, h1, h2 => simp [prV] at h1
theorem PrsL.dv {K : PySem.W.Frag} {H : Hp} {ps : List Pr} {qs : List Addr} (h : PrsL H ps qs) {l : Addr} (e : H l = some (.lst (qs.map V.ref))) : Dv K H 2 (.ref l) (.lst (ps.map prD)) := by
  refine .lst (SqL.of e) (by rw [List.length_map, List.length_map, h.len]) fun j x d h1 h2 => ?_
  rw [List.getElem?_map] at h1 h2
  obtain ⟨q, hq, rfl⟩ := Option.map_eq_some_iff.mp h1
  obtain ⟨p, hp, rfl⟩ := Option.map_eq_some_iff.mp h2
  obtain ⟨p', hp', e'⟩ := h.get hq
  rw [hp] at hp'
  cases hp'
  exact dv_pr e'
theorem PrsL.erase {H : Hp} {ps : List Pr} {qs : List Addr} (h : PrsL H ps qs) (k : Nat) : PrsL H (ps.eraseIdx k) (qs.eraseIdx k) := by
  induction h generalizing k with
  | nil => exact .nil
  | cons h r ih =>
    cases k with
    | zero => exact r
    | succ k => exact .cons h (ih k)
theorem PrsL.set {H : Hp} {ps : List Pr} {qs : List Addr} (h : PrsL H ps qs) {p : Pr} {q : Addr} (e : H q = some (.tup (prV p))) (k : Nat) : PrsL H (ps.set k p) (qs.set k q) := by
  induction h generalizing k with
  | nil => exact .nil
  | cons h r ih =>
    cases k with
    | zero => exact .cons e r
    | succ k => exact .cons h (ih k)
theorem map_erase {α β : Type} (f : α → β) : ∀ (l : List α) (k : Nat), (l.map f).eraseIdx k = (l.eraseIdx k).map f
  | [], _ => rfl
  | _ :: _, 0 => rfl
  | x :: r, k + 1 => by
    show f x :: (r.map f).eraseIdx k = f x :: (r.eraseIdx k).map f
    rw [map_erase f r k]
theorem ixN_nat {n j : Nat} (h : j < n) : ixN n (j : Int) = some j := by
  unfold ixN
  rw [if_pos (by omega), if_pos (by omega)]
  simp
theorem pop_at {α : Type} (m : Int) {xs : List α} (h : xs ≠ []) (h2 : xs.length ≤ 1000) : ∃ j y, xs[j]? = some y ∧ -(2 ^ 63) ≤ m % (xs.length : Int) ∧ m % (xs.length : Int) < 2 ^ 63 ∧ seqIndex? (m % (xs.length : Int)) xs.length = some j ∧ 0 < (xs.length : Int) := by
  have l0 : 0 < xs.length := List.length_pos_iff.mpr h
  have lp : (0 : Int) < (xs.length : Int) := by omega
  obtain ⟨k0, k1⟩ := mod_in m lp
  obtain ⟨j, hj⟩ := Int.eq_ofNat_of_zero_le k0
  have jl : j < xs.length := by
    have z := k1
    rw [hj] at z
    omega
  exact ⟨j, xs[j], List.getElem?_eq_getElem jl, by omega, by omega, by rw [seqIndex_of k0 k1, hj]; rfl, lp⟩
theorem lrAt (b : Int) : ∃ sb : Bool, atI [V.str (Str.ofString "left"), V.str (Str.ofString "right")] (b % 2) = some (.str (sideW sb)) := by
  have m := mod_in b (show (0 : Int) < 2 by decide)
  have : b % 2 = 0 ∨ b % 2 = 1 := by omega
  rcases this with e | e
  · exact ⟨true, by rw [e]; rfl⟩
  · exact ⟨false, by rw [e]; rfl⟩
def PrIn (ps : List Pt) (h : Nat) (prs : List Pr) : Prop := ∀ p ∈ prs, p.1 ∈ ps ∧ 1 ≤ p.2.2 ∧ p.2.2 ≤ (h : Int)
theorem PrIn.set {ps : List Pt} {h : Nat} {prs : List Pr} (o : PrIn ps h prs) {p : Pr} (k : Nat) (hp : p.1 ∈ ps ∧ 1 ≤ p.2.2 ∧ p.2.2 ≤ (h : Int)) : PrIn ps h (prs.set k p) := fun z hz => by
  rcases List.mem_or_eq_of_mem_set hz with hz | rfl
  · exact o z hz
  · exact hp
def spSpoil (t : Adr) : Sp := fun vs H Q _ => ∃ (a lp dp do_ : Addr) (way c : Int) (w h : Nat) (ps : List Pt) (st ss : List Seat) (prs : List Pr) (qs : List Addr), vs = [.ref a, .ref lp, .int way, .int c] ∧ Dr t H a dp do_ w h ps st ss ∧ H lp = some (.lst (qs.map V.ref)) ∧ PrsL H prs qs ∧ prs.length ≤ 12 ∧ PrIn ps h prs ∧
  ∀ H' l prs' qs', Same H H' → H' l = some (.lst (qs'.map V.ref)) → PrsL H' prs' qs' → prs'.length ≤ 12 → PrIn ps h prs' → Q (.ref l) H'
section
variable {P : Program} {w : World} {K : PySem.W.Frag} {mg : Str → Option Value} {base : Heap} {t : Adr}
theorem ok_law_spoiled (T : Txt w K mg t) : FnOk true P w K mg base (CXo P w) 2 t.f_law_spoiled t.d_law_spoiled ["_law_picture_here", "_law_pairs_here", "_law_way", "_law_cell_here"] (spSpoil t) := by
  refine T.F_law_spoiled.okn (k := 1) sc_law_spoiled (fun vs H Q E h => ?_) (fun cdv A outer s H vs Q E hr h => ?_)
  · obtain ⟨a, lp, dp, do_, way, c, w', h', ps, st, ss, prs, qs, rfl, _⟩ := h
    rfl
  · obtain ⟨a, lp, dp, do_, way, c, w', h', ps, st, ss, prs, qs, rfl, h⟩ := h
    refine ⟨_, pss_cons (ps_mid (ps_if (pt_cmpR (op_eqV (hu20_of hr)) (pv 1) (pe_lst (pa_nil)) (nomark _)) (pss_one (ps_ret (pv 1))) (pss_nil)))
      (pss_cons (ps_set (i := 4) sc_law_spoiled.nd rfl (Or.inl rfl) (pe_op op_mod (pv 3) (pe_callB call_len_seq rfl T.n_len boot_len (pa_cons (pv 1) (pa_nil)))))
      (pss_cons (ps_set (i := 5) sc_law_spoiled.nd rfl (Or.inl rfl) (pe_op op_mod (pe_op op_fdiv (pv 3) (pe_int)) (pe_callB call_len_seq rfl T.n_len boot_len (pa_cons (pv 1) (pa_nil)))))
      (pss_cons (ps_set (i := 6) sc_law_spoiled.nd rfl (Or.inl rfl) (pe_callTy call_list_of rfl T.n_list boot_list (pa_cons (pv 1) (pa_nil))))
      (pss_cons (ps_mid (ps_if (pt_cmpR op_eq (pv 2) (pe_int) (nomark _)) (pss_one (ps_expr (pe_bm PySem.F.plainAttrs_list PySem.F.slot_list_pop PySem.F.type_list_pop mt_popAt (pv 6) (pa_cons (pv 4) (pa_nil))))) (pss_nil)))
      (pss_cons (ps_mid (ps_if (pt_cmpR op_eq (pv 2) (pe_int) (nomark _)) (pss_cons (ps_asg (pe_ix ix_list (pv 1) (pv 5) (fun _ _ => rfl)) (pg_sub (pv 6) (pv 4) set_list))
      (pss_one (ps_asg (pe_ix ix_list (pv 1) (pv 4) (fun _ _ => rfl)) (pg_sub (pv 6) (pv 5) set_list)))) (pss_nil)))
      (pss_cons (ps_mid (ps_if (pt_cmpR op_eq (pv 2) (pe_int) (nomark _)) (pss_one (ps_asg (pe_tup (pa_cons (pe_ix ix_tup (pe_ix ix_list (pv 1) (pv 4) (fun _ _ => rfl)) (pe_int) (fun _ _ => rfl)) (pa_cons (pe_ix ix_tup (pe_ix ix_list (pv 1) (pv 5) (fun _ _ => rfl)) (pe_int) (fun _ _ => rfl)) (pa_cons (pe_ix ix_tup (pe_ix ix_list (pv 1) (pv 5) (fun _ _ => rfl)) (pe_int) (fun _ _ => rfl)) (pa_nil))))) (pg_sub (pv 6) (pv 4) set_list))) (pss_nil)))
      (pss_cons (ps_mid (ps_if (pt_cmpR op_eq (pv 2) (pe_int) (nomark _)) (pss_one (ps_asg (pe_tup (pa_cons (pe_ix ix_tup (pe_ix ix_list (pv 1) (pv 4) (fun _ _ => rfl)) (pe_int) (fun _ _ => rfl)) (pa_cons (pe_ix ix_list (pe_lst (pa_cons (pe_str) (pa_cons (pe_str) (pa_nil)))) (pe_op op_mod (pe_op op_fdiv (pv 3) (pe_int)) (pe_int)) (fun _ _ => rfl)) (pa_cons (pe_op op_add (pe_int) (pe_op op_mod (pe_op op_fdiv (pv 3) (pe_int)) (pe_fld (pv 0) rfl))) (pa_nil))))) (pg_sub (pv 6) (pv 4) set_list))) (pss_nil)))
      (pss_one (ps_ret (pv 6)))))))))), ?_⟩
    obtain ⟨dr, hlp, pl, n12, ok, q⟩ := h
    have qll := pl.len
    refine ⟨fun σ H1 => prs ≠ [] ∧ Same H H1 ∧ ∃ v4 v5 v6 : Option V, σ = [some (.ref a), some (.ref lp), some (.int way), some (.int c), v4, v5, v6], ?_, ?_⟩
    · refine ⟨_, rfl, (by show 0 ≤ sizeLine; decide), fun l1 hl1 => ?_⟩
      have s1 : Same H (upd H l1 (.lst [])) := same_upd (Same.refl _) hl1
      have g1 : upd H l1 (.lst []) l1 = some (.lst []) := upd_same
      revert s1 g1
      generalize upd H l1 (.lst []) = H1
      intro s1 g1
      refine ⟨2, 1, .lst (prs.map prD), .lst [], (pl.keep (Same.tups s1)).dv (s1 _ _ hlp), .lst (SqL.of g1) rfl (fun j x d h1 h2 => by simp at h1), by decide, by decide, _, rfl, ite2 (fun c1 => ?_) (fun c1 => ?_)⟩
      · exact ⟨_, rfl, q H1 lp prs qs s1 (s1 _ _ hlp) (pl.keep (Same.tups s1)) n12 ok⟩
      · exact ⟨fun z => c1 (by rw [z]; exact dEq_refl _), s1, _, _, _, rfl⟩
    rintro σ H1 ⟨pne, s1, v4, v5, v6, rfl⟩
    have hlp1 := s1 _ _ hlp
    have pl1 := pl.keep (Same.tups s1)
    have qne : qs ≠ [] := fun z => pne (by rw [z] at pl; cases pl; rfl)
    have lm : ((qs.map V.ref).length : Int) = (qs.length : Int) := by rw [List.length_map]
    have lpos : (0 : Int) < (qs.length : Int) := by have := List.length_pos_iff.mpr qne; omega
    refine ⟨_, rfl, _, rfl, lp, _, rfl, .inl (SqL.of hlp1), _, _, rfl, rfl, (by show (0 : Int) < ((qs.map V.ref).length : Int); rw [lm]; exact lpos), ?_⟩
    refine ⟨_, rfl, _, _, rfl, rfl, ⟨by decide, by decide⟩, _, rfl, lp, _, rfl, .inl (SqL.of hlp1), _, _, rfl, rfl, (by show (0 : Int) < ((qs.map V.ref).length : Int); rw [lm]; exact lpos), ?_⟩
    refine ⟨_, rfl, lp, _, rfl, .inl (SqL.of hlp1), fun lf hlf => ?_⟩
    have s2 : Same H1 (upd H1 lf (.lst (qs.map V.ref))) := same_upd (Same.refl _) hlf
    have g2 : upd H1 lf (.lst (qs.map V.ref)) lf = some (.lst (qs.map V.ref)) := upd_same
    revert s2 g2
    generalize upd H1 lf (.lst (qs.map V.ref)) = H2
    intro s2 g2
    have s02 := s1.trans s2
    have flf : H lf = none := s1.free hlf
    have nlf : lp ≠ lf := ne_of_none hlp1 hlf
    obtain ⟨ja, qa, hja, hata, _⟩ := at_mod (f := V.ref) c qne
    obtain ⟨jt, qt, hjt, hatt, _⟩ := at_mod (f := V.ref) (c / 12) qne
    obtain ⟨pa, hpa, hqa⟩ := pl1.get hja
    obtain ⟨pt, hpt, hqt⟩ := pl1.get hjt
    have ix_ : ∀ (m : Int) (j : Nat) (x : Addr), atI (qs.map V.ref) (m % (qs.length : Int)) = some (V.ref x) → ∃ j', j' < qs.length ∧ m % (qs.length : Int) = (j' : Int) := fun m j x _ => by
      obtain ⟨k0, k1⟩ := mod_in m lpos
      obtain ⟨j', e⟩ := Int.eq_ofNat_of_zero_le k0
      exact ⟨j', by rw [e] at k1; omega, e⟩
    obtain ⟨ia, ila, ea⟩ := ix_ c 0 _ hata
    obtain ⟨it, ilt, et⟩ := ix_ (c / 12) 0 _ hatt
    rw [← lm] at ea et hata hatt
    have I0 : ∀ H2, Same H H2 → Same H1 H2 → H2 lp = some (.lst (qs.map V.ref)) ∧ H2 qa = some (.tup (prV pa)) ∧ H2 qt = some (.tup (prV pt)) := fun H2 _ z => ⟨z _ _ hlp1, z _ _ hqa, z _ _ hqt⟩
    refine ⟨fun σ H2 => ∃ (prs' : List Pr) (qs' : List Addr), σ = [some (.ref a), some (.ref lp), some (.int way), some (.int c), some (.int (c % ((qs.map V.ref).length : Int))), some (.int (c / 12 % ((qs.map V.ref).length : Int))), some (.ref lf)] ∧ Same H1 H2 ∧ H2 lf = some (.lst (qs'.map V.ref)) ∧ PrsL H2 prs' qs' ∧ prs'.length ≤ 12 ∧ PrIn ps h' prs' ∧ (way ≠ 1 → prs'.length = prs.length), ?_, ?_⟩
    · refine ⟨_, rfl, rfl, _, rfl, ite2 (fun c1 => ?_) (fun c1 => ?_)⟩
      · have e1 : way = 1 := V.int.inj (of_decide_eq_true c1)
        obtain ⟨j, y, hj, b1, b2, hsi, _⟩ := pop_at c (xs := qs.map V.ref) (by simpa using qne) (by rw [List.length_map]; omega)
        refine ⟨_, rfl, .inl ⟨rfl, _, SqL.of g2⟩, _, rfl, lf, _, _, j, y, rfl, rfl, g2, b1, b2, hsi, hj, ?_⟩
        have kt : Tups H2 (upd H2 lf (.lst ((qs.map V.ref).eraseIdx j))) := fun c xs e => by rw [upd_ne (ne_of e g2 (fun z => nomatch z))]; exact e
        refine ⟨prs.eraseIdx j, qs.eraseIdx j, rfl, fun b u e => by rw [upd_ne (ne_of_none e hlf)]; exact s2 _ _ e, by rw [upd_same, map_erase], ((pl1.keep (Same.tups s2)).keep kt).erase j, Nat.le_trans (List.length_eraseIdx_le _ _) n12, fun p hp => ok p (List.mem_of_mem_eraseIdx hp), fun z => absurd e1 z⟩
      · exact ⟨prs, qs, rfl, s2, g2, pl1.keep (Same.tups s2), n12, ok, fun _ => rfl⟩
    rintro σ H3 ⟨prs3, qs3, rfl, s3, g3, pl3, n3, ok3, w3⟩
    refine ⟨fun σ H2 => ∃ (prs' : List Pr) (qs' : List Addr), σ = [some (.ref a), some (.ref lp), some (.int way), some (.int c), some (.int (c % ((qs.map V.ref).length : Int))), some (.int (c / 12 % ((qs.map V.ref).length : Int))), some (.ref lf)] ∧ Same H1 H2 ∧ H2 lf = some (.lst (qs'.map V.ref)) ∧ PrsL H2 prs' qs' ∧ prs'.length ≤ 12 ∧ PrIn ps h' prs' ∧ (way ≠ 1 → prs'.length = prs.length), ?_, ?_⟩
    · refine ⟨_, rfl, rfl, _, rfl, ite2 (fun c1 => ?_) (fun c1 => ?_)⟩
      · have e1 : way = 2 := V.int.inj (of_decide_eq_true c1)
        have l3 := w3 (by omega)
        have q3l := pl3.len
        have ixa : ixN (qs3.map V.ref).length (c % ((qs.map V.ref).length : Int)) = some ia := by
          rw [ea]
          exact ixN_nat (by rw [List.length_map]; omega)
        have ixt : ixN ((qs3.set ia qt).map V.ref).length (c / 12 % ((qs.map V.ref).length : Int)) = some it := by
          rw [et]
          exact ixN_nat (by rw [List.length_map, List.length_set]; omega)
        refine ⟨_, rfl, _, rfl, lp, _, _, .ref qt, rfl, rfl, SqL.of (s3 _ _ hlp1), hatt, _, rfl, _, rfl, lf, _, _, ia, rfl, rfl, g3, ixa, ?_⟩
        have kt : Tups H3 (upd H3 lf (.lst ((qs3.map V.ref).set ia (.ref qt)))) := fun c xs e => by rw [upd_ne (ne_of e g3 (fun z => nomatch z))]; exact e
        have s4 : Same H1 (upd H3 lf (.lst ((qs3.map V.ref).set ia (.ref qt)))) := fun b u e => by rw [upd_ne (ne_of_none e hlf)]; exact s3 _ _ e
        have g4 : upd H3 lf (.lst ((qs3.map V.ref).set ia (.ref qt))) lf = some (.lst ((qs3.set ia qt).map V.ref)) := by rw [upd_same, List.map_set]
        have pl4 := (pl3.keep kt).set (s4 _ _ hqt) ia
        have ok4 := ok3.set ia (ok pt (List.mem_of_getElem? hpt))
        revert s4 g4 pl4
        generalize upd H3 lf (.lst ((qs3.map V.ref).set ia (.ref qt))) = H4
        intro s4 g4 pl4
        refine ⟨_, rfl, _, rfl, lp, _, _, .ref qa, rfl, rfl, SqL.of (s4 _ _ hlp1), hata, _, rfl, _, rfl, lf, _, _, it, rfl, rfl, g4, ixt, ?_⟩
        have kt5 : Tups H4 (upd H4 lf (.lst (((qs3.set ia qt).map V.ref).set it (.ref qa)))) := fun c xs e => by rw [upd_ne (ne_of e g4 (fun z => nomatch z))]; exact e
        have s5 : Same H1 (upd H4 lf (.lst (((qs3.set ia qt).map V.ref).set it (.ref qa)))) := fun b u e => by rw [upd_ne (ne_of_none e hlf)]; exact s4 _ _ e
        exact ⟨_, (qs3.set ia qt).set it qa, rfl, s5, by rw [upd_same, List.map_set (l := qs3.set ia qt)], (pl4.keep kt5).set (s5 _ _ hqa) it, by rw [List.length_set, List.length_set]; exact n3, ok4.set it (ok pa (List.mem_of_getElem? hpa)), fun _ => by rw [List.length_set, List.length_set]; exact l3⟩
      · exact ⟨prs3, qs3, rfl, s3, g3, pl3, n3, ok3, w3⟩
    rintro σ H4 ⟨prs4, qs4, rfl, s4, g4, pl4, n4, ok4, w4⟩
    refine ⟨fun σ H2 => ∃ (prs' : List Pr) (qs' : List Addr), σ = [some (.ref a), some (.ref lp), some (.int way), some (.int c), some (.int (c % ((qs.map V.ref).length : Int))), some (.int (c / 12 % ((qs.map V.ref).length : Int))), some (.ref lf)] ∧ Same H1 H2 ∧ H2 lf = some (.lst (qs'.map V.ref)) ∧ PrsL H2 prs' qs' ∧ prs'.length ≤ 12 ∧ PrIn ps h' prs' ∧ (way ≠ 1 → prs'.length = prs.length), ?_, ?_⟩
    · refine ⟨_, rfl, rfl, _, rfl, ite2 (fun c1 => ?_) (fun c1 => ?_)⟩
      · have e1 : way = 3 := V.int.inj (of_decide_eq_true c1)
        have l4 := w4 (by omega)
        have q4l := pl4.len
        have ixa : ixN (qs4.map V.ref).length (c % ((qs.map V.ref).length : Int)) = some ia := by
          rw [ea]
          exact ixN_nat (by rw [List.length_map]; omega)
        refine ⟨_, rfl, _, rfl, lp, _, _, .ref qa, rfl, rfl, SqL.of (s4 _ _ hlp1), hata, qa, _, 0, .str pa.1.nm, rfl, rfl, SqT.of (s4 _ _ hqa), rfl, _, rfl, _, rfl, lp, _, _, .ref qt, rfl, rfl, SqL.of (s4 _ _ hlp1), hatt, qt, _, 1, .str (sideW pt.2.1), rfl, rfl, SqT.of (s4 _ _ hqt), rfl, _, rfl, _, rfl, lp, _, _, .ref qt, rfl, rfl, SqL.of (s4 _ _ hlp1), hatt, qt, _, 2, .int pt.2.2, rfl, rfl, SqT.of (s4 _ _ hqt), rfl, (by show 3 ≤ sizeLine; decide), fun qn hqn => ?_⟩
        have s5 : Same H4 (upd H4 qn (.tup [.str pa.1.nm, .str (sideW pt.2.1), .int pt.2.2])) := same_upd (Same.refl _) hqn
        have g5 : upd H4 qn (.tup [.str pa.1.nm, .str (sideW pt.2.1), .int pt.2.2]) qn = some (.tup [.str pa.1.nm, .str (sideW pt.2.1), .int pt.2.2]) := upd_same
        revert s5 g5
        generalize upd H4 qn (.tup [.str pa.1.nm, .str (sideW pt.2.1), .int pt.2.2]) = H5
        intro s5 g5
        have g45 := s5 _ _ g4
        refine ⟨_, rfl, _, rfl, lf, _, _, ia, rfl, rfl, g45, ixa, ?_⟩
        have kt : Tups H5 (upd H5 lf (.lst ((qs4.map V.ref).set ia (.ref qn)))) := fun c xs e => by rw [upd_ne (ne_of e g45 (fun z => nomatch z))]; exact e
        have okt := ok pt (List.mem_of_getElem? hpt)
        exact ⟨_, qs4.set ia qn, rfl, fun b u e => by rw [upd_ne (ne_of_none e hlf)]; exact s5 _ _ (s4 _ _ e), by rw [upd_same, List.map_set], ((pl4.keep (Same.tups s5)).keep kt).set (p := (pa.1, pt.2.1, pt.2.2)) (kt _ _ g5) ia, by rw [List.length_set]; exact n4, ok4.set ia ⟨(ok pa (List.mem_of_getElem? hpa)).1, okt.2⟩, fun _ => by rw [List.length_set]; exact l4⟩
      · exact ⟨prs4, qs4, rfl, s4, g4, pl4, n4, ok4, w4⟩
    rintro σ H5 ⟨prs5, qs5, rfl, s5, g5, pl5, n5, ok5, w5⟩
    refine ⟨fun σ H2 => ∃ (prs' : List Pr) (qs' : List Addr), σ = [some (.ref a), some (.ref lp), some (.int way), some (.int c), some (.int (c % ((qs.map V.ref).length : Int))), some (.int (c / 12 % ((qs.map V.ref).length : Int))), some (.ref lf)] ∧ Same H1 H2 ∧ H2 lf = some (.lst (qs'.map V.ref)) ∧ PrsL H2 prs' qs' ∧ prs'.length ≤ 12 ∧ PrIn ps h' prs', ?_, ?_⟩
    · refine ⟨_, rfl, rfl, _, rfl, ite2 (fun c1 => ?_) (fun c1 => ?_)⟩
      · have e1 : way = 4 := V.int.inj (of_decide_eq_true c1)
        have l5 := w5 (by omega)
        have q5l := pl5.len
        have ixa : ixN (qs5.map V.ref).length (c % ((qs.map V.ref).length : Int)) = some ia := by
          rw [ea]
          exact ixN_nat (by rw [List.length_map]; omega)
        refine ⟨_, rfl, _, rfl, lp, _, _, .ref qa, rfl, rfl, SqL.of (s5 _ _ hlp1), hata, qa, _, 0, .str pa.1.nm, rfl, rfl, SqT.of (s5 _ _ hqa), rfl, (by show 2 ≤ sizeLine; decide), fun lr hlr => ?_⟩
        have s6 : Same H5 (upd H5 lr (.lst [.str (Str.ofString "left"), .str (Str.ofString "right")])) := same_upd (Same.refl _) hlr
        have g6 : upd H5 lr (.lst [.str (Str.ofString "left"), .str (Str.ofString "right")]) lr = some (.lst [.str (Str.ofString "left"), .str (Str.ofString "right")]) := upd_same
        revert s6 g6
        generalize upd H5 lr (.lst [.str (Str.ofString "left"), .str (Str.ofString "right")]) = H6
        intro s6 g6
        obtain ⟨sb, esb⟩ := lrAt (c / 144)
        have dr6 := dr.same (s1.trans (s5.trans s6))
        obtain ⟨⟨dx6, hp6⟩, _⟩ := id dr6.pic
        have hh1 := dr.pic.h1
        refine ⟨_, rfl, _, _, rfl, rfl, ⟨by decide, by decide⟩, _, _, rfl, rfl, (by show (0 : Int) < 2; decide), lr, _, _, .str (sideW sb), rfl, rfl, SqL.of g6, esb, _, rfl, _, _, rfl, rfl, ⟨by decide, by decide⟩, _, rfl, a, _, _, _, _, rfl, hp6, T.c_Picture, T.n_Picture_height, lkH, _, _, rfl, rfl, (by show (0 : Int) < (h' : Int); omega), _, _, rfl, rfl, (by show 3 ≤ sizeLine; decide), fun qn hqn => ?_⟩
        have bm := mod_in (c / 288) (show (0 : Int) < (h' : Int) by omega)
        have s7 : Same H6 (upd H6 qn (.tup (prV (pa.1, sb, 1 + c / 288 % (h' : Int))))) := same_upd (Same.refl _) hqn
        have g7 : upd H6 qn (.tup (prV (pa.1, sb, 1 + c / 288 % (h' : Int)))) qn = some (.tup (prV (pa.1, sb, 1 + c / 288 % (h' : Int)))) := upd_same
        have g57 := s7 _ _ (s6 _ _ g5)
        refine ⟨_, rfl, _, rfl, lf, _, _, ia, rfl, rfl, g57, ixa, ?_⟩
        have kt : Tups (upd H6 qn (.tup (prV (pa.1, sb, 1 + c / 288 % (h' : Int))))) (upd (upd H6 qn (.tup (prV (pa.1, sb, 1 + c / 288 % (h' : Int))))) lf (.lst ((qs5.map V.ref).set ia (.ref qn)))) := fun c xs e => by rw [upd_ne (ne_of e g57 (fun z => nomatch z))]; exact e
        exact ⟨_, qs5.set ia qn, rfl, fun b u e => by rw [upd_ne (ne_of_none e hlf)]; exact s7 _ _ (s6 _ _ (s5 _ _ e)), by rw [upd_same, List.map_set], ((pl5.keep (Same.tups (s6.trans s7))).keep kt).set (p := (pa.1, sb, 1 + c / 288 % (h' : Int))) (kt _ _ g7) ia, by rw [List.length_set]; exact n5, ok5.set ia ⟨(ok pa (List.mem_of_getElem? hpa)).1, by show (1 : Int) ≤ 1 + c / 288 % (h' : Int); omega, by show 1 + c / 288 % (h' : Int) ≤ (h' : Int); omega⟩⟩
      · exact ⟨prs5, qs5, rfl, s5, g5, pl5, n5, ok5⟩
    rintro σ H6 ⟨prs6, qs6, rfl, s6, g6, pl6, n6, ok6⟩
    exact ⟨_, rfl, q H6 lf prs6 qs6 (s1.trans s6) g6 pl6 n6 ok6⟩
end
end S13
set_option maxRecDepth 100000
set_option maxHeartbeats 4000000
namespace S13
open PySem L2 XL PyProof.Rows
def spDue (t : Adr) : Sp := fun vs H Q _ => ∃ (a ln lp dp do_ : Addr) (w h : Nat) (ps : List Pt) (st ss : List Seat) (names : List Str) (prs : List Pr) (qs : List Addr), vs = [.ref a, .ref ln, .ref lp] ∧ Dr t H a dp do_ w h ps st ss ∧ PtsOk (w : Int) (h : Int) ps ∧ H ln = some (.lst (names.map V.str)) ∧ H lp = some (.lst (qs.map V.ref)) ∧ PrsL H prs qs ∧ prs.length ≤ 12 ∧ PrIn ps h prs ∧ ∀ H', Same H H' → Q (.bl (gvB ss names prs)) H'
theorem dueB_true {ss : List Seat} {names : List Str} {prs : List Pr} (e : prs.map (fun p => p.1.nm) = names) (f : ∀ (k : Nat) (p : Pr), prs[k]? = some p → (decide (prS p ∈ ss) && wantB p.1 (prS p)) = true ∧ prS p ∉ (prs.map prS).take k) : gvB ss names prs = true := by
  unfold gvB
  have nd : (prs.map prS).Nodup := by
    rw [List.Nodup, List.pairwise_iff_getElem]
    intro i j hi hj hij z
    rw [List.length_map] at hi hj
    have h2 := (f j prs[j] (List.getElem?_eq_getElem hj)).2
    refine h2 (List.mem_iff_getElem.mpr ⟨i, by rw [List.length_take, List.length_map]; omega, ?_⟩)
    rw [List.getElem_take, z, List.getElem_map]
  rw [decide_eq_true e, decide_eq_true nd, Bool.true_and, Bool.true_and, List.all_eq_true]
  intro p hp
  obtain ⟨k, hk, rfl⟩ := List.mem_iff_getElem.mp hp
  exact (f k _ (List.getElem?_eq_getElem hk)).1
theorem dueB_false {ss : List Seat} {names : List Str} {prs : List Pr} {k : Nat} {p : Pr} (hp : prs[k]? = some p) (f : (decide (prS p ∈ ss) && wantB p.1 (prS p)) = false ∨ prS p ∈ (prs.map prS).take k) : gvB ss names prs = false := by
  rw [Bool.eq_false_iff]
  intro h
  unfold gvB at h
  rw [Bool.and_eq_true, Bool.and_eq_true, decide_eq_true_iff, decide_eq_true_iff, List.all_eq_true] at h
  obtain ⟨_, nd, al⟩ := h
  rcases f with f | f
  · have := al p (List.mem_of_getElem? hp)
    rw [f] at this
    cases this
  · obtain ⟨hk, rfl⟩ := List.getElem?_eq_some_iff.mp hp
    have z := nd
    have hk' : k < (prs.map prS).length := by rw [List.length_map]; exact hk
    rw [← List.take_append_drop k (prs.map prS), List.drop_eq_getElem_cons hk', List.nodup_append] at z
    exact z.2.2 _ f _ (List.mem_cons_self) (by rw [List.getElem_map])
theorem cut_hd (qs : List Addr) (k : Nat) : cutV (qs.map V.ref) none (some (0 + (k : Int))) = (qs.take k).map V.ref := by
  unfold cutV
  rw [Int.zero_add, HT.sIx_nat, HT.sIx_none, List.length_map, ← List.map_drop, ← List.map_take]
  congr 1
  simp only [List.drop_zero, Nat.sub_zero]
  by_cases c : k ≤ qs.length
  · rw [Nat.min_eq_left c]
  · rw [Nat.min_eq_right (by omega), List.take_of_length_le (Nat.le_refl _), List.take_of_length_le (by omega)]
theorem SeatsL.take {H : Hp} {ss : List Seat} {qs : List Addr} (h : SeatsL H ss qs) (k : Nat) : SeatsL H (ss.take k) (qs.take k) := by
  induction h generalizing k with
  | nil => rw [List.take_nil, List.take_nil]; exact .nil
  | cons h _ ih => cases k with
    | zero => exact .nil
    | succ k => exact .cons h (ih k)
section
variable {P : Program} {w : World} {K : PySem.W.Frag} {mg : Str → Option Value} {base : Heap} {t : Adr}
theorem ok_law_due (T : Txt w K mg t) : FnOk true P w K mg base (CXo P w) 5 t.f_law_due t.d_law_due ["_law_picture_here", "_law_names_here", "_law_pairs_here"] (spDue t) := by
  refine T.F_law_due.okn (k := 4) sc_law_due (fun vs H Q E h => ?_) (fun cdv A outer s H vs Q E hr h => ?_)
  · obtain ⟨a, ln, lp, dp, do_, w', h', ps, st, ss, names, prs, qs, rfl, _⟩ := h
    rfl
  · obtain ⟨a, ln, lp, dp, do_, w', h', ps, st, ss, names, prs, qs, rfl, h⟩ := h
    refine ⟨_, pss_cons (ps_if (pt_cmpR (op_neV (hu20_of hr)) (pe_compG rfl (blkG_of (zs := ["_law_name", "_law_side", "_law_row"]) (ys := []) (fr := []) (N0 := ["_law_picture_here", "_law_names_here", "_law_pairs_here", "_law_seats", "_law_k"]) (sc0 := defScope s_law_due) (by decide +kernel) rfl rfl rfl) (pi_list (pv 2)) (fun _ _ _ _ _ ow nd => (pg_tup rfl (pgs_cons (pg_name (i := 0) nd rfl (Or.inl (ow _ (by simp))) (Or.inr (ow _ (by simp)))) (pgs_cons (pg_name (i := 1) nd rfl (Or.inl (ow _ (by simp))) (Or.inr (ow _ (by simp)))) (pgs_cons (pg_name (i := 2) nd rfl (Or.inl (ow _ (by simp))) (Or.inr (ow _ (by simp)))) (pgs_nil)))) : PG _ _ (gTup K 3 _))) (gok_tup (goks_cons (by decide) (goks_cons (by decide) (goks_cons (by decide) (goks_nil))))) (fun _ _ _ _ _ => pif_nil) (fun _ _ _ _ _ => pv 0)) (pv 1) (nomark _)) (pss_one (ps_ret (pe_bl))) (pss_nil))
      (pss_cons (ps_setcG rfl (blkG_of (zs := ["_law_name", "_law_side", "_law_row"]) (ys := []) (fr := []) (N0 := ["_law_picture_here", "_law_names_here", "_law_pairs_here", "_law_seats", "_law_k"]) (sc0 := defScope s_law_due) (by decide +kernel) rfl rfl rfl) (pi_list (pv 2)) (fun _ _ _ _ _ ow nd => (pg_tup rfl (pgs_cons (pg_name (i := 0) nd rfl (Or.inl (ow _ (by simp))) (Or.inr (ow _ (by simp)))) (pgs_cons (pg_name (i := 1) nd rfl (Or.inl (ow _ (by simp))) (Or.inr (ow _ (by simp)))) (pgs_cons (pg_name (i := 2) nd rfl (Or.inl (ow _ (by simp))) (Or.inr (ow _ (by simp)))) (pgs_nil)))) : PG _ _ (gTup K 3 _))) (gok_tup (goks_cons (by decide) (goks_cons (by decide) (goks_cons (by decide) (goks_nil))))) (fun _ _ _ _ _ => pif_nil) (fun _ _ _ _ _ => pe_tup (pa_cons (pv 1) (pa_cons (pv 2) (pa_nil)))) (j := 3) rfl (Or.inl rfl))
      (pss_cons (ps_for PassesOwn.never rfl (pi_range1 rfl T.n_range (pa_cons (pe_callB call_len_seq rfl T.n_len boot_len (pa_cons (pv 2) (pa_nil))) (pa_nil))) (pg_name (i := 4) sc_law_due.nd rfl (Or.inl rfl)) (pss_one (ps_if (PW.pt (pw_or (pt_not (pt_val (pe_call (ok_law_may T) (hr.mono (by decide)) rfl T.g_law_may T.F_law_may.kp T.b_law_may .nil pass_none (pa_cons (pv 0) (pa_cons (pe_ix ix_list (pv 1) (pv 4) (fun _ _ => rfl)) (pa_cons (pe_ix ix_list (pv 3) (pv 4) (fun _ _ => rfl)) (pa_nil))))))) (pw_or1 (pt_cmpR (op_inV (hu20_of hr)) (pe_ix ix_list (pv 3) (pv 4) (fun _ _ => rfl)) (pe_slice sl_list (pv 3) po_none (po_some (pv 4))) (by rfl))))) (pss_one (ps_ret (pe_bl))) (pss_nil))))
      (pss_one (ps_ret (pe_bl))))), ?_⟩
    obtain ⟨dr, pok, hln, hlp, pl, n12, ok, q⟩ := h
    have qll := pl.len
    have BIG : ∀ {n : Nat}, n ≤ 12 → n < sizeLine := fun h => Nat.lt_of_le_of_lt (by omega : _ ≤ 1000) (by decide)
    refine ⟨_, rfl, lp, rfl, ⟨_, SqL.of hlp⟩, fun l1 hl1 => ?_⟩
    refine comp_list (SqL.of hlp) (by rw [List.length_map]; exact BIG (by omega)) hl1 (fun i y _ => ∃ p, prs[i]? = some p ∧ y = .str p.1.nm) (fun _ _ _ _ _ z => z) (fun i x H2 hx s2 N hN => ?_) (fun ys H2 s2 e2 ly fy => ?_)
    · rw [List.getElem?_map, Option.map_eq_some_iff] at hx
      obtain ⟨qa, hqa, rfl⟩ := hx
      obtain ⟨p, hp, hpq⟩ := pl.get hqa
      exact ⟨qa, _, rfl, SqT.of (s2 _ _ hpq), rfl, _, _, rfl, _, _, rfl, _, _, rfl, rfl, _, rfl, hN _ _ (Same.refl _) ⟨p, hp, rfl⟩⟩
    have ey : ys = (prs.map fun p => p.1.nm).map V.str := by
      refine ys_eq (by rw [ly, List.length_map, List.length_map, qll]) fun i y b hy hb => ?_
      obtain ⟨p, hp, rfl⟩ := fy i y hy
      rw [List.getElem?_map, hp] at hb
      cases hb
      rfl
    rw [ey] at e2
    have hln2 := s2 _ _ hln
    have hlp2 := s2 _ _ hlp
    refine ⟨_, rfl, 1, 1, _, _, nms_dv e2, nms_dv hln2, by decide, by decide, _, rfl, ite2 (fun c => ?_) (fun c => ?_)⟩
    · rw [nms_q] at c
      have c : ¬ (prs.map fun p => p.1.nm) = names := by simpa using c
      have g : gvB ss names prs = false := by
        unfold gvB
        rw [decide_eq_false c]
        rfl
      rw [g] at q
      exact q _ s2
    · rw [nms_q] at c
      have c : (prs.map fun p => p.1.nm) = names := by simpa using c
      refine ⟨_, rfl, lp, rfl, ⟨_, SqL.of hlp2⟩, fun l3 hl3 => ?_⟩
      refine comp_list (SqL.of hlp2) (by rw [List.length_map]; exact BIG (by omega)) hl3 (fun i y H => ∃ p qa, prs[i]? = some p ∧ y = .ref qa ∧ H qa = some (.tup (seatV (prS p)))) (fun _ _ _ _ tp ⟨p, qa, z1, z2, z3⟩ => ⟨p, qa, z1, z2, tp _ _ z3⟩) (fun i x H3 hx s3 N hN => ?_) (fun ys3 H3 s3 e3 ly3 fy3 => ?_)
      · rw [List.getElem?_map, Option.map_eq_some_iff] at hx
        obtain ⟨qa, hqa, rfl⟩ := hx
        obtain ⟨p, hp, hpq⟩ := pl.get hqa
        refine ⟨qa, _, rfl, SqT.of (s3 _ _ (s2 _ _ hpq)), rfl, _, _, rfl, _, _, rfl, _, _, rfl, rfl, _, rfl, _, rfl, (by show 2 ≤ sizeLine; decide), fun q5 hq5 => ?_⟩
        exact hN _ _ (same_upd (Same.refl _) hq5) ⟨p, q5, hp, rfl, upd_same⟩
      rw [List.length_map, qll] at ly3
      obtain ⟨rs, rfl, sl3⟩ := SeatsL.pick (ss := prs.map prS) (H := H3) (ys := ys3) (by rw [ly3, List.length_map]) (fun j y s hy hs => by
        obtain ⟨p, qa, z1, z2, z3⟩ := fy3 j y hy
        rw [List.getElem?_map, z1] at hs
        cases hs
        exact ⟨qa, z2, z3⟩)
      have rl := sl3.len
      rw [List.length_map] at rl
      have s03 := s2.trans s3
      have hln3 := s03 _ _ hln
      have hlp3 := s03 _ _ hlp
      refine ⟨_, rfl, lp, _, rfl, .inl (SqL.of hlp3), _, rfl, by rw [List.length_map]; omega, by rw [List.length_map]; omega, ?_⟩
      refine for_range (Pv := fun i σ H4 => ∃ (v4 : Option V), σ = [some (.ref a), some (.ref ln), some (.ref lp), some (.ref l3), v4] ∧ Same H3 H4 ∧ ∀ (k : Nat) (p : Pr), k < i → prs[k]? = some p → (decide (prS p ∈ ss) && wantB p.1 (prS p)) = true ∧ prS p ∉ (prs.map prS).take k) ?_ ?_ ?_
      · exact ⟨_, rfl, Same.refl _, fun k p z => absurd z (Nat.not_lt_zero _)⟩
      · rintro k σ H4 hk ⟨v4, rfl, s4, al⟩
        have hk' : k < prs.length := by simpa [qll] using hk
        have s04 := s03.trans s4
        have hpk : prs[k]? = some prs[k] := List.getElem?_eq_getElem hk'
        have nlen : names.length = prs.length := by rw [← c, List.length_map]
        have at_n : atI (names.map V.str) (0 + (k : Int)) = some (.str prs[k].1.nm) := by
          rw [Int.zero_add]
          refine atI_nat ?_
          rw [← c, List.getElem?_map, List.getElem?_map, hpk]
          rfl
        have hrk : rs[k]? = some (rs[k]'(by omega)) := List.getElem?_eq_getElem (by omega)
        obtain ⟨s0, hs0, hsq⟩ := sl3.get hrk
        rw [List.getElem?_map, hpk] at hs0
        have hs0 : prS prs[k] = s0 := Option.some.inj hs0
        subst hs0
        have at_s : atI (rs.map V.ref) (0 + (k : Int)) = some (.ref (rs[k]'(by omega))) := by
          rw [Int.zero_add]
          exact atI_nat (by rw [List.getElem?_map, hrk]; rfl)
        have pin := (ok _ (List.getElem_mem hk')).1
        refine ⟨_, rfl, _, rfl, _, rfl, ln, _, _, _, rfl, rfl, SqL.of (s04 _ _ hln), at_n, _, rfl, _, rfl, l3, _, _, _, rfl, rfl, SqL.of (s4 _ _ e3), at_s, a, _, dp, do_, w', h', ps, st, ss, prs[k].1, prS prs[k], rfl, dr.same s04, pok, pin, s4 _ _ hsq, fun H5 s5 => ⟨_, rfl, ?_⟩⟩
        cases hB : (decide (prS prs[k] ∈ ss) && wantB prs[k].1 (prS prs[k])) with
        | false =>
          refine ifP rfl (ifP rfl ?_)
          rw [dueB_false hpk (.inl hB)] at q
          exact q _ (s04.trans s5)
        | true =>
          refine ifN (by decide) ?_
          have s35 := s4.trans s5
          refine ⟨_, rfl, _, rfl, l3, _, _, _, rfl, rfl, SqL.of (s35 _ _ e3), at_s, _, rfl, _, rfl, _, rfl, l3, _, rfl, SqL.of (s35 _ _ e3), fun l6 hl6 => ?_⟩
          rw [cut_hd]
          have s6 : Same H5 (upd H5 l6 (.lst ((rs.take k).map V.ref))) := same_upd (Same.refl _) hl6
          have g6 : upd H5 l6 (.lst ((rs.take k).map V.ref)) l6 = some (.lst ((rs.take k).map V.ref)) := upd_same
          revert s6 g6
          generalize upd H5 l6 (.lst ((rs.take k).map V.ref)) = H6
          intro s6 g6
          refine ⟨1, 2, seatD (prS prs[k]), _, dv_seat (s6 _ _ (s35 _ _ hsq)), ((sl3.take k).keep (Same.tups (s35.trans s6))).dv g6, by decide, by decide, _, rfl, ite2 (fun y => ?_) (fun y => ?_)⟩
          · rw [if_neg (by decide), any_seat] at y
            rw [dueB_false hpk (.inr (of_decide_eq_true y))] at q
            exact q _ ((s04.trans s5).trans s6)
          · rw [if_neg (by decide), any_seat] at y
            refine ⟨_, rfl, s35.trans s6, fun j p hj hp => ?_⟩
            rcases Nat.lt_or_ge j k with z | z
            · exact al j p z hp
            · have : j = k := by omega
              subst this
              rw [hpk] at hp
              cases hp
              exact ⟨hB, fun z => y (decide_eq_true z)⟩
      · rintro σ H4 ⟨v4, rfl, s4, al⟩
        rw [dueB_true c (fun k p hp => al k p (by
          have := (List.getElem?_eq_some_iff.mp hp).1
          rw [List.length_map]
          omega) hp)] at q
        exact q _ (s03.trans s4)
end
end S13
set_option maxRecDepth 100000
set_option maxHeartbeats 4000000
namespace S13
open PySem L2 XL PyProof.Rows
def spLaw (K : PySem.W.Frag) : Sp := fun vs H Q _ => ∃ (a : Addr) (ns : List Int), vs = [.ref a] ∧ SqL K H a (ns.map V.int) ∧ ns.length ≤ 63 ∧ ∀ H', Q (.bl true) H'
theorem cut_ints7 (ns : List Int) : ∃ ms : List Int, cutV (ns.map V.int) (some 7) (some 19) = ms.map V.int ∧ ms.length ≤ 12 := by
  refine ⟨(ns.drop (min 7 ns.length)).take (min 19 ns.length - min 7 ns.length), ?_, ?_⟩
  · unfold cutV
    simp only [HT.sIx, List.length_map]
    rw [if_neg (by decide), if_neg (by decide), List.map_take, List.map_drop]
    rfl
  · rw [List.length_take]
    omega
section
variable {P : Program} {w : World} {K : PySem.W.Frag} {mg : Str → Option Value} {base : Heap} {t : Adr}
theorem ok_law (T : Txt w K mg t) : FnOk true P w K mg base (CXo P w) 9 t.f_law t.d_law ["_law_script"] (spLaw K) := by
  refine T.F_law.okn (k := 8) sc_law (fun vs H Q E h => ?_) (fun cdv A outer s H vs Q E hr h => ?_)
  · obtain ⟨sc, ns, rfl, _⟩ := h
    rfl
  · obtain ⟨sc, ns, rfl, h⟩ := h
    refine ⟨_, pss_cons (ps_asg (pe_call (ok_law_picture T) (hr.mono (by decide)) rfl T.g_law_picture T.F_law_picture.kp T.b_law_picture .nil pass_none (pa_cons (pv 0) (pa_nil))) (pg_tup rfl (pgs_cons (pg_name (i := 1) sc_law.nd rfl (Or.inl rfl)) (pgs_cons (pg_name (i := 2) sc_law.nd rfl (Or.inl rfl)) (pgs_cons (pg_name (i := 3) sc_law.nd rfl (Or.inl rfl)) (pgs_nil))))))
      (pss_cons (ps_mid (ps_if (pt_cmpR op_notTr (pe_call (ok_is_giving T) (hr.mono (by decide)) rfl T.g_is_giving T.F_is_giving.kp T.b_is_giving .nil pass_none (pa_cons (pv 1) (pa_cons (pe_lst (pa_nil)) (pa_cons (pe_lst (pa_nil)) (pa_nil))))) (pe_bl) (nomark _)) (pss_one (ps_ret (pe_bl))) (pss_nil)))
      (pss_cons (ps_setcG rfl (blkG_of (zs := ["_law_k", "_law_name"]) (ys := ["_law_script"]) (fr := [0]) (N0 := ["_law_script", "_law_picture_here", "_law_names_here", "_law_spots", "_law_some", "_law_pairs_here", "_law_cell_here", "_law_spoiled_here", "_law_asked", "_law_handed", "_law_told", "_law_found"]) (sc0 := defScope s_law) (by decide +kernel) rfl rfl rfl) (pi_enumerate rfl T.n_enumerate (pa_cons (pv 2) (pa_nil))) (fun _ _ _ _ _ ow nd => (pg_tup rfl (pgs_cons (pg_name (i := 0) nd rfl (Or.inl (ow _ (by simp))) (Or.inr (ow _ (by simp)))) (pgs_cons (pg_name (i := 1) nd rfl (Or.inl (ow _ (by simp))) (Or.inr (ow _ (by simp)))) (pgs_nil))) : PG _ _ (gTup K 2 _))) (gok_tup (goks_cons (by decide) (goks_cons (by decide) (goks_nil)))) (fun _ _ _ _ _ => pif_one (pt_cmpR op_gt (pe_op op_mod (pe_call (ok_law_mix T) (hr.mono (by decide)) rfl T.g_law_mix T.F_law_mix.kp T.b_law_mix .nil pass_none (pa_cons (pe_call (ok_law_cell T) (hr.mono (by decide)) rfl T.g_law_cell T.F_law_cell.kp T.b_law_cell .nil pass_none (pa_cons (pv 2) (pa_cons (pe_int) (pa_nil)))) (pa_cons (pv 0) (pa_nil)))) (pe_int)) (pe_int) (nomark _))) (fun _ _ _ _ _ => pv 1) (j := 4) rfl (Or.inl rfl))
      (pss_cons (ps_mid (ps_if (pt_cmpR op_eq (pe_op op_mod (pe_call (ok_law_cell T) (hr.mono (by decide)) rfl T.g_law_cell T.F_law_cell.kp T.b_law_cell .nil pass_none (pa_cons (pv 0) (pa_cons (pe_int) (pa_nil)))) (pe_int)) (pe_int) (nomark _)) (pss_one (ps_set (i := 4) sc_law.nd rfl (Or.inl rfl) (pe_listRev rfl rfl T.n_list rfl T.n_reversed (pa_cons (pv 4) (pa_nil))))) (pss_nil)))
      (pss_cons (ps_set (i := 5) sc_law.nd rfl (Or.inl rfl) (pe_call (ok_law_pairs T) (hr.mono (by decide)) rfl T.g_law_pairs T.F_law_pairs.kp T.b_law_pairs .nil pass_none (pa_cons (pv 1) (pa_cons (pv 4) (pa_cons (pe_call (ok_law_cell T) (hr.mono (by decide)) rfl T.g_law_cell T.F_law_cell.kp T.b_law_cell .nil pass_none (pa_cons (pv 0) (pa_cons (pe_int) (pa_nil)))) (pa_nil))))))
      (pss_cons (ps_for PassesOwn.never rfl (pi_list (pe_op op_cat (pe_lst (pa_cons (pe_int) (pa_nil))) (pe_slice sl_list (pv 0) (po_some (pe_int)) (po_some (pe_int))))) (pg_name (i := 6) sc_law.nd rfl (Or.inl rfl)) (pss_cons (ps_set (i := 7) sc_law.nd rfl (Or.inl rfl) (pe_call (ok_law_spoiled T) (hr.mono (by decide)) rfl T.g_law_spoiled T.F_law_spoiled.kp T.b_law_spoiled .nil pass_none (pa_cons (pv 1) (pa_cons (pv 5) (pa_cons (pe_op op_mod (pv 6) (pe_int)) (pa_cons (pe_op op_fdiv (pv 6) (pe_int)) (pa_nil)))))))
      (pss_cons (ps_set (i := 8) sc_law.nd rfl (Or.inl rfl) (pe_callTy call_list_of rfl T.n_list boot_list (pa_cons (pv 4) (pa_nil))))
      (pss_cons (ps_mid (ps_if (PW.pt (pw_and (pt_cmpR op_eq (pe_op op_mod (pv 6) (pe_int)) (pe_int) (nomark _)) (pw_and1 (pt_cmpR (op_neV (hu20_of hr)) (pv 8) (pe_lst (pa_nil)) (nomark _))))) (pss_one (ps_expr (pe_bm PySem.F.plainAttrs_list PySem.F.slot_list_pop PySem.F.type_list_pop mt_popAt (pv 8) (pa_cons (pe_op op_mod (pe_op op_fdiv (pv 6) (pe_int)) (pe_callB call_len_seq rfl T.n_len boot_len (pa_cons (pv 8) (pa_nil)))) (pa_nil))))) (pss_nil)))
      (pss_cons (ps_set (i := 9) sc_law.nd rfl (Or.inl rfl) (pe_callTy call_list_of rfl T.n_list boot_list (pa_cons (pv 8) (pa_nil))))
      (pss_cons (ps_set (i := 10) sc_law.nd rfl (Or.inl rfl) (pe_callTy call_list_of rfl T.n_list boot_list (pa_cons (pv 7) (pa_nil))))
      (pss_cons (ps_set (i := 11) sc_law.nd rfl (Or.inl rfl) (pe_call (ok_is_giving T) (hr.mono (by decide)) rfl T.g_is_giving T.F_is_giving.kp T.b_is_giving .nil pass_none (pa_cons (pv 1) (pa_cons (pv 9) (pa_cons (pv 10) (pa_nil))))))
      (pss_cons (ps_mid (ps_if (PW.pt (pw_or (pt_not (pt_val (pe_callB call_isin rfl T.n_isinstance boot_isinstance (pa_cons (pv 11) (pa_cons (pe_bltn (v := .ty "bool") rfl T.n_bool boot_bool rfl) (pa_nil)))))) (pw_or1 (pt_cmpR op_ne (pv 11) (pe_call (ok_law_due T) (hr.mono (by decide)) rfl T.g_law_due T.F_law_due.kp T.b_law_due .nil pass_none (pa_cons (pv 1) (pa_cons (pv 8) (pa_cons (pv 7) (pa_nil))))) (nomark _))))) (pss_one (ps_ret (pe_bl))) (pss_nil)))
      (pss_one (ps_mid (ps_if (PW.pt (pw_or (pt_cmpR (op_neV (hu20_of hr)) (pv 9) (pv 8) (nomark _)) (pw_or1 (pt_cmpR (op_neV (hu20_of hr)) (pv 10) (pv 7) (nomark _))))) (pss_one (ps_ret (pe_bl))) (pss_nil))))))))))))
      (pss_one (ps_ret (pe_bl)))))))), ?_⟩
    obtain ⟨hs, n63, q⟩ := h
    have BIG : ∀ {n : Nat}, n ≤ 1000 → n < sizeLine := fun h => Nat.lt_of_le_of_lt h (by decide)
    refine ⟨_, rfl, sc, ns, rfl, hs, fun H1 tp a ln ls dp do_ w' h' ps st ss s1 htp dr pok hln => ?_⟩
    refine ⟨tp, _, rfl, SqT.of htp, rfl, _, _, rfl, _, _, rfl, _, _, rfl, rfl, ?_⟩
    refine ⟨fun σ H2 => Same H1 H2 ∧ ∃ v4 v5 v6 v7 v8 v9 v10 v11 : Option V, σ = [some (.ref sc), some (.ref a), some (.ref ln), some (.ref ls), v4, v5, v6, v7, v8, v9, v10, v11], ?_, ?_⟩
    · refine ⟨_, rfl, (by show 0 ≤ sizeLine; decide), fun l2 hl2 => ?_⟩
      have s2 : Same H1 (upd H1 l2 (.lst [])) := same_upd (Same.refl _) hl2
      have g2 : upd H1 l2 (.lst []) l2 = some (.lst []) := upd_same
      revert s2 g2
      generalize upd H1 l2 (.lst []) = H2
      intro s2 g2
      refine ⟨(by show 0 ≤ sizeLine; decide), fun l3 hl3 => ?_⟩
      have s3 : Same H2 (upd H2 l3 (.lst [])) := same_upd (Same.refl _) hl3
      have g3 : upd H2 l3 (.lst []) l3 = some (.lst []) := upd_same
      revert s3 g3
      generalize upd H2 l3 (.lst []) = H3
      intro s3 g3
      refine ⟨a, l2, l3, dp, do_, w', h', ps, st, ss, [], [], [], rfl, dr.same (s2.trans s3), s3 _ _ g2, g3, .nil, by decide, fun p hp => (nomatch hp), fun H4 s4 => ⟨_, _, rfl, rfl, _, rfl, ifN (by simp [gvB]) ⟨(s2.trans s3).trans s4, _, _, _, _, _, _, _, _, rfl⟩⟩⟩
    rintro σ H2 ⟨s2, v4, v5, v6, v7, v8, v9, v10, v11, rfl⟩
    have ple := pok.le
    have hln2 := s2 _ _ hln
    have s02 := s1.trans s2
    refine ⟨_, rfl, ln, _, rfl, SqL.of hln2, fun l3 hl3 => ?_⟩
    refine comp_enumS (as := ps.map (·.nm)) (f := V.str) (gv := V.str) (SqL.of hln2) (by rw [List.length_map]; exact BIG (by omega)) hl3 (fun i x p H3 hx s3 hp N M hN hM => ?_) (fun H3 some_ sub s3 e3 => ?_)
    · refine ⟨p, _, rfl, SqT.of upd_same, rfl, _, _, rfl, _, _, rfl, rfl, ?_⟩
      have s3' : Same H3 (upd H3 p (.tup [.int (i : Int), .str x])) := same_upd (Same.refl _) hp
      refine ⟨_, rfl, sc, ns, 5, rfl, ((s02.trans s3).trans s3').seqL hs, by decide, by decide, fun c5 => ⟨_, rfl, c5, _, rfl, fun m _ _ => ?_⟩⟩
      refine ⟨_, _, rfl, rfl, (by show (0 : Int) < 4; decide), _, _, rfl, rfl, _, rfl, ite2 (fun y => ?_) (fun y => ?_)⟩
      · exact ⟨_, rfl, hN _ (Same.refl _)⟩
      · exact hM _ (Same.refl _)
    have sml : some_.length ≤ 12 := by
      have := sub.length_le
      rw [List.length_map] at this
      omega
    have smin : ∀ z ∈ some_, ∃ p ∈ ps, p.nm = z := fun z hz => List.mem_map.mp (sub.subset hz)
    have s03 := s02.trans s3
    refine ⟨fun σ H4 => ∃ (lm : Addr) (sm : List Str) (v5 v6 v7 v8 v9 v10 v11 : Option V), σ = [some (.ref sc), some (.ref a), some (.ref ln), some (.ref ls), some (.ref lm), v5, v6, v7, v8, v9, v10, v11] ∧ Same H3 H4 ∧ H4 lm = some (.lst (sm.map V.str)) ∧ sm.length ≤ 12 ∧ ∀ z ∈ sm, ∃ p ∈ ps, p.nm = z, ?_, ?_⟩
    · refine ⟨_, rfl, sc, ns, 5, rfl, s03.seqL hs, by decide, by decide, fun c5 => ⟨_, _, rfl, rfl, (by show (0 : Int) < 2; decide), rfl, _, rfl, ite2 (fun y => ?_) (fun y => ?_)⟩⟩
      · refine ⟨_, rfl, l3, _, rfl, SqL.of e3, fun l4 hl4 => ?_⟩
        rw [← List.map_reverse]
        exact ⟨l4, some_.reverse, _, _, _, _, _, _, _, rfl, same_upd (Same.refl _) hl4, upd_same, by rw [List.length_reverse]; exact sml, fun z hz => smin z (List.mem_reverse.mp hz)⟩
      · exact ⟨l3, some_, _, _, _, _, _, _, _, rfl, Same.refl _, e3, sml, smin⟩
    rintro σ H4 ⟨lm, sm, v5, v6, v7, v8, v9, v10, v11, rfl, s4, e4, sml, smin⟩
    have s04 := s03.trans s4
    have dr4 := dr.same (s2.trans (s3.trans s4))
    refine ⟨_, rfl, _, rfl, _, rfl, sc, ns, 6, rfl, s04.seqL hs, by decide, by decide, fun c6 => ?_⟩
    refine ⟨a, lm, dp, do_, c6, w', h', ps, st, ss, sm, rfl, dr4, pok, e4, smin, sml, fun H5 lp prs qs s5 e5 pl5 pn pin => ?_⟩
    refine ⟨(by show 1 ≤ sizeLine; decide), fun l6 hl6 => ?_⟩
    have s6 : Same H5 (upd H5 l6 (.lst [.int 6])) := same_upd (Same.refl _) hl6
    have g6 : upd H5 l6 (.lst [.int 6]) l6 = some (.lst [.int 6]) := upd_same
    revert s6 g6
    generalize upd H5 l6 (.lst [.int 6]) = H6
    intro s6 g6
    refine ⟨_, rfl, _, rfl, _, rfl, sc, _, rfl, ((s04.trans s5).trans s6).seqL hs, fun l7 hl7 => ?_⟩
    obtain ⟨ms, ems, msl⟩ := cut_ints7 ns
    rw [ems]
    have s7 : Same H6 (upd H6 l7 (.lst (ms.map V.int))) := same_upd (Same.refl _) hl7
    have g7 : upd H6 l7 (.lst (ms.map V.int)) l7 = some (.lst (ms.map V.int)) := upd_same
    revert s7 g7
    generalize upd H6 l7 (.lst (ms.map V.int)) = H7
    intro s7 g7
    refine ⟨l6, l7, _, _, rfl, rfl, s7 _ _ g6, g7, ?_, fun l8 hl8 => ?_⟩
    · rw [List.length_map]
      exact Nat.le_trans (show _ ≤ 1000 by rw [List.length_singleton]; omega) (by decide)
    have s8 : Same H7 (upd H7 l8 (.lst ([.int 6] ++ ms.map V.int))) := same_upd (Same.refl _) hl8
    have g8 : upd H7 l8 (.lst ([.int 6] ++ ms.map V.int)) l8 = some (.lst ([.int 6] ++ ms.map V.int)) := upd_same
    revert s8 g8
    generalize upd H7 l8 (.lst ([.int 6] ++ ms.map V.int)) = H8
    intro s8 g8
    have s58 := (s6.trans s7).trans s8
    refine ⟨l8, rfl, ⟨_, SqL.of g8⟩, ?_⟩
    refine for_list (xs := [.int 6] ++ ms.map V.int) (Pv := fun i σ H9 => ∃ (v6 v7 v8 v9 v10 v11 : Option V), σ = [some (.ref sc), some (.ref a), some (.ref ln), some (.ref ls), some (.ref lm), some (.ref lp), v6, v7, v8, v9, v10, v11] ∧ Same H8 H9) ?_ ?_ ?_ ?_
    · exact ⟨_, _, _, _, _, _, rfl, Same.refl _⟩
    · rintro i σ H9 _ ⟨_, _, _, _, _, _, rfl, s9⟩
      exact SqL.of (s9 _ _ g8)
    · rintro i x σ H9 hx ⟨v6, v7, v8, v9, v10, v11, rfl, s9⟩
      obtain ⟨c, rfl⟩ : ∃ c : Int, x = .int c := by
        rcases List.mem_append.mp (List.mem_of_getElem? hx) with z | z
        · exact ⟨6, List.mem_singleton.mp z⟩
        · obtain ⟨c, _, e⟩ := List.mem_map.mp z
          exact ⟨c, e.symm⟩
      have s59 := s58.trans s9
      have s49 := s5.trans s59
      have dr9 := dr4.same s49
      refine ⟨_, rfl, _, rfl, _, rfl, _, _, rfl, rfl, (by show (0 : Int) < 6; decide), _, rfl, _, _, rfl, rfl, ⟨by decide, by decide⟩, a, lp, dp, do_, c % 6, c / 6, w', h', ps, st, ss, prs, qs, rfl, dr9, s59 _ _ e5, pl5.keep (Same.tups s59), by omega, pin, fun H10 lq prs' qs' s10 e10 pl10 n10 ok10 => ?_⟩
      have e4' := s10 _ _ (s49 _ _ e4)
      refine ⟨_, rfl, lm, _, rfl, .inl (SqL.of e4'), fun l11 hl11 => ?_⟩
      have s11 : Same H10 (upd H10 l11 (.lst (sm.map V.str))) := same_upd (Same.refl _) hl11
      have g11 : upd H10 l11 (.lst (sm.map V.str)) l11 = some (.lst (sm.map V.str)) := upd_same
      revert s11 g11
      generalize upd H10 l11 (.lst (sm.map V.str)) = H11
      intro s11 g11
      refine ⟨fun σ H12 => ∃ (asked : List Str) (v9 v10 v11 : Option V), σ = [some (.ref sc), some (.ref a), some (.ref ln), some (.ref ls), some (.ref lm), some (.ref lp), some (.int c), some (.ref lq), some (.ref l11), v9, v10, v11] ∧ Same H10 H12 ∧ H12 l11 = some (.lst (asked.map V.str)), ?_, ?_⟩
      · refine ⟨_, rfl, _, _, rfl, rfl, (by show (0 : Int) < 6; decide), rfl, _, rfl, ite2 (fun y => ?_) (fun y => ?_)⟩
        · refine ⟨_, rfl, (by show 0 ≤ sizeLine; decide), fun l12 hl12 => ?_⟩
          have s12 : Same H11 (upd H11 l12 (.lst [])) := same_upd (Same.refl _) hl12
          have g12 : upd H11 l12 (.lst []) l12 = some (.lst []) := upd_same
          revert s12 g12
          generalize upd H11 l12 (.lst []) = H12
          intro s12 g12
          refine ⟨1, 1, _, _, nms_dv (s12 _ _ g11), nms_dv (nms := []) g12, by decide, by decide, _, rfl, ite2 (fun y2 => ?_) (fun y2 => ?_)⟩
          · rw [nms_q] at y2
            have ne : sm ≠ [] := by simpa using y2
            obtain ⟨j, z, hj, b1, b2, hsi, b3⟩ := pop_at (c / 6) (xs := sm.map V.str) (by simpa using ne) (by rw [List.length_map]; omega)
            have g11' := s12 _ _ g11
            refine ⟨_, rfl, .inl ⟨rfl, _, SqL.of g11'⟩, _, rfl, _, _, rfl, rfl, ⟨by decide, by decide⟩, _, rfl, l11, _, rfl, .inl (SqL.of g11'), _, _, rfl, rfl, b3, l11, _, _, j, z, rfl, rfl, g11', b1, b2, hsi, hj, ?_⟩
            exact ⟨sm.eraseIdx j, _, _, _, rfl, fun b u e => by rw [upd_ne (ne_of_none e hl11)]; exact s12 _ _ (s11 _ _ e), by rw [upd_same, map_erase]⟩
          · exact ⟨sm, _, _, _, rfl, s11.trans s12, s12 _ _ g11⟩
        · exact ⟨sm, _, _, _, rfl, s11, g11⟩
      rintro σ H12 ⟨asked, v9, v10, v11, rfl, s12, e12⟩
      have e12q := s12 _ _ e10
      have pl12 := pl10.keep (Same.tups s12)
      refine ⟨_, rfl, l11, _, rfl, .inl (SqL.of e12), fun l13 hl13 => ?_⟩
      have s13 : Same H12 (upd H12 l13 (.lst (asked.map V.str))) := same_upd (Same.refl _) hl13
      have g13 : upd H12 l13 (.lst (asked.map V.str)) l13 = some (.lst (asked.map V.str)) := upd_same
      revert s13 g13
      generalize upd H12 l13 (.lst (asked.map V.str)) = H13
      intro s13 g13
      refine ⟨_, rfl, lq, _, rfl, .inl (SqL.of (s13 _ _ e12q)), fun l14 hl14 => ?_⟩
      have s14 : Same H13 (upd H13 l14 (.lst (qs'.map V.ref))) := same_upd (Same.refl _) hl14
      have g14 : upd H13 l14 (.lst (qs'.map V.ref)) l14 = some (.lst (qs'.map V.ref)) := upd_same
      revert s14 g14
      generalize upd H13 l14 (.lst (qs'.map V.ref)) = H14
      intro s14 g14
      have s1214 := s13.trans s14
      have pl14 := pl12.keep (Same.tups s1214)
      have dr14 := dr9.same (s10.trans (s12.trans s1214))
      have pof : ∀ p ∈ prs', isNm p.1.nm = true ∧ ps.find? (fun z => decide (z.nm = p.1.nm)) = some p.1 ∧ 1 ≤ p.2.2 ∧ p.2.2 ≤ (h' : Int) := fun p hp => ⟨(pok.ok _ (ok10 p hp).1).nm, find_isN pok.nn (ok10 p hp).1, (ok10 p hp).2⟩
      refine ⟨_, rfl, _, rfl, _, rfl, a, l13, l14, dp, do_, w', h', ps, st, ss, asked, prs', qs', rfl, dr14, s14 _ _ g13, g14, pl14, n10, pof, fun H15 s15 => ?_⟩
      have s1215 := s1214.trans s15
      refine ⟨fun σ H16 => Same H15 H16 ∧ σ = [some (.ref sc), some (.ref a), some (.ref ln), some (.ref ls), some (.ref lm), some (.ref lp), some (.int c), some (.ref lq), some (.ref l11), some (.ref l13), some (.ref l14), some (.bl (gvB ss asked prs'))], ?_, ?_⟩
      · refine ⟨_, rfl, _, _, rfl, .inl ⟨_, _, true, .bl _, rfl, kit_same, true, rfl, iteF ?_⟩⟩
        refine ⟨_, rfl, _, rfl, _, rfl, _, rfl, a, l11, lq, dp, do_, w', h', ps, st, ss, asked, prs', qs', rfl, dr14.same s15, pok, s1215 _ _ e12, s1215 _ _ e12q, pl12.keep (Same.tups s1215), n10, ok10, fun H16 s16 => ⟨rfl, _, rfl, ifN (by simp) ⟨s16, rfl⟩⟩⟩
      rintro σ H16 ⟨s16, rfl⟩
      have s1216 := s1215.trans s16
      refine ⟨_, ?_, fun _ _ z => z⟩
      refine ⟨_, rfl, _, rfl, 1, 1, _, _, nms_dv (s16 _ _ (s15 _ _ (s14 _ _ g13))), nms_dv (s1216 _ _ e12), by decide, by decide, _, rfl, ifN (by rw [dEq_refl]; decide) ?_⟩
      refine ⟨_, rfl, _, rfl, 2, 2, _, _, (pl12.keep (Same.tups s1216)).dv (s16 _ _ (s15 _ _ g14)), (pl12.keep (Same.tups s1216)).dv (s1216 _ _ e12q), by decide, by decide, _, rfl, ifN (by rw [dEq_refl]; decide) ?_⟩
      exact ⟨_, _, _, _, _, _, rfl, (s9.trans s10).trans (s12.trans s1216)⟩
    · rintro σ H9 ⟨v6, v7, v8, v9, v10, v11, rfl, s9⟩
      exact q _
end
end S13
-- the names of the twins of whole trees and heaps are taken here, so that the head makes no such twins (they are what makes its compiled file large); see NOTE.md
namespace PySem.W.Fast
def tw5691986204222377800:=0
def tw2514635041186565094:=0
def tw3649870951686800594:=0
def tw15535675996230995289:=0
def tw8385101814301392597:=0
def tw8682992571210760740:=0
def tw13043138436541843760:=0
def tw17845401626053026924:=0
def tw8502757779128002497:=0
def tw729751677139612726:=0
def tw18088186890841561063:=0
def tw1258174499957217630:=0
def tw13127132097942005624:=0
def tw17980284731580361872:=0
def tw4900385991042708197:=0
def tw10640782109392437671:=0
def tw10002040924824370538:=0
def tw5031900244760138941:=0
def tw3558006786659670452:=0
def tw12374480681146791836:=0
def tw15187471461477617419:=0
def tw15545914075308171881:=0
def tw3121825769963771038:=0
def tw14705354815500713583:=0
def tw13902050734133135776:=0
def tw12320116150729628938:=0
def tw17754193480362554169:=0
def tw15386239021866244669:=0
def tw11915837376692676187:=0
def tw15508310442295321964:=0
def tw7100338345078057022:=0
def tw4224328656567304377:=0
def tw14391197517434660809:=0
def tw1641098829199736174:=0
def tw18204175883274309541:=0
def tw15112761228705341779:=0
def tw2322124528724643237:=0
def tw8443472194881462243:=0
def tw13411550429662878799:=0
def tw681780363064111688:=0
def tw2374825817432339394:=0
def tw17042625123257021621:=0
def tw16715618026603213150:=0
def tw843400843670734606:=0
def tw346157873689640115:=0
def tw3362990088016192865:=0
def tw5786739208014993207:=0
def tw10420243306744352525:=0
def tw4767273127200088187:=0
def tw17372958502980616570:=0
def tw6321359489807713340:=0
def tw5141102425539621108:=0
def tw11278372109349762620:=0
def tw2666847786286634894:=0
def tw4602477427363553971:=0
def tw309072591054178778:=0
def tw7121519097670340264:=0
def tw6548504159874991600:=0
def tw17691740968572937563:=0
def tw5134284983443860844:=0
def tw3029648252515575924:=0
def tw12993276565640201272:=0
def tw66103075974086264:=0
def tw7772725863894484806:=0
def tw12357527530273340445:=0
def tw16074615089994334706:=0
def tw11455001540513360039:=0
def tw10935050532270465546:=0
def tw8004247170595389221:=0
def tw12274652953687648251:=0
def tw14120265138089749332:=0
def tw6977348152070959401:=0
def tw1348588197487005850:=0
def tw17974496082489020689:=0
def tw11314019345876247739:=0
def tw3850326577100697423:=0
def tw3726318693356626276:=0
def tw5272225414355159495:=0
def tw14059286772746340505:=0
def tw13642031022829429950:=0
def tw10127252389966211224:=0
def tw16361569245830115584:=0
def tw2377635252565532392:=0
def tw14556312001684412750:=0
def tw17941985587358324301:=0
def tw4179625093672557243:=0
def tw13775077098777809350:=0
def tw8088139190768709567:=0
def tw2600730732364228027:=0
def tw9565372303981663397:=0
def tw1229146142265833807:=0
def tw8255402116564806617:=0
def tw2091129809407425631:=0
def tw16875265108104701614:=0
def tw8483035217417868926:=0
def tw9808661998668736914:=0
def tw11042565087113488755:=0
def tw4031615011222578304:=0
def tw11238684794561631853:=0
def tw2706906621354695183:=0
def tw12333332641131375397:=0
def tw7463190247130953995:=0
def tw4331271873167678309:=0
def tw13098082007399470501:=0
def tw15831587341273802039:=0
def tw13695526385120204574:=0
def tw15072431600664125704:=0
def tw17420001549117056384:=0
def tw13052427779181318013:=0
def tw6726270467490096439:=0
def tw685010386686669833:=0
def tw11375351227092547992:=0
def tw5015613025365336390:=0
def tw7275491503327577816:=0
def tw268844574332752306:=0
def tw17251940521909143528:=0
def tw6009453985835673900:=0
def tw3992924143468833201:=0
def tw12218664429600812468:=0
def tw6438029127289598849:=0
def tw7095687646532627536:=0
def tw18215379862763556263:=0
def tw1008389552802243050:=0
def tw1835240859133693610:=0
def tw10493943239546479471:=0
def tw14712716541155097392:=0
def tw5667414678646547091:=0
def tw1931034441939048095:=0
def tw16891005074690351647:=0
def tw741328073232087339:=0
def tw17213661710512832709:=0
def tw4898634192548303350:=0
def tw1528493515467801914:=0
def tw7807790787570602077:=0
def tw16547485699440551943:=0
def tw4490751523359072936:=0
def tw4867074527214198346:=0
def tw15265251850926467333:=0
def tw4332658986621798228:=0
def tw14825407250957477846:=0
def tw13425300194667904087:=0
def tw11161990738080782695:=0
def tw3859427049453006335:=0
def tw4609076658979151048:=0
def tw14631180765941059902:=0
def tw16441182211297097750:=0
def tw1504891947994012758:=0
def tw7666627630304292987:=0
def tw9859027169120297493:=0
def tw6097296576538953171:=0
def tw11652207278399301284:=0
def tw11284035012781090741:=0
def tw9118954973917516031:=0
def tw3419419199390883570:=0
def tw6898980932723749767:=0
def tw8433118749579899595:=0
def tw255734481773206242:=0
def tw7658760485255567643:=0
def tw2281158193771916071:=0
def tw1519793114076575394:=0
def tw2285684298796337238:=0
def tw1845831894282520923:=0
def tw3553115864732681609:=0
def tw4037491700028528038:=0
def tw3654953796074697987:=0
def tw4262908194959430557:=0
def tw2685863843587515051:=0
def tw2242068249244816267:=0
def tw7366794858786908914:=0
def tw8626945483562644427:=0
def tw3366880477466517838:=0
def tw1466269687565858646:=0
def tw6249780479620938024:=0
def tw17725884714205000426:=0
def tw17646482213241891170:=0
def tw18279716406724830674:=0
def tw3055522194344017592:=0
def tw9455539877048376282:=0
def tw6518078250070447762:=0
def tw12585682497889156822:=0
def tw1331574804685759909:=0
def tw287591292139687649:=0
def tw7956038830704733766:=0
def tw12188457953547340676:=0
def tw6878419322115539948:=0
def tw10886281285322150175:=0
def tw16253873892238069543:=0
def tw1865360126367990571:=0
def tw3975101081681045957:=0
def tw5034514742763604057:=0
def tw15363416429741907452:=0
def tw7900123606099960105:=0
def tw6114239183831561054:=0
def tw2940214991797808906:=0
def tw18104830220257579835:=0
def tw2071903619265572400:=0
def tw11235540689913813371:=0
def tw1007648816593683489:=0
def tw2194874144737827408:=0
def tw14077104767786194662:=0
def tw2300427573723274943:=0
def tw707077205432956265:=0
def tw8863375438356140220:=0
def tw1012413164082334259:=0
def tw17934120198769584432:=0
def tw5769299674923173009:=0
def tw1747825737028008272:=0
def tw1999497156729484342:=0
def tw14392342110095471091:=0
def tw13089326372328873701:=0
def tw16060337263054005828:=0
def tw9188408198125864470:=0
def tw12452031334810403644:=0
def tw9718314792105046086:=0
def tw12999620707680315477:=0
def tw3299885372615629585:=0
def tw1386979267604878657:=0
def tw16507661875690741056:=0
def tw14282302381213507120:=0
def tw4402194110197458117:=0
def tw11759571213486665602:=0
def tw721061800950979177:=0
def tw3148809793700389189:=0
def tw5523043055209072255:=0
def tw14875269323648403760:=0
def tw6439735158161038112:=0
def tw9438772676897577617:=0
def tw5001254239268823532:=0
def tw10428880758680553627:=0
def tw4943286703381216277:=0
def tw12242448316528828409:=0
def tw15036752623211720846:=0
def tw581445174747016656:=0
def tw3010700903315138706:=0
def tw14606007421922204118:=0
def tw10367878090188254997:=0
def tw15388720614190264355:=0
def tw13862200427114499123:=0
def tw7426952573597618644:=0
def tw1893613052737599172:=0
def tw17789707164424040960:=0
def tw2590520026205652238:=0
def tw14750499938064043776:=0
def tw10980550694585701312:=0
def tw15858699212058350937:=0
def tw1621212297265331089:=0
def tw13110581458704895478:=0
def tw682286990374082804:=0
def tw8093639084457487732:=0
def tw14611034035565505972:=0
def tw3633144613408715961:=0
def tw12055265412805916520:=0
def tw17986455945146796534:=0
def tw1139637859758020236:=0
def tw16573992935746812874:=0
def tw8456067057907716080:=0
def tw16546959584463837183:=0
def tw15499814175649512318:=0
def tw12572296388970432339:=0
def tw11045770106799379808:=0
def tw5349444529671677089:=0
def tw3990244518103504667:=0
def tw5924919611992423567:=0
def tw10779459509232120217:=0
def tw278608029613071986:=0
def tw15132108095325499538:=0
def tw14005256739408488872:=0
def tw5682798378454400006:=0
def tw588470640894154242:=0
def tw4907702991730024605:=0
def tw13184012500140925196:=0
def tw9882371514426171151:=0
def tw16257355485114282152:=0
def tw1990199415699536865:=0
def tw4288646056579985658:=0
def tw3753116992314156552:=0
def tw11794672991968657627:=0
def tw5182991135727276470:=0
def tw810649460493457515:=0
def tw4375679285296865828:=0
def tw11429593629417130103:=0
def tw5755390117972154747:=0
def tw3540364325604376276:=0
def tw96652419168468504:=0
def tw14299986743624283336:=0
def tw7653119852914702809:=0
def tw6293454031066757996:=0
def tw643450999889856024:=0
def tw9879920450603522809:=0
def tw2899311668898116520:=0
def tw4556948248726980871:=0
def tw1965652901055720303:=0
def tw5974846696400824987:=0
def tw6766615261183973119:=0
def tw15595717692538859879:=0
def tw6988749847130628116:=0
def tw8185514387679129516:=0
def tw7544545962560338400:=0
def tw60449038960061380:=0
def tw5099808897086619029:=0
def tw4927065816188332354:=0
def tw2035333486732034628:=0
def tw11000432580414544544:=0
def tw4553852686147506583:=0
def tw1720679146608891639:=0
def tw15533521361548247088:=0
def tw5373780459063587334:=0
def tw11158725351891865407:=0
def tw3614263029054103668:=0
def tw2410393358114224024:=0
def tw10404430432451604570:=0
def tw6824533472136429710:=0
def tw1588795399486092173:=0
def tw10971304915588163358:=0
def tw5789692219378518555:=0
def tw13017641958994094282:=0
def tw4704812535501836632:=0
def tw3942008426516589054:=0
def tw10060254511158267215:=0
def tw4537095458007283004:=0
def tw6098124185069164344:=0
def tw14691485026886614155:=0
def tw7196570347020622020:=0
def tw4513033106384113629:=0
def tw13781302578735755515:=0
def tw15644397684062756195:=0
def tw12783987165693050788:=0
def tw17445974387680421390:=0
def tw14651102268756442374:=0
def tw12576742459329550785:=0
def tw17847707263907559556:=0
def tw12393039827203187268:=0
def tw4361840525476786435:=0
def tw13431080759083259474:=0
def tw10471943753678428943:=0
def tw10081626850561863375:=0
def tw355506397960773438:=0
def tw4137279177461225162:=0
def tw5284696480591454629:=0
def tw18228204407172475557:=0
def tw4858668650381979445:=0
def tw9013215215041830257:=0
def tw36512739079436230:=0
def tw5220820311549822188:=0
def tw4643927574529130017:=0
def tw6136566734728168806:=0
def tw11293995217504727320:=0
def tw6927357905711541616:=0
def tw10824554596900719513:=0
def tw8381723016503188293:=0
def tw18252484759270428836:=0
def tw1039055968812706496:=0
def tw10607320479082846179:=0
def tw14030675035768453222:=0
def tw12572938482560068906:=0
def tw14186367485920959026:=0
def tw13152734108233950401:=0
def tw9478922147331663131:=0
def tw1363836755010098420:=0
def tw16270006690969047745:=0
def tw13108837855310624216:=0
def tw9506138030763282758:=0
def tw2540913821647284199:=0
def tw12047340307589697737:=0
def tw1273393493833644585:=0
def tw17693655443107155083:=0
def tw9762596283727991248:=0
def tw17910563836994654724:=0
def tw7187646484260185466:=0
def tw18036158529252274106:=0
def tw15963259960444170813:=0
def tw3190759283464192783:=0
def tw13787762984134394893:=0
def tw12647109556675001123:=0
def tw11334920875462835912:=0
def tw15726686171306635205:=0
def tw16907276050341061566:=0
def tw15697969475717479003:=0
def tw2431933833472791359:=0
def tw11959328272633238156:=0
def tw1622279643243292762:=0
def tw7004996053761758199:=0
def tw8910574919677213858:=0
def tw15721285583975280779:=0
def tw17442682205333435862:=0
def tw10650852523361803439:=0
def tw4905605268473894328:=0
def tw2634936800621796204:=0
def tw12051357837323886659:=0
def tw16212601299288442001:=0
def tw13243236888258075696:=0
def tw15977687026884623249:=0
def tw18177868705384239443:=0
def tw14310087620342321889:=0
def tw16842494464487672739:=0
def tw1593684508276327437:=0
def tw7226322956417171295:=0
def tw10856197944489424765:=0
def tw8357893165908267130:=0
def tw1799794063421468143:=0
def tw11558718769156162897:=0
def tw13276694981502416325:=0
def tw4843733417990242367:=0
def tw5202372685754466522:=0
def tw783818157061583466:=0
def tw4961938185803082952:=0
def tw10916975491651058233:=0
def tw8325661755198988817:=0
def tw14887225535420439935:=0
def tw3123131064051567674:=0
def tw2982335560905814772:=0
def tw3708324972242745844:=0
def tw191382894113918319:=0
def tw5131088497047518333:=0
def tw3366939716238598009:=0
def tw12596528643532537716:=0
def tw6183434805732048390:=0
def tw15889927782259261517:=0
def tw1229113606340914466:=0
def tw11892287369227298561:=0
def tw1717987078958645399:=0
def tw8885047037328908856:=0
def tw5164548999565776356:=0
def tw7639535620755848708:=0
def tw5435833732967884088:=0
def tw16572788695565177412:=0
def tw18257173738305762598:=0
def tw2150874215190553480:=0
def tw8875600725598869472:=0
def tw907262598534392829:=0
def tw3947751048832052914:=0
def tw12031646659032623491:=0
def tw14955844638162446201:=0
def tw8276342710563180676:=0
def tw72935034210441933:=0
def tw15954679837022242531:=0
def tw2135230800832803501:=0
def tw10320620761819471460:=0
def tw2140202807396053199:=0
def tw1283941446416191426:=0
def tw5747733729972120813:=0
def tw3193404478338424181:=0
def tw6980805304624394682:=0
def tw2236479165832615916:=0
def tw1429458766811138249:=0
def tw9558058520859790467:=0
def tw2543062829858194260:=0
def tw15274119851576380147:=0
def tw9800293145517007730:=0
def tw16370105519870401045:=0
def tw11849057285256337444:=0
def tw5026807524060589648:=0
def tw10609200040248045787:=0
def tw17278685257107063844:=0
def tw10551298254417333001:=0
def tw12464607428850952049:=0
def tw5368910684354049033:=0
def tw8007753284750934375:=0
def tw18370558168301494545:=0
def tw5574541501619867846:=0
def tw4080916765837965242:=0
def tw7422418170087072434:=0
def tw13103993724190984900:=0
def tw9749945589222781337:=0
def tw5774345959361090051:=0
def tw8047077075623956496:=0
def tw2833606971876270662:=0
def tw7674090273667781437:=0
def tw14765668076076345396:=0
def tw11915018747251393229:=0
def tw17286232598423288213:=0
def tw16455479225817609502:=0
def tw13134174927507942308:=0
def tw4900410879991607877:=0
def tw13151199210193433066:=0
def tw12147563861506504477:=0
def tw6717484591707057674:=0
def tw2199504284443501588:=0
def tw487878273323640320:=0
def tw8892037191903144601:=0
def tw15094692667233284869:=0
def tw10103034984561104271:=0
def tw12445268309525073569:=0
def tw16887434589732414084:=0
def tw10013575489957494741:=0
def tw18416698767109539523:=0
def tw9157729615343385658:=0
def tw13959247870649457271:=0
def tw6541646795946464342:=0
def tw3064102233631409808:=0
def tw12148884552581496347:=0
def tw16282275289444081267:=0
def tw7664325882829803768:=0
def tw4481547285892372904:=0
def tw4951655669805063651:=0
def tw4081818469623812451:=0
def tw17507703346490364463:=0
def tw1855838627301142324:=0
def tw12558437010866016968:=0
def tw8331498079099083961:=0
def tw12884037054537903679:=0
def tw17925781647643586105:=0
def tw1636874405207001370:=0
def tw11385345039765981703:=0
def tw12230347278062168153:=0
def tw7476085497495832392:=0
def tw12004149913431278929:=0
def tw7649441964874861872:=0
def tw8484454992882592298:=0
def tw16412109007855919231:=0
def tw12736553756274424471:=0
def tw8436303017531446659:=0
def tw18351996610234793460:=0
def tw8427358768816268854:=0
def tw8301774814665800745:=0
def tw9931774224011235756:=0
def tw17573780508095970908:=0
def tw12615907032517617567:=0
def tw13479529415344661799:=0
def tw16640502412520160509:=0
def tw16829491273857764581:=0
def tw12305429550042299457:=0
def tw10828823368217027286:=0
def tw17658689161386196828:=0
def tw17446082562741317155:=0
def tw2927655782319143321:=0
def tw404312031427037750:=0
def tw12430202617960014612:=0
def tw12714591297822099711:=0
def tw5101002765296109031:=0
def tw13363327696952061541:=0
def tw2176906607064639394:=0
def tw3563752950082711259:=0
def tw15329954890976258423:=0
def tw6727247390624262635:=0
def tw6215900157427687889:=0
def tw1263973589836119832:=0
def tw9332250764152395311:=0
def tw9527523428117535736:=0
def tw9840098942292521202:=0
def tw2412782312116130976:=0
def tw6356410824029960213:=0
def tw13062867387997110843:=0
def tw7468564810060222578:=0
def tw15150147371504335266:=0
def tw9344438964156354516:=0
def tw761973196400269596:=0
def tw17078399214065980913:=0
def tw11634232263326966540:=0
def tw521885219753449134:=0
def tw2278984635391142201:=0
def tw3326896382519551257:=0
def tw13741217738012260460:=0
def tw11027785232180292649:=0
def tw6338816516714976592:=0
def tw8480271129096172042:=0
def tw2935855218323450450:=0
def tw10420170297209218821:=0
def tw16689106562676778807:=0
def tw15441106403347196821:=0
def tw4314727044741499627:=0
def tw11165576041538069398:=0
def tw9594962819757201549:=0
def tw12999463079632756882:=0
def tw9428665806366809968:=0
def tw6992978124844756867:=0
def tw12699516469757798746:=0
def tw13626103101429390184:=0
def tw14812739002616096970:=0
def tw3811054340737184072:=0
def tw3495031616012374775:=0
def tw17716209405535180299:=0
def tw858098499317974058:=0
def tw13264712756025774125:=0
def tw6479095798967919354:=0
def tw111068267843901168:=0
def tw16353396954436891350:=0
def tw17537447246524049130:=0
def tw7612479088063867575:=0
def tw4545554636016180537:=0
def tw6580155842469087673:=0
def tw6019028284742283173:=0
def tw11813986923663220409:=0
def tw15579325179326130489:=0
def tw2958764747410390551:=0
def tw10428313264255708570:=0
def tw11823646645982215641:=0
def tw15769900076694880998:=0
def tw2158991240255304520:=0
def tw7241169949937119712:=0
def tw359017654753239318:=0
def tw5870935830330011262:=0
def tw15749784852889641969:=0
def tw12211799882455534847:=0
def tw15520676645175721273:=0
def tw9526469131191352167:=0
def tw4424741896825747513:=0
def tw16922057869983966397:=0
def tw6323377699509838058:=0
def tw16675751300360999297:=0
def tw15576433740490996570:=0
def tw6591237024947567165:=0
def tw18020356958998059537:=0
def tw3798612768687223380:=0
def tw13430348007116857252:=0
def tw11043321639634927670:=0
def tw12667090811518591739:=0
def tw1648243812498709725:=0
def tw2229081098382947926:=0
def tw14228630208542808070:=0
def tw2009871584383720589:=0
def tw13220060261722037148:=0
def tw17906000209005097776:=0
def tw10436035096272576455:=0
def tw3403624674182389267:=0
def tw8152153809623445656:=0
def tw15036387471443344612:=0
def tw6008842443947314082:=0
def tw7350311739637128170:=0
def tw8225636102669461136:=0
def tw13005007557631637799:=0
def tw5567950530252049418:=0
def tw13314065972551872058:=0
def tw16502305913533619227:=0
def tw7105774717829097800:=0
def tw4245749811079046543:=0
def tw10875867920617829969:=0
def tw17317623453311477145:=0
def tw1464275499901084224:=0
def tw8954364778742357711:=0
def tw1624232380938852016:=0
def tw12040383906066389183:=0
def tw9210189479367380773:=0
def tw15308416240308999672:=0
def tw16549867725455369022:=0
def tw16717328595699983405:=0
def tw16765064809980596039:=0
def tw602279068977309967:=0
def tw16682589124704600323:=0
def tw11311142222395339324:=0
def tw8611578017298492876:=0
def tw17286751635646854996:=0
def tw10831371883209020893:=0
def tw16439290421121288170:=0
def tw5841350025454179078:=0
def tw4628428922575410697:=0
def tw3341616928999084335:=0
def tw15020857016304913006:=0
def tw4182221022235623357:=0
def tw4074232572747934827:=0
def tw14593780903254552559:=0
def tw7675130754266157724:=0
def tw13783174275060774910:=0
def tw12995953663903845817:=0
def tw2962811632688213901:=0
def tw823303241020490599:=0
def tw1570186818305965184:=0
def tw13021872831147482411:=0
def tw5232761652264941251:=0
def tw423266538284131924:=0
def tw8754452950285359113:=0
end PySem.W.Fast
namespace S13
open PySem L2 XL
theorem walk {l : PySem.W.OpenLaw} {q : Program} {loose : List Str} {XP : (Str → Option Value) → Heap → Prop} {YP : World → Heap → Prop} {d : DefRec} {K : Params → PySem.W.Frag} (hn : l.most = some 63) (hdf : d.params.defaults = [])
    (hY : ∀ (w : World) (h : Heap), YP w h → (K w.params).In h)
    (F : ∀ (w : World) (mg : Str → Option Value) (fa : Addr) (h : Heap), (K w.params).In h → h.Ns mainGlobals mg → mg d.name = some (.ref fa) →
      ∃ fd : FuncData, (∀ (s : Shared) (u : Value), BindsTo s fd ⟨[u], []⟩ [("_law_script", u)]) ∧ ∀ base : Heap, (K w.params).In base → base.Ns mainGlobals mg → FnOk true l.prog w (K w.params) mg base (CXo l.prog w) 9 fa fd ["_law_script"] (spLaw (K w.params))) :
    PySem.W.WalkO q loose XP YP l.row.toRowW d [] (fun f vs => PySem.call f vs) :=
  L2.walk_of (q0 := true) (n := 63) (k := 9) (x := "_law_script") (CX := fun w => CXo l.prog w) (sp := fun w => spLaw (K w.params)) hn (by decide) hdf ⟨fun _ => rfl, by decide, by decide⟩ hY F (fun _ _ a ns hl _ hS => ⟨a, ns, rfl, hS, hl, fun _ => rfl⟩)
    fun w H s e s' z => by obtain ⟨_, _, _, _, _, _, _, _, _, _, _, _, _, _, q⟩ := z; exact q
theorem all_mk {l : PySem.W.OpenLaw} {w : World} {K : PySem.W.Frag} {h : Heap} {mg : Str → Option Value} {fa : Addr} (hfa : mg "law" = some (.ref fa)) (TT : ∃ t, Txt w K mg t) :
    ∃ fd : FuncData, (∀ (s : Shared) (v : Value), BindsTo s fd ⟨[v], []⟩ [("_law_script", v)]) ∧ ∀ base : Heap, K.In base → base.Ns mainGlobals mg → FnOk true l.prog w K mg base (CXo l.prog w) 9 fa fd ["_law_script"] (spLaw K) := by
  obtain ⟨t, T⟩ := TT
  have e := hfa.symm.trans T.g_law
  cases e
  refine ⟨t.d_law, fun s v => ?_, fun base _ _ => ok_law T⟩
  obtain ⟨oc, od, kV, doc, pm, an, cdv, ct, osl, e, lk, hcd⟩ := T.F_law.ex
  rw [e]
  exact .of_eq rfl
end S13
open PySem PySem.W PyProof.Rows
set_option maxRecDepth 100000 in
set_option maxHeartbeats 0 in
theorem PySem.Challenge.cw_rimnotes_k13_givings_told_holds : PySem.Challenge.rw_rimnotes_k13_givings_told.Holds := by
  w_on; o_law; k_head; (case hw => w_witness2)
  k_fill
  refine S13.walk (l := PySem.Challenge.rw_rimnotes_k13_givings_told) rfl rfl (fun w h Y => PySem.W.kIn_of Y) ?F
  case F =>
    intro w mg fa h KX G hmg
    refine S13.all_mk (h := h) hmg ?TT
    refine' S13.txt_mk (w := w) KX G ?g_Side ?g_LeftSide ?g_RightSide ?g_Picture ?a_Side_init ?l_Side_init ?c_Side_init ?k_Side_init ?i_Side_init ?a_side_of ?l_side_of ?c_side_of ?k_side_of ?i_side_of ?a_is_giving ?l_is_giving ?c_is_giving ?k_is_giving ?i_is_giving ?a_is_whole ?l_is_whole ?c_is_whole ?k_is_whole ?i_is_whole ?a_is_name ?l_is_name ?c_is_name ?k_is_name ?i_is_name ?a_Picture_init ?l_Picture_init ?c_Picture_init ?k_Picture_init ?i_Picture_init ?a_Picture_put ?l_Picture_put ?c_Picture_put ?k_Picture_put ?i_Picture_put ?t_Picture_put ?a_Picture_open_seat ?l_Picture_open_seat ?c_Picture_open_seat ?k_Picture_open_seat ?i_Picture_open_seat ?a_Picture_points ?l_Picture_points ?c_Picture_points ?k_Picture_points ?i_Picture_points ?a_Picture_seats ?l_Picture_seats ?c_Picture_seats ?k_Picture_seats ?i_Picture_seats ?a_Picture_may ?l_Picture_may ?c_Picture_may ?k_Picture_may ?i_Picture_may ?a_Picture_check_name ?l_Picture_check_name ?c_Picture_check_name ?k_Picture_check_name ?i_Picture_check_name ?a_Picture_check_cell ?l_Picture_check_cell ?c_Picture_check_cell ?k_Picture_check_cell ?i_Picture_check_cell ?a_Picture_check_lines ?l_Picture_check_lines ?c_Picture_check_lines ?k_Picture_check_lines ?i_Picture_check_lines ?a_Picture_check_seat ?l_Picture_check_seat ?c_Picture_check_seat ?k_Picture_check_seat ?i_Picture_check_seat ?a_law_cell ?l_law_cell ?c_law_cell ?k_law_cell ?i_law_cell ?a_law_mix ?l_law_mix ?c_law_mix ?k_law_mix ?i_law_mix ?a_law_names ?l_law_names ?c_law_names ?k_law_names ?i_law_names ?a_law_places ?l_law_places ?c_law_places ?k_law_places ?i_law_places ?a_law_size ?l_law_size ?c_law_size ?k_law_size ?i_law_size ?a_law_picture ?l_law_picture ?c_law_picture ?k_law_picture ?i_law_picture ?a_law_may ?l_law_may ?c_law_may ?k_law_may ?i_law_may ?a_law_pairs ?l_law_pairs ?c_law_pairs ?k_law_pairs ?i_law_pairs ?a_law_spoiled ?l_law_spoiled ?c_law_spoiled ?k_law_spoiled ?i_law_spoiled ?a_law_due ?l_law_due ?c_law_due ?k_law_due ?i_law_due ?a_law ?l_law ?c_law ?k_law ?i_law ?kc_Side ?pg_Side ?hd_Side ?po_Side ?sa_Side ?mk_Side ?ca_Side ?mo_Side ?kc_LeftSide ?pg_LeftSide ?hd_LeftSide ?po_LeftSide ?sa_LeftSide ?mk_LeftSide ?ca_LeftSide ?mo_LeftSide ?a_LeftSide_init ?kc_RightSide ?pg_RightSide ?hd_RightSide ?po_RightSide ?sa_RightSide ?mk_RightSide ?ca_RightSide ?mo_RightSide ?a_RightSide_init ?kc_Picture ?pg_Picture ?hd_Picture ?po_Picture ?sa_Picture ?mk_Picture ?ca_Picture ?mo_Picture ?cg ?ct ?n_Picture_placed ?n_Picture_height ?n_Picture_width ?n_Picture_opened ?n_Side_width ?n_LeftSide_width ?n_RightSide_width ?n_all ?n_bool ?n_enumerate ?n_int ?n_isinstance ?n_len ?n_list ?n_min ?n_range ?n_reversed ?n_set ?n_sorted ?n_str ?v_MOST_ROWS ?v_MOST_COLUMNS ?v_MOST_POINTS ?g_MIRRORED_SIDES ?l_MIRRORED_SIDES ?ns_MIRRORED_SIDES
    (case g_Side => k_is)
    (case g_LeftSide => k_is)
    (case g_RightSide => k_is)
    (case g_Picture => k_is)
    (case a_Side_init => k_is)
    (case l_Side_init => k_is)
    (case c_Side_init => k_is)
    (case k_Side_init => k_is)
    (case i_Side_init => k_is)
    (case a_side_of => k_is)
    (case l_side_of => k_is)
    (case c_side_of => k_is)
    (case k_side_of => k_is)
    (case i_side_of => k_is)
    (case a_is_giving => k_is)
    (case l_is_giving => k_is)
    (case c_is_giving => k_is)
    (case k_is_giving => k_is)
    (case i_is_giving => k_is)
    (case a_is_whole => k_is)
    (case l_is_whole => k_is)
    (case c_is_whole => k_is)
    (case k_is_whole => k_is)
    (case i_is_whole => k_is)
    (case a_is_name => k_is)
    (case l_is_name => k_is)
    (case c_is_name => k_is)
    (case k_is_name => k_is)
    (case i_is_name => k_is)
    (case a_Picture_init => k_is)
    (case l_Picture_init => k_is)
    (case c_Picture_init => k_is)
    (case k_Picture_init => k_is)
    (case i_Picture_init => k_is)
    (case a_Picture_put => k_is)
    (case l_Picture_put => k_is)
    (case c_Picture_put => k_is)
    (case k_Picture_put => k_is)
    (case i_Picture_put => k_is)
    (case t_Picture_put => k_is)
    (case a_Picture_open_seat => k_is)
    (case l_Picture_open_seat => k_is)
    (case c_Picture_open_seat => k_is)
    (case k_Picture_open_seat => k_is)
    (case i_Picture_open_seat => k_is)
    (case a_Picture_points => k_is)
    (case l_Picture_points => k_is)
    (case c_Picture_points => k_is)
    (case k_Picture_points => k_is)
    (case i_Picture_points => k_is)
    (case a_Picture_seats => k_is)
    (case l_Picture_seats => k_is)
    (case c_Picture_seats => k_is)
    (case k_Picture_seats => k_is)
    (case i_Picture_seats => k_is)
    (case a_Picture_may => k_is)
    (case l_Picture_may => k_is)
    (case c_Picture_may => k_is)
    (case k_Picture_may => k_is)
    (case i_Picture_may => k_is)
    (case a_Picture_check_name => k_is)
    (case l_Picture_check_name => k_is)
    (case c_Picture_check_name => k_is)
    (case k_Picture_check_name => k_is)
    (case i_Picture_check_name => k_is)
    (case a_Picture_check_cell => k_is)
    (case l_Picture_check_cell => k_is)
    (case c_Picture_check_cell => k_is)
    (case k_Picture_check_cell => k_is)
    (case i_Picture_check_cell => k_is)
    (case a_Picture_check_lines => k_is)
    (case l_Picture_check_lines => k_is)
    (case c_Picture_check_lines => k_is)
    (case k_Picture_check_lines => k_is)
    (case i_Picture_check_lines => k_is)
    (case a_Picture_check_seat => k_is)
    (case l_Picture_check_seat => k_is)
    (case c_Picture_check_seat => k_is)
    (case k_Picture_check_seat => k_is)
    (case i_Picture_check_seat => k_is)
    (case a_law_cell => k_is)
    (case l_law_cell => k_is)
    (case c_law_cell => k_is)
    (case k_law_cell => k_is)
    (case i_law_cell => k_is)
    (case a_law_mix => k_is)
    (case l_law_mix => k_is)
    (case c_law_mix => k_is)
    (case k_law_mix => k_is)
    (case i_law_mix => k_is)
    (case a_law_names => k_is)
    (case l_law_names => k_is)
    (case c_law_names => k_is)
    (case k_law_names => k_is)
    (case i_law_names => k_is)
    (case a_law_places => k_is)
    (case l_law_places => k_is)
    (case c_law_places => k_is)
    (case k_law_places => k_is)
    (case i_law_places => k_is)
    (case a_law_size => k_is)
    (case l_law_size => k_is)
    (case c_law_size => k_is)
    (case k_law_size => k_is)
    (case i_law_size => k_is)
    (case a_law_picture => k_is)
    (case l_law_picture => k_is)
    (case c_law_picture => k_is)
    (case k_law_picture => k_is)
    (case i_law_picture => k_is)
    (case a_law_may => k_is)
    (case l_law_may => k_is)
    (case c_law_may => k_is)
    (case k_law_may => k_is)
    (case i_law_may => k_is)
    (case a_law_pairs => k_is)
    (case l_law_pairs => k_is)
    (case c_law_pairs => k_is)
    (case k_law_pairs => k_is)
    (case i_law_pairs => k_is)
    (case a_law_spoiled => k_is)
    (case l_law_spoiled => k_is)
    (case c_law_spoiled => k_is)
    (case k_law_spoiled => k_is)
    (case i_law_spoiled => k_is)
    (case a_law_due => k_is)
    (case l_law_due => k_is)
    (case c_law_due => k_is)
    (case k_law_due => k_is)
    (case i_law_due => k_is)
    (case a_law => k_is)
    (case l_law => k_is)
    (case c_law => k_is)
    (case k_law => k_is)
    (case i_law => k_is)
    (case kc_Side => k_is)
    (case pg_Side => k_is)
    (case hd_Side => k_is)
    (case po_Side => k_is)
    (case sa_Side => k_is)
    (case mk_Side => first | k_is | kernel_rfl)
    (case ca_Side => k_is)
    (case mo_Side => k_is)
    (case kc_LeftSide => k_is)
    (case pg_LeftSide => k_is)
    (case hd_LeftSide => k_is)
    (case po_LeftSide => k_is)
    (case sa_LeftSide => k_is)
    (case mk_LeftSide => first | k_is | kernel_rfl)
    (case ca_LeftSide => k_is)
    (case mo_LeftSide => k_is)
    (case a_LeftSide_init => k_is)
    (case kc_RightSide => k_is)
    (case pg_RightSide => k_is)
    (case hd_RightSide => k_is)
    (case po_RightSide => k_is)
    (case sa_RightSide => k_is)
    (case mk_RightSide => first | k_is | kernel_rfl)
    (case ca_RightSide => k_is)
    (case mo_RightSide => k_is)
    (case a_RightSide_init => k_is)
    (case kc_Picture => k_is)
    (case pg_Picture => k_is)
    (case hd_Picture => k_is)
    (case po_Picture => k_is)
    (case sa_Picture => k_is)
    (case mk_Picture => first | k_is | kernel_rfl)
    (case ca_Picture => k_is)
    (case mo_Picture => k_is)
    (case cg => k_is)
    (case ct => k_is)
    (case n_Picture_placed => k_is)
    (case n_Picture_height => k_is)
    (case n_Picture_width => k_is)
    (case n_Picture_opened => k_is)
    (case n_Side_width => k_is)
    (case n_LeftSide_width => k_is)
    (case n_RightSide_width => k_is)
    (case n_all => k_is)
    (case n_bool => k_is)
    (case n_enumerate => k_is)
    (case n_int => k_is)
    (case n_isinstance => k_is)
    (case n_len => k_is)
    (case n_list => k_is)
    (case n_min => k_is)
    (case n_range => k_is)
    (case n_reversed => k_is)
    (case n_set => k_is)
    (case n_sorted => k_is)
    (case n_str => k_is)
    (case v_MOST_ROWS => k_is)
    (case v_MOST_COLUMNS => k_is)
    (case v_MOST_POINTS => k_is)
    (case g_MIRRORED_SIDES => k_is)
    (case l_MIRRORED_SIDES => first | k_is | kernel_rfl)
    (case ns_MIRRORED_SIDES => kernel_rfl)
