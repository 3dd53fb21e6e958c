import PyProof.Rows.All
import Wide.All
import OpenK.AllK
import Wide.FinOn
import Lean
import PyProof.EqAt
import PyProof.EqKinds
import PyProof.TupleCall
import PyProof.StationsW
import PyProof.ExcClass2
import PyProof.RulesAs
import PyProof.ExcBaseAll.ValueError
import OpenK.KDescr
import OpenK.KWalk
import PyProof.ExcAttrAll.ValueError
import PyProof.Comp
import PyProof.ListRange
import PyProof.DictItems
import KE.KPairComp
import KE.KDictOf
import PyProof.AttrMissHeap
import PyProof.Rows.Range3
import KE.KRevIter
import PyProof.ZipIter
import OpenK.KEqL
import PyProof.AutoListH
import PyProof.EnumMake
import PyProof.WalksEnum
import PyProof.NeKinds
import PyProof.MaxThree
import KE.KSortTup
import PyProof.StrLawsIn
import PyProof.DictValues
import PyProof.DictIter
import PyProof.Draws
import PyProof.DictWalks
import PyProof.ListNew
import PyProof.ListStr
import KE.KIntText
import PyProof.Rows.FStr
import PyProof.MeetsStr
import PyProof.Rows.CallKwBuiltin
import PyProof.Rows.StrNews
import PyProof.Rows.StrNews2
import PyProof.StrLawsChain
import PyProof.StrLawsFirst
import PyProof.StrLawsTight
import PySem.Challenge.RW_rimnotes_k23_lines_refused
set_option Elab.async false
set_option linter.all false
set_option maxRecDepth 100000
set_option maxHeartbeats 4000000
set_option maxRecDepth 100000
namespace L2
open PySem PySem.Spec PyProof.Rows
variable {q0 : Bool}
abbrev Key := Sum Int Str
def keyIs : Key → Value → Bool
  | .inl k, v => Value.isInt k v
  | .inr x, v => Value.isStrOf x v
def keyH (w : World) : Key → Int
  | .inl k => hashInt k
  | .inr x => hashStr w x
theorem keyIs_shape : ∀ {k : Key} {v : Value}, keyIs k v = true → (∃ i t, k = Sum.inl i ∧ v = Value.int i t) ∨ (∃ x t, k = Sum.inr x ∧ v = Value.str x t)
  | .inl i, v, h => by
    obtain ⟨t, e⟩ := Value.isInt_shape (k := i) (v := v) h
    exact .inl ⟨i, t, rfl, e⟩
  | .inr x, v, h => by
    obtain ⟨t, e⟩ := Value.isStrOf_shape (x := x) (v := v) h
    exact .inr ⟨x, t, rfl, e⟩
theorem keyIs_int (i : Int) (t : Tok) : keyIs (.inl i) (.int i t) = true := by simp [keyIs, Value.isInt]
theorem keyIs_str (x : Str) (t : Tok) : keyIs (.inr x) (.str x t) = true := by simp [keyIs, Value.isStrOf]
theorem key_ll (a b : Int) : decide ((Sum.inl a : Key) = Sum.inl b) = (a == b) := by
  by_cases e : a = b
  · subst e; simp
  · have h : ¬ (Sum.inl a : Key) = Sum.inl b := fun q => e (Sum.inl.inj q)
    rw [decide_eq_false h]
    exact (beq_eq_false_iff_ne.mpr e).symm
theorem key_rr (a b : Str) : decide ((Sum.inr a : Key) = Sum.inr b) = decide (a = b) := by
  by_cases e : a = b
  · subst e; simp
  · have h : ¬ (Sum.inr a : Key) = Sum.inr b := fun q => e (Sum.inr.inj q)
    rw [decide_eq_false h, decide_eq_false e]
theorem key_lr (a : Int) (b : Str) : decide ((Sum.inl a : Key) = Sum.inr b) = false := decide_eq_false (fun q => nomatch q)
theorem key_rl (a : Str) (b : Int) : decide ((Sum.inr a : Key) = Sum.inl b) = false := decide_eq_false (fun q => nomatch q)
def mixKind (prog : Program) (w : World) : PySem.KeyKind prog w Key where
  is := keyIs
  hash := keyH w
  inj := fun v a b ha hb => by
    rcases keyIs_shape ha with ⟨i, t, rfl, rfl⟩ | ⟨x, t, rfl, rfl⟩
    · rcases keyIs_shape hb with ⟨j, u, rfl, e⟩ | ⟨y, u, rfl, e⟩
      · injection e with e1 _; rw [e1]
      · exact nomatch e
    · rcases keyIs_shape hb with ⟨j, u, rfl, e⟩ | ⟨y, u, rfl, e⟩
      · exact nomatch e
      · injection e with e1 _; rw [e1]
  byValue := fun k v h => by
    rcases keyIs_shape h with ⟨i, t, rfl, rfl⟩ | ⟨x, t, rfl, rfl⟩ <;> rfl
  pyHash := fun hv h => by
    rcases keyIs_shape hv with ⟨i, t, rfl, rfl⟩ | ⟨x, t, rfl, rfl⟩
    · exact wpAny_pyHash_int h
    · exact wpAny_pyHash_str h
  eqBool := fun hu hv h => by
    rcases keyIs_shape hu with ⟨i, t, rfl, rfl⟩ | ⟨x, t, rfl, rfl⟩
    · rcases keyIs_shape hv with ⟨j, u, rfl, rfl⟩ | ⟨y, u, rfl, rfl⟩
      · rw [key_ll] at h; exact wpAny_eqBool_int h
      · rw [key_lr] at h; exact SeqAt.EqAt.int_str i t y u _ _ _ _ h
    · rcases keyIs_shape hv with ⟨j, u, rfl, rfl⟩ | ⟨y, u, rfl, rfl⟩
      · rw [key_rl] at h; exact SeqAt.EqAt.str_int x t j u _ _ _ _ h
      · rw [key_rr] at h; exact wpAny_eqBool_str h
  «strs» := fun k x t v h => by
    rcases keyIs_shape h with ⟨i, u, rfl, e⟩ | ⟨y, u, rfl, e⟩
    · exact nomatch e
    · injection e with e1 _
      subst e1
      cases v <;> rfl
theorem mixKind_int (prog : Program) (w : World) (i : Int) (t : Tok) : (mixKind prog w).is (.inl i) (.int i t) = true := keyIs_int i t
theorem mixKind_str (prog : Program) (w : World) (x : Str) (t : Tok) : (mixKind prog w).is (.inr x) (.str x t) = true := keyIs_str x t
end L2
namespace L2
open PySem PySem.Spec PyProof.Rows
variable {q0 : Bool}
inductive V where
  | non | bl (b : Bool) | int (i : Int) | str (x : Str) | byt (b : Array UInt8) | flt (b : UInt64) | ref (a : Addr) | ty (n : String)
  deriving DecidableEq
def RelV : V → Value → Prop
  | .non, u => u = Value.none
  | .bl b, u => u = Value.bool b
  | .int i, u => ∃ t, u = Value.int i t
  | .str x, u => ∃ t, u = Value.str x t
  | .byt b, u => ∃ t, u = Value.bytes b t
  | .flt b, u => ∃ t, u = Value.float b t
  | .ref a, u => u = Value.ref a
  | .ty n, u => u = Value.type n
abbrev Vals : List V → List Value → Prop := Paired RelV
theorem Vals.length {xs : List V} {us : List Value} (r : Vals xs us) : xs.length = us.length := Paired.length r
theorem Vals.get : ∀ {xs : List V} {us : List Value} {i : Nat} {x : V}, Vals xs us → xs[i]? = some x → ∃ u, us[i]? = some u ∧ RelV x u
  | _, _, _, _, .nil, e => by simp at e
  | _, _, 0, _, .cons r _, e => by simp at e; subst e; exact ⟨_, rfl, r⟩
  | _, _, i + 1, x, .cons _ t, e => by
    obtain ⟨u, h1, h2⟩ := Vals.get (i := i) (x := x) t (by simpa using e)
    exact ⟨u, by simpa using h1, h2⟩
theorem Vals.set {x : V} {u : Value} (r : RelV x u) : ∀ {xs : List V} {us : List Value} (i : Nat), Vals xs us → Vals (xs.set i x) (us.set i u)
  | _, _, _, .nil => .nil
  | _, _, 0, .cons _ t => .cons r t
  | _, _, i + 1, .cons q t => .cons q (Vals.set r i t)
theorem Vals.append : ∀ {xs ys : List V} {us ws : List Value}, Vals xs us → Vals ys ws → Vals (xs ++ ys) (us ++ ws)
  | _, _, _, _, .nil, s => s
  | _, _, _, _, .cons r t, s => .cons r (Vals.append t s)
theorem Vals.take : ∀ {xs : List V} {us : List Value} (n : Nat), Vals xs us → Vals (xs.take n) (us.take n)
  | _, _, 0, _ => .nil
  | _, _, _ + 1, .nil => .nil
  | _, _, n + 1, .cons r t => .cons r (Vals.take n t)
theorem Vals.drop : ∀ {xs : List V} {us : List Value} (n : Nat), Vals xs us → Vals (xs.drop n) (us.drop n)
  | _, _, 0, r => r
  | _, _, _ + 1, .nil => .nil
  | _, _, n + 1, .cons _ t => Vals.drop n t
def RelO : Option V → Option Value → Prop
  | some v, some u => RelV v u
  | none, none => True
  | _, _ => False
def KV {κ : Type} : List (κ × V) → List (κ × Value) → Prop := Paired fun (p : κ × V) (q : κ × Value) => p.1 = q.1 ∧ RelV p.2 q.2
def kV : Key → V
  | .inl i => .int i
  | .inr x => .str x
inductive HO where
  /-- a list -/
  | lst (xs : List V)
  /-- a tuple (never changes) -/
  | tup (xs : List V)
  /-- a dict whose keys are ints and texts; one whose keys are tuples of ints and texts (the empty one is both) -/
  | dK (kvs : List (Key × V)) | dT (kvs : List (List Key × V))
  /-- a set of ints: its members, its size -/
  | set (S : Int → Bool) (n : Nat)
  /-- an instance of the class at C, its dict at dx, its attributes -/
  | ins (C dx : Addr) (fs : List (Str × V))
  /-- the dict of the instance at x -/
  | own (x : Addr)
  /-- the dict of an exception -/
  | xd (fs : List (Str × V))
  /-- a bound method, f of x -/
  | met (f x : Addr)
  /-- a range object lo, lo + 1, .. below hi -/
  | rng (lo hi : Int)
  /-- a thing that is known to the object (the script; a dict while a loop walks it): read, never written while it is so -/
  | frz (o : Obj) (u : HO)
  /-- a code object's table -/
  | tbl (ps : Array Value)
  /-- any other thing, by what is true of its one object (a def of one's own: SetO a S n := HO.ext fun h => ..) -/
  | ext (φ : Heap → Prop)
abbrev Hp := Addr → Option HO
def upd (H : Hp) (a : Addr) (o : HO) : Hp := fun b => if b = a then some o else H b
theorem upd_same {H : Hp} {a : Addr} {o : HO} : upd H a o a = some o := by unfold upd; rw [if_pos rfl]
theorem upd_ne {H : Hp} {a b : Addr} {o : HO} (h : b ≠ a) : upd H a o b = H b := by unfold upd; rw [if_neg h]
theorem upd_upd {H : Hp} {a : Addr} {o u : HO} : upd (upd H a o) a u = upd H a u := by
  funext b; unfold upd; split <;> rfl
theorem ne_of {H : Hp} {a b : Addr} {o u : HO} (h : H a = some o) (h' : H b = some u) (d : o ≠ u) : a ≠ b := by
  intro e; subst e; rw [h] at h'; exact d (Option.some.inj h')
theorem ne_of_none {H : Hp} {a b : Addr} {o : HO} (h : H a = some o) (h' : H b = none) : a ≠ b := by
  intro e; subst e; rw [h] at h'; cases h'
section
variable (P : Program) (w : World)
def ObjOk (H : Hp) (h : Heap) (a : Addr) : HO → Prop
  | .lst xs => xs.length ≤ sizeLine ∧ ∃ (its : List Value) (n : Nat), Vals xs its ∧ h.get? a = some { cls := .type "list", data := .seq its.toArray n }
  | .tup xs => xs.length ≤ sizeLine ∧ ∃ its : List Value, Vals xs its ∧ IsTup h a its.toArray
  | .dK kvs => kvs.length ≤ sizeLine ∧ (a == sysModules) = false ∧ ∃ vs, KV kvs vs ∧ h.DictOf (mixKind P w) a vs
  | .dT kvs => kvs.length ≤ sizeLine ∧ (a == sysModules) = false ∧ ∃ xs : List (List Key × Addr × Value),
      Paired (fun (p : List Key × V) (q : List Key × Addr × Value) => p.1 = q.1 ∧ H q.2.1 = some (.tup (p.1.map kV)) ∧ RelV p.2 q.2.2) kvs xs ∧
      ∃ o es ep, h.get? a = some o ∧ o.ExactDict ∧ o.data = .dict es ep ∧ es.toList = xs.map (entryOfKey (tupleKind (mixKind P w))) ∧ (xs.map (·.1)).Nodup
  | .set S n => h.SetOf (intKind P w) a S n
  | .ins C dx fs => H dx = some (.own a) ∧ fs.length ≤ 1000 ∧ dx ≠ a ∧ h.get? a = some (PySem.W.instObj C dx) ∧
      ∃ mA, h.Ns1 dx mA ∧ (∀ f, RelO (fs.lookup f) (mA f)) ∧ PySem.Within mA (fs.map (·.1))
  | .own _ => ∃ o, h.get? a = some o
  | .xd fs => ∃ mA, h.Ns1 a mA ∧ ∀ f, RelO (fs.lookup f) (mA f)
  | .rng lo hi => ∃ t u v, h.get? a = some { cls := .type "range", data := .fields #[.int lo t, .int hi u, .int 1 v] }
  | .frz o u => h.get? a = some o ∧ ObjOk H h a u
  | .tbl ps => h.get? a = some { cls := .none, data := .fields ps }
  | .met f x => h.get? a = some (PySem.W.methodObj (.ref f) (.ref x))
  | .ext φ => φ h ∧ (∃ o, h.get? a = some o) ∧ ∀ h1 h2 : Heap, φ h1 → (∀ o, h1.get? a = some o → h2.get? a = some o) → φ h2
def HOk (H : Hp) (h : Heap) : Prop := ∀ a o, H a = some o → ObjOk P w H h a o
end
section
variable {P : Program} {w : World} {H H' : Hp} {h h' : Heap} {a : Addr} {o : HO}
theorem ObjOk.lt (x : ObjOk P w H h a o) : a < h.objs.size := by
  cases o with
  | lst xs => obtain ⟨_, _, _, _, e⟩ := x; exact Heap.lt_size e
  | tup xs => obtain ⟨_, _, _, p⟩ := x; exact p.lt
  | dK kvs => obtain ⟨_, _, _, _, o, _, _, e, _⟩ := x; exact Heap.lt_size e
  | dT kvs => obtain ⟨_, _, _, _, o, _, _, e, _⟩ := x; exact Heap.lt_size e
  | set S n => obtain ⟨o, _, _, _, e, _⟩ := x; exact Heap.lt_size e
  | ins C dx fs => obtain ⟨_, _, _, e, _⟩ := x; exact Heap.lt_size e
  | own y => obtain ⟨_, e⟩ := x; exact Heap.lt_size e
  | xd fs => obtain ⟨_, ⟨_, _, _, e, _⟩, _⟩ := x; exact Heap.lt_size e
  | rng lo hi => obtain ⟨_, _, _, e⟩ := x; exact Heap.lt_size e
  | frz ob u => obtain ⟨e, _⟩ := x; exact Heap.lt_size e
  | tbl ps => exact Heap.lt_size (show h.get? a = some _ from x)
  | met f y => exact Heap.lt_size (show h.get? a = some _ from x)
  | ext φ => obtain ⟨_, ⟨_, e⟩, _⟩ := x; exact Heap.lt_size e
theorem Paired.mapP {α β : Type} {F G : α → β → Prop} : ∀ {l₁ : List α} {l₂ : List β}, Paired F l₁ l₂ → (∀ a b, F a b → G a b) → Paired G l₁ l₂
  | _, _, .nil, _ => .nil
  | _, _, .cons r t, f => .cons (f _ _ r) (Paired.mapP t f)
theorem ObjOk.stay (x : ObjOk P w H h a o) (k : ∀ b u, (b = a ∨ H b = some (.own a)) → h.get? b = some u → h'.get? b = some u)
    (ho : ∀ b, H b = some (.own a) → H' b = some (.own a)) (ht : ∀ b xs, H b = some (.tup xs) → H' b = some (.tup xs)) : ObjOk P w H' h' a o := by
  induction o with
  | lst xs => obtain ⟨z, its, n, r, e⟩ := x; exact ⟨z, its, n, r, k _ _ (.inl rfl) e⟩
  | tup xs => obtain ⟨z, its, r, ob, e, c⟩ := x; exact ⟨z, its, r, ob, k _ _ (.inl rfl) e, c⟩
  | dK kvs => obtain ⟨z, y, vs, r, ob, es, ep, e, c⟩ := x; exact ⟨z, y, vs, r, ob, es, ep, k _ _ (.inl rfl) e, c⟩
  | dT kvs =>
    obtain ⟨z, y, xs, r, ob, es, ep, e, c⟩ := x
    exact ⟨z, y, xs, Paired.mapP r fun p q z => ⟨z.1, ht _ _ z.2.1, z.2.2⟩, ob, es, ep, k _ _ (.inl rfl) e, c⟩
  | set S n => obtain ⟨ob, es, ep, t, e, c⟩ := x; exact ⟨ob, es, ep, t, k _ _ (.inl rfl) e, c⟩
  | ins C dx fs =>
    obtain ⟨d, z, ne, e, mA, ⟨od, es, ep, e2, c⟩, r⟩ := x
    exact ⟨ho _ d, z, ne, k _ _ (.inl rfl) e, mA, ⟨od, es, ep, k _ _ (.inr d) e2, c⟩, r⟩
  | own y => obtain ⟨ob, e⟩ := x; exact ⟨ob, k _ _ (.inl rfl) e⟩
  | xd fs => obtain ⟨mA, ⟨od, es, ep, e, c⟩, r⟩ := x; exact ⟨mA, ⟨od, es, ep, k _ _ (.inl rfl) e, c⟩, r⟩
  | rng lo hi => obtain ⟨t, u, v, e⟩ := x; exact ⟨t, u, v, k _ _ (.inl rfl) e⟩
  | frz ob u ih => obtain ⟨e, q⟩ := x; exact ⟨k _ _ (.inl rfl) e, ih q⟩
  | tbl ps =>
    have e : h.get? a = some { cls := .none, data := .fields ps } := x
    show h'.get? a = some { cls := .none, data := .fields ps }
    exact k a _ (.inl rfl) e
  | met f y =>
    have e : h.get? a = some (PySem.W.methodObj (.ref f) (.ref y)) := x
    show h'.get? a = some (PySem.W.methodObj (.ref f) (.ref y))
    exact k a _ (.inl rfl) e
  | ext φ => obtain ⟨p, ⟨o, e⟩, st⟩ := x; exact ⟨st _ _ p fun o q => k _ _ (.inl rfl) q, ⟨o, k _ _ (.inl rfl) e⟩, st⟩
theorem HOk.lt (x : HOk P w H h) (e : H a = some o) : a < h.objs.size := (x a o e).lt
theorem HOk.fresh (x : HOk P w H h) (e : h.objs.size ≤ a) : H a = none := by
  cases q : H a with
  | none => rfl
  | some u => exact absurd (Nat.lt_of_lt_of_le (x.lt q) e) (Nat.lt_irrefl _)
theorem HOk.kept (x : HOk P w H h) (k : ∀ b u, h.get? b = some u → h'.get? b = some u) : HOk P w H h' := fun a o e =>
  (x a o e).stay (fun b u _ q => k b u q) (fun _ q => q) fun _ _ q => q
theorem HOk.laid (x : HOk P w H h) (k : ∀ b u, h.get? b = some u → h'.get? b = some u) (hp : h.objs.size ≤ a) (new : ObjOk P w (upd H a o) h' a o) : HOk P w (upd H a o) h' := fun b u e => by
  have hn := x.fresh hp
  by_cases hb : b = a
  · subst hb; rw [upd_same] at e; cases e; exact new
  · rw [upd_ne hb] at e
    exact (x b u e).stay (fun c v _ q => k c v q) (fun c q => by rw [upd_ne (ne_of_none q hn)]; exact q) fun c xs q => by rw [upd_ne (ne_of_none q hn)]; exact q
end
def Rd (H : Hp) (a : Addr) (u : HO) : Prop := H a = some u ∨ ∃ o, H a = some (.frz o u)
theorem Rd.ok {P : Program} {w : World} {H : Hp} {h : Heap} {a : Addr} {u : HO} (r : Rd H a u) (x : HOk P w H h) : ObjOk P w H h a u := by
  rcases r with r | ⟨o, r⟩
  · exact x a u r
  · obtain ⟨_, q⟩ := x a _ r
    exact q
def Mut : Option HO → Prop
  | some (.lst _) => True
  | some (.dK _) => True
  | some (.dT _) => True
  | some (.set _ _) => True
  | some (.ins _ _ _) => True
  | some (.ext _) => True
  | _ => False
section
variable {P : Program} {w : World} {H : Hp} {h h' : Heap} {x e : Addr} {o' : HO}
theorem HOk.write (ok : HOk P w H h) (mu : Mut (H x)) (he : e = x ∨ H e = some (.own x)) (k : ∀ b u, b ≠ e → h.get? b = some u → h'.get? b = some u) (heo : ∃ u, h'.get? e = some u)
    (new : ObjOk P w (upd H x o') h' x o') : HOk P w (upd H x o') h' := fun b u q => by
  have nown : ∀ c y, H c = some (.own y) → c ≠ x := fun c y r z => by subst z; rw [r] at mu; exact mu
  have ntup : ∀ c xs, H c = some (.tup xs) → c ≠ x := fun c xs r z => by subst z; rw [r] at mu; exact mu
  by_cases hb : b = x
  · subst hb; rw [upd_same] at q; cases q; exact new
  · rw [upd_ne hb] at q
    by_cases hbe : b = e
    · have q' : H b = some (.own x) := by
        rcases he with z | z
        · exact absurd (hbe.trans z) hb
        · rw [hbe]; exact z
      rw [q] at q'; cases q'
      obtain ⟨v, hv⟩ := heo
      exact ⟨v, by rw [hbe]; exact hv⟩
    · refine (ok b u q).stay (fun c v hc r => k c v ?_ r) (fun c r => by rw [upd_ne (nown c b r)]; exact r) fun c xs r => by rw [upd_ne (ntup c xs r)]; exact r
      rcases hc with rfl | hc
      · exact hbe
      · rintro rfl
        rcases he with z | z
        · exact nown c b hc z
        · rw [hc] at z; cases z; exact hb rfl
end
structure Un (fs ex : List Addr) (H H' : Hp) (h h' : Heap) : Prop where
  keep : ∀ b o, h.get? b = some o → H b = none → b ∉ fs → b ∉ ex → h'.get? b = some o
  slot : ∀ b o, h.get? b = some o → H b = none → b ∈ fs → b ∉ ex → ∃ sl, h'.get? b = some { o with slots := sl }
  free : ∀ b o, h.get? b = some o → H b = none → b ∉ ex → H' b = none
  there : ∀ b o, h.get? b = some o → b ∉ ex → ∃ o', h'.get? b = some o'
  tups : ∀ b xs, H b = some (.tup xs) → H' b = some (.tup xs)
  frzs : ∀ b o u, H b = some (.frz o u) → H' b = some (.frz o u)
  tbls : ∀ b ps, H b = some (.tbl ps) → ∃ more, H' b = some (.tbl (ps ++ more))
section
variable {fs fs' ex ex' : List Addr} {H H1 H2 : Hp} {h h1 h2 h' : Heap} {a x e : Addr} {o : HO}
theorem Un.any (u : Un fs ex H H1 h h1) {b : Addr} {ob : Obj} (q : h.get? b = some ob) (n : H b = none) (hx : b ∉ ex) : ∃ sl, h1.get? b = some { ob with slots := sl } := by
  by_cases hb : b ∈ fs
  · exact u.slot b ob q n hb hx
  · exact ⟨ob.slots, u.keep b ob q n hb hx⟩
theorem Un.kept (k : ∀ b u, h.get? b = some u → h'.get? b = some u) : Un fs ex H H h h' :=
  ⟨fun b ob q _ _ _ => k b ob q, fun b ob q _ _ _ => ⟨ob.slots, k b ob q⟩, fun _ _ _ n _ => n, fun b ob q _ => ⟨ob, k b ob q⟩, fun _ _ q => q, fun _ _ _ q => q, fun _ ps q => ⟨#[], by rw [q]; simp⟩⟩
theorem Un.refl : Un fs ex H H h h := Un.kept fun _ _ q => q
theorem Un.laid (k : ∀ b u, h.get? b = some u → h'.get? b = some u) (hp : h.objs.size ≤ a) (hn : H a = none) : Un fs ex H (upd H a o) h h' where
  keep := fun b u q _ _ _ => k b u q
  slot := fun b u q _ _ _ => ⟨u.slots, k b u q⟩
  free := fun b u q n _ => by rw [upd_ne (Nat.ne_of_lt (Nat.lt_of_lt_of_le (Heap.lt_size q) hp))]; exact n
  there := fun b u q _ => ⟨u, k b u q⟩
  tups := fun b xs q => by rw [upd_ne (ne_of_none q hn)]; exact q
  frzs := fun b u xs q => by rw [upd_ne (ne_of_none q hn)]; exact q
  tbls := fun b ps q => ⟨#[], by rw [upd_ne (ne_of_none q hn), q]; simp⟩
theorem Un.write (mu : Mut (H x)) (he : e = x ∨ H e = some (.own x)) (k : ∀ b u, b ≠ e → h.get? b = some u → h'.get? b = some u) (heo : ∃ u, h'.get? e = some u) : Un fs ex H (upd H x o) h h' := by
  have hx : ∀ b, H b = none → b ≠ x := fun b n z => by subst z; rw [n] at mu; exact mu
  have hb : ∀ b, H b = none → b ≠ e := fun b n z => by
    subst z
    rcases he with r | r
    · exact hx b n r
    · rw [n] at r; cases r
  have hm : ∀ b u, H b = some u → ¬ Mut (some u) → b ≠ x := fun b u q nm z => by subst z; rw [q] at mu; exact nm mu
  refine ⟨fun b u q n _ _ => k b u (hb b n) q, fun b u q n _ _ => ⟨u.slots, k b u (hb b n) q⟩, fun b u q n _ => by rw [upd_ne (hx b n)]; exact n, fun b u q _ => ?_,
    fun b xs q => by rw [upd_ne (hm b _ q fun z => z)]; exact q, fun b u xs q => by rw [upd_ne (hm b _ q fun z => z)]; exact q, fun b ps q => ⟨#[], by rw [upd_ne (hm b _ q fun z => z), q]; simp⟩⟩
  by_cases hbe : b = e
  · subst hbe; exact heo
  · exact ⟨u, k b u hbe q⟩
end
def trk (h : Heap) (H : Hp) : List Addr := (List.range h.objs.size).filter fun a => (H a).isSome
def hidT (h : Heap) (H : Hp) : Heap := PySem.W.hideAll h (trk h H)
theorem hidT_size (h : Heap) (H : Hp) : (hidT h H).objs.size = h.objs.size := PySem.W.hideAll_size _ _
theorem hidT_get {h : Heap} {H : Hp} {b : Addr} {o : Obj} (e : h.get? b = some o) (n : H b = none) : (hidT h H).get? b = some o :=
  PySem.W.hideAll_get _ e fun hm => by
    have q : (H b).isSome = true := (List.mem_filter.mp hm).2
    rw [n] at q; simp at q
theorem of_hidT {h : Heap} {H : Hp} {b : Addr} {o : Obj} (e : (hidT h H).get? b = some o) : h.get? b = some o ∧ H b = none := by
  have e' : h.get? b = some o := PySem.W.of_hideAll (trk h H) e
  refine ⟨e', ?_⟩
  cases q : H b with
  | none => rfl
  | some x =>
    have hm : b ∈ trk h H := List.mem_filter.mpr ⟨List.mem_range.mpr (Heap.lt_size e'), by simp [q]⟩
    have z : (hidT h H).get? b = none := PySem.W.hideAll_none (trk h H) hm
    rw [z] at e; cases e
def allNews (g h : Heap) (L : Addr) : List (Addr × Obj) := (List.range h.objs.size).filterMap fun a => if a = L ∨ (g.get? a).isSome = true then none else (h.get? a).map fun o => (a, o)
def rest (g h : Heap) (L d : Addr) : List (Addr × Obj) := (allNews g h L).filter fun p => decide (p.1 ≠ d)
end L2
namespace L2
open PySem PySem.Spec PyProof.Rows
variable {q0 : Bool}
structure Mod (K : PySem.W.Frag) (mg : Str → Option Value) (base : Heap) : Prop where
  kin : K.In base
  glob : base.Ns mainGlobals mg
  blt : ∃ mb, base.Ns builtinsNs mb ∧ ∀ x : Str, x ≠ "__name__" → mb x = bootBuiltins x
  nolimit : base.NoLimit
structure Cx where
  prog : Program
  w : World
  K : PySem.W.Frag
  mg : Str → Option Value
  base : Heap
  A : Around
  N : List Str
  s₀ : Shared
  H₀ : Hp
  env : Env
  outer : List Env
  stack : List Env
  ex : List Addr
  fn : Str → Bool
  calm : Bool
  pn : List (Addr × Obj)
  xe : Value → Shared → Prop
def frs (l : List Env) : List Addr := l.filterMap (·.frame)
abbrev Cx.fs (X : Cx) : List Addr := frs X.outer
def Vis (sc : Scope) (x : Str) : Prop := sc.names.lookup x = some .local ∨ sc.names.lookup x = some .cell ∨ sc.names.lookup x = some .free
def Loc (sc : Scope) (x : Str) : Prop := sc.names.lookup x = some .local ∨ sc.names.lookup x = some .cell
def Look (env : Env) (h : Heap) (m : Str → Option Value) (x : Str) (u : Value) : Prop :=
  (env.kindOf x = some .local ∧ m x = some u) ∨ ((env.kindOf x = some .cell ∨ env.kindOf x = some .free) ∧ ∃ c, env.cells.lookup x = some c ∧ h.IsCell c (some u))
structure Cx.Ok (X : Cx) : Prop where
  mod : Mod X.K X.mg X.base
  kind : X.env.scope.kind = .function
  glob : X.env.globals = mainGlobals
  blt : X.env.builtins = builtinsNs
  above : X.s₀.heap.objs.size ≤ X.env.locals
  inj : ∀ x y c, X.env.cells.lookup x = some c → X.env.cells.lookup y = some c → x = y
  has : ∀ x, (X.env.kindOf x = some .cell ∨ X.env.kindOf x = some .free) → ∃ c, X.env.cells.lookup x = some c
  cab : ∀ x c, X.fn x = true → X.env.cells.lookup x = some c → X.s₀.heap.objs.size ≤ c
  hd : X.calm = true → X.A.handled = none
  frames : X.A.frames = some X.stack
  stk : X.stack = X.outer ∨ (X.stack = X.env :: X.outer ∧ X.env.frame = some X.env.locals)
  exf : ∀ b ∈ X.ex, b ≠ X.env.locals ∧ ∀ x c, X.env.cells.lookup x = some c → c ≠ b
  bs : ∀ b o, X.base.get? b = some o → X.s₀.heap.get? b = some o ∧ X.H₀ b = none
  bsz : X.base.objs.size ≤ X.s₀.heap.objs.size
  noex : ∀ b o, X.base.get? b = some o → b ∉ X.ex
  exfs : ∀ b ∈ X.ex, b ∉ X.fs
  funs : X.s₀.heap.FunFrames X.base X.outer
  frf : ∀ b ∈ X.fs, X.H₀ b = none
structure Inv (X : Cx) (pins : List (Addr × Obj)) (σ : List (Option V)) (H : Hp) (s : Shared) : Prop where
  ok : X.Ok
  os : s.os = X.s₀.os
  bare : AllBare s.gens
  base : Un X.fs X.ex X.H₀ H X.s₀.heap s.heap
  loc : ∃ m, s.heap.Ns X.env.locals m ∧ ∀ (i : Nat) (x : Str) (v : V), X.N[i]? = some x → σ[i]? = some (some v) → Vis X.env.scope x → ∃ u, RelV v u ∧ Look X.env s.heap m x u
  cell : ∀ x c, X.env.cells.lookup x = some c → ∃ v, s.heap.IsCell c v
  free : H X.env.locals = none
  freeC : ∀ x c, X.env.cells.lookup x = some c → H c = none
  pin : ∀ p ∈ X.pn ++ pins, s.heap.get? p.1 = some p.2 ∧ H p.1 = none ∧ p.1 ≠ X.env.locals ∧ p.1 ∉ X.fs ∧ ∀ v, p.2.data ≠ .cell v
  hok : HOk X.prog X.w H s.heap
  len : σ.length = X.N.length
section
variable {X : Cx} {pins : List (Addr × Obj)} {σ : List (Option V)} {H H' : Hp} {s : Shared} {h' : Heap}
theorem Cx.Ok.nofr (ok : X.Ok) {b : Addr} {o : Obj} (e : X.base.get? b = some o) : b ∉ X.fs := fun hb => by
  have := (ok.funs.mem hb).1
  rw [e] at this; cases this
theorem Inv.bs (I : Inv X pins σ H s) : ∀ b o, X.base.get? b = some o → s.heap.get? b = some o ∧ H b = none := fun b o e =>
  ⟨I.base.keep b o (I.ok.bs b o e).1 (I.ok.bs b o e).2 (I.ok.nofr e) (I.ok.noex b o e), I.base.free b o (I.ok.bs b o e).1 (I.ok.bs b o e).2 (I.ok.noex b o e)⟩
theorem Inv.bk (I : Inv X pins σ H s) : ∀ b o, X.base.get? b = some o → s.heap.get? b = some o := fun b o e => (I.bs b o e).1
theorem Inv.mod (I : Inv X pins σ H s) : Mod X.K X.mg X.base := I.ok.mod
theorem Inv.kIn (I : Inv X pins σ H s) : X.K.In s.heap := I.ok.mod.kin.keeps I.bk
theorem Inv.fr (I : Inv X pins σ H s) : ∃ m, Fr X.base X.env.locals s.heap m :=
  let ⟨m, hn, _⟩ := I.loc
  ⟨m, hn, I.bk, Nat.le_trans I.ok.bsz I.ok.above⟩
theorem Inv.lt (I : Inv X pins σ H s) : X.env.locals < s.heap.objs.size := let ⟨_, hn, _⟩ := I.loc; hn.lt
theorem Inv.sz (I : Inv X pins σ H s) : X.s₀.heap.objs.size ≤ s.heap.objs.size := Nat.le_trans I.ok.above (Nat.le_of_lt I.lt)
theorem Inv.nofs (I : Inv X pins σ H s) {a : Addr} (h : s.heap.objs.size ≤ a) : a ∉ X.fs := fun hb => by
  obtain ⟨_, o, ho, _⟩ := I.ok.funs.mem hb
  exact absurd (Nat.lt_of_lt_of_le (Heap.lt_size ho) (Nat.le_trans I.sz h)) (Nat.lt_irrefl _)
theorem Inv.cne (I : Inv X pins σ H s) : ∀ x c, X.env.cells.lookup x = some c → c ≠ X.env.locals := fun x c e z => by
  obtain ⟨v, o, ho, hd⟩ := I.cell x c e
  obtain ⟨m, ⟨o', es, ep, ho', hd', _⟩, _⟩ := I.loc
  rw [z, ho'] at ho; cases ho; rw [hd'] at hd; cases hd
theorem Inv.funs (I : Inv X pins σ H s) : s.heap.FunFrames X.base X.outer := by
  have all : ∀ (l : List Env), (∀ b ∈ frs l, b ∈ X.fs) → X.s₀.heap.FunFrames X.base l → s.heap.FunFrames X.base l := by
    intro l
    induction l with
    | nil => intro _ _; trivial
    | cons env r ih =>
      intro hs hl
      obtain ⟨hk, ⟨L, o, hf, hn, ho, hd⟩, hr⟩ := hl
      have hL : L ∈ X.fs := hs L (by unfold frs; rw [List.filterMap_cons, hf]; exact List.mem_cons_self)
      obtain ⟨sl, e⟩ := I.base.slot L o ho (I.ok.frf L hL) hL fun z => I.ok.exfs L z hL
      exact ⟨hk, ⟨L, _, hf, hn, e, hd⟩, ih (fun b hb => hs b (by unfold frs; rw [List.filterMap_cons, hf]; exact List.mem_cons_of_mem _ hb)) hr⟩
  exact all X.outer (fun _ hb => hb) I.ok.funs
theorem Inv.stack (I : Inv X pins σ H s) : s.heap.FunFrames X.base X.stack := by
  rcases I.ok.stk with e | ⟨e, hf⟩
  · rw [e]; exact I.funs
  · rw [e]
    obtain ⟨m, hn, _⟩ := I.loc
    refine .cons (by rw [I.ok.kind]; decide) hf hn ?_ I.funs
    exact Heap.get?_none_of_le (Nat.le_trans I.ok.bsz I.ok.above)
theorem Inv.stkSub (I : Inv X pins σ H s) : ∀ b ∈ frs X.stack, b ∈ X.env.locals :: X.fs := fun b hb => by
  rcases I.ok.stk with e | ⟨e, hf⟩
  · rw [e] at hb; exact List.mem_cons_of_mem _ hb
  · rw [e] at hb
    unfold frs at hb
    rw [List.filterMap_cons, hf] at hb
    exact hb
theorem Inv.stkFree (I : Inv X pins σ H s) : ∀ b ∈ frs X.stack, H b = none := fun b hb => by
  rcases List.mem_cons.mp (I.stkSub b hb) with e | hb
  · rw [e]; exact I.free
  · obtain ⟨_, o, ho, _⟩ := I.ok.funs.mem hb
    exact I.base.free b o ho (I.ok.frf b hb) fun z => I.ok.exfs b z hb
theorem Inv.step {g' : Array GenState} {t' : Nat} {d' : Drawn} {ch : List Addr} (I : Inv X pins σ H s)
    (hch : ∀ b ∈ ch, (b ∈ X.ex ∨ X.s₀.heap.objs.size ≤ b) ∧ b ≠ X.env.locals ∧ (∀ x c, X.env.cells.lookup x = some c → c ≠ b) ∧ ∀ p ∈ X.pn ++ pins, p.1 ≠ b)
    (keep : ∀ b o, b ≠ X.env.locals → b ∉ X.fs → b ∉ ch → s.heap.get? b = some o → H b = none → h'.get? b = some o)
    (slot : ∀ b o, b ≠ X.env.locals → b ∈ X.fs → b ∉ ch → s.heap.get? b = some o → H b = none → ∃ sl, h'.get? b = some { o with slots := sl }) (free : ∀ b o, b ∉ ch → s.heap.get? b = some o → H b = none → H' b = none)
    (there : ∀ b o, b ∉ ch → s.heap.get? b = some o → ∃ o', h'.get? b = some o')
    (tups : ∀ b xs, H b = some (.tup xs) → H' b = some (.tup xs)) (frzs : ∀ b o u, H b = some (.frz o u) → H' b = some (.frz o u)) (tbls : ∀ b ps, H b = some (.tbl ps) → ∃ more, H' b = some (.tbl (ps ++ more)))
    (ns : ∀ m, s.heap.Ns X.env.locals m → h'.Ns X.env.locals m) (hok : HOk X.prog X.w H' h') (hg : AllBare g') :
    Inv X pins σ H' { s with heap := h', gens := g', drawn := d', toks := t' } := by
  have neL : ∀ b o, X.s₀.heap.get? b = some o → b ≠ X.env.locals := fun b o e => Nat.ne_of_lt (Nat.lt_of_lt_of_le (Heap.lt_size e) I.ok.above)
  have neC : ∀ b o, X.s₀.heap.get? b = some o → b ∉ X.ex → b ∉ ch := fun b o e hx hb => by
    rcases (hch b hb).1 with z | z
    · exact hx z
    · exact absurd (Nat.lt_of_lt_of_le (Heap.lt_size e) z) (Nat.lt_irrefl _)
  have cellK : ∀ x c, X.env.cells.lookup x = some c → ∀ v, s.heap.IsCell c v → h'.IsCell c v := fun x c e v ⟨o, ho, hd⟩ => by
    have nch : c ∉ ch := fun z => (hch c z).2.2.1 x c e rfl
    by_cases hc : c ∈ X.fs
    · obtain ⟨sl, q⟩ := slot c o (I.cne x c e) hc nch ho (I.freeC x c e)
      exact ⟨_, q, hd⟩
    · exact ⟨o, keep c o (I.cne x c e) hc nch ho (I.freeC x c e), hd⟩
  refine ⟨I.ok, I.os, hg, ⟨fun b o e n hb hx => ?_, fun b o e n hb hx => ?_, fun b o e n hx => ?_, fun b o e hx => ?_, fun b xs e => tups b xs (I.base.tups b xs e), fun b o xs e => frzs b o xs (I.base.frzs b o xs e), fun b ps e => ?_⟩, ?_, fun x c e => ?_, ?_, fun x c e => ?_, fun p hp => ?_, hok, I.len⟩
  · exact keep b o (neL b o e) hb (neC b o e hx) (I.base.keep b o e n hb hx) (I.base.free b o e n hx)
  · obtain ⟨sl, e1⟩ := I.base.slot b o e n hb hx
    obtain ⟨sl', e2⟩ := slot b _ (neL b o e) hb (neC b o e hx) e1 (I.base.free b o e n hx)
    exact ⟨sl', e2⟩
  · obtain ⟨o', e1⟩ := I.base.there b o e hx
    exact free b o' (neC b o e hx) e1 (I.base.free b o e n hx)
  · obtain ⟨o', e1⟩ := I.base.there b o e hx
    exact there b o' (neC b o e hx) e1
  · obtain ⟨m1, e1⟩ := I.base.tbls b ps e
    obtain ⟨m2, e2⟩ := tbls b _ e1
    exact ⟨m1 ++ m2, by rw [e2, Array.append_assoc]⟩
  · obtain ⟨m, hn, hl⟩ := I.loc
    refine ⟨m, ns m hn, fun i x v e1 e2 e3 => ?_⟩
    obtain ⟨u, r, l⟩ := hl i x v e1 e2 e3
    refine ⟨u, r, ?_⟩
    rcases l with l | ⟨k, c, e, z⟩
    · exact .inl l
    · exact .inr ⟨k, c, e, cellK x c e _ z⟩
  · obtain ⟨v, z⟩ := I.cell x c e
    exact ⟨v, cellK x c e v z⟩
  · obtain ⟨m, ⟨o, _, _, ho, _⟩, _⟩ := I.loc
    exact free _ o (fun z => (hch _ z).2.1 rfl) ho I.free
  · obtain ⟨v, o, ho, hd⟩ := I.cell x c e
    exact free c o (fun z => (hch c z).2.2.1 x c e rfl) ho (I.freeC x c e)
  · obtain ⟨e, n, ne, nf, d⟩ := I.pin p hp
    have nch : p.1 ∉ ch := fun z => (hch p.1 z).2.2.2 p hp rfl
    exact ⟨keep p.1 p.2 ne nf nch e n, free p.1 p.2 nch e n, ne, nf, d⟩
theorem Inv.un {t' : Nat} (I : Inv X pins σ H s) (u : Un X.fs [] H H' s.heap h') (hok : HOk X.prog X.w H' h') : Inv X pins σ H' { s with heap := h', toks := t' } := by
  obtain ⟨m, ⟨o, es, ep, ho, r⟩, _⟩ := id I.loc
  obtain ⟨sl, hL⟩ := u.any ho I.free (by simp)
  exact I.step (g' := s.gens) (d' := s.drawn) (ch := []) (fun _ z => nomatch z) (fun b o _ hb _ e n => u.keep b o e n hb (by simp)) (fun b o _ hb _ e n => u.slot b o e n hb (by simp)) (fun b o _ e n => u.free b o e n (by simp)) (fun b o _ e => u.there b o e (by simp)) u.tups u.frzs u.tbls (fun m' hm => by
    obtain ⟨o', es', ep', ho', r'⟩ := hm
    rw [ho] at ho'; cases ho'
    exact ⟨_, es', ep', hL, r'⟩) hok I.bare
theorem Inv.call {g' : Array GenState} {t' : Nat} {d' : Drawn} {ch : List Addr} (I : Inv X pins σ H s) (u : Un (frs X.stack) ch H H' s.heap h') (hok : HOk X.prog X.w H' h') (hg : AllBare g')
    (hch : ∀ b ∈ ch, (b ∈ X.ex ∨ X.s₀.heap.objs.size ≤ b) ∧ b ≠ X.env.locals ∧ (∀ x c, X.env.cells.lookup x = some c → c ≠ b) ∧ ∀ p ∈ X.pn ++ pins, p.1 ≠ b) :
    Inv X pins σ H' { s with heap := h', gens := g', drawn := d', toks := t' } := by
  obtain ⟨m, ⟨o, es, ep, ho, r⟩, _⟩ := id I.loc
  obtain ⟨sl, hL⟩ := u.any ho I.free fun z => (hch _ z).2.1 rfl
  exact I.step (ch := ch) hch (fun b o hL hb hc e n => u.keep b o e n (fun z => (List.mem_cons.mp (I.stkSub b z)).elim hL hb) hc) (fun b o _ _ hc e n => u.any e n hc) (fun b o hc e n => u.free b o e n hc) (fun b o hc e => u.there b o e hc) u.tups u.frzs u.tbls (fun m' hm => by
    obtain ⟨o', es', ep', ho', r'⟩ := hm
    rw [ho] at ho'; cases ho'
    exact ⟨_, es', ep', hL, r'⟩) hok hg
theorem Inv.turned {t' : Nat} {it : Addr} (I : Inv X pins σ H s) (k : ∀ b o, b ≠ it → s.heap.get? b = some o → h'.get? b = some o) (hn : H it = none) (hL : it ≠ X.env.locals)
    (h1 : it ∈ X.ex ∨ X.s₀.heap.objs.size ≤ it) (h2 : ∀ x c, X.env.cells.lookup x = some c → c ≠ it) (h3 : ∀ p ∈ X.pn ++ pins, p.1 ≠ it) : Inv X pins σ H { s with heap := h', toks := t' } := by
  have nit : ∀ b u, H b = some u → b ≠ it := fun b u e z => by rw [z, hn] at e; cases e
  refine I.step (g' := s.gens) (d' := s.drawn) (ch := [it]) (fun b hb => ?_) (fun b o _ _ hc e _ => k b o (fun z => hc (by simp [z])) e) (fun b o _ _ hc e _ => ⟨o.slots, k b o (fun z => hc (by simp [z])) e⟩) (fun _ _ _ _ n => n)
    (fun b o hc e => ⟨o, k b o (fun z => hc (by simp [z])) e⟩) (fun _ _ e => e) (fun _ _ _ e => e) (fun b ps e => ⟨#[], by rw [e]; simp⟩) (fun m hm => ?_) (fun b u e => ?_) I.bare
  · have e : b = it := by simpa using hb
    subst e
    exact ⟨h1, hL, h2, h3⟩
  · obtain ⟨o, es, ep, ho, r⟩ := hm
    exact ⟨o, es, ep, k _ o (Ne.symm hL) ho, r⟩
  · refine (I.hok b u e).stay (fun c v hc q => k c v ?_ q) (fun _ q => q) fun _ _ q => q
    rcases hc with z | z
    · rw [z]; exact nit b u e
    · exact nit c _ z
theorem Inv.tok (I : Inv X pins σ H s) (t : Nat) : Inv X pins σ H { s with toks := t } := I.un (h' := s.heap) (t' := t) Un.refl I.hok
theorem Inv.kept {t' : Nat} (I : Inv X pins σ H s) (k : ∀ b u, s.heap.get? b = some u → h'.get? b = some u) : Inv X pins σ H { s with heap := h', toks := t' } := I.un (Un.kept k) (I.hok.kept k)
theorem Inv.laid {a : Addr} {o : HO} {t' : Nat} (I : Inv X pins σ H s) (k : ∀ b u, s.heap.get? b = some u → h'.get? b = some u) (hp : s.heap.objs.size ≤ a) (new : ObjOk X.prog X.w (upd H a o) h' a o) :
    Inv X pins σ (upd H a o) { s with heap := h', toks := t' } := I.un (Un.laid k hp (I.hok.fresh hp)) (I.hok.laid k hp new)
theorem Inv.write {x e : Addr} {o : HO} {t' : Nat} (I : Inv X pins σ H s) (mu : Mut (H x)) (he : e = x ∨ H e = some (.own x)) (k : ∀ b u, b ≠ e → s.heap.get? b = some u → h'.get? b = some u) (heo : ∃ u, h'.get? e = some u)
    (new : ObjOk X.prog X.w (upd H x o) h' x o) : Inv X pins σ (upd H x o) { s with heap := h', toks := t' } := I.un (Un.write mu he k heo) (I.hok.write mu he k heo new)
theorem Inv.weak {σ' : List (Option V)} (I : Inv X pins σ H s) (hl : σ'.length = σ.length) (w : ∀ (i : Nat) v, σ'[i]? = some (some v) → σ[i]? = some (some v)) : Inv X pins σ' H s :=
  ⟨I.ok, I.os, I.bare, I.base, let ⟨m, hn, hl'⟩ := I.loc; ⟨m, hn, fun i x v e1 e2 e3 => hl' i x v e1 (w i v e2) e3⟩, I.cell, I.free, I.freeC, I.pin, I.hok, hl.trans I.len⟩
theorem Inv.pins_of {pins' : List (Addr × Obj)} (I : Inv X pins σ H s) (h : ∀ p ∈ pins', s.heap.get? p.1 = some p.2 ∧ H p.1 = none ∧ p.1 ≠ X.env.locals ∧ p.1 ∉ X.fs ∧ ∀ v, p.2.data ≠ .cell v) : Inv X pins' σ H s :=
  ⟨I.ok, I.os, I.bare, I.base, I.loc, I.cell, I.free, I.freeC, fun p hp => (List.mem_append.mp hp).elim (fun z => I.pin p (List.mem_append_left _ z)) (h p), I.hok, I.len⟩
theorem nodup_ix {N : List Str} (hN : N.Nodup) {i j : Nat} {x : Str} (a : N[i]? = some x) (b : N[j]? = some x) : i = j := by
  obtain ⟨h1, e1⟩ := List.getElem?_eq_some_iff.mp a
  obtain ⟨h2, e2⟩ := List.getElem?_eq_some_iff.mp b
  exact (List.getElem_inj hN).mp (e1.trans e2.symm)
theorem store_ok2 {M : Model} {A : Around} {E : Value → Shared → Prop} {i : Nat} {x : Str} {v : V} {u : Value} {Q : Unit → Shared → Prop} (I : Inv X pins σ H s) (hN : X.N.Nodup) (hi : X.N[i]? = some x) (hx : Loc X.env.scope x) (r : RelV v u)
    (h : ∀ s', Inv X pins (σ.set i (some v)) H s' → (∃ a, Heap.SameBut a s.heap s'.heap ∧ (a = X.env.locals ∨ X.env.cells.lookup x = some a)) → Q () s') (hf : X.fn x = true ∨ X.env.scope.names.lookup x = some .local := by first | exact .inl rfl | exact .inr rfl | assumption) : wpAny M A (storeName X.env x u) Q E s := by
  obtain ⟨m, hn, hl⟩ := id I.loc
  have hcls : (X.env.scope.kind == .class || (X.env.scope.kind == .module && X.env.locals != X.env.globals)) = false := by rw [I.ok.kind]; rfl
  have hiσ : i < σ.length := by rw [I.len]; exact (List.getElem?_eq_some_iff.mp hi).1
  have cne := I.cne
  have tracked : ∀ {a : Addr} {h' : Heap}, (∃ o, s.heap.get? a = some o ∧ H a = none) → Heap.SameBut a s.heap h' → HOk X.prog X.w H h' := fun {a h'} ha hs b ob e => by
    obtain ⟨_, _, hfree⟩ := ha
    refine (I.hok b ob e).stay (fun c w' hc q => (hs.2 c ?_).trans q) (fun _ q => q) fun _ _ q => q
    rintro rfl
    rcases hc with rfl | hc
    · rw [hfree] at e; cases e
    · rw [hfree] at hc; cases hc
  rcases hx with hk | hk
  · refine wpAny_storeName_local hk hn (fun h' hn' hs => ?_) hcls
    obtain ⟨oL, _, _, hoL, _⟩ := id hn
    refine h _ ⟨I.ok, I.os, I.bare, ⟨fun b o e n hb hx => ?_, fun b o e n hb hx => ?_, I.base.free, fun b o e hx => ?_, I.base.tups, I.base.frzs, I.base.tbls⟩, ⟨_, hn', fun j y v' e1 e2 e3 => ?_⟩, fun y c e => ?_, I.free, I.freeC, fun p hp => ?_, tracked ⟨oL, hoL, I.free⟩ hs, by simpa using I.len⟩ ⟨_, hs, .inl rfl⟩
    · exact (hs.2 b (Nat.ne_of_lt (Nat.lt_of_lt_of_le (Heap.lt_size e) I.ok.above))).trans (I.base.keep b o e n hb hx)
    · obtain ⟨sl, e1⟩ := I.base.slot b o e n hb hx
      exact ⟨sl, (hs.2 b (Nat.ne_of_lt (Nat.lt_of_lt_of_le (Heap.lt_size e) I.ok.above))).trans e1⟩
    · obtain ⟨o', e1⟩ := I.base.there b o e hx
      exact ⟨o', (hs.2 b (Nat.ne_of_lt (Nat.lt_of_lt_of_le (Heap.lt_size e) I.ok.above))).trans e1⟩
    · by_cases hj : j = i
      · subst hj
        rw [hi] at e1; cases e1
        rw [List.getElem?_set_self hiσ] at e2
        cases e2
        exact ⟨u, r, .inl ⟨hk, by simp⟩⟩
      · rw [List.getElem?_set_ne (Ne.symm hj)] at e2
        obtain ⟨u', r', q⟩ := hl j y v' e1 e2 e3
        refine ⟨u', r', ?_⟩
        rcases q with ⟨k, e⟩ | ⟨k, c, e, z⟩
        · refine .inl ⟨k, ?_⟩
          have : y ≠ x := fun e => hj (nodup_ix hN e1 (e ▸ hi))
          simp [this, e]
        · exact .inr ⟨k, c, e, z.sameBut hs (cne y c e)⟩
    · obtain ⟨w', z⟩ := I.cell y c e
      exact ⟨w', z.sameBut hs (cne y c e)⟩
    · obtain ⟨e, n, ne, nf, d⟩ := I.pin p hp
      exact ⟨(hs.2 p.1 ne).trans e, n, ne, nf, d⟩
  · have hfn : X.fn x = true := by
      rcases hf with z | z
      · exact z
      · rw [z] at hk; cases hk
    obtain ⟨c, hc⟩ := I.ok.has x (.inl hk)
    obtain ⟨w', z⟩ := I.cell x c hc
    refine wpAny_storeName_cell I.ok.kind hk hc z (fun h' hc' hs => ?_)
    obtain ⟨oc, hoc, hocd⟩ := id z
    refine h { s with heap := h' } ⟨I.ok, I.os, I.bare, ⟨fun b o e n hb hx => ?_, fun b o e n hb hx => ?_, I.base.free, fun b o e hx => ?_, I.base.tups, I.base.frzs, I.base.tbls⟩, ⟨m, hn.sameBut hs (Ne.symm (cne x c hc)), fun j y v' e1 e2 e3 => ?_⟩, fun y c' e => ?_, I.free, I.freeC, fun p hp => ?_, tracked ⟨oc, hoc, I.freeC x c hc⟩ hs, by simpa using I.len⟩ ⟨c, hs, .inr hc⟩
    · exact (hs.2 b (Nat.ne_of_lt (Nat.lt_of_lt_of_le (Heap.lt_size e) (I.ok.cab x c hfn hc)))).trans (I.base.keep b o e n hb hx)
    · obtain ⟨sl, e1⟩ := I.base.slot b o e n hb hx
      exact ⟨sl, (hs.2 b (Nat.ne_of_lt (Nat.lt_of_lt_of_le (Heap.lt_size e) (I.ok.cab x c hfn hc)))).trans e1⟩
    · obtain ⟨o', e1⟩ := I.base.there b o e hx
      exact ⟨o', (hs.2 b (Nat.ne_of_lt (Nat.lt_of_lt_of_le (Heap.lt_size e) (I.ok.cab x c hfn hc)))).trans e1⟩
    · by_cases hj : j = i
      · subst hj
        rw [hi] at e1; cases e1
        rw [List.getElem?_set_self hiσ] at e2
        cases e2
        exact ⟨u, r, .inr ⟨.inl hk, c, hc, hc'⟩⟩
      · rw [List.getElem?_set_ne (Ne.symm hj)] at e2
        obtain ⟨u', r', q⟩ := hl j y v' e1 e2 e3
        refine ⟨u', r', ?_⟩
        rcases q with q | ⟨k, c', e, z'⟩
        · exact .inl q
        · refine .inr ⟨k, c', e, z'.sameBut hs ?_⟩
          rintro rfl
          exact hj (nodup_ix hN e1 (I.ok.inj _ _ _ e hc ▸ hi))
    · by_cases hcc : c' = c
      · subst hcc; exact ⟨_, hc'⟩
      · obtain ⟨w2, z2⟩ := I.cell y c' e
        exact ⟨w2, z2.sameBut hs hcc⟩
    · obtain ⟨e, n, ne, nf, d⟩ := I.pin p hp
      refine ⟨(hs.2 p.1 ?_).trans e, n, ne, nf, d⟩
      intro q
      rw [q, hoc] at e
      have q' : oc = p.2 := Option.some.inj e
      exact d w' (by rw [← q']; exact hocd)
theorem store_ok {M : Model} {A : Around} {E : Value → Shared → Prop} {i : Nat} {x : Str} {v : V} {u : Value} {Q : Unit → Shared → Prop} (I : Inv X pins σ H s) (hN : X.N.Nodup) (hi : X.N[i]? = some x) (hx : Loc X.env.scope x) (r : RelV v u)
    (h : ∀ s', Inv X pins (σ.set i (some v)) H s' → Q () s') (hf : X.fn x = true ∨ X.env.scope.names.lookup x = some .local := by first | exact .inl rfl | exact .inr rfl | assumption) : wpAny M A (storeName X.env x u) Q E s :=
  store_ok2 I hN hi hx r (fun s' I' _ => h s' I') hf
theorem Inv.call' {s' : Shared} {ch : List Addr} (I : Inv X pins σ H s) (ho : s'.os = s.os) (u : Un (frs X.stack) ch H H' s.heap s'.heap) (hok : HOk X.prog X.w H' s'.heap) (hg : AllBare s'.gens)
    (hch : ∀ b ∈ ch, (b ∈ X.ex ∨ X.s₀.heap.objs.size ≤ b) ∧ b ≠ X.env.locals ∧ (∀ x c, X.env.cells.lookup x = some c → c ≠ b) ∧ ∀ p ∈ X.pn ++ pins, p.1 ≠ b) : Inv X pins σ H' s' := by
  obtain ⟨h', g', d', t', o'⟩ := s'
  have e : o' = s.os := ho
  subst e
  exact I.call (g' := g') (t' := t') (d' := d') u hok hg hch
end
abbrev XK := Addr → Addr → Hp → Prop
abbrev St := List (Option V)
abbrev VK := V → Hp → Prop
abbrev TE := St → Hp → VK → Prop
abbrev TT := St → Hp → (Bool → Hp → Prop) → Prop
abbrev TA := St → Hp → (List V → Hp → Prop) → Prop
structure Ends where
  nx : St → Hp → Prop
  rt : VK
  bk : St → Hp → Prop := fun _ _ => False
  ct : St → Hp → Prop := fun _ _ => False
abbrev TS := Ends → St → Hp → Prop
def EP (X : Cx) (pins : List (Addr × Obj)) (σ : St) (Q : VK) (u : Value) (s' : Shared) : Prop := ∃ v H', Inv X pins σ H' s' ∧ RelV v u ∧ Q v H'
def TP (X : Cx) (pins : List (Addr × Obj)) (σ : St) (Q : Bool → Hp → Prop) (b : Bool) (s' : Shared) : Prop := ∃ H', Inv X pins σ H' s' ∧ Q b H'
def AP (X : Cx) (pins : List (Addr × Obj)) (σ : St) (Q : List V → Hp → Prop) (us : List Value) (s' : Shared) : Prop := ∃ vs H', Inv X pins σ H' s' ∧ Vals vs us ∧ Q vs H'
def SP (X : Cx) (pins : List (Addr × Obj)) (D : Ends) (f : Flow) (s' : Shared) : Prop :=
  match f with
  | .next => ∃ σ' H', Inv X pins σ' H' s' ∧ D.nx σ' H'
  | .brk => ∃ σ' H', Inv X pins σ' H' s' ∧ D.bk σ' H'
  | .cont => ∃ σ' H', Inv X pins σ' H' s' ∧ D.ct σ' H'
  | .ret u => ∃ v σ' H', Inv X pins σ' H' s' ∧ RelV v u ∧ D.rt v H'
def PE (X : Cx) (e : Expr) (t : TE) : Prop :=
  ∀ (pins : List (Addr × Obj)) (s : Shared) (σ : St) (H : Hp) (Q : VK), Inv X pins σ H s → t σ H Q → wpAny (model X.prog X.w) X.A (eval e X.env) (EP X pins σ Q) X.xe s
def PT (X : Cx) (e : Expr) (t : TT) : Prop :=
  ∀ (pins : List (Addr × Obj)) (s : Shared) (σ : St) (H : Hp) (Q : Bool → Hp → Prop), Inv X pins σ H s → t σ H Q → wpAny (model X.prog X.w) X.A (isTrue e X.env (eval e X.env)) (TP X pins σ Q) X.xe s
def PW (X : Cx) (e : Expr) (t : TT) : Prop :=
  ∀ (whole : Sem Value) (pins : List (Addr × Obj)) (s : Shared) (σ : St) (H : Hp) (Q : Bool → Hp → Prop), Inv X pins σ H s → t σ H Q → wpAny (model X.prog X.w) X.A (isTrue e X.env whole) (TP X pins σ Q) X.xe s
theorem PW.pt {X : Cx} {e : Expr} {t : TT} (h : PW X e t) : PT X e t := h _
def PA (X : Cx) (es : List Expr) (t : TA) : Prop :=
  ∀ (pos : Pos) (pins : List (Addr × Obj)) (s : Shared) (σ : St) (H : Hp) (Q : List V → Hp → Prop), Inv X pins σ H s → t σ H Q → wpAny (model X.prog X.w) X.A (spliced (backTo pos (starEach es X.env))) (AP X pins σ Q) X.xe s
def PS (X : Cx) (st : Stmt) (t : TS) : Prop :=
  ∀ (pins : List (Addr × Obj)) (s : Shared) (σ : St) (H : Hp) (D : Ends), Inv X pins σ H s → t D σ H → wpAny (model X.prog X.w) X.A (exec st X.env) (SP X pins D) X.xe s
def PSs (X : Cx) (st : List Stmt) (t : TS) : Prop :=
  ∀ (pins : List (Addr × Obj)) (s : Shared) (σ : St) (H : Hp) (D : Ends), Inv X pins σ H s → t D σ H → wpAny (model X.prog X.w) X.A (execs st X.env) (SP X pins D) X.xe s
theorem thn {α : Type} {t : Sem α} {Q Q' : α → Shared → Prop} {M : Model} {A : Around} {E : Value → Shared → Prop} {s : Shared} (h : wpAny M A t Q E s) (hQ : ∀ a s, Q a s → Q' a s) : wpAny M A t Q' E s := wpAny_mono h hQ fun _ _ x => x
end L2
namespace L2
open PySem PySem.Spec PyProof.Rows
variable {q0 : Bool}
section
variable {X : Cx}
def tVar (i : Nat) : TE := fun σ H Q => ∃ v, σ[i]? = some (some v) ∧ Q v H
def tC (v : V) : TE := fun _ H Q => Q v H
theorem pe_var {i : Nat} {x : Str} {pos : Pos} (hN : X.N[i]? = some x) (hv : Vis X.env.scope x) (hd : (x == ("__debug__" : Str)) = false := by decide) (hcd : (x == ("__classdict__" : Str)) = false := by decide) : PE X (.Name x pos) (tVar i) := by
  intro pins s σ H Q I h
  obtain ⟨v, e, h⟩ := h
  obtain ⟨m, hn, hl⟩ := I.loc
  obtain ⟨u, r, l⟩ := hl i x v hN e hv
  have fin : EP X pins σ Q u s := ⟨v, H, I, r, h⟩
  rcases l with ⟨hk, hm⟩ | ⟨hk, c, hc, hcell⟩
  · exact wpAny_Name (wpAny_loadName_local I.ok.kind hk hn hm fin) hd
  · rcases hk with hk | hk
    · exact wpAny_Name (wpAny_loadName_cell I.ok.kind hk hc hcell fin) hd
    · exact wpAny_Name (wpAny_loadName_free I.ok.kind hk hc hcell fin hcd) hd
theorem pe_int {i j pos} : PE X (.Constant (.int i) j pos) (tC (.int i)) := fun _ _ _ H _ I h => wpAny_Constant_int ⟨.int i, H, I.tok _, ⟨_, rfl⟩, h⟩
theorem pe_bl {b j pos} : PE X (.Constant (.bool b) j pos) (tC (.bl b)) := fun _ _ _ H _ I h => Constant_bool ⟨.bl b, H, I, rfl, h⟩
theorem pe_non {j pos} : PE X (.Constant .none j pos) (tC .non) := fun _ _ _ H _ I h => Constant_none ⟨.non, H, I, rfl, h⟩
theorem pe_str {x j pos} : PE X (.Constant (.str x) j pos) (tC (.str x)) := fun _ _ _ H _ I h => Calls.Constant_str ⟨.str x, H, I.tok _, ⟨_, rfl⟩, h⟩
def Gl (X : Cx) (x : Str) : Prop := X.env.kindOf x = some .globalImplicit
theorem ld_glob {E : Value → Shared → Prop} {pins : List (Addr × Obj)} {s : Shared} {σ : St} {H : Hp} {x : Str} {u : Value} {pos : Pos} {Q : Value → Shared → Prop} (I : Inv X pins σ H s) (hg : Gl X x) (hm : X.mg x = some u) (h : Q u s)
    (hd : (x == ("__debug__" : Str)) = false := by decide) : wpAny (model X.prog X.w) X.A (eval (.Name x pos) X.env) Q E s :=
  Calls.Name_function_global I.ok.kind hg (Calls.loadGlobal_global (by rw [I.ok.glob]; exact I.mod.glob.keeps I.bk) hm h) hd
theorem ld_blt {E : Value → Shared → Prop} {pins : List (Addr × Obj)} {s : Shared} {σ : St} {H : Hp} {x : Str} {u : Value} {pos : Pos} {Q : Value → Shared → Prop} (I : Inv X pins σ H s) (hg : Gl X x) (hm : X.mg x = none) (hv : bootBuiltins x = some u) (h : Q u s)
    (hn : x ≠ "__name__" := by decide) (hd : (x == ("__debug__" : Str)) = false := by decide) : wpAny (model X.prog X.w) X.A (eval (.Name x pos) X.env) Q E s := by
  obtain ⟨mb, h1, h2⟩ := I.mod.blt
  exact Calls.Name_function_global I.ok.kind hg (Calls.loadGlobal_builtin (by rw [I.ok.glob]; exact I.mod.glob.keeps I.bk) hm (by rw [I.ok.blt]; exact h1.keeps I.bk) ((h2 x hn).trans hv) h) hd
theorem pe_glob {x : Str} {v : V} {u : Value} {pos : Pos} (hg : Gl X x) (hm : X.mg x = some u) (r : RelV v u) (hd : (x == ("__debug__" : Str)) = false := by decide) : PE X (.Name x pos) (tC v) :=
  fun _ _ _ H _ I h => ld_glob I hg hm ⟨v, H, I, r, h⟩ hd
theorem pe_bltn {x : Str} {v : V} {u : Value} {pos : Pos} (hg : Gl X x) (hm : X.mg x = none) (hv : bootBuiltins x = some u) (r : RelV v u) (hn : x ≠ "__name__" := by decide) (hd : (x == ("__debug__" : Str)) = false := by decide) : PE X (.Name x pos) (tC v) :=
  fun _ _ _ H _ I h => ld_blt I hg hm hv ⟨v, H, I, r, h⟩ hn hd
variable {a b : Expr} {ta tb : TE} {pos : Pos}
def PC (X : Cx) (op : CmpOp) (a b : Expr) (t : TE) : Prop :=
  ∀ (pins : List (Addr × Obj)) (s : Shared) (σ : St) (H : Hp) (Q : VK), Inv X pins σ H s → t σ H Q →
    wpAny (model X.prog X.w) X.A (eval a X.env) (fun v s₁ => wpAny (model X.prog X.w) X.A (eval b X.env) (fun u s₂ => wpAny (model X.prog X.w) X.A (compareOp op v u) (EP X pins σ Q) X.xe s₂) X.xe s₁) X.xe s
theorem nobehind (b : Expr) {op : CmpOp} (h : op ≠ .In) (h2 : op ≠ .NotIn) : behindInMarks op b = false := by
  have e1 : (op == CmpOp.In) = false := by cases op <;> first | rfl | exact absurd rfl h
  have e2 : (op == CmpOp.NotIn) = false := by cases op <;> first | rfl | exact absurd rfl h2
  cases b <;> simp [behindInMarks, e1, e2]
def tB (t : TE) : TT := fun σ H Q => t σ H fun x H1 => ∃ c, x = .bl c ∧ Q c H1
theorem pt_cmp {op : CmpOp} {t : TE} (h : PC X op a b t) (h1 : behindInMarks op b = false := by first | exact nobehind _ (by decide) (by decide) | rfl) : PT X (.Compare a [op] [b] pos) (tB t) := by
  intro pins s σ H Q I hw
  refine wpAny_isTrue_Compare1 (thn (h pins s σ H _ I hw) fun v s1 h1 => thn h1 fun u s2 h2 => thn h2 fun c s3 ⟨x, H1, I1, r1, q1⟩ => ?_) h1
  obtain ⟨d, rfl, q⟩ := q1
  cases r1
  exact wpAny_truthy_bool ⟨H1, I1, q⟩
theorem pt_val {e : Expr} {t : TE} (h : PE X e t) (he : ∀ whole, isTrue e X.env whole = (do let v ← whole; standAt e.pos; holding [v] (truthy v)) := by intro _; rfl) : PT X e (tB t) := by
  intro pins s σ H Q I hw
  refine isTrue_plain (thn (h pins s σ H _ I hw) fun v s1 ⟨x, H1, I1, r1, q1⟩ => ?_) (he _)
  obtain ⟨d, rfl, q⟩ := q1
  cases r1
  exact wpAny_truthy_bool ⟨H1, I1, q⟩
variable {tA tB' : TT} {rest : List Expr}
def tAnd (t u : TT) : TT := fun σ H Q => t σ H fun c H1 => if c = true then u σ H1 Q else Q false H1
def tOr (t u : TT) : TT := fun σ H Q => t σ H fun c H1 => if c = true then Q true H1 else u σ H1 Q
def tNot (t : TT) : TT := fun σ H Q => t σ H fun c H1 => Q (!c) H1
theorem pw_and1 (ha : PT X a tA) : PW X (.BoolOp .And [a] pos) tA := by
  intro wh pins s σ H Q I h
  refine isTrue_and (thn (ha pins s σ H Q I h) fun c s1 e => ?_)
  cases c with
  | true => exact isTrue_and_nil e
  | false => exact e
theorem pw_or1 (ha : PT X a tA) : PW X (.BoolOp .Or [a] pos) tA := by
  intro wh pins s σ H Q I h
  refine isTrue_or (thn (ha pins s σ H Q I h) fun c s1 e => ?_)
  cases c with
  | false => exact isTrue_or_nil e
  | true => exact e
theorem pw_and (ha : PT X a tA) (hb : PW X (.BoolOp .And (b :: rest) pos) tB') : PW X (.BoolOp .And (a :: b :: rest) pos) (tAnd tA tB') := by
  intro wh pins s σ H Q I h
  refine isTrue_and (thn (ha pins s σ H _ I h) fun c s1 ⟨H1, I1, q1⟩ => ?_)
  cases c with
  | true => exact hb wh pins s1 σ H1 Q I1 q1
  | false => exact ⟨H1, I1, q1⟩
theorem pw_or (ha : PT X a tA) (hb : PW X (.BoolOp .Or (b :: rest) pos) tB') : PW X (.BoolOp .Or (a :: b :: rest) pos) (tOr tA tB') := by
  intro wh pins s σ H Q I h
  refine isTrue_or (thn (ha pins s σ H _ I h) fun c s1 ⟨H1, I1, q1⟩ => ?_)
  cases c with
  | true => exact ⟨H1, I1, q1⟩
  | false => exact hb wh pins s1 σ H1 Q I1 q1
theorem pt_not (ha : PT X a tA) : PT X (.UnaryOp .Not a pos) (tNot tA) := by
  intro pins s σ H Q I h
  exact isTrue_not (ha pins s σ H (fun c H1 => Q (!c) H1) I h)
def tAndV (ta tb : TE) : TE := fun σ H Q => ta σ H fun x H1 => ∃ c, x = .bl c ∧ if c = true then tb σ H1 Q else Q (.bl false) H1
def tNotV (ta : TE) : TE := fun σ H Q => ta σ H fun x H1 => ∃ c, x = .bl c ∧ Q (.bl (!c)) H1
theorem pe_one {op} {t : TE} (h : PE X a t) : PE X (.BoolOp op [a] pos) t := fun pins s σ H Q I hw => BoolOp_one (h pins s σ H Q I hw)
theorem pe_and (ha : PE X a ta) (hb : PE X (.BoolOp .And (b :: rest) pos) tb) : PE X (.BoolOp .And (a :: b :: rest) pos) (tAndV ta tb) := by
  intro pins s σ H Q I h
  refine BoolOp_and (thn (ha pins s σ H _ I h) fun v s1 ⟨x, H1, I1, r1, q1⟩ => ?_)
  obtain ⟨c, rfl, q1⟩ := q1
  cases r1
  refine wpAny_truthy_bool ?_
  cases c with
  | true => exact hb pins s1 σ H1 Q I1 q1
  | false => exact ⟨.bl false, H1, I1, rfl, q1⟩
theorem pe_not (ha : PE X a ta) : PE X (.UnaryOp .Not a pos) (tNotV ta) := by
  intro pins s σ H Q I h
  refine UnaryOp_ (thn (ha pins s σ H _ I h) fun v s1 ⟨x, H1, I1, r1, q1⟩ => ?_)
  obtain ⟨c, rfl, q1⟩ := q1
  cases r1
  exact not_of (wpAny_truthy_bool ⟨.bl (!c), H1, I1, rfl, q1⟩)
def tIf (t : TT) (ta tb : TE) : TE := fun σ H Q => t σ H fun c H1 => if c = true then ta σ H1 Q else tb σ H1 Q
theorem pe_ifExp {c : Expr} (hc : PT X c tA) (ha : PE X a ta) (hb : PE X b tb) : PE X (.IfExp c a b pos) (tIf tA ta tb) := by
  intro pins s σ H Q I h
  refine wpAny_IfExp (thn (hc pins s σ H _ I h) fun d s1 ⟨H1, I1, q1⟩ => ?_)
  cases d with
  | true => exact ha pins s1 σ H1 Q I1 q1
  | false => exact hb pins s1 σ H1 Q I1 q1
end
end L2
namespace L2
open PySem PySem.Spec PyProof.Rows
variable {q0 : Bool}
def SqL (K : PySem.W.Frag) (H : Hp) (a : Addr) (xs : List V) : Prop :=
  Rd H a (.lst xs) ∨
    ∃ (o : Obj) (its : Array Value) (n : Nat), K.lookup a = some o ∧ o.cls = .type "list" ∧ o.dict = none ∧ o.data = .seq its n ∧ its.size ≤ sizeLine ∧ Vals xs its.toList
def SqT (K : PySem.W.Frag) (H : Hp) (a : Addr) (xs : List V) : Prop :=
  Rd H a (.tup xs) ∨
    ∃ (o : Obj) (its : Array Value) (n : Nat), K.lookup a = some o ∧ o.cls = .type "tuple" ∧ o.data = .seq its n ∧ its.size ≤ sizeLine ∧ Vals xs its.toList
def absV : Value → Option V
  | .none => some .non
  | .bool b => some (.bl b)
  | .int i _ => some (.int i)
  | .str x _ => some (.str x)
  | .bytes b _ => some (.byt b)
  | .float b _ => some (.flt b)
  | .ref a => some (.ref a)
  | .type n => some (.ty n)
  | _ => none
theorem RelV.abs {x : V} {u : Value} (r : RelV x u) : absV u = some x := by
  cases x with
  | non => cases r; rfl
  | bl _ => cases r; rfl
  | int _ => obtain ⟨t, rfl⟩ := r; rfl
  | str _ => obtain ⟨t, rfl⟩ := r; rfl
  | byt _ => obtain ⟨t, rfl⟩ := r; rfl
  | flt _ => obtain ⟨t, rfl⟩ := r; rfl
  | ref _ => cases r; rfl
  | ty _ => cases r; rfl
theorem RelV.inj {x y : V} {u : Value} (r : RelV x u) (q : RelV y u) : x = y := Option.some.inj (r.abs.symm.trans q.abs)
theorem Vals.inj : ∀ {xs ys : List V} {us : List Value}, Vals xs us → Vals ys us → xs = ys
  | _, _, _, .nil, .nil => rfl
  | _, _, _, .cons r t, .cons r' t' => by rw [r.inj r', Vals.inj t t']
section
variable {X : Cx} {pins : List (Addr × Obj)} {σ : St} {H : Hp} {s : Shared} {a : Addr} {xs ys : List V}
theorem SqL.of {K : PySem.W.Frag} (h : H a = some (.lst xs)) : SqL K H a xs := .inl (.inl h)
theorem SqT.of {K : PySem.W.Frag} (h : H a = some (.tup xs)) : SqT K H a xs := .inl (.inl h)
theorem Inv.list (I : Inv X pins σ H s) (h : SqL X.K H a xs) : ∃ its : List Value, Vals xs its ∧ PlainL s.heap a its.toArray ∧ xs.length ≤ sizeLine := by
  rcases h with h | ⟨o, its, n, hk, hc, hd, hs, hz, r⟩
  · obtain ⟨z, its, n, r, e⟩ := h.ok I.hok
    exact ⟨its, r, ⟨_, n, e, rfl, rfl, rfl⟩, z⟩
  · refine ⟨its.toList, r, ⟨o, n, I.kIn a o hk, hc, hd, by simpa using hs⟩, ?_⟩
    have e := r.length
    simp only [Array.length_toList] at e
    omega
theorem Inv.tuple (I : Inv X pins σ H s) (h : SqT X.K H a xs) : ∃ its : List Value, Vals xs its ∧ IsTup s.heap a its.toArray ∧ xs.length ≤ sizeLine := by
  rcases h with h | ⟨o, its, n, hk, hc, hs, hz, r⟩
  · obtain ⟨z, its, r, p⟩ := h.ok I.hok
    exact ⟨its, r, p, z⟩
  · refine ⟨its.toList, r, ⟨o, I.kIn a o hk, hc, n, by simpa using hs⟩, ?_⟩
    have e := r.length
    simp only [Array.length_toList] at e
    omega
theorem Inv.list_inj (I : Inv X pins σ H s) (h : SqL X.K H a xs) (h' : SqL X.K H a ys) : xs = ys := by
  obtain ⟨its, r, ⟨o, n, e, _, _, d⟩, _⟩ := I.list h
  obtain ⟨its', r', ⟨o', n', e', _, _, d'⟩, _⟩ := I.list h'
  rw [e] at e'; cases e'
  rw [d] at d'
  injection d' with d1 _
  have : its = its' := by simpa using congrArg Array.toList d1
  subst this
  exact r.inj r'
theorem Inv.tuple_inj (I : Inv X pins σ H s) (h : SqT X.K H a xs) (h' : SqT X.K H a ys) : xs = ys := by
  obtain ⟨its, r, ⟨o, e, _, n, d⟩, _⟩ := I.tuple h
  obtain ⟨its', r', ⟨o', e', _, n', d'⟩, _⟩ := I.tuple h'
  rw [e] at e'; cases e'
  rw [d] at d'
  injection d' with d1 _
  have : its = its' := by simpa using congrArg Array.toList d1
  subst this
  exact r.inj r'
end
abbrev Cx.wish (X : Cx) (E : Value → Shared → Prop) : Cx := { X with xe := E }
abbrev Cx.nox (X : Cx) : Cx := X.wish fun _ _ => False
theorem Cx.Ok.wish {X : Cx} (ok : X.Ok) (E : Value → Shared → Prop) : (X.wish E).Ok :=
  ⟨ok.mod, ok.kind, ok.glob, ok.blt, ok.above, ok.inj, ok.has, ok.cab, ok.hd, ok.frames, ok.stk, ok.exf, ok.bs, ok.bsz, ok.noex, ok.exfs, ok.funs, ok.frf⟩
theorem Cx.Ok.unwish {X : Cx} {E : Value → Shared → Prop} (ok : (X.wish E).Ok) : X.Ok :=
  ⟨ok.mod, ok.kind, ok.glob, ok.blt, ok.above, ok.inj, ok.has, ok.cab, ok.hd, ok.frames, ok.stk, ok.exf, ok.bs, ok.bsz, ok.noex, ok.exfs, ok.funs, ok.frf⟩
section
variable {X : Cx} {pins : List (Addr × Obj)} {σ : St} {H : Hp} {s : Shared} {E : Value → Shared → Prop}
theorem Inv.wish (I : Inv X pins σ H s) (E : Value → Shared → Prop) : Inv (X.wish E) pins σ H s := ⟨I.ok.wish E, I.os, I.bare, I.base, I.loc, I.cell, I.free, I.freeC, I.pin, I.hok, I.len⟩
theorem Inv.unwish (I : Inv (X.wish E) pins σ H s) : Inv X pins σ H s := ⟨I.ok.unwish, I.os, I.bare, I.base, I.loc, I.cell, I.free, I.freeC, I.pin, I.hok, I.len⟩
theorem SP.unwish {D : Ends} {f : Flow} {s' : Shared} (h : SP (X.wish E) pins D f s') : SP X pins D f s' := by
  cases f with
  | next => obtain ⟨σ', H', I, q⟩ := h; exact ⟨σ', H', I.unwish, q⟩
  | brk => obtain ⟨σ', H', I, q⟩ := h; exact ⟨σ', H', I.unwish, q⟩
  | cont => obtain ⟨σ', H', I, q⟩ := h; exact ⟨σ', H', I.unwish, q⟩
  | ret u => obtain ⟨v, σ', H', I, r, q⟩ := h; exact ⟨v, σ', H', I.unwish, r, q⟩
theorem PSs.nox {st : List Stmt} {t : TS} (h : PSs X.nox st t) : PSs X st t := fun pins s σ H D I hw =>
  wpAny_mono (h pins s σ H D (I.wish _) hw) (fun _ _ q => q.unwish) fun _ _ z => False.elim z
end
section
variable {X : Cx} {st : Stmt} {rest : List Stmt} {t u : TS} {e : Expr} {te : TE} {pos : Pos}
def tNext : TS := fun D σ H => D.nx σ H
def tSeq (t u : TS) : TS := fun D σ H => t { D with nx := u D } σ H
theorem pss_nil : PSs X [] tNext := fun _ _ σ H _ I h => wpAny_execs_nil ⟨σ, H, I, h⟩
theorem pss_cons (h1 : PS X st t) (h2 : PSs X rest u) : PSs X (st :: rest) (tSeq t u) := by
  intro pins s σ H D I h
  refine wpAny_execs_cons (thn (h1 pins s σ H { D with nx := u D } I h) fun f s1 q => ?_)
  cases f with
  | next =>
    obtain ⟨σ', H', I', q⟩ := q
    exact h2 pins s1 σ' H' D I' q
  | ret v => exact q
  | brk => exact q
  | cont => exact q
theorem pss_one (h1 : PS X st t) : PSs X [st] t := by
  intro pins s σ H D I h
  refine wpAny_execs_cons (thn (h1 pins s σ H D I h) fun f s1 q => ?_)
  cases f with
  | next => exact wpAny_execs_nil q
  | ret v => exact q
  | brk => exact q
  | cont => exact q
theorem Inv.quiet {pins : List (Addr × Obj)} {σ : St} {H : Hp} {s : Shared} (I : Inv X pins σ H s) : interactive X.env = false := by simp [interactive, I.ok.kind]
def tDrop (te : TE) : TS := fun D σ H => te σ H fun _ H1 => D.nx σ H1
theorem ps_expr (he : PE X e te) (hs : swapsWith e none pos.line X.env = pure false := by rfl) : PS X (.Expr e pos) (tDrop te) := by
  intro pins s σ H D I h
  exact wpAny_Expr_any (thn (he pins s σ H _ I h) fun v s1 ⟨x, H1, I1, r1, q1⟩ => ⟨σ, H1, I1, q1⟩) I.quiet hs
def tRet (te : TE) : TS := fun D σ H => te σ H D.rt
theorem ps_ret (he : PE X e te) : PS X (.Return (some e) pos) (tRet te) := by
  intro pins s σ H D I h
  exact wpAny_Return_some (thn (he pins s σ H _ I h) fun v s1 ⟨x, H1, I1, r1, q1⟩ => ⟨x, σ, H1, I1, r1, q1⟩)
def tIfS (c : TT) (t u : TS) : TS := fun D σ H => c σ H fun b H1 => if b = true then t D σ H1 else u D σ H1
theorem ps_if {c : Expr} {a b : List Stmt} {tc : TT} (hc : PT X c tc) (ha : PSs X a t) (hb : PSs X b u) : PS X (.If c a b pos) (tIfS tc t u) := by
  intro pins s σ H D I h
  refine wpAny_If (thn (hc pins s σ H _ I h) fun d s1 ⟨H1, I1, q1⟩ => ?_)
  cases d with
  | true => exact ha pins s1 σ H1 D I1 q1
  | false => exact hb pins s1 σ H1 D I1 q1
def tNever : TS := fun _ _ _ => False
theorem ps_never : PS X st tNever := fun _ _ _ _ _ _ h => h.elim
end
abbrev TG := V → St → Hp → (St → Hp → Prop) → Prop
abbrev TGs := List V → St → Hp → (St → Hp → Prop) → Prop
def PG (X : Cx) (target : Expr) (t : TG) : Prop :=
  ∀ (pins : List (Addr × Obj)) (s : Shared) (σ : St) (H : Hp) (v : V) (u : Value) (Q : St → Hp → Prop), Inv X pins σ H s → RelV v u → t v σ H Q →
    wpAny (model X.prog X.w) X.A (assign target X.env u) (fun _ s' => ∃ σ' H', Inv X pins σ' H' s' ∧ Q σ' H') X.xe s
def PGs (X : Cx) (ts : List Expr) (t : TGs) : Prop :=
  ∀ (pins : List (Addr × Obj)) (s : Shared) (σ : St) (H : Hp) (vs : List V) (us : List Value) (Q : St → Hp → Prop), Inv X pins σ H s → Vals vs us → t vs σ H Q →
    wpAny (model X.prog X.w) X.A (assignInOrder ((assignEach ts X.env).map (·.2)) us) (fun _ s' => ∃ σ' H', Inv X pins σ' H' s' ∧ Q σ' H') X.xe s
abbrev TSet := V → V → V → Hp → (Hp → Prop) → Prop
def PSet (X : Cx) (t : TSet) : Prop :=
  ∀ (pins : List (Addr × Obj)) (s : Shared) (σ : St) (H : Hp) (o i v : V) (ov iv u : Value) (Q : Hp → Prop), Inv X pins σ H s → RelV o ov → RelV i iv → RelV v u → t o i v H Q →
    wpAny (model X.prog X.w) X.A (setItem ov iv u) (fun _ s' => ∃ H', Inv X pins σ H' s' ∧ Q H') X.xe s
section
variable {X : Cx} {pos : Pos}
def gName (i : Nat) : TG := fun v σ H Q => Q (σ.set i (some v)) H
theorem pg_name {i : Nat} {x : Str} (hN : X.N.Nodup) (hi : X.N[i]? = some x) (hx : Loc X.env.scope x) (hf : X.fn x = true ∨ X.env.scope.names.lookup x = some .local := by first | exact .inl rfl | exact .inr rfl | assumption) : PG X (.Name x pos) (gName i) := by
  intro pins s σ H v u Q I r h
  exact wpAny_assign_Name (store_ok I hN hi hx r (fun s' I' => ⟨_, H, I', h⟩) hf)
def gNil : TGs := fun vs σ H Q => vs = [] ∧ Q σ H
def gCons (t : TG) (u : TGs) : TGs := fun vs σ H Q => ∃ v r, vs = v :: r ∧ t v σ H fun σ' H' => u r σ' H' Q
theorem pgs_nil : PGs X [] gNil := by
  intro pins s σ H vs us Q I r h
  obtain ⟨e, h⟩ := h
  subst e
  cases r
  exact assignInOrder_nil ⟨σ, H, I, h⟩
theorem pgs_cons {e : Expr} {es : List Expr} {t : TG} {u : TGs} (h1 : PG X e t) (h2 : PGs X es u)
    (hs : (assignEach (e :: es) X.env).map (·.2) = assign e X.env :: (assignEach es X.env).map (·.2) := by rfl) : PGs X (e :: es) (gCons t u) := by
  intro pins s σ H vs us Q I r h
  obtain ⟨v, vr, e1, h⟩ := h
  subst e1
  cases r with
  | cons r rr =>
    rw [hs]
    refine assignInOrder_cons (thn (h1 pins s σ H _ _ _ I r h) fun _ s1 ⟨σ1, H1, I1, q1⟩ => ?_)
    exact h2 pins s1 σ1 H1 _ _ Q I1 rr q1
def gTup (K : PySem.W.Frag) (n : Nat) (t : TGs) : TG := fun v σ H Q => ∃ a xs, v = .ref a ∧ SqT K H a xs ∧ xs.length = n ∧ t xs σ H Q
theorem pg_tup {es : List Expr} {k : Nat} {t : TGs} {n : Nat} (hc : X.calm = true) (h : PGs X es t)
    (hn : (assignEach es X.env).length = n := by rfl) (hst : (assignEach es X.env).findIdx? (·.1) = none := by rfl) : PG X (.Tuple es k pos) (gTup X.K n t) := by
  intro pins s σ H v u Q I r hw
  obtain ⟨a, xs, e1, hq, hl, hw⟩ := hw
  subst e1
  cases r
  obtain ⟨its, rv, ht, hz⟩ := I.tuple hq
  refine assign_Tuple_tuple (I.ok.hd hc) ht (by simp [hn, ← hl, rv.length]) hst fun h' hx => ?_
  have I1 : Inv X pins σ H { s with heap := h' } := I.kept (t' := s.toks) fun b o e => hx b o (Nat.ne_of_lt (Heap.lt_size e)) e
  exact h pins _ σ H xs _ Q I1 (by simpa using rv) hw
def gSub (to ti : TE) (t : TSet) : TG := fun v σ H Q => to σ H fun o H1 => ti σ H1 fun i H2 => t o i v H2 fun H3 => Q σ H3
theorem pg_sub {o i : Expr} {to ti : TE} {t : TSet} (ho : PE X o to) (hi : PE X i ti) (hs : PSet X t)
    (ha : ∀ v, assign (.Subscript o i pos) X.env v = (do
      let ov ← holding [v] (eval o X.env)
      let iv ← holding [v, ov] (eval i X.env)
      standAt pos
      holding [v, ov, iv] (setItem ov iv v)
      release [v, ov, iv] []) := by intro _; rfl) : PG X (.Subscript o i pos) (gSub to ti t) := by
  intro pins s σ H v u Q I r h
  rw [ha]
  refine wpAny_bind (wpAny_holding (thn (ho pins s σ H _ I h) fun ov s1 ⟨x, H1, I1, r1, q1⟩ => ?_))
  refine wpAny_bind (wpAny_holding (thn (hi pins s1 σ H1 _ I1 q1) fun iv s2 ⟨y, H2, I2, r2, q2⟩ => ?_))
  refine wpAny_bind (wpAny_standAt (wpAny_bind (wpAny_holding (thn (hs pins s2 σ H2 x y v ov iv u _ I2 r1 r2 r q2) fun _ s3 ⟨H3, I3, q3⟩ => ?_))))
  exact wpAny_release ⟨σ, H3, I3, q3⟩
def tAsg (te : TE) (g : TG) : TS := fun D σ H => te σ H fun x H1 => g x σ H1 D.nx
theorem ps_asg {tg e : Expr} {te : TE} {g : TG} (he : PE X e te) (hg : PG X tg g) (hs : swapsWithSole [tg] e pos.line X.env = pure false := by rfl) (hw : swappedStores [tg] e X.env = pure none := by rfl)
    (h1 : (assignEach [tg] X.env).map (·.2) = [assign tg X.env] := by rfl) : PS X (.Assign [tg] e pos) (tAsg te g) := by
  intro pins s σ H D I h
  refine wpAny_Assign_stores (thn (he pins s σ H _ I h) fun v s1 ⟨x, H1, I1, r1, q1⟩ => ?_) hs hw
  rw [h1]
  exact thn (hg pins s1 σ H1 x v _ I1 r1 q1) fun _ s2 q => q
theorem ps_set {i : Nat} {x : Str} {e : Expr} {te : TE} {pos' : Pos} (hN : X.N.Nodup) (hi : X.N[i]? = some x) (hx : Loc X.env.scope x) (he : PE X e te) (hs : swapsWith e (some (.Name x pos')) pos.line X.env = pure false := by rfl) (hf : X.fn x = true ∨ X.env.scope.names.lookup x = some .local := by first | exact .inl rfl | exact .inr rfl | assumption) :
    PS X (.Assign [.Name x pos'] e pos) (tAsg te (gName i)) := by
  intro pins s σ H D I h
  refine wpAny_Assign_Name (thn (he pins s σ H _ I h) fun v s1 ⟨y, H1, I1, r1, q1⟩ => ?_) hs
  exact store_ok I1 hN hi hx r1 (fun s2 I2 => ⟨_, H1, I2, q1⟩) hf
end
section
variable {X : Cx} {pos : Pos}
end
structure It where
  go : Nat → Hp → Prop
  yld : Nat → Hp → V → Hp → Prop
  stop : Nat → Hp → Prop
def FpOk (X : Cx) (pins : List (Addr × Obj)) (H : Hp) (b : Addr) : Prop :=
  H b = none ∧ b ≠ X.env.locals ∧ b ∉ X.fs ∧ (b ∈ X.ex ∨ X.s₀.heap.objs.size ≤ b) ∧ (∀ x c, X.env.cells.lookup x = some c → c ≠ b) ∧ ∀ p ∈ X.pn ++ pins, p.1 ≠ b
theorem Inv.fpOk {X : Cx} {pins : List (Addr × Obj)} {σ : St} {H H' : Hp} {s : Shared} {b : Addr} (I : Inv X pins σ H s) (hb : s.heap.objs.size ≤ b) (hn : H' b = none) : FpOk X pins H' b := by
  refine ⟨hn, Nat.ne_of_gt (Nat.lt_of_lt_of_le I.lt hb), I.nofs hb, .inr (Nat.le_trans I.sz hb), fun x c e z => ?_, fun p hp z => ?_⟩
  · obtain ⟨v, q⟩ := I.cell x c e
    exact absurd (Nat.lt_of_lt_of_le q.lt (by rw [z]; exact hb)) (Nat.lt_irrefl _)
  · exact absurd (Nat.lt_of_lt_of_le (Heap.lt_size (I.pin p hp).1) (by rw [z]; exact hb)) (Nat.lt_irrefl _)
structure Turn (P : Program) (w : World) (K : PySem.W.Frag) (tg : Expr) (J : It) (fp : List Addr) (it : Addr) (tn : Nat → Heap → Prop) : Prop where
  mem : it ∈ fp
  obj : ∀ i h, tn i h → ∀ b ∈ fp, ∃ o, h.get? b = some o ∧ ∀ v, o.data ≠ .cell v
  keep : ∀ i h h', tn i h → (∀ b ∈ fp, ∀ o, h.get? b = some o → h'.get? b = some o) → tn i h'
  item : ∀ (X : Cx), X.prog = P → X.w = w → X.K = K → X.calm = true → ∀ (i : Nat) (pins : List (Addr × Obj)) (s : Shared) (σ : St) (H : Hp) (E : Value → Shared → Prop), Inv X pins σ H s → (∀ b ∈ fp, FpOk X pins H b) → tn i s.heap → J.go i H →
    wpAny (model P w) X.A (pyNext (.ref it)) (fun r s1 => ∃ u, r = some u ∧
      wpAny (model P w) X.A (letOwnedTupleGo tg (.ref it) u) (fun _ s2 => ∃ x H', Inv X pins σ H' s2 ∧ RelV x u ∧ J.yld i H x H' ∧ tn (i + 1) s2.heap ∧ ∀ b ∈ fp, H' b = none) E s1) E s
  done : ∀ (X : Cx), X.prog = P → X.w = w → X.K = K → X.calm = true → ∀ (i : Nat) (pins : List (Addr × Obj)) (s : Shared) (σ : St) (H : Hp) (E : Value → Shared → Prop), Inv X pins σ H s → (∀ b ∈ fp, FpOk X pins H b) → tn i s.heap → J.stop i H →
    wpAny (model P w) X.A (pyNext (.ref it)) (fun r s1 => r = none ∧ Inv X pins σ H s1) E s
  self : ∀ (A : Around) (i : Nat) (s : Shared) (Q : Value → Shared → Prop) (E : Value → Shared → Prop), tn i s.heap → Q (.ref it) s → wpAny (model P w) A (pyIter (.ref it)) Q E s
abbrev TI := St → Hp → (It → Hp → Prop) → Prop
def PIE (X : Cx) (pins : List (Addr × Obj)) (σ : St) (tg : Expr) (R : It → Hp → Prop) (itv : Value) (s2 : Shared) : Prop :=
  ∃ (it : Addr) (fp : List Addr) (tn : Nat → Heap → Prop) (J : It) (H' : Hp), itv = .ref it ∧ Inv X pins σ H' s2 ∧ Turn X.prog X.w X.K tg J fp it tn ∧ tn 0 s2.heap ∧ (∀ b ∈ fp, FpOk X pins H' b) ∧ R J H'
def PI (X : Cx) (tg iter : Expr) (wi : TI) : Prop :=
  ∀ (pins : List (Addr × Obj)) (s : Shared) (σ : St) (H : Hp) (R : It → Hp → Prop), Inv X pins σ H s → wi σ H R →
    wpAny (model X.prog X.w) X.A (eval iter X.env) (fun v s1 => wpAny (model X.prog X.w) X.A (pyIter v) (PIE X pins σ tg R) X.xe s1) X.xe s
theorem go_of {M : Model} {A : Around} {E : Value → Shared → Prop} {s : Shared} {tg : Expr} {it : Addr} {u : Value} {o : Obj} {n : String} {vs : Array Value} {Q : Unit → Shared → Prop} (ho : s.heap.get? it = some o) (hc : o.cls = .type n) (hd : o.data = .fields vs)
    (hn : ["enumerate", "zip", "dict_itemiterator", "dict_reverseitemiterator", "odict_iterator", "itertools.zip_longest", "itertools.pairwise"].contains n = false) (hQ : Q () s) : wpAny M A (letOwnedTupleGo tg (.ref it) u) Q E s := by
  unfold letOwnedTupleGo
  cases tg <;> first
    | exact wpAny_pure hQ
    | (cases u <;> first
        | exact wpAny_pure hQ
        | (refine wpAny_bind (wpAny_load ho ?_)
           rw [hc, hd]
           show wpAny M A (if (["enumerate", "zip", "dict_itemiterator", "dict_reverseitemiterator", "odict_iterator", "itertools.zip_longest", "itertools.pairwise"].contains n && vs[0]? == some (rawInt _)) = true then _ else _) Q E s
           rw [if_neg (by intro h; rw [hn, Bool.false_and] at h; cases h)]
           exact wpAny_pure hQ))
def Itl (K : PySem.W.Frag) (a : Addr) : It :=
  ⟨fun i H => ∃ xs x, SqL K H a xs ∧ xs[i]? = some x, fun i H x H' => H' = H ∧ ∀ xs, SqL K H a xs → xs[i]? = some x, fun i H => ∃ xs, SqL K H a xs ∧ xs.length ≤ i⟩
def Itr (lo : Int) (n : Nat) : It := ⟨fun i _ => i < n, fun i H x H' => H' = H ∧ x = .int (lo + i), fun i _ => n ≤ i⟩
theorem turn_list {P : Program} {w : World} {K : PySem.W.Frag} {tg : Expr} (a it : Addr) : Turn P w K tg (Itl K a) [it] it (fun i h => h.IsListIter it a i) where
  mem := by simp
  obj := fun i h st b hb => by
    have e : b = it := by simpa using hb
    subst e
    obtain ⟨o, e, c, d⟩ := st
    exact ⟨o, e, fun v z => by rw [d] at z; cases z⟩
  keep := fun i h h' st k => st.at fun o e => k it (by simp) o e
  item := by
    intro X hP hw hK hc i pins s σ H E I hf st hg
    subst hP hw hK
    obtain ⟨xs, x, hq, hx⟩ := hg
    obtain ⟨its, rv, p, hz⟩ := I.list hq
    obtain ⟨u, hu, ru⟩ := rv.get hx
    obtain ⟨f0, f1, f2, f3, f4, f5⟩ := hf it (by simp)
    refine wpAny_pyNext_list_item st p.isList (x := u) (by simpa using hu) fun h' st' sb => ?_
    have I1 : Inv X pins σ H { s with heap := h' } := I.turned (t' := s.toks) (fun b o hb e => (sb.2 b hb).trans e) f0 f1 f3 f4 f5
    obtain ⟨o, e, c, d⟩ := id st'
    exact ⟨u, rfl, go_of (s := { s with heap := h' }) e c d (by decide) ⟨x, H, I1, ru, ⟨rfl, fun ys hy => by rw [I.list_inj hy hq]; exact hx⟩, st', fun b hb => (hf b hb).1⟩⟩
  done := by
    intro X hP hw hK hc i pins s σ H E I hf st hg
    subst hP hw hK
    obtain ⟨xs, hq, hx⟩ := hg
    obtain ⟨its, rv, p, hz⟩ := I.list hq
    obtain ⟨f0, f1, f2, f3, f4, f5⟩ := hf it (by simp)
    have hl := rv.length
    exact wpAny_pyNext_list_end (I.ok.hd hc) st p.isList (by simp; omega) fun h' eb => ⟨rfl, I.turned (t' := s.toks) (fun b o hb e => eb b o hb e) f0 f1 f3 f4 f5⟩
  self := fun _ _ _ _ _ st h => wpAny_pyIter_listiter st h
theorem turn_range {P : Program} {w : World} {K : PySem.W.Frag} {tg : Expr} (it : Addr) (lo : Int) (n : Nat) : Turn P w K tg (Itr lo n) [it] it (fun i h => IsRangeIter h it (lo + (i : Nat) * 1) ((n : Int) - (i : Nat)) 1) where
  mem := by simp
  obj := fun i h st b hb => by
    have e : b = it := by simpa using hb
    subst e
    exact ⟨_, st, fun v z => by
      have z' : Data.fields _ = Data.cell v := z
      cases z'⟩
  keep := fun i h h' st k => k it (by simp) _ st
  item := by
    intro X hP hw hK hc i pins s σ H E I hf st hg
    subst hP hw hK
    obtain ⟨f0, f1, f2, f3, f4, f5⟩ := hf it (by simp)
    have W := Walks.range (prog := X.prog) (w := X.w) (I.ok.hd hc) it lo 1 n
    refine W.item i s _ _ hg st fun v h' tk hv st' kk => ?_
    obtain ⟨t, rfl⟩ := hv
    have I1 : Inv X pins σ H { s with heap := h', toks := tk } := I.turned (fun b o hb e => kk b o (by simpa using hb) e) f0 f1 f3 f4 f5
    refine ⟨_, rfl, go_of (s := { s with heap := h', toks := tk }) (n := "range_iterator") st' rfl rfl (by decide) ⟨.int (lo + i), H, I1, ⟨t, ?_⟩, ⟨rfl, rfl⟩, st', fun b hb => (hf b hb).1⟩⟩
    rw [Int.mul_one]
  done := by
    intro X hP hw hK hc i pins s σ H E I hf st hg
    subst hP hw hK
    obtain ⟨f0, f1, f2, f3, f4, f5⟩ := hf it (by simp)
    exact wpAny_pyNext_range_end (I.ok.hd hc) st (by have : n ≤ i := hg; omega) fun h' eb => ⟨rfl, I.turned (t' := s.toks) (fun b o hb e => eb b o hb e) f0 f1 f3 f4 f5⟩
  self := fun _ _ _ _ _ st h => wpAny_pyIter_rangeiter st h
end L2
namespace L2
open PySem PySem.Spec PyProof.Rows
variable {q0 : Bool}
section
variable {X : Cx} {tg : Expr}
def iList (K : PySem.W.Frag) (tl : TE) : TI := fun σ H R => tl σ H fun x H1 => ∃ a, x = .ref a ∧ (∃ xs, SqL K H1 a xs) ∧ R (Itl K a) H1
theorem pi_list {l : Expr} {tl : TE} (hl : PE X l tl) : PI X tg l (iList X.K tl) := by
  intro pins s σ H R I h
  refine thn (hl pins s σ H _ I h) fun v s1 ⟨x, H1, I1, r1, q1⟩ => ?_
  obtain ⟨a, e, ⟨xs, hq⟩, q⟩ := q1
  subst e
  cases r1
  obtain ⟨its, rv, p, hz⟩ := I1.list hq
  refine wpAny_pyIter_list p.isList ?_
  refine ⟨s1.heap.objs.size, [s1.heap.objs.size], _, _, H1, rfl, I1.kept (t' := s1.toks) fun b o e => Heap.get?_push_of_some _ e, turn_list a _, ⟨_, Heap.get?_push_size _ rfl, rfl, rfl⟩, fun b hb => ?_, q⟩
  have e : b = s1.heap.objs.size := by simpa using hb
  subst e
  exact I1.fpOk (Nat.le_refl _) (I1.hok.fresh (Nat.le_refl _))
theorem range_it {pins : List (Addr × Obj)} {σ : St} {H : Hp} {s : Shared} {R : It → Hp → Prop} {E : Value → Shared → Prop} {lo hi : Int} {t u v : Tok} {tk : Nat} (I : Inv X pins σ H s) (h1 : -(2 ^ 62) ≤ lo) (h2 : lo < 2 ^ 62) (h3 : -(2 ^ 62) ≤ hi) (h4 : hi < 2 ^ 62)
    (q : R (Itr lo (hi - lo).toNat) H) : wpAny (model X.prog X.w) X.A (pyIter (.ref s.heap.objs.size)) (PIE X pins σ tg R) E { s with heap := s.heap.push { cls := .type "range", data := .fields #[.int lo t, .int hi u, .int 1 v] }, toks := tk } := by
  refine wpAny_pyIter_range (IsRange.new ..) (small_one h1 h2 h3 h4) ?_
  have I1 : Inv X pins σ H { s with heap := s.heap.push { cls := .type "range", data := .fields #[.int lo t, .int hi u, .int 1 v] }, toks := tk } := I.kept fun b o e => Heap.get?_push_of_some _ e
  refine ⟨(s.heap.push { cls := .type "range", data := .fields #[.int lo t, .int hi u, .int 1 v] }).objs.size, [(s.heap.push { cls := .type "range", data := .fields #[.int lo t, .int hi u, .int 1 v] }).objs.size], _, _, H, rfl,
    I1.kept (t' := tk) fun b o e => Heap.get?_push_of_some _ e, turn_range _ lo (hi - lo).toNat, ?_, fun b hb => ?_, q⟩
  · have e1 : lo + ((0 : Nat) : Int) * 1 = lo := by simp
    have e2 : (((hi - lo).toNat : Nat) : Int) - ((0 : Nat) : Int) = Builtin.Range.rangeSize lo hi 1 := by rw [rangeSize_one]; split <;> omega
    show IsRangeIter _ _ (lo + ((0 : Nat) : Int) * 1) ((((hi - lo).toNat : Nat) : Int) - ((0 : Nat) : Int)) 1
    rw [e1, e2]
    exact Heap.get?_push_size _ rfl
  · have e : b = (s.heap.push { cls := .type "range", data := .fields #[.int lo t, .int hi u, .int 1 v] }).objs.size := by simpa using hb
    subst e
    exact I1.fpOk (Nat.le_refl _) (I1.hok.fresh (Nat.le_refl _))
def iRng1 (ta : TA) : TI := fun σ H R => ta σ H fun vs H1 => ∃ j : Int, vs = [.int j] ∧ -(2 ^ 62) ≤ j ∧ j < 2 ^ 62 ∧ R (Itr 0 j.toNat) H1
def iRng2 (ta : TA) : TI := fun σ H R => ta σ H fun vs H1 => ∃ i j : Int, vs = [.int i, .int j] ∧ (-(2 ^ 62) ≤ i ∧ i < 2 ^ 62 ∧ -(2 ^ 62) ≤ j ∧ j < 2 ^ 62) ∧ R (Itr i (j - i).toNat) H1
theorem pi_range1 {a : Expr} {ta : TA} {p pos : Pos} (hg : Gl X "range") (hm : X.mg "range" = none) (ha : PA X [a] ta) (hs : starEach [a] X.env = [(false, eval a X.env)] := by rfl) : PI X tg (.Call (.Name "range" p) [a] [] pos) (iRng1 ta) := by
  intro pins s σ H R I h
  refine Call_ (ld_blt I hg hm boot_range (PyProof.Rows.callWith_type1 (thn (ha pos pins s σ H _ I h) fun us s1 ⟨vs, H1, I1, r1, q1⟩ => ?_) hs rfl))
  obtain ⟨j, e, q1, q2, q⟩ := q1
  subst e
  cases r1 with
  | cons r rr =>
    cases rr
    obtain ⟨t, rfl⟩ := r
    exact call_range_1 (range_it I1 (by omega) (by omega) q1 q2 (by simpa using q))
theorem pi_range2 {a b : Expr} {ta : TA} {p pos : Pos} (hg : Gl X "range") (hm : X.mg "range" = none) (ha : PA X [a, b] ta) (hs : starEach [a, b] X.env = [(false, eval a X.env), (false, eval b X.env)] := by rfl) (hs2 : starEach [b] X.env = [(false, eval b X.env)] := by rfl) :
    PI X tg (.Call (.Name "range" p) [a, b] [] pos) (iRng2 ta) := by
  intro pins s σ H R I h
  refine Call_ (ld_blt I hg hm boot_range (PyProof.Rows.callWith_type1 (thn (ha pos pins s σ H _ I h) fun us s1 ⟨vs, H1, I1, r1, q1⟩ => ?_) (by rw [hs, hs2]) (by rw [hs2]; rfl)))
  obtain ⟨i, j, e, ⟨q1, q2, q3, q4⟩, q⟩ := q1
  subst e
  cases r1 with
  | cons r rr =>
    cases rr with
    | cons r' rr =>
      cases rr
      obtain ⟨t, rfl⟩ := r
      obtain ⟨t', rfl⟩ := r'
      exact call_range_2 (range_it I1 q1 q2 q3 q4 q)
def tFor (wi : TI) (g : TG) (tb : TS) : TS := fun D σ H => wi σ H fun J H1 => ∃ W : Nat → Nat → St → Hp → Prop, (∃ m, W 0 m σ H1) ∧ ∀ i m σ H, W i m σ H →
  (J.stop i H ∧ D.nx σ H) ∨ (J.go i H ∧ ∃ N : St → Hp → Prop, (∀ σ' H', N σ' H' → ∃ m', m' < m ∧ W (i + 1) m' σ' H') ∧ ∀ x H', J.yld i H x H' → g x σ H' fun σ2 H2 => tb { D with nx := N, ct := N, bk := D.nx } σ2 H2)
def pinsAt (fp : List Addr) (h : Heap) : List (Addr × Obj) := fp.filterMap fun b => (h.get? b).map fun o => (b, o)
theorem mem_pinsAt {fp : List Addr} {h : Heap} {b : Addr} {o : Obj} (hb : b ∈ fp) (e : h.get? b = some o) : (b, o) ∈ pinsAt fp h := List.mem_filterMap.mpr ⟨b, hb, by rw [e]; rfl⟩
theorem of_pinsAt {fp : List Addr} {h : Heap} {p : Addr × Obj} (hp : p ∈ pinsAt fp h) : p.1 ∈ fp ∧ h.get? p.1 = some p.2 := by
  obtain ⟨b, hb, e⟩ := List.mem_filterMap.mp hp
  cases q : h.get? b with
  | none => rw [q] at e; cases e
  | some o =>
    rw [q] at e
    have e' : (b, o) = p := Option.some.inj e
    subst e'
    exact ⟨hb, q⟩
theorem Inv.pinned {pins : List (Addr × Obj)} {σ : St} {H : Hp} {s : Shared} {fp : List Addr} (I : Inv X pins σ H s) (hf : ∀ b ∈ fp, FpOk X pins H b) (ho : ∀ b ∈ fp, ∃ o, s.heap.get? b = some o ∧ ∀ v, o.data ≠ .cell v) : Inv X (pins ++ pinsAt fp s.heap) σ H s :=
  I.pins_of fun p hp => (List.mem_append.mp hp).elim (fun z => I.pin p (List.mem_append_right _ z)) fun z => by
    obtain ⟨hb, e⟩ := of_pinsAt z
    obtain ⟨f0, f1, f2, _⟩ := hf p.1 hb
    obtain ⟨o, e', d⟩ := ho p.1 hb
    rw [e] at e'; cases e'
    exact ⟨e, f0, f1, f2, d⟩
theorem Inv.unpinned {pins pl : List (Addr × Obj)} {σ : St} {H : Hp} {s : Shared} (I : Inv X (pins ++ pl) σ H s) : Inv X pins σ H s := I.pins_of fun p hp => I.pin p (List.mem_append_right _ (List.mem_append_left _ hp))
theorem ps_for {iter : Expr} {body : List Stmt} {wi : TI} {g : TG} {tb : TS} {pos : Pos} (hp : PassesOwn (model X.prog X.w) X.A X.env X.xe) (hc : X.calm = true) (hi : PI X tg iter wi) (hg : PG X tg g) (hb : PSs X body tb)
    (hs : ∀ x, foldedSetIterable iter X.env x = pure x := by intro _; rfl) : PS X (.For tg iter body [] pos) (tFor wi g tb) := by
  intro pins s σ H D I h
  refine wpAny_For (thn (hi pins s σ H _ I h) fun v s1 h1 => thn h1 fun itv s2 h2 => ?_) hs
  obtain ⟨it, fp, tn, J, H2, e, I2, T, st2, f2, W, ⟨m0, w0⟩, turn⟩ := h2
  subst e
  -- what stays true of the iterator's objects through the loop
  have stat : ∀ {H' : Hp}, (∀ b ∈ fp, H' b = none) → ∀ b ∈ fp, FpOk X pins H' b := fun hn b hb => ⟨hn b hb, (f2 b hb).2⟩
  refine codeAny_forLoop_any (fun n s' => ∃ i σ' H', Inv X pins σ' H' s' ∧ tn i s'.heap ∧ (∀ b ∈ fp, H' b = none) ∧ W i n σ' H') ?_ m0 ⟨0, σ, H2, I2, st2, fun b hb => (f2 b hb).1, w0⟩
  rintro n s3 ⟨i, σ3, H3, I3, st3, fr3, w3⟩
  rcases turn i n σ3 H3 w3 with ⟨stop, qn⟩ | ⟨go, N, hN, step⟩
  · refine wpAny_passesOwn hp (thn (T.done X rfl rfl rfl hc i pins s3 σ3 H3 X.xe I3 (stat fr3) st3 stop) fun r s4 ⟨hr, I4⟩ => ?_)
    subst hr
    exact wpAny_execs_nil ⟨σ3, H3, I4, qn⟩
  · refine wpAny_passesOwn hp (thn (T.item X rfl rfl rfl hc i pins s3 σ3 H3 X.xe I3 (stat fr3) st3 go) fun r s4 ⟨u, hr, h4⟩ => ?_)
    subst hr
    refine wpAny_passesOwn hp (thn h4 fun _ s5 ⟨x, H5, I5, r5, y5, st5, fr5⟩ => ?_)
    have I5' := I5.pinned (stat fr5) (T.obj _ _ st5)
    refine wpAny_passesOwn hp (thn (hg _ s5 σ3 H5 x u _ I5' r5 (step x H5 y5)) fun _ s6 ⟨σ6, H6, I6, q6⟩ => ?_)
    refine wpAny_passesOwn hp (thn (hb _ s6 σ6 H6 _ I6 q6) fun f s7 q7 => ?_)
    have again : ∀ {σ7 : St} {H7 : Hp}, Inv X (pins ++ pinsAt fp s5.heap) σ7 H7 s7 → N σ7 H7 → ∃ m, m < n ∧ ∃ i σ' H', Inv X pins σ' H' s7 ∧ tn i s7.heap ∧ (∀ b ∈ fp, H' b = none) ∧ W i m σ' H' := fun {σ7 H7} I7 n7 => by
      obtain ⟨m', hm, w7⟩ := hN σ7 H7 n7
      refine ⟨m', hm, i + 1, σ7, H7, I7.unpinned, T.keep _ _ _ st5 fun b hb o e => (I7.pin (b, o) (List.mem_append_right _ (List.mem_append_right _ (mem_pinsAt hb e)))).1, fun b hb => ?_, w7⟩
      obtain ⟨o, e, d⟩ := T.obj _ _ st5 b hb
      exact (I7.pin (b, o) (List.mem_append_right _ (List.mem_append_right _ (mem_pinsAt hb e)))).2.1
    cases f with
    | next => obtain ⟨σ7, H7, I7, n7⟩ := q7; exact again I7 n7
    | cont => obtain ⟨σ7, H7, I7, n7⟩ := q7; exact again I7 n7
    | brk => obtain ⟨σ7, H7, I7, q7⟩ := q7; exact ⟨σ7, H7, I7.unpinned, q7⟩
    | ret v => obtain ⟨x7, σ7, H7, I7, r7, q7⟩ := q7; exact ⟨x7, σ7, H7, I7.unpinned, r7, q7⟩
end
theorem for_list {K : PySem.W.Frag} {a : Addr} {xs : List V} {g : TG} {tb : TS} {D : Ends} {σ : St} {H : Hp} (Pv : Nat → St → Hp → Prop) (h0 : Pv 0 σ H) (hl : ∀ i σ H, i ≤ xs.length → Pv i σ H → SqL K H a xs)
    (hs : ∀ i x σ H, xs[i]? = some x → Pv i σ H → g x σ H fun σ2 H2 => tb { D with nx := Pv (i + 1), ct := Pv (i + 1), bk := D.nx } σ2 H2) (hd : ∀ σ H, Pv xs.length σ H → D.nx σ H) :
    ∃ W : Nat → Nat → St → Hp → Prop, (∃ m, W 0 m σ H) ∧ ∀ i m σ H, W i m σ H →
      ((Itl K a).stop i H ∧ D.nx σ H) ∨ ((Itl K a).go i H ∧ ∃ N : St → Hp → Prop, (∀ σ' H', N σ' H' → ∃ m', m' < m ∧ W (i + 1) m' σ' H') ∧ ∀ x H', (Itl K a).yld i H x H' → g x σ H' fun σ2 H2 => tb { D with nx := N, ct := N, bk := D.nx } σ2 H2) := by
  refine ⟨fun i m σ H => m = xs.length - i ∧ i ≤ xs.length ∧ Pv i σ H, ⟨xs.length, by simp, Nat.zero_le _, h0⟩, ?_⟩
  rintro i m σ H ⟨rfl, hi, p⟩
  have q := hl i σ H hi p
  by_cases hlt : i < xs.length
  · refine .inr ⟨⟨xs, xs[i], q, by simp [hlt]⟩, Pv (i + 1), fun σ' H' p' => ⟨xs.length - (i + 1), by omega, rfl, hlt, p'⟩, fun x H' y => ?_⟩
    obtain ⟨e, y⟩ := y
    subst e
    exact hs i x σ _ (y xs q) p
  · have e : i = xs.length := by omega
    subst e
    exact .inl ⟨⟨xs, q, Nat.le_refl _⟩, hd σ H p⟩
theorem for_range {lo : Int} {n : Nat} {g : TG} {tb : TS} {D : Ends} {σ : St} {H : Hp} (Pv : Nat → St → Hp → Prop) (h0 : Pv 0 σ H)
    (hs : ∀ i σ H, i < n → Pv i σ H → g (.int (lo + i)) σ H fun σ2 H2 => tb { D with nx := Pv (i + 1), ct := Pv (i + 1), bk := D.nx } σ2 H2) (hd : ∀ σ H, Pv n σ H → D.nx σ H) :
    ∃ W : Nat → Nat → St → Hp → Prop, (∃ m, W 0 m σ H) ∧ ∀ i m σ H, W i m σ H →
      ((Itr lo n).stop i H ∧ D.nx σ H) ∨ ((Itr lo n).go i H ∧ ∃ N : St → Hp → Prop, (∀ σ' H', N σ' H' → ∃ m', m' < m ∧ W (i + 1) m' σ' H') ∧ ∀ x H', (Itr lo n).yld i H x H' → g x σ H' fun σ2 H2 => tb { D with nx := N, ct := N, bk := D.nx } σ2 H2) := by
  refine ⟨fun i m σ H => m = n - i ∧ i ≤ n ∧ Pv i σ H, ⟨n, by simp, Nat.zero_le _, h0⟩, ?_⟩
  rintro i m σ H ⟨rfl, hi, p⟩
  by_cases hlt : i < n
  · refine .inr ⟨hlt, Pv (i + 1), fun σ' H' p' => ⟨n - (i + 1), by omega, rfl, hlt, p'⟩, fun x H' y => ?_⟩
    obtain ⟨e, y⟩ := y
    subst e y
    exact hs i σ _ hlt p
  · have e : i = n := by omega
    subst e
    exact .inl ⟨Nat.le_refl _, hd σ H p⟩
end L2
namespace L2
open PySem PySem.Spec PyProof.Rows
variable {q0 : Bool}
abbrev R2 := V → V → Hp → VK → Prop
def OpR (X : Cx) (f : Value → Value → Sem Value) (r : R2) : Prop :=
  ∀ (pins : List (Addr × Obj)) (s : Shared) (σ : St) (H : Hp) (x y : V) (v u : Value) (Q : VK), Inv X pins σ H s → RelV x v → RelV y u → r x y H Q →
    wpAny (model X.prog X.w) X.A (f v u) (EP X pins σ Q) X.xe s
def UnR (X : Cx) (f : Value → Sem Value) (r : V → Hp → VK → Prop) : Prop :=
  ∀ (pins : List (Addr × Obj)) (s : Shared) (σ : St) (H : Hp) (x : V) (v : Value) (Q : VK), Inv X pins σ H s → RelV x v → r x H Q →
    wpAny (model X.prog X.w) X.A (f v) (EP X pins σ Q) X.xe s
def CallR (X : Cx) (f : Value) (r : List V → Hp → VK → Prop) : Prop :=
  ∀ (pins : List (Addr × Obj)) (s : Shared) (σ : St) (H : Hp) (xs : List V) (us : List Value) (Q : VK), Inv X pins σ H s → Vals xs us → r xs H Q →
    wpAny (model X.prog X.w) X.A (call f us) (EP X pins σ Q) X.xe s
def tOp (r : R2) (ta tb : TE) : TE := fun σ H Q => ta σ H fun x H1 => tb σ H1 fun y H2 => r x y H2 Q
def tUn (r : V → Hp → VK → Prop) (ta : TE) : TE := fun σ H Q => ta σ H fun x H1 => r x H1 Q
def rI (C : Int → Int → Prop) (g : Int → Int → V) : R2 := fun x y H Q => ∃ i j, x = .int i ∧ y = .int j ∧ C i j ∧ Q (g i j) H
def rI0 (g : Int → Int → V) : R2 := fun x y H Q => ∃ i j, x = .int i ∧ y = .int j ∧ Q (g i j) H
def rU (g : Int → V) : V → Hp → VK → Prop := fun x H Q => ∃ i, x = .int i ∧ Q (g i) H
section
variable {X : Cx} {a b c : Expr} {ta tb tc : TE} {pos : Pos}
theorem binT (ha : PE X a ta) (hb : PE X b tb) {pins : List (Addr × Obj)} {s : Shared} {σ : St} {H : Hp} {R : V → V → Hp → Prop} (I : Inv X pins σ H s)
    (h : ta σ H fun x H1 => tb σ H1 fun y H2 => R x y H2) {Q : Value → Shared → Prop} {f : Value → Value → Sem Value}
    (hf : ∀ v u s2 x y H2, Inv X pins σ H2 s2 → RelV x v → RelV y u → R x y H2 → wpAny (model X.prog X.w) X.A (f v u) Q X.xe s2) :
    wpAny (model X.prog X.w) X.A (eval a X.env) (fun v s₁ => wpAny (model X.prog X.w) X.A (eval b X.env) (fun u s₂ => wpAny (model X.prog X.w) X.A (f v u) Q X.xe s₂) X.xe s₁) X.xe s := by
  refine thn (ha pins s σ H _ I h) fun v s1 ⟨x, H1, I1, r1, q1⟩ => ?_
  refine thn (hb pins s1 σ H1 _ I1 q1) fun u s2 ⟨y, H2, I2, r2, q2⟩ => ?_
  exact hf v u s2 x y H2 I2 r1 r2 q2
theorem pe_op {op : Operator} {r : R2} (ho : OpR X (binaryOp op) r) (ha : PE X a ta) (hb : PE X b tb) : PE X (.BinOp a op b pos) (tOp r ta tb) := by
  intro pins s σ H Q I h
  exact wpAny_BinOp (binT ha hb I h fun v u s2 x y H2 I2 rx ry q => ho pins s2 σ H2 x y v u Q I2 rx ry q)
theorem pe_un {op : UnaryOp} {r : V → Hp → VK → Prop} (ho : UnR X (unaryOp op) r) (ha : PE X a ta) : PE X (.UnaryOp op a pos) (tUn r ta) := by
  intro pins s σ H Q I h
  exact UnaryOp_ (thn (ha pins s σ H _ I h) fun v s1 ⟨x, H1, I1, r1, q1⟩ => ho pins s1 σ H1 x v Q I1 r1 q1)
theorem opI {f : Value → Value → Sem Value} {C : Int → Int → Prop} {g : Int → Int → Int}
    (rule : ∀ (i j : Int) (t u : Tok) (s : Shared) (Q : Value → Shared → Prop) (E : Value → Shared → Prop), C i j → Q (.int (g i j) s.toks) { s with toks := s.toks + 1 } → wpAny (model X.prog X.w) X.A (f (.int i t) (.int j u)) Q E s) :
    OpR X f (rI C fun i j => .int (g i j)) := by
  intro pins s σ H x y v u Q I rx ry h
  obtain ⟨i, j, rfl, rfl, hc, q⟩ := h
  obtain ⟨t, rfl⟩ := rx
  obtain ⟨t', rfl⟩ := ry
  exact rule i j t t' s _ _ hc ⟨.int (g i j), H, I.tok _, ⟨_, rfl⟩, q⟩
theorem opI0 {f : Value → Value → Sem Value} {g : Int → Int → Int}
    (rule : ∀ (i j : Int) (t u : Tok) (s : Shared) (Q : Value → Shared → Prop) (E : Value → Shared → Prop), Q (.int (g i j) s.toks) { s with toks := s.toks + 1 } → wpAny (model X.prog X.w) X.A (f (.int i t) (.int j u)) Q E s) :
    OpR X f (rI0 fun i j => .int (g i j)) := by
  intro pins s σ H x y v u Q I rx ry h
  obtain ⟨i, j, rfl, rfl, q⟩ := h
  obtain ⟨t, rfl⟩ := rx
  obtain ⟨t', rfl⟩ := ry
  exact rule i j t t' s _ _ ⟨.int (g i j), H, I.tok _, ⟨_, rfl⟩, q⟩
theorem opB0 {f : Value → Value → Sem Value} {g : Int → Int → Bool}
    (rule : ∀ (i j : Int) (t u : Tok) (s : Shared) (Q : Value → Shared → Prop) (E : Value → Shared → Prop), Q (.bool (g i j)) s → wpAny (model X.prog X.w) X.A (f (.int i t) (.int j u)) Q E s) :
    OpR X f (rI0 fun i j => .bl (g i j)) := by
  intro pins s σ H x y v u Q I rx ry h
  obtain ⟨i, j, rfl, rfl, q⟩ := h
  obtain ⟨t, rfl⟩ := rx
  obtain ⟨t', rfl⟩ := ry
  exact rule i j t t' s _ _ ⟨.bl (g i j), H, I, rfl, q⟩
def CDiv (i j : Int) : Prop := 0 < j ∧ j < 1073741824
def CPow (i j : Int) : Prop := 0 ≤ j ∧ j ≤ 1000000 ∧ i.natAbs < 2 ^ 64
def CMul (i j : Int) : Prop := (-(2 ^ 64) < i ∧ i < 2 ^ 64) ∨ (-(2 ^ 64) < j ∧ j < 2 ^ 64)
theorem CMul.ok {i j : Int} (h : CMul i j) : IntMulOk i j := by
  rcases h with ⟨h1, h2⟩ | ⟨h1, h2⟩
  · exact .of_left (intBits_le_64 h1 h2)
  · exact .of_right (intBits_le_64 h1 h2)
theorem two_pow_nn (k : Nat) : (0 : Int) ≤ 2 ^ k := by
  rw [two_pow_cast]
  exact Int.natCast_nonneg _
theorem op_add : OpR X (binaryOp .Add) (rI0 fun i j => .int (i + j)) := opI0 fun _ _ _ _ _ _ _ q => add_int q
theorem op_mul : OpR X (binaryOp .Mult) (rI CMul fun i j => .int (i * j)) := opI fun _ _ _ _ _ _ _ hc q => mul_int q hc.ok
theorem op_fdiv : OpR X (binaryOp .FloorDiv) (rI CDiv fun i j => .int (i / j)) := opI fun i j _ _ _ _ _ hc q => by
  have h1 : (0 : Int) < j := hc.1
  have h2 : j < 1073741824 := hc.2
  exact floordiv_int (by omega) (by rw [Int.fdiv_eq_ediv_of_nonneg i (by omega)]; exact q) (.inl (PyProof.noPylong_small (by omega)))
theorem op_mod : OpR X (binaryOp .Mod) (rI (fun _ j => 0 < j) fun i j => .int (i % j)) := opI fun i j _ _ _ _ _ hc q => by
  have h1 : (0 : Int) < j := hc
  exact mod_int' (by omega) (by rw [Int.fmod_eq_emod_of_nonneg i (by omega)]; exact q)
theorem op_pow : OpR X (binaryOp .Pow) (rI CPow fun i j => .int (i ^ j.toNat)) := opI fun _ _ _ _ _ _ _ hc q => pow_int_small hc.1 hc.2.1 hc.2.2 q
theorem op_shr : OpR X (binaryOp .RShift) (rI (fun _ j => 0 ≤ j) fun i j => .int (i / 2 ^ j.toNat)) := opI fun i j _ _ _ _ _ hc q =>
  rshift_int hc (by rw [Int.fdiv_eq_ediv_of_nonneg i (two_pow_nn _)]; exact q)
theorem unI {f : Value → Sem Value} {g : Int → Int}
    (rule : ∀ (i : Int) (t : Tok) (s : Shared) (Q : Value → Shared → Prop) (E : Value → Shared → Prop), Q (.int (g i) s.toks) { s with toks := s.toks + 1 } → wpAny (model X.prog X.w) X.A (f (.int i t)) Q E s) :
    UnR X f (rU fun i => .int (g i)) := by
  intro pins s σ H x v Q I rx h
  obtain ⟨i, rfl, q⟩ := h
  obtain ⟨t, rfl⟩ := rx
  exact rule i t s _ _ ⟨.int (g i), H, I.tok _, ⟨_, rfl⟩, q⟩
theorem un_neg : UnR X (unaryOp .USub) (rU fun i => .int (-i)) := unI fun _ _ _ _ _ q => neg_int q
end
def scal : V → V → Bool
  | .non, .non => true | .non, .int _ => true | .int _, .non => true | .non, .bl _ => true | .bl _, .non => true | .non, .str _ => true | .str _, .non => true
  | .int _, .int _ => true | .bl _, .bl _ => true | .str _, .str _ => true | .byt _, .byt _ => true
  | .int _, .str _ => true | .str _, .int _ => true | .bl _, .str _ => true | .str _, .bl _ => true
  | _, _ => false
def rEq : R2 := fun x y H Q => scal x y = true ∧ Q (.bl (decide (x = y))) H
def rNe : R2 := fun x y H Q => scal x y = true ∧ Q (.bl (!decide (x = y))) H
theorem dec_int {i j : Int} : decide (V.int i = V.int j) = (i == j) := by
  rw [Bool.eq_iff_iff]
  simp
theorem dec_bl {i j : Bool} : decide (V.bl i = V.bl j) = (i == j) := by
  rw [Bool.eq_iff_iff]
  simp
theorem dec_str {i j : Str} : decide (V.str i = V.str j) = (i == j) := by
  rw [Bool.eq_iff_iff]
  simp
theorem dec_byt {i j : Array UInt8} : decide (V.byt i = V.byt j) = (i.toList == j.toList) := by
  rw [Bool.eq_iff_iff]
  cases i
  cases j
  simp
section
variable {X : Cx} {a b c : Expr} {ta tb tc : TE} {pos : Pos}
theorem fin_bl {pins : List (Addr × Obj)} {σ : St} {H : Hp} {s : Shared} {Q : VK} {k k' : Bool} (I : Inv X pins σ H s) (q : Q (.bl k) H) (e : k = k') : EP X pins σ Q (.bool k') s := by
  subst e
  exact ⟨.bl k, H, I, rfl, q⟩
theorem op_eq : OpR X (compareOp .Eq) rEq := by
  intro pins s σ H x y v u Q I rx ry h
  obtain ⟨hs, q⟩ := h
  cases x with
  | non =>
    cases rx
    cases y with
    | non => cases ry; exact PySem.EqNone.eq_none_none (fin_bl I q (by simp))
    | bl j => cases ry; exact PySem.EqNone.eq_none_bool (fin_bl I q (by simp))
    | int j => obtain ⟨t', rfl⟩ := ry; exact PySem.EqNone.eq_none_int (fin_bl I q (by simp))
    | str j => obtain ⟨t', rfl⟩ := ry; exact PySem.EqNone.eq_none_str (fin_bl I q (by simp))
    | _ => exact absurd (show false = true from hs) Bool.false_ne_true
  | bl i =>
    cases rx
    cases y with
    | non => cases ry; exact PySem.EqNone.eq_bool_none (fin_bl I q (by simp))
    | bl j => cases ry; exact eq_bool (fin_bl I q dec_bl)
    | str j => obtain ⟨t', rfl⟩ := ry; exact PySem.EqMixed.eq_bool_str (fin_bl I q (by simp))
    | _ => exact absurd (show false = true from hs) Bool.false_ne_true
  | int i =>
    obtain ⟨t, rfl⟩ := rx
    cases y with
    | non => cases ry; exact PySem.EqNone.eq_int_none (fin_bl I q (by simp))
    | int j => obtain ⟨t', rfl⟩ := ry; exact eq_int (fin_bl I q dec_int)
    | str j => obtain ⟨t', rfl⟩ := ry; exact PySem.EqMixed.eq_int_str (fin_bl I q (by simp))
    | _ => exact absurd (show false = true from hs) Bool.false_ne_true
  | str i =>
    obtain ⟨t, rfl⟩ := rx
    cases y with
    | non => cases ry; exact PySem.EqNone.eq_str_none (fin_bl I q (by simp))
    | bl j => cases ry; exact PySem.EqMixed.eq_str_bool (fin_bl I q (by simp))
    | int j => obtain ⟨t', rfl⟩ := ry; exact PySem.EqMixed.eq_str_int (fin_bl I q (by simp))
    | str j => obtain ⟨t', rfl⟩ := ry; exact eq_str (fin_bl I q dec_str)
    | _ => exact absurd (show false = true from hs) Bool.false_ne_true
  | byt i =>
    obtain ⟨t, rfl⟩ := rx
    cases y with
    | byt j => obtain ⟨t', rfl⟩ := ry; exact PySem.W.eq_bytes (fin_bl I q dec_byt)
    | _ => exact absurd (show false = true from hs) Bool.false_ne_true
  | _ => cases y <;> exact absurd (show false = true from hs) Bool.false_ne_true
theorem op_ne : OpR X (compareOp .NotEq) rNe := by
  intro pins s σ H x y v u Q I rx ry h
  obtain ⟨hs, q⟩ := h
  cases x with
  | non =>
    cases rx
    cases y with
    | non => cases ry; exact PySem.EqNone.ne_none_none (fin_bl I q (by simp))
    | bl j => cases ry; exact PySem.EqNone.ne_none_bool (fin_bl I q (by simp))
    | int j => obtain ⟨t', rfl⟩ := ry; exact PySem.EqNone.ne_none_int (fin_bl I q (by simp))
    | str j => obtain ⟨t', rfl⟩ := ry; exact PySem.EqNone.ne_none_str (fin_bl I q (by simp))
    | _ => exact absurd (show false = true from hs) Bool.false_ne_true
  | bl i =>
    cases rx
    cases y with
    | non => cases ry; exact PySem.EqNone.ne_bool_none (fin_bl I q (by simp))
    | bl j => cases ry; exact ne_bool (fin_bl I q (congrArg not dec_bl))
    | str j => obtain ⟨t', rfl⟩ := ry; exact PySem.EqMixed.ne_bool_str (fin_bl I q (by simp))
    | _ => exact absurd (show false = true from hs) Bool.false_ne_true
  | int i =>
    obtain ⟨t, rfl⟩ := rx
    cases y with
    | non => cases ry; exact PySem.EqNone.ne_int_none (fin_bl I q (by simp))
    | int j => obtain ⟨t', rfl⟩ := ry; exact ne_int (fin_bl I q (congrArg not dec_int))
    | str j => obtain ⟨t', rfl⟩ := ry; exact PySem.EqMixed.ne_int_str (fin_bl I q (by simp))
    | _ => exact absurd (show false = true from hs) Bool.false_ne_true
  | str i =>
    obtain ⟨t, rfl⟩ := rx
    cases y with
    | non => cases ry; exact PySem.EqNone.ne_str_none (fin_bl I q (by simp))
    | bl j => cases ry; exact PySem.EqMixed.ne_str_bool (fin_bl I q (by simp))
    | int j => obtain ⟨t', rfl⟩ := ry; exact PySem.EqMixed.ne_str_int (fin_bl I q (by simp))
    | str j => obtain ⟨t', rfl⟩ := ry; exact ne_str (fin_bl I q (congrArg not dec_str))
    | _ => exact absurd (show false = true from hs) Bool.false_ne_true
  | byt i =>
    obtain ⟨t, rfl⟩ := rx
    cases y with
    | byt j => obtain ⟨t', rfl⟩ := ry; exact PySem.W.ne_bytes (fin_bl I q (congrArg not dec_byt))
    | _ => exact absurd (show false = true from hs) Bool.false_ne_true
  | _ => cases y <;> exact absurd (show false = true from hs) Bool.false_ne_true
theorem op_lt : OpR X (compareOp .Lt) (rI0 fun i j => .bl (decide (i < j))) := opB0 fun _ _ _ _ _ _ _ q => lt_int q
theorem op_le : OpR X (compareOp .LtE) (rI0 fun i j => .bl (decide (i ≤ j))) := opB0 fun _ _ _ _ _ _ _ q => le_int q
theorem op_gt : OpR X (compareOp .Gt) (rI0 fun i j => .bl (decide (j < i))) := opB0 fun _ _ _ _ _ _ _ q => gt_int q
theorem op_ge : OpR X (compareOp .GtE) (rI0 fun i j => .bl (decide (j ≤ i))) := opB0 fun _ _ _ _ _ _ _ q => ge_int q
theorem op_isN : OpR X (compareOp .Is) (fun x y H Q => y = .non ∧ Q (.bl (decide (x = .non))) H) := by
  intro pins s σ H x y v u Q I rx ry h
  obtain ⟨rfl, q⟩ := h
  cases ry
  refine is_none_gen (fin_bl I q ?_)
  cases x <;> first
    | (cases rx; rfl)
    | (obtain ⟨t, rfl⟩ := rx; rfl)
theorem op_notN : OpR X (compareOp .IsNot) (fun x y H Q => y = .non ∧ Q (.bl (!decide (x = .non))) H) := by
  intro pins s σ H x y v u Q I rx ry h
  obtain ⟨rfl, q⟩ := h
  cases ry
  refine isnot_none_gen (fin_bl I q ?_)
  cases x <;> first
    | (cases rx; rfl)
    | (obtain ⟨t, rfl⟩ := rx; rfl)
def isObj : HO → Bool
  | .lst _ => true
  | .ins _ _ _ => true
  | _ => false
theorem nomark (b : Expr) {op : CmpOp} (h : op ≠ .In := by decide) (h2 : op ≠ .NotIn := by decide) : behindInMarks op b = false := by
  have e1 : (op == CmpOp.In) = false := by cases op <;> first | rfl | exact absurd rfl h
  have e2 : (op == CmpOp.NotIn) = false := by cases op <;> first | rfl | exact absurd rfl h2
  cases b <;> simp [behindInMarks, e1, e2]
theorem pe_cmpR {op : CmpOp} {r : R2} (ho : OpR X (compareOp op) r) (ha : PE X a ta) (hb : PE X b tb) (hm : behindInMarks op b = false) : PE X (.Compare a [op] [b] pos) (tOp r ta tb) := by
  intro pins s σ H Q I h
  exact wpAny_Compare1 (binT ha hb I h fun v u s2 x y H2 I2 rx ry q => ho pins s2 σ H2 x y v u Q I2 rx ry q) hm
def tTest (t : TE) : TT := fun σ H Q => t σ H fun x H' => ∃ k, x = .bl k ∧ Q k H'
theorem pt_cmpR {op : CmpOp} {r : R2} (ho : OpR X (compareOp op) r) (ha : PE X a ta) (hb : PE X b tb) (hm : behindInMarks op b = false) : PT X (.Compare a [op] [b] pos) (tTest (tOp r ta tb)) := by
  intro pins s σ H Q I h
  refine wpAny_isTrue_Compare1 (thn (ha pins s σ H _ I h) fun v s1 ⟨x, H1, I1, r1, q1⟩ => thn (hb pins s1 σ H1 _ I1 q1) fun u s2 ⟨y, H2, I2, r2, q2⟩ =>
    thn (ho pins s2 σ H2 x y v u _ I2 r1 r2 q2) fun c s3 ⟨z, H3, I3, r3, k, e, q3⟩ => ?_) hm
  subst e
  cases r3
  exact wpAny_truthy_bool ⟨H3, I3, q3⟩
def tChain (r r' : R2) (ta tb tc : TE) : TE := fun σ H Q => ta σ H fun x H1 => tb σ H1 fun y H2 => r x y H2 fun z H3 => ∃ k, z = .bl k ∧
  (if k = true then tc σ H3 fun w' H4 => r' y w' H4 Q else Q (.bl false) H3)
theorem pe_chain {op op' : CmpOp} {r r' : R2} (ho : OpR X (compareOp op) r) (ho' : OpR X (compareOp op') r') (ha : PE X a ta) (hb : PE X b tb) (hc : PE X c tc)
    (hm : lastMarks [op, op'] [b, c] = false := by with_unfolding_all rfl) : PE X (.Compare a [op, op'] [b, c] pos) (tChain r r' ta tb tc) := by
  intro pins s σ H Q I h
  refine Compare_chain (thn (ha pins s σ H _ I h) fun v s1 ⟨x, H1, I1, r1, q1⟩ => chain_link (thn (hb pins s1 σ H1 _ I1 q1) fun u s2 ⟨y, H2, I2, r2, q2⟩ =>
    thn (ho pins s2 σ H2 x y v u _ I2 r1 r2 q2) fun d s3 ⟨z, H3, I3, r3, k, e, q3⟩ => ?_)) hm
  subst e
  cases r3
  refine wpAny_truthy_bool ?_
  cases k with
  | false => exact ite_ff ⟨.bl false, H3, I3, rfl, q3⟩
  | true => exact ite_tt (chain_last (thn (hc pins s3 σ H3 _ I3 q3) fun w' s4 ⟨z', H4, I4, r4, q4⟩ => ho' pins s4 σ H4 y z' u w' Q I4 r2 r4 q4))
theorem pt_chain {op op' : CmpOp} {r r' : R2} (ho : OpR X (compareOp op) r) (ho' : OpR X (compareOp op') r') (ha : PE X a ta) (hb : PE X b tb) (hc : PE X c tc)
    (hm : lastMarks [op, op'] [b, c] = false := by with_unfolding_all rfl) : PT X (.Compare a [op, op'] [b, c] pos) (tTest (tChain r r' ta tb tc)) := by
  intro pins s σ H Q I h
  refine isTrue_chain (thn (ha pins s σ H _ I h) fun v s1 ⟨x, H1, I1, r1, q1⟩ => test_link (thn (hb pins s1 σ H1 _ I1 q1) fun u s2 ⟨y, H2, I2, r2, q2⟩ =>
    thn (ho pins s2 σ H2 x y v u _ I2 r1 r2 q2) fun d s3 ⟨z, H3, I3, r3, k, e, q3⟩ => ?_)) hm
  subst e
  cases r3
  refine wpAny_truthy_bool ?_
  cases k with
  | false =>
    obtain ⟨k', e', q'⟩ := q3
    cases e'
    exact ite_ff ⟨H3, I3, q'⟩
  | true =>
    refine ite_tt (test_last (thn (hc pins s3 σ H3 _ I3 q3) fun w' s4 ⟨z', H4, I4, r4, q4⟩ => thn (ho' pins s4 σ H4 y z' u w' _ I4 r2 r4 q4) fun d' s5 ⟨z2, H5, I5, r5, k2, e2, q5⟩ => ?_))
    subst e2
    cases r5
    exact wpAny_truthy_bool ⟨H5, I5, q5⟩
theorem line63 : (sizeLine : Nat) < 2 ^ 63 := by rw [sizeLine_eq]; decide
theorem op_add_str : OpR X (binaryOp .Add) (fun x y H Q => ∃ i j, x = .str i ∧ y = .str j ∧ i.length + j.length ≤ sizeLine ∧ Q (.str (i ++ j)) H) := by
  intro pins s σ H x y v u Q I rx ry h
  obtain ⟨i, j, rfl, rfl, hz, q⟩ := h
  obtain ⟨t, rfl⟩ := rx
  obtain ⟨t', rfl⟩ := ry
  exact add_str (fun t' tk => ⟨.str (i ++ j), H, I.tok _, ⟨_, rfl⟩, q⟩) hz
theorem vals1 {x : V} {us : List Value} (r : Vals [x] us) : ∃ u, us = [u] ∧ RelV x u := by
  cases r with
  | cons r1 r2 => cases r2; exact ⟨_, rfl, r1⟩
theorem vals2 {x y : V} {us : List Value} (r : Vals [x, y] us) : ∃ u w', us = [u, w'] ∧ RelV x u ∧ RelV y w' := by
  cases r with
  | cons r1 r2 =>
    cases r2 with
    | cons r3 r4 => cases r4; exact ⟨_, _, rfl, r1, r3⟩
theorem call_max2 (hc : X.calm = true) : CallR X (.builtin "max") (fun xs H Q => ∃ i j, xs = [.int i, .int j] ∧ Q (.int (if j > i then j else i)) H) := by
  intro pins s σ H xs us Q I r h
  obtain ⟨i, j, rfl, q⟩ := h
  obtain ⟨u, w', rfl, ⟨t, rfl⟩, ⟨t', rfl⟩⟩ := vals2 r
  refine max_two_ints (I.ok.hd hc) fun h' tk k => ⟨_, H, I.kept k, ?_, q⟩
  by_cases hj : j > i
  · rw [if_pos hj, if_pos hj]; exact ⟨_, rfl⟩
  · rw [if_neg hj, if_neg hj]; exact ⟨_, rfl⟩
theorem call_min2 (hc : X.calm = true) : CallR X (.builtin "min") (fun xs H Q => ∃ i j, xs = [.int i, .int j] ∧ Q (.int (if j < i then j else i)) H) := by
  intro pins s σ H xs us Q I r h
  obtain ⟨i, j, rfl, q⟩ := h
  obtain ⟨u, w', rfl, ⟨t, rfl⟩, ⟨t', rfl⟩⟩ := vals2 r
  refine min_two_ints (I.ok.hd hc) fun h' tk k => ⟨_, H, I.kept k, ?_, q⟩
  by_cases hj : j < i
  · rw [if_pos hj, if_pos hj]; exact ⟨_, rfl⟩
  · rw [if_neg hj, if_neg hj]; exact ⟨_, rfl⟩
theorem call_str_int : CallR X (.type "str") (fun xs H Q => ∃ i, xs = [.int i] ∧ i.natAbs.log2 < 1920 ∧ Q (.str (toString i)) H) := by
  intro pins s σ H xs us Q I r h
  obtain ⟨i, rfl, hz, q⟩ := h
  obtain ⟨u, rfl, t, rfl⟩ := vals1 r
  exact PySem.P.str_of_int hz ⟨.str _, H, I.tok _, ⟨_, rfl⟩, q⟩
end
end L2
namespace L2
open PySem PySem.Spec PyProof.Rows
variable {q0 : Bool}
structure ObjM (h : Heap) (x dx C : Addr) (mA : Str → Option Value) : Prop where
  obj : h.get? x = some (PySem.W.instObj C dx)
  ns : h.Ns1 dx mA
  ne : dx ≠ x
theorem lookIn_ns {h : Heap} {dx : Addr} {mA : Str → Option Value} (n : h.Ns1 dx mA) : ∃ od, h.get? dx = some od ∧ ∀ name, PySem.W.lookIn name od = some (mA name) := by
  obtain ⟨o, es, ep, ho, hd, hk, _, hm⟩ := n
  refine ⟨o, ho, fun name => ?_⟩
  have e := hm name
  unfold nsFind findBy at e
  rw [← Array.find?_toList] at e
  unfold PySem.W.lookIn
  rw [hd]
  dsimp only
  split
  · rename_i y q
    rw [q] at e
    exact congrArg some e
  · rename_i q
    rw [q] at e
    have a : es.toList.any (·.refKey) = false := by
      rw [List.any_eq_false]
      intro y hy
      obtain ⟨z, t, hkey⟩ := hk y (Array.mem_toList_iff.mp hy)
      simp [DictEntry.refKey, hkey]
    have a' : ¬ es.toList.any (·.refKey) = true := by rw [a]; exact Bool.false_ne_true
    rw [if_neg a']
    exact congrArg some e
theorem ObjM.look {h : Heap} {x dx C : Addr} {mA : Str → Option Value} (I : ObjM h x dx C mA) : ∃ od, PySem.W.InstAt h x (PySem.W.instObj C dx) C (some od) ∧ ∀ name, PySem.W.lookIn name od = some (mA name) :=
  let ⟨od, ho, hl⟩ := lookIn_ns I.ns
  ⟨od, ⟨I.obj, rfl, rfl, ho⟩, hl⟩
section
variable {prog : Program} {w : World} {A : Around} {E : Value → Shared → Prop} {s : Shared} {K : PySem.W.Frag} {x dx C f : Addr} {mA : Str → Option Value} {name : Str} {v : Value}
theorem get_map {expr : Bool} {Q : Value → Shared → Prop} (X : K.In s.heap) (I : ObjM s.heap x dx C mA) (hg : PySem.W.plainGet K C name = true) (hh : PySem.W.hasDictIn K C = true)
    (ha : PySem.W.findIn K (.ref C) name = some none) (hv : mA name = some v) (hv' : PySem.W.handedIn v = true) (h : Q v { s with toks := s.toks + 1 }) :
    wpAny (model prog w) A (getAttr (.ref x) name expr) Q E s := by
  obtain ⟨od, J, hl⟩ := I.look
  exact PySem.W.get_value X J (PySem.W.plainGet_of hg).1 (PySem.W.findObj_own hh ha rfl (by rw [hl, hv])) hv' h
theorem get_meth {pl : Sem Bool} {Q : Value × List Value → Shared → Prop} (X : K.In s.heap) (I : ObjM s.heap x dx C mA) (hg : PySem.W.plainGet K C name = true)
    (hf : PySem.W.findIn K (.ref C) name = some (some (.ref f))) (ht : PySem.W.isFn K (.ref f) = true) (hv : mA name = none) (h : Q (.ref f, [.ref x]) s) :
    wpAny (model prog w) A (getMethod (.ref x) name pl) Q E s := by
  obtain ⟨od, J, hl⟩ := I.look
  exact PySem.W.method_fn X J (PySem.W.plainGet_of hg).1 (PySem.W.plainGet_of hg).2 hf (beq_iff_eq.mp ht) (by show (PySem.W.lookIn name od).map (·.isSome) = some false; rw [hl, hv]; rfl) h
theorem set_map {ns : List Str} {Q : Unit → Shared → Prop} (X : K.In s.heap) (I : ObjM s.heap x dx C mA)
    (hs : PySem.W.findIn K (.ref C) "__setattr__" = some (some (.builtin "object.__setattr__"))) (hp : PySem.W.plainOver K C = true) (ht : PySem.W.takerIn K C name = some none) (hh : PySem.W.hasDictIn K C = true)
    (hw : PySem.Within mA ns) (hsz : ns.length ≤ sizeLine)
    (h : ∀ h', ObjM h' x dx C (fun y => if y = name then some v else mA y) → Heap.SameBut dx s.heap h' → Q () { s with heap := h', toks := s.toks + 2 }) :
    wpAny (model prog w) A (setAttr (.ref x) name v) Q E s := by
  obtain ⟨od, J, hl⟩ := I.look
  refine PySem.W.set_plain X J hs (PySem.W.osa_open (s := { s with toks := s.toks + 1 }) (r := none) X J hp ht fun b => ?_)
  obtain ⟨cd, hc, hd'⟩ := PySem.W.any_some hh
  have hx : s.heap.get? x = some ⟨.ref C, some dx, .plain, #[]⟩ := I.obj
  refine wpAny_bind (wpAny_pure (wpAny_bind (wpAny_bind (wpAny_loadPart hx (wpAny_bind (PySem.W.Looks.here (s := { s with toks := s.toks + 1 }) (PySem.W.looks_clsIn X hc) ?_))))))
  rw [hd']
  refine wpAny_pure (a := some dx) (wpAny_bind (wpAny_pure (wpAny_bind ?_)))
  refine wpAny_nsSet1 (s := { s with toks := s.toks + 1 }) I.ns fun h' hn2 hs2 => ?_
  obtain ⟨oD, esD, epD, hoD, hdD, hcD⟩ := hn2.count (PySem.Within.cons name v hw)
  refine wpAny_bind (wpAny_lookBehind hoD (by rw [hdD]; exact pastItsLine_dict (Nat.le_trans hcD (by rw [List.length_cons]; omega))) ?_)
  exact wpAny_pure (h _ ⟨(hs2.2 _ (Ne.symm I.ne)).trans I.obj, hn2, I.ne⟩ hs2)
theorem make_map {R : Result → Shared → Prop} {vs : List Value} {kw : List (Str × Value)} (X : K.In s.heap) (hm : PySem.W.makesIn K C = true)
    (hi : PySem.W.findIn K (.ref C) "__init__" = some (some (.ref f))) (hf : PySem.W.typeIn K (.ref f) = some (.type "function"))
    (h : codeAny (model prog w) (A.under (.builtin "type.__call__" ⟨.ref C :: vs, kw⟩)) (.call (.ref f) ⟨.ref (s.heap.objs.size + 1) :: vs, kw⟩) (PySem.W.InitBack (s.heap.objs.size + 1) R)
      { s with heap := (s.heap.push PySem.W.emptyDict).push (PySem.W.instObj C s.heap.objs.size) }) :
    codeAny (model prog w) A (.call (.ref C) ⟨vs, kw⟩) R s := by
  obtain ⟨hh, g, d, t, os⟩ := s
  exact PySem.W.make_core (PySem.W.makes_of X hm) (PySem.W.looks_findIn X hi) (fun self => PySem.W.bind_fn X self hf) (.inl rfl) h
end
def putF (f : Str) (v : V) : List (Str × V) → List (Str × V)
  | [] => [(f, v)]
  | (g, x) :: r => if g = f then (g, v) :: r else (g, x) :: putF f v r
theorem lookup_putF (f g : Str) (v : V) : ∀ fs : List (Str × V), (putF f v fs).lookup g = if g = f then some v else fs.lookup g
  | [] => by
    show List.lookup g [(f, v)] = _
    by_cases h : g = f
    · have hb : (g == f) = true := beq_iff_eq.mpr h
      simp only [List.lookup, hb, if_pos h]
    · have hb : (g == f) = false := beq_eq_false_iff_ne.mpr h
      simp only [List.lookup, hb, if_neg h]
  | (k, x) :: r => by
    have ih := lookup_putF f g v r
    rw [show putF f v ((k, x) :: r) = (if k = f then (k, v) :: r else (k, x) :: putF f v r) from rfl]
    by_cases hk : k = f
    · rw [if_pos hk]
      by_cases h : g = k
      · have hb : (g == k) = true := beq_iff_eq.mpr h
        simp only [List.lookup, hb, if_pos (h.trans hk)]
      · have hb : (g == k) = false := beq_eq_false_iff_ne.mpr h
        simp only [List.lookup, hb, if_neg (fun e : g = f => h (e.trans hk.symm))]
    · rw [if_neg hk]
      by_cases h : g = k
      · have hb : (g == k) = true := beq_iff_eq.mpr h
        simp only [List.lookup, hb, if_neg (fun e : g = f => hk (h.symm.trans e))]
      · have hb : (g == k) = false := beq_eq_false_iff_ne.mpr h
        simp only [List.lookup, hb]
        exact ih
theorem keys_putF (f : Str) (v : V) : ∀ fs : List (Str × V), f ∈ (putF f v fs).map (·.1) ∧ ∀ g, g ∈ fs.map (·.1) → g ∈ (putF f v fs).map (·.1)
  | [] => ⟨by simp [putF], fun g h => by simp at h⟩
  | (k, x) :: r => by
    obtain ⟨i1, i2⟩ := keys_putF f v r
    rw [show putF f v ((k, x) :: r) = (if k = f then (k, v) :: r else (k, x) :: putF f v r) from rfl]
    by_cases hk : k = f
    · rw [if_pos hk]
      subst hk
      exact ⟨by simp, fun g h => by simpa using h⟩
    · rw [if_neg hk]
      refine ⟨?_, fun g h => ?_⟩
      · rw [List.map_cons]
        exact List.mem_cons_of_mem _ i1
      · rw [List.map_cons] at h ⊢
        rcases List.mem_cons.mp h with e | e
        · exact List.mem_cons.mpr (.inl e)
        · exact List.mem_cons_of_mem _ (i2 g e)
theorem length_putF (f : Str) (v : V) : ∀ fs : List (Str × V), (putF f v fs).length ≤ fs.length + 1
  | [] => by simp [putF]
  | (k, x) :: r => by
    have ih := length_putF f v r
    rw [show putF f v ((k, x) :: r) = (if k = f then (k, v) :: r else (k, x) :: putF f v r) from rfl]
    by_cases hk : k = f
    · rw [if_pos hk, List.length_cons, List.length_cons]; omega
    · rw [if_neg hk, List.length_cons, List.length_cons]; omega
theorem RelO.some_of {v : V} {o : Option Value} (r : RelO (some v) o) : ∃ u, o = some u ∧ RelV v u := by
  cases o with
  | none => exact (show False from r).elim
  | some u => exact ⟨u, rfl, r⟩
theorem RelO.none_of {o : Option Value} (r : RelO none o) : o = none := by
  cases o with
  | none => rfl
  | some u => exact (show False from r).elim
theorem handed_of {v : V} {u : Value} (r : RelV v u) : PySem.W.handedIn u = true := by
  cases v with
  | non => cases (show u = Value.none from r); rfl
  | bl b => cases (show u = Value.bool b from r); rfl
  | int i => obtain ⟨t, e⟩ := (show ∃ t, u = Value.int i t from r); cases e; rfl
  | str x => obtain ⟨t, e⟩ := (show ∃ t, u = Value.str x t from r); cases e; rfl
  | byt b => obtain ⟨t, e⟩ := (show ∃ t, u = Value.bytes b t from r); cases e; rfl
  | flt b => obtain ⟨t, e⟩ := (show ∃ t, u = Value.float b t from r); cases e; rfl
  | ref a => cases (show u = Value.ref a from r); rfl
  | ty n => cases (show u = Value.type n from r); rfl
section
variable {P : Program} {w : World} {H H' : Hp} {h h' : Heap} {a C dx : Addr} {fs fs' : List (Str × V)}
theorem ins_get (hok : HOk P w H h) (e : H a = some (.ins C dx fs)) : ∃ mA, ObjM h a dx C mA ∧ (∀ f, RelO (fs.lookup f) (mA f)) ∧ PySem.Within mA (fs.map (·.1)) ∧ fs.length ≤ 1000 ∧ H dx = some (.own a) := by
  obtain ⟨d, z, ne, ob, mA, n, r, q⟩ := (show ObjOk P w H h a (.ins C dx fs) from hok a _ e)
  exact ⟨mA, ⟨ob, n, ne⟩, r, q, z, d⟩
end
structure Cls (K : PySem.W.Frag) (C : Addr) : Prop where
  pg : PySem.W.plainGet K C Str.empty = true
  hd : PySem.W.hasDictIn K C = true
  po : PySem.W.plainOver K C = true
  sa : PySem.W.findIn K (.ref C) "__setattr__" = some (some (.builtin "object.__setattr__"))
theorem Cls.get {K : PySem.W.Frag} {C : Addr} (c : Cls K C) (f : Str) : PySem.W.plainGet K C f = true := c.pg
def NoAttr (K : PySem.W.Frag) (C : Addr) (f : Str) : Prop := PySem.W.findIn K (.ref C) f = some none
theorem NoAttr.taker {K : PySem.W.Frag} {C : Addr} {f : Str} (n : NoAttr K C f) : PySem.W.takerIn K C f = some none := by
  unfold PySem.W.takerIn
  rw [show PySem.W.findIn K (.ref C) f = some none from n]
  rfl
structure Meth (K : PySem.W.Frag) (C : Addr) (m : Str) (f : Addr) : Prop where
  at_ : PySem.W.findIn K (.ref C) m = some (some (.ref f))
  fn : PySem.W.isFn K (.ref f) = true
  kp : PySem.W.keepIn K (.ref f) = true
section
variable {X : Cx} {pins : List (Addr × Obj)} {σ : St} {H : Hp} {s : Shared} {a C dx : Addr} {fs : List (Str × V)} {f : Str} {v : V} {A : Around} {E : Value → Shared → Prop}
theorem getattr_ok {b : Bool} {Q : Value → Shared → Prop} (I : Inv X pins σ H s) (e : H a = some (.ins C dx fs)) (c : Cls X.K C) (n : NoAttr X.K C f) (l : fs.lookup f = some v)
    (h : ∀ u s', Inv X pins σ H s' → RelV v u → Q u s') : wpAny (model X.prog X.w) A (getAttr (.ref a) f b) Q E s := by
  obtain ⟨mA, O, r, _, _, _⟩ := ins_get I.hok e
  obtain ⟨u, hu, ru⟩ := RelO.some_of (v := v) (o := mA f) (by rw [← l]; exact r f)
  exact get_map I.kIn O (c.get f) c.hd n hu (handed_of ru) (h u _ (I.tok _) ru)
theorem getmeth_ok {m : Str} {g : Addr} {pl : Sem Bool} {Q : Value × List Value → Shared → Prop} (I : Inv X pins σ H s) (e : H a = some (.ins C dx fs)) (c : Cls X.K C) (k : Meth X.K C m g) (l : fs.lookup m = none)
    (h : Q (.ref g, [.ref a]) s) : wpAny (model X.prog X.w) A (getMethod (.ref a) m pl) Q E s := by
  obtain ⟨mA, O, r, _, _, _⟩ := ins_get I.hok e
  have hn : mA m = none := RelO.none_of (by rw [← l]; exact r m)
  exact get_meth I.kIn O (c.get m) k.at_ k.fn hn h
theorem setattr_ok {y : V} {u : Value} {Q : Unit → Shared → Prop} (I : Inv X pins σ H s) (e : H a = some (.ins C dx fs)) (c : Cls X.K C) (n : NoAttr X.K C f) (hl : fs.length < 1000) (ry : RelV y u)
    (h : ∀ s', Inv X pins σ (upd H a (.ins C dx (putF f y fs))) s' → Q () s') : wpAny (model X.prog X.w) A (setAttr (.ref a) f u) Q E s := by
  obtain ⟨mA, O, r, wi, _, ho⟩ := ins_get I.hok e
  have hz : (fs.map (·.1)).length ≤ sizeLine := by rw [List.length_map, sizeLine_eq]; omega
  refine set_map I.kIn O c.sa c.po n.taker c.hd wi hz fun h' O' sb => h _ ?_
  have hd : ∃ o, h'.get? dx = some o := let ⟨o, _, _, e', _⟩ := O'.ns; ⟨o, e'⟩
  refine I.write (x := a) (e := dx) (by rw [e]; exact True.intro) (.inr ho) (fun b q hb z => (sb.2 b hb).trans z) hd ?_
  refine ⟨by rw [upd_ne O.ne]; exact ho, ?_, O.ne, O'.obj, _, O'.ns, fun g => ?_, fun g hg => ?_⟩
  · have := length_putF f y fs; omega
  · show RelO ((putF f y fs).lookup g) (if g = f then some u else mA g)
    rw [lookup_putF]
    by_cases q : g = f
    · rw [if_pos q, if_pos q]; exact ry
    · rw [if_neg q, if_neg q]; exact r g
  · by_cases q : g = f
    · rw [q]; exact (keys_putF f y fs).1
    · refine (keys_putF f y fs).2 g (wi g fun z => hg ?_)
      show (if g = f then some u else mA g) = none
      rw [if_neg q]; exact z
theorem Inv.made (I : Inv X pins σ H s) : Inv X pins σ (upd (upd H s.heap.objs.size (.own (s.heap.objs.size + 1))) (s.heap.objs.size + 1) (.ins C s.heap.objs.size []))
    { s with heap := (s.heap.push PySem.W.emptyDict).push (PySem.W.instObj C s.heap.objs.size) } := by
  have e1 : (s.heap.push PySem.W.emptyDict).get? s.heap.objs.size = some PySem.W.emptyDict := Heap.get?_push_size s.heap rfl
  have e2 : ((s.heap.push PySem.W.emptyDict).push (PySem.W.instObj C s.heap.objs.size)).get? (s.heap.objs.size + 1) = some (PySem.W.instObj C s.heap.objs.size) := by
    have := Heap.get?_push_size (s.heap.push PySem.W.emptyDict) (o := PySem.W.instObj C s.heap.objs.size) rfl
    rwa [Heap.size_push] at this
  have e3 : (s.heap.push PySem.W.emptyDict).Ns s.heap.objs.size (fun _ => none) := ⟨PySem.W.emptyDict, #[], _, e1, rfl, (fun e he => absurd he (by simp)), fun _ => rfl⟩
  have I1 := I.laid (a := s.heap.objs.size) (o := .own (s.heap.objs.size + 1)) (h' := s.heap.push PySem.W.emptyDict) (t' := s.toks) (fun b u q => Heap.get?_push_of_some _ q) (Nat.le_refl _) ⟨_, e1⟩
  refine I1.laid (a := s.heap.objs.size + 1) (o := .ins C s.heap.objs.size []) (t' := s.toks) (fun b u q => Heap.get?_push_of_some _ q) (Nat.le_of_eq (Heap.size_push _ _)) ?_
  have ne : s.heap.objs.size ≠ s.heap.objs.size + 1 := Nat.ne_of_lt (Nat.lt_succ_self _)
  refine ⟨by rw [upd_ne ne, upd_same], Nat.zero_le _, ne, e2, fun _ => none, (Heap.Ns1.of_empty e3).at fun o q => Heap.get?_push_of_some _ q, fun _ => True.intro, fun y hy => absurd rfl hy⟩
theorem attr_of {prog : Program} {w : World} {env : Env} {e : Expr} {f : Str} {pos : Pos} {s : Shared} {Q : Value → Shared → Prop} (hb : attributeBase e f env (eval e env) = eval e env)
    (h : wpAny (model prog w) A (eval e env) (fun o s₁ => wpAny (model prog w) A (getAttr o f true) Q E s₁) E s) : wpAny (model prog w) A (eval (.Attribute e f pos) env) Q E s :=
  Attribute_any_ h (by rw [arm_eval_Attribute, hb])
end
def tFld (K : PySem.W.Frag) (ta : TE) (f : Str) : TE := fun σ H Q => ta σ H fun x H1 => ∃ a C dx fs v, x = .ref a ∧ H1 a = some (.ins C dx fs) ∧ Cls K C ∧ NoAttr K C f ∧ fs.lookup f = some v ∧ Q v H1
def sFld (K : PySem.W.Frag) (ta tv : TE) (f : Str) : TS := fun D σ H => tv σ H fun y H1 => ta σ H1 fun x H2 => ∃ a C dx fs, x = .ref a ∧ H2 a = some (.ins C dx fs) ∧ Cls K C ∧ NoAttr K C f ∧ fs.length < 1000 ∧
  D.nx σ (upd H2 a (.ins C dx (putF f y fs)))
section
variable {X : Cx} {o e value : Expr} {f : Str} {pos pos' tpos : Pos} {ta tv : TE}
theorem pe_fld (he : PE X e ta) (hb : attributeBase e f X.env (eval e X.env) = eval e X.env) : PE X (.Attribute e f pos) (tFld X.K ta f) := by
  intro pins s σ H Q I h
  refine attr_of hb (thn (he pins s σ H _ I h) fun u s1 ⟨x, H1, I1, rx, a, C, dx, fs, v, ex, ea, c, n, l, q⟩ => ?_)
  subst ex
  obtain rfl : u = Value.ref a := rx
  exact getattr_ok I1 ea c n l fun u' s2 I2 ru => ⟨v, H1, I2, ru, q⟩
theorem ps_fld (ha : PE X o ta) (hv : PE X value tv) (hs : swapsWith value (some (.Attribute o f pos')) pos.line X.env = pure false) : PS X (.Assign [.Attribute o f pos'] value pos) (sFld X.K ta tv f) := by
  intro pins s σ H D I h
  refine plainObj_wpAny_Assign_Attribute (thn (hv pins s σ H _ I h) fun u s1 ⟨y, H1, I1, ry, q⟩ => thn (ha pins s1 σ H1 _ I1 q) fun ov s2 ⟨x, H2, I2, rx, a, C, dx, fs, ex, ea, c, n, l, q2⟩ => ?_) hs
  subst ex
  obtain rfl : ov = Value.ref a := rx
  exact setattr_ok I2 ea c n l ry fun s3 I3 => ⟨σ, _, I3, q2⟩
end
section
variable {X : Cx} {pins : List (Addr × Obj)} {σ : St} {H : Hp} {s : Shared} {A : Around} {E : Value → Shared → Prop} {Q : Value → Shared → Prop} {c : Value} {b : Bool}
inductive TyOf (K : PySem.W.Frag) (H : Hp) : V → Value → Prop where
  | non : TyOf K H .non (.type "NoneType")
  | bl (x : Bool) : TyOf K H (.bl x) (.type "bool")
  | int (i : Int) : TyOf K H (.int i) (.type "int")
  | str (x : Str) : TyOf K H (.str x) (.type "str")
  | flt (x : UInt64) : TyOf K H (.flt x) (.type "float")
  | lst {a : Addr} {xs : List V} (e : H a = some (.lst xs)) : TyOf K H (.ref a) (.type "list")
  | frz {a : Addr} {o : Obj} {xs : List V} (e : H a = some (.frz o (.lst xs))) : TyOf K H (.ref a) (.type "list")
  | tup {a : Addr} {xs : List V} (e : H a = some (.tup xs)) : TyOf K H (.ref a) (.type "tuple")
  | dK {a : Addr} {kvs : List (Key × V)} (e : H a = some (.dK kvs)) : TyOf K H (.ref a) (.type "dict")
  | dT {a : Addr} {kvs : List (List Key × V)} (e : H a = some (.dT kvs)) : TyOf K H (.ref a) (.type "dict")
  | ins {a C dx : Addr} {fs : List (Str × V)} (e : H a = some (.ins C dx fs)) (cl : Cls K C) (ha : PySem.W.findIn K (.ref C) "__class__" = some (some (.builtin "object.__class__")))
      (hn : PySem.W.specialIn K (.builtin "object.__class__") "__get__" = some (some (.builtin "getset_descriptor.__get__"))) (htk : PySem.W.takesIn K (.builtin "object.__class__") = some true)
      (hm : PySem.W.mroIn K C (.type "object") = some true) : TyOf K H (.ref a) (.ref C)
theorem isinst_ok {x : V} {u t : Value} (I : Inv X pins σ H s) (rx : RelV x u) (ty : TyOf X.K H x t) (e : PySem.W.kitOne X.K t c = some b) (h : ∀ tk, Q (.bool b) { s with toks := tk }) :
    wpAny (model X.prog X.w) A (call (.builtin "isinstance") [u, c]) Q E s := by
  cases ty with
  | non => cases (show u = Value.none from rx); exact PySem.W.kia_one PySem.W.kitx_none I.kIn True.intro e (fun z => nomatch z) h
  | bl y => cases (show u = Value.bool y from rx); exact PySem.W.kia_one PySem.W.kitx_bool I.kIn True.intro e (fun z => nomatch z) h
  | int i => obtain ⟨t, q⟩ := (show ∃ t, u = Value.int i t from rx); cases q; exact PySem.W.kia_one PySem.W.kitx_int I.kIn True.intro e (fun z => nomatch z) h
  | str y => obtain ⟨t, q⟩ := (show ∃ t, u = Value.str y t from rx); cases q; exact PySem.W.kia_one PySem.W.kitx_str I.kIn True.intro e (fun z => nomatch z) h
  | flt y => obtain ⟨t, q⟩ := (show ∃ t, u = Value.float y t from rx); cases q; exact PySem.W.kia_one PySem.W.kitx_float I.kIn True.intro e (fun z => nomatch z) h
  | @lst a xs ea =>
    cases (show u = Value.ref a from rx)
    obtain ⟨_, _, n, _, h1⟩ := (show ObjOk X.prog X.w H s.heap a (.lst xs) from I.hok a _ ea)
    exact PySem.W.kia_one PySem.W.kitx_list I.kIn ⟨_, h1, rfl⟩ e (fun z => nomatch z) h
  | @frz a ob xs ea =>
    cases (show u = Value.ref a from rx)
    obtain ⟨_, _, _, n, _, h1⟩ := (show ObjOk X.prog X.w H s.heap a (.frz ob (.lst xs)) from I.hok a _ ea)
    exact PySem.W.kia_one PySem.W.kitx_list I.kIn ⟨_, h1, rfl⟩ e (fun z => nomatch z) h
  | @tup a xs ea =>
    cases (show u = Value.ref a from rx)
    obtain ⟨_, _, _, p⟩ := (show ObjOk X.prog X.w H s.heap a (.tup xs) from I.hok a _ ea)
    obtain ⟨o, h1, h2, _⟩ := p
    exact PySem.W.kia_one PySem.W.kitx_tuple I.kIn ⟨o, h1, h2⟩ e (fun z => nomatch z) h
  | @dK a kvs ea =>
    cases (show u = Value.ref a from rx)
    obtain ⟨_, _, vs, _, p⟩ := (show ObjOk X.prog X.w H s.heap a (.dK kvs) from I.hok a _ ea)
    obtain ⟨o, es, ep, h1, h2, _⟩ := p
    exact PySem.W.kia_one PySem.W.kitx_dict I.kIn ⟨o, h1, h2.1⟩ e (fun z => nomatch z) h
  | @dT a kvs ea =>
    cases (show u = Value.ref a from rx)
    obtain ⟨_, _, xs, _, o, es, ep, h1, h2, _⟩ := (show ObjOk X.prog X.w H s.heap a (.dT kvs) from I.hok a _ ea)
    exact PySem.W.kia_one PySem.W.kitx_dict I.kIn ⟨o, h1, h2.1⟩ e (fun z => nomatch z) h
  | @ins a C dx fs ea cl ha hn htk hm =>
    cases (show u = Value.ref a from rx)
    obtain ⟨mA, O, _⟩ := ins_get I.hok ea
    obtain ⟨od, J, _⟩ := O.look
    exact PySem.W.kia_one (PySem.W.kitx_own (cl.get _) cl.hd ha hn htk hm) I.kIn J e (fun z => nomatch z) h
end
end L2
namespace L2
open PySem PySem.Spec PyProof.Rows
variable {q0 : Bool}
structure Room (q0 : Bool) (k : Nat) (A : Around) : Prop where
  hd : q0 = true → A.handled = none
  dp : A.depth + 3 * k + 5 < recursionLimit
  un : A.units + 16 * k + 200 < cLine
theorem Room.mono {j k : Nat} {A : Around} (r : Room q0 k A) (h : j ≤ k) : Room q0 j A := ⟨r.hd, by have := r.dp; omega, by have := r.un; omega⟩
theorem Room.deeper {k : Nat} {A : Around} (r : Room q0 (k + 1) A) (env : Env) : Room q0 k (A.deeper env) :=
  ⟨r.hd, by have := r.dp; show A.depth + 1 + 3 * k + 5 < _; omega, by have := r.un; show A.units + 3 + 16 * k + 200 < _; omega⟩
theorem make_depth {A : Around} {C : Addr} {us : List Value} {kw : List (Str × Value)} : (A.under (.builtin "type.__call__" ⟨.ref C :: us, kw⟩)).depth = A.depth + 1 := by
  first | rfl | simp [Around.under, Code.weight, Code.isCreation, Code.isGuard, Code.isCaller, Code.frames, Code.isFrame, guardIds]
theorem make_units {A : Around} {C : Addr} {us : List Value} {kw : List (Str × Value)} : (A.under (.builtin "type.__call__" ⟨.ref C :: us, kw⟩)).units = A.units + 1 := by
  first | rfl | simp [Around.under, Code.cUnits, Code.frames, Code.isFrame]
theorem Room.make {k : Nat} {A : Around} (r : Room q0 (k + 1) A) (C : Addr) (us : List Value) (kw : List (Str × Value)) : Room q0 k (A.under (.builtin "type.__call__" ⟨.ref C :: us, kw⟩)) :=
  ⟨r.hd, by have := r.dp; rw [make_depth]; omega, by have := r.un; rw [make_units]; omega⟩
theorem Room.depth {k : Nat} {A : Around} (r : Room q0 k A) : A.depth < recursionLimit := by have := r.dp; omega
theorem Room.units {k : Nat} {A : Around} (r : Room q0 k A) : A.units + 64 < cLine := by have := r.un; omega
def tNil : TA := fun _ H Q => Q [] H
def tCons (ta : TE) (tr : TA) : TA := fun σ H Q => ta σ H fun x H1 => tr σ H1 fun xs H2 => Q (x :: xs) H2
section
variable {X : Cx} {e : Expr} {es : List Expr} {te : TE} {t : TA} {pos : Pos}
theorem pa_nil : PA X [] tNil := fun _ _ _ _ H Q I h => Calls.spliced_nil ⟨[], H, I, .nil, h⟩
theorem pa_cons (ha : PE X e te) (hr : PA X es t) (hs : starEach (e :: es) X.env = (false, eval e X.env) :: starEach es X.env := by rfl) : PA X (e :: es) (tCons te t) := by
  intro pos pins s σ H Q I h
  rw [hs]
  show wpAny _ _ (spliced ((false, eval e X.env) :: backTo pos (starEach es X.env))) _ _ s
  refine Calls.spliced_cons (thn (ha pins s σ H _ I h) fun u s1 ⟨x, H1, I1, r1, q1⟩ => ?_)
  exact thn (hr pos pins s1 σ H1 _ I1 q1) fun us s2 ⟨xs, H2, I2, r2, q2⟩ => ⟨x :: xs, H2, I2, .cons r1 r2, q2⟩
def tTup (t : TA) : TE := fun σ H Q => t σ H fun xs H1 => xs.length ≤ sizeLine ∧ ∀ p, H1 p = none → Q (.ref p) (upd H1 p (.tup xs))
def tLst (t : TA) : TE := fun σ H Q => t σ H fun xs H1 => xs.length ≤ sizeLine ∧ ∀ p, H1 p = none → Q (.ref p) (upd H1 p (.lst xs))
theorem pe_tup {x1} (h : PA X es t) : PE X (.Tuple es x1 pos) (tTup t) := by
  intro pins s σ H Q I hq
  refine wpAny_Tuple_spliced (thn (h pos pins s σ H _ I hq) fun us s1 ⟨xs, H1, I1, r, z, q⟩ => ⟨by rw [← r.length]; exact z, ?_⟩)
  have hf : H1 s1.heap.objs.size = none := I1.hok.fresh (Nat.le_refl _)
  refine ⟨.ref s1.heap.objs.size, upd H1 s1.heap.objs.size (.tup xs), I1.laid (t' := s1.toks) (fun b u e => Heap.get?_push_of_some _ e) (Nat.le_refl _) ?_, rfl, q _ hf⟩
  exact ⟨z, us, r, ⟨_, Heap.get?_push_size _ rfl, rfl, _, rfl⟩⟩
theorem pe_lst (h : PA X es t) : PE X (.List es pos) (tLst t) := by
  intro pins s σ H Q I hq
  refine wpAny_List_spliced (thn (h pos pins s σ H _ I hq) fun us s1 ⟨xs, H1, I1, r, z, q⟩ => ⟨by rw [← r.length]; exact z, ?_⟩)
  have hf : H1 s1.heap.objs.size = none := I1.hok.fresh (Nat.le_refl _)
  refine ⟨.ref s1.heap.objs.size, upd H1 s1.heap.objs.size (.lst xs), I1.laid (t' := s1.toks) (fun b u e => Heap.get?_push_of_some _ e) (Nat.le_refl _) ?_, rfl, q _ hf⟩
  exact ⟨z, us, 0, r, Heap.get?_push_size _ rfl⟩
end
abbrev Sp := List V → Hp → VK → XK → Prop
abbrev CXT := List Env → Hp → Shared → XK → Value → Shared → Prop
structure Env0 (P : Program) (w : World) (K : PySem.W.Frag) (mg : Str → Option Value) (base : Heap) (A : Around) (outer : List Env) (s : Shared) (H : Hp) : Prop where
  frames : A.frames = some outer
  mod : Mod K mg base
  bs : ∀ b o, base.get? b = some o → s.heap.get? b = some o ∧ H b = none
  bsz : base.objs.size ≤ s.heap.objs.size
  funs : s.heap.FunFrames base outer
  frf : ∀ b ∈ frs outer, H b = none
  hok : HOk P w H s.heap
  bare : AllBare s.gens
def CE (outer : List Env) (P : Program) (w : World) (H : Hp) (s : Shared) (Q : VK) (u : Value) (s' : Shared) : Prop :=
  ∃ v H', s'.os = s.os ∧ AllBare s'.gens ∧ Un (frs outer) [] H H' s.heap s'.heap ∧ HOk P w H' s'.heap ∧ RelV v u ∧ Q v H'
def CR (CX : CXT) (outer : List Env) (P : Program) (w : World) (H : Hp) (s : Shared) (Q : VK) (E : XK) (r : Result) (s' : Shared) : Prop :=
  match r with
  | .ok (.ret u) => CE outer P w H s Q u s'
  | .ok _ => False
  | .error e => CX outer H s E e s'
structure FnOk (q0 : Bool) (P : Program) (w : World) (K : PySem.W.Frag) (mg : Str → Option Value) (base : Heap) (CX : CXT) (k : Nat) (f : Addr) (fd : FuncData) (ps : List Str) (sp : Sp) : Prop where
  len : ∀ vs H Q E, sp vs H Q E → vs.length = ps.length
  run : ∀ (A : Around) (outer : List Env) (s : Shared) (H : Hp) (args : Args) (us : List Value) (vs : List V) (Q : VK) (E : XK), Room q0 k A → Env0 P w K mg base A outer s H → BindsTo s fd args (ps.zip us) → Vals vs us → sp vs H Q E →
    codeAny (model P w) A (.call (.ref f) args) (CR CX outer P w H s Q E) s
theorem Env0.make {P : Program} {w : World} {K : PySem.W.Frag} {mg : Str → Option Value} {base : Heap} {A : Around} {outer : List Env} {s : Shared} {H : Hp} (e : Env0 P w K mg base A outer s H) (C : Addr) (us : List Value) (kw : List (Str × Value)) :
    Env0 P w K mg base (A.under (.builtin "type.__call__" ⟨.ref C :: us, kw⟩)) outer s H := ⟨by first | exact e.frames | (simpa [Around.under, Code.envs, Code.isFrame, pushEnvs] using e.frames), e.mod, e.bs, e.bsz, e.funs, e.frf, e.hok, e.bare⟩
section
variable {X : Cx} {pins : List (Addr × Obj)} {σ : St} {H : Hp} {s s' : Shared}
theorem Inv.env0 (I : Inv X pins σ H s) : Env0 X.prog X.w X.K X.mg X.base X.A X.stack s H :=
  ⟨I.ok.frames, I.ok.mod, I.bs, Nat.le_trans I.ok.bsz I.sz, I.stack, I.stkFree, I.hok, I.bare⟩
theorem Inv.after {Q : VK} {u : Value} (I : Inv X pins σ H s) (h : CE X.stack X.prog X.w H s Q u s') : EP X pins σ Q u s' := by
  obtain ⟨v, H', os, bare, un, hok, r, q⟩ := h
  obtain ⟨hh, g, d, t, os'⟩ := s'
  obtain rfl : os' = s.os := os
  exact ⟨v, H', I.call (h' := hh) (g' := g) (d' := d) (t' := t) (ch := []) un hok bare (fun b z => absurd z (by simp)), r, q⟩
end
def tCall (sp : Sp) (dvs : List V) (E : St → XK) (t : TA) : TE := fun σ H Q => t σ H fun vs H1 => sp (vs ++ dvs) H1 Q (E σ)
def tMeth (C : Addr) (m : Str) (sp : Sp) (dvs : List V) (E : St → XK) (ta : TE) (t : TA) : TE := fun σ H Q => ta σ H fun x H1 => ∃ a dx fs, x = .ref a ∧ H1 a = some (.ins C dx fs) ∧ fs.lookup m = none ∧
  t σ H1 fun vs H2 => sp (x :: (vs ++ dvs)) H2 Q (E σ)
def tMake (C : Addr) (sp : Sp) (dvs : List V) (E : St → XK) (t : TA) : TE := fun σ H Q => t σ H fun vs H1 => ∀ x dx, H1 x = none → H1 dx = none → dx ≠ x →
  sp (.ref x :: (vs ++ dvs)) (upd (upd H1 dx (.own x)) x (.ins C dx [])) (fun v H2 => v = .non ∧ Q (.ref x) H2) (E σ)
def Binds (K : PySem.W.Frag) (fd : FuncData) (ps : List Str) (ds : List Value) : Prop :=
  ∀ (s : Shared) (us : List Value), K.In s.heap → (us ++ ds).length = ps.length → BindsTo s fd ⟨us, []⟩ (ps.zip (us ++ ds))
theorem Binds.all {K : PySem.W.Frag} {fd : FuncData} {ps : List Str} (h : ∀ us : List Value, us.length = ps.length → bindArgs fd ⟨us, []⟩ = pure (ps.zip us)) : Binds K fd ps [] := fun s us _ hl => by
  rw [List.append_nil] at hl ⊢
  exact .of_eq (h us hl)
def Passes (CX : CXT) (X : Cx) (E : St → XK) : Prop := ∀ (pins : List (Addr × Obj)) (σ : St) (H : Hp) (s : Shared) (e : Value) (s' : Shared), Inv X pins σ H s → CX X.stack H s (E σ) e s' → X.xe e s'
section
variable {X : Cx} {CX : CXT} {k : Nat} {f C : Addr} {fd : FuncData} {ps : List Str} {sp : Sp} {dvs : List V} {ds : List Value} {E : St → XK} {x m : Str} {p pos apos : Pos} {e o : Expr} {es : List Expr} {ta : TE} {t : TA}
theorem run_fn {pins : List (Addr × Obj)} {σ : St} {H : Hp} {s : Shared} {Q : VK} {us : List Value} {vs : List V} (F : FnOk q0 X.prog X.w X.K X.mg X.base CX k f fd ps sp) (hr : Room q0 k X.A) (hb : Binds X.K fd ps ds) (hd : Vals dvs ds) (hx : Passes CX X E)
    (I : Inv X pins σ H s) (r : Vals vs us) (h : sp (vs ++ dvs) H Q (E σ)) : wpAny (model X.prog X.w) X.A (call (.ref f) us) (EP X pins σ Q) X.xe s := by
  have r2 : Vals (vs ++ dvs) (us ++ ds) := r.append hd
  have hl : (us ++ ds).length = ps.length := by rw [← r2.length]; exact F.len _ _ _ _ h
  refine wpAny_call (codeAny_mono (F.run X.A X.stack s H ⟨us, []⟩ (us ++ ds) (vs ++ dvs) Q (E σ) hr I.env0 (hb s us I.kIn hl) r2 h) fun r s' hq => ?_)
  cases r with
  | error e => exact hx pins σ H s e s' I hq
  | ok fl =>
    cases fl with
    | ret u => exact I.after hq
    | next => exact False.elim hq
    | brk => exact False.elim hq
    | cont => exact False.elim hq
theorem pe_call (F : FnOk q0 X.prog X.w X.K X.mg X.base CX k f fd ps sp) (hr : Room q0 k X.A) (hg : Gl X x) (hm : X.mg x = some (.ref f)) (hk : PySem.W.keepIn X.K (.ref f) = true) (hb : Binds X.K fd ps ds) (hd : Vals dvs ds) (hx : Passes CX X E)
    (ha : PA X (e :: es) t) (hdb : (x == ("__debug__" : Str)) = false := by decide) (he : starEach (e :: es) X.env = (false, eval e X.env) :: starEach es X.env := by rfl) (hpl : (backTo pos (starEach es X.env)).any (·.1) = false := by rfl) :
    PE X (.Call (.Name x p) (e :: es) [] pos) (tCall sp dvs E t) := by
  intro pins s σ H Q I h
  refine wpAny_Call_Name_kw (ld_glob I hg hm ?_ hdb)
  refine PySem.W.callWith_K (h₀ := X.base) I.ok.mod.kin hk (thn (ha pos pins s σ H _ I h) fun us s1 ⟨vs, H1, I1, r, q⟩ => ⟨I1.kIn, ?_⟩) he hpl
  exact run_fn F hr hb hd hx I1 r q
theorem pe_meth {pl : Sem Bool} (he : PE X o ta) (c : Cls X.K C) (hm : Meth X.K C m f) (F : FnOk q0 X.prog X.w X.K X.mg X.base CX k f fd ps sp) (hr : Room q0 k X.A) (hb : Binds X.K fd ps ds) (hd : Vals dvs ds) (hx : Passes CX X E) (ha : PA X (e :: es) t)
    (hst : starEach (e :: es) X.env = (false, eval e X.env) :: starEach es X.env := by rfl) (hpl : (backTo pos (starEach es X.env)).any (·.1) = false := by rfl)
    (ht : eval (.Call (.Attribute o m apos) (e :: es) [] pos) X.env = (do
      let ov ← eval o X.env
      standAt apos.atName
      let (f, first) ← holding [ov] (getMethod ov m pl)
      callWith pos f first (backTo pos (starEach (e :: es) X.env)) (backToKw pos (keywordEach [] X.env))) := by rfl) :
    PE X (.Call (.Attribute o m apos) (e :: es) [] pos) (tMeth C m sp dvs E ta t) := by
  intro pins s σ H Q I h
  refine PySem.W.methodCall_KW (pl := pl) (thn (he pins s σ H _ I h) fun u s1 ⟨x, H1, I1, rx, a, dx, fs, ex, ea, l, q⟩ => ?_) ht
  subst ex
  obtain rfl : u = Value.ref a := rx
  refine getmeth_ok I1 ea c hm l ?_
  refine PySem.W.callWith_K (first := [.ref a]) (h₀ := X.base) I.ok.mod.kin hm.kp (thn (ha pos pins s1 σ H1 _ I1 q) fun us s2 ⟨vs, H2, I2, r, q2⟩ => ⟨I2.kIn, ?_⟩) hst hpl
  exact run_fn (us := .ref a :: us) (vs := .ref a :: vs) F hr hb hd hx I2 (.cons rfl r) q2
theorem pe_meth0 {pl : Sem Bool} (he : PE X o ta) (c : Cls X.K C) (hm : Meth X.K C m f) (F : FnOk q0 X.prog X.w X.K X.mg X.base CX k f fd ps sp) (hr : Room q0 k X.A) (hb : Binds X.K fd ps ds) (hd : Vals dvs ds) (hx : Passes CX X E)
    (ht : eval (.Call (.Attribute o m apos) [] [] pos) X.env = (do
      let ov ← eval o X.env
      standAt apos.atName
      let (f, first) ← holding [ov] (getMethod ov m pl)
      callWith pos f first (backTo pos (starEach [] X.env)) (backToKw pos (keywordEach [] X.env))) := by rfl) :
    PE X (.Call (.Attribute o m apos) [] [] pos) (tMeth C m sp dvs E ta tNil) := by
  intro pins s σ H Q I h
  refine PySem.W.methodCall_KW (pl := pl) (thn (he pins s σ H _ I h) fun u s1 ⟨x, H1, I1, rx, a, dx, fs, ex, ea, l, q⟩ => ?_) ht
  subst ex
  obtain rfl : u = Value.ref a := rx
  refine getmeth_ok I1 ea c hm l ?_
  exact PySem.W.callWith_K0 (first := [.ref a]) I1.kIn hm.kp (run_fn (us := [.ref a]) (vs := [.ref a]) F hr hb hd hx I1 (.cons rfl .nil) q)
structure Mk (K : PySem.W.Frag) (C f : Addr) : Prop where
  makes : PySem.W.makesIn K C = true
  init : PySem.W.findIn K (.ref C) "__init__" = some (some (.ref f))
  fn : PySem.W.isFn K (.ref f) = true
  kp : PySem.W.keepIn K (.ref C) = true
theorem run_make {pins : List (Addr × Obj)} {σ : St} {H : Hp} {s : Shared} {Q : VK} {us : List Value} {vs : List V} (M : Mk X.K C f) (F : FnOk q0 X.prog X.w X.K X.mg X.base CX k f fd ps sp) (hr : Room q0 (k + 1) X.A) (hb : Binds X.K fd ps ds) (hd : Vals dvs ds)
    (hx : Passes CX X E) (I : Inv X pins σ H s) (r : Vals vs us)
    (h : ∀ x dx, H x = none → H dx = none → dx ≠ x → sp (.ref x :: (vs ++ dvs)) (upd (upd H dx (.own x)) x (.ins C dx [])) (fun v H2 => v = .non ∧ Q (.ref x) H2) (E σ)) :
    wpAny (model X.prog X.w) X.A (call (.ref C) us) (EP X pins σ Q) X.xe s := by
  have hq := h (s.heap.objs.size + 1) s.heap.objs.size (I.hok.fresh (Nat.le_succ _)) (I.hok.fresh (Nat.le_refl _)) (Nat.ne_of_lt (Nat.lt_succ_self _))
  have I2 := Inv.made (C := C) I
  have r2 : Vals (V.ref (s.heap.objs.size + 1) :: (vs ++ dvs)) (Value.ref (s.heap.objs.size + 1) :: (us ++ ds)) := .cons rfl (r.append hd)
  have hl : (Value.ref (s.heap.objs.size + 1) :: us ++ ds).length = ps.length := by
    have e := r2.length
    rw [F.len _ _ _ _ hq] at e
    exact e.symm
  refine wpAny_call (make_map (f := f) I.kIn M.makes M.init (beq_iff_eq.mp M.fn) (codeAny_mono (F.run _ X.stack _ _ ⟨Value.ref (s.heap.objs.size + 1) :: us, []⟩ (Value.ref (s.heap.objs.size + 1) :: (us ++ ds)) _ _ (E σ) (hr.make C us [])
    (I2.env0.make C us []) (hb _ (Value.ref (s.heap.objs.size + 1) :: us) I2.kIn hl) r2 hq) fun r s' hq' => ?_))
  cases r with
  | error e => exact hx pins σ _ _ e s' I2 hq'
  | ok fl =>
    cases fl with
    | ret u =>
      obtain ⟨v, H', I3, rv, ev, q3⟩ := I2.after hq'
      subst ev
      exact ⟨rv, ⟨V.ref (s.heap.objs.size + 1), H', I3, rfl, q3⟩⟩
    | next => exact False.elim hq'
    | brk => exact False.elim hq'
    | cont => exact False.elim hq'
theorem pe_make (M : Mk X.K C f) (F : FnOk q0 X.prog X.w X.K X.mg X.base CX k f fd ps sp) (hr : Room q0 (k + 1) X.A) (hg : Gl X x) (hm : X.mg x = some (.ref C)) (hb : Binds X.K fd ps ds) (hd : Vals dvs ds) (hx : Passes CX X E)
    (ha : PA X (e :: es) t) (hdb : (x == ("__debug__" : Str)) = false := by decide) (he : starEach (e :: es) X.env = (false, eval e X.env) :: starEach es X.env := by rfl) (hpl : (backTo pos (starEach es X.env)).any (·.1) = false := by rfl) :
    PE X (.Call (.Name x p) (e :: es) [] pos) (tMake C sp dvs E t) := by
  intro pins s σ H Q I h
  refine wpAny_Call_Name_kw (ld_glob I hg hm ?_ hdb)
  refine PySem.W.callWith_K (h₀ := X.base) I.ok.mod.kin M.kp (thn (ha pos pins s σ H _ I h) fun us s1 ⟨vs, H1, I1, r, q⟩ => ⟨I1.kIn, ?_⟩) he hpl
  exact run_make M F hr hb hd hx I1 r q
end
section
variable {X : Cx} {CX : CXT} {k : Nat} {f C : Addr} {fd : FuncData} {ps ks : List Str} {sp : Sp} {E : St → XK} {x m : Str} {p pos apos kpos : Pos} {e o : Expr} {es : List Expr} {kws : List Keyword} {te ta : TE} {t tk : TA} {nm : Option Str}
variable {g : List Value → List Value → List Value} {gV : List V → List V → List V}
end
structure FnScope (N P : List Str) (sc : Scope) : Prop where
  kind : sc.kind = .function
  co : sc.isCoroutine = false
  gen : sc.isGenerator = false
  nd : N.Nodup
  pre : N.take P.length = P
  par : ∀ x ∈ P, sc.names.lookup x = some .local ∨ sc.names.lookup x = some .cell
  nofree : ∀ y ∈ sc.names, y.2 ≠ .free
theorem bindL_out {kindOf : Str → Option NameKind} {x : Str} : ∀ {binds : List (Str × Value)} {m : Str → Option Value}, (∀ v, (x, v) ∉ binds) → bindL kindOf binds m x = m x
  | [], _, _ => rfl
  | (n, v) :: r, m, h => by
    unfold bindL
    rw [bindL_out fun w hw => h w (List.mem_cons_of_mem _ hw)]
    split
    · have : x ≠ n := by rintro rfl; exact h v List.mem_cons_self
      simp [this]
    · rfl
theorem bindC_out {kindOf : Str → Option NameKind} {x : Str} : ∀ {binds : List (Str × Value)} {m : Str → Option Value}, (∀ v, (x, v) ∉ binds) → bindC kindOf binds m x = m x
  | [], _, _ => rfl
  | (n, v) :: r, m, h => by
    unfold bindC
    rw [bindC_out fun w hw => h w (List.mem_cons_of_mem _ hw)]
    split
    · rfl
    · have : x ≠ n := by rintro rfl; exact h v List.mem_cons_self
      simp [this]
theorem bindL_get {kindOf : Str → Option NameKind} {x : Str} {v : Value} : ∀ {P : List Str} {vs : List Value} {i : Nat} {m : Str → Option Value}, P.Nodup → P[i]? = some x → vs[i]? = some v → kindOf x = some .local →
    bindL kindOf (P.zip vs) m x = some v
  | [], _, _, _, _, h, _, _ => by simp at h
  | _ :: _, [], _, _, _, _, h, _ => by simp at h
  | p :: P, w :: vs, 0, m, nd, h1, h2, hk => by
    simp at h1 h2; subst h1; subst h2
    show bindL kindOf ((p, w) :: P.zip vs) m p = _
    unfold bindL
    rw [bindL_out fun v hv => (List.nodup_cons.mp nd).1 (List.of_mem_zip hv).1, if_pos hk]
    simp
  | p :: P, w :: vs, i + 1, m, nd, h1, h2, hk => by
    show bindL kindOf ((p, w) :: P.zip vs) m x = _
    unfold bindL
    exact bindL_get (i := i) (List.nodup_cons.mp nd).2 (by simpa using h1) (by simpa using h2) hk
theorem bindC_get {kindOf : Str → Option NameKind} {x : Str} {v : Value} : ∀ {P : List Str} {vs : List Value} {i : Nat} {m : Str → Option Value}, P.Nodup → P[i]? = some x → vs[i]? = some v → kindOf x ≠ some .local →
    bindC kindOf (P.zip vs) m x = some v
  | [], _, _, _, _, h, _, _ => by simp at h
  | _ :: _, [], _, _, _, _, h, _ => by simp at h
  | p :: P, w :: vs, 0, m, nd, h1, h2, hk => by
    simp at h1 h2; subst h1; subst h2
    show bindC kindOf ((p, w) :: P.zip vs) m p = _
    unfold bindC
    rw [bindC_out fun v hv => (List.nodup_cons.mp nd).1 (List.of_mem_zip hv).1, if_neg hk]
    simp
  | p :: P, w :: vs, i + 1, m, nd, h1, h2, hk => by
    show bindC kindOf ((p, w) :: P.zip vs) m x = _
    unfold bindC
    exact bindC_get (i := i) (List.nodup_cons.mp nd).2 (by simpa using h1) (by simpa using h2) hk
def start (N : List Str) (vs : List V) : St := vs.map some ++ List.replicate (N.length - vs.length) none
def cxOf (q0 : Bool) (CX : CXT) (P : Program) (w : World) (K : PySem.W.Frag) (mg : Str → Option Value) (base : Heap) (N : List Str) (qual : Str) (scope : Scope) (f : Addr) (cd : Value) (A : Around) (outer : List Env) (s : Shared) (H : Hp) (E : XK) : Cx where
  prog := P
  w := w
  K := K
  mg := mg
  base := base
  A := A.deeper (envOfC qual scope s.heap.objs.size f cd)
  N := N
  s₀ := s
  H₀ := H
  env := envOfC qual scope s.heap.objs.size f cd
  outer := outer
  stack := envOfC qual scope s.heap.objs.size f cd :: outer
  ex := []
  calm := q0
  fn := fun _ => true
  pn := []
  xe := fun e s' => wpAny (model P w) (A.deeper (envOfC qual scope s.heap.objs.size f cd)) (leaving (envOfC qual scope s.heap.objs.size f cd) e) (fun _ s'' => CX outer H s E e s'') (fun e' s'' => CX outer H s E e' s'') s'
theorem cell_has {sc : Scope} {n : Nat} {x : Str} (h : sc.names.lookup x = some .cell) : ∃ c, (cellsFrom n sc.names []).lookup x = some c := by
  have q := PySem.W.cellsFrom_some sc.names n [] (.inl h)
  exact Option.isSome_iff_exists.mp q
theorem inv_start {CX : CXT} {P : Program} {w : World} {K : PySem.W.Frag} {mg : Str → Option Value} {base : Heap} {N ps : List Str} {qual : Str} {scope : Scope} {f : Addr} {cd : Value} {A : Around} {outer : List Env} {s s1 : Shared} {H : Hp} {E : XK} {us : List Value} {vs : List V}
    (S : FnScope N ps scope) (hd : q0 = true → A.handled = none) (e0 : Env0 P w K mg base A outer s H) (hl : vs.length = ps.length) (r : Vals vs us)
    (x : InCallC s s.heap.objs.size (bindL (envOfC qual scope s.heap.objs.size f cd).kindOf (ps.zip us) fun _ => none) (cellsFrom (s.heap.objs.size + 1) scope.names []) (bindC (envOfC qual scope s.heap.objs.size f cd).kindOf (ps.zip us) fun _ => none) s1) :
    Inv (cxOf q0 CX P w K mg base N qual scope f cd A outer s H E) [] (start N vs) H s1 := by
  have hpl : ps.length ≤ N.length := by have := congrArg List.length S.pre; rw [List.length_take] at this; omega
  obtain ⟨h1, tk, rfl, hk⟩ := x.done
  have noA : ∀ b : Addr, b ∉ (cxOf q0 CX P w K mg base N qual scope f cd A outer s H E).ex := fun b z => absurd (show b ∈ ([] : List Addr) from z) (by simp)
  refine ⟨⟨e0.mod, S.kind, rfl, rfl, Nat.le_refl _, fun y z c h1 h2 => ?_, fun y hy => ?_, fun y c _ h => ?_, hd, Around.frames_deeper e0.frames, .inr ⟨rfl, rfl⟩, fun b z => absurd z (noA b), e0.bs, e0.bsz, fun b _ _ => noA b, fun b z => absurd z (noA b), e0.funs, e0.frf⟩,
    rfl, e0.bare, Un.kept hk, ⟨_, x.toInCall.ns, fun i y v h1 h2 h3 => ?_⟩, fun y c h => ⟨_, x.cell y c h⟩, e0.hok.fresh (Nat.le_refl _), fun y c h => ?_, fun p hp => absurd (show p ∈ ([] : List (Addr × Obj)) from hp) (by simp), e0.hok.kept hk, ?_⟩
  · exact name_of_addr x.apart (PySem.mem_of_lookup h1) (PySem.mem_of_lookup h2)
  · have hy : scope.names.lookup y = some .cell ∨ scope.names.lookup y = some .free := hy
    rcases hy with hy | hy
    · exact cell_has hy
    · exact absurd rfl (S.nofree _ (PySem.mem_of_lookup hy))
  · exact Nat.le_of_lt (x.above y c (PySem.mem_of_lookup h))
  · have hi : i < vs.length := by
      unfold start at h2
      by_cases hi : i < vs.length
      · exact hi
      · rw [List.getElem?_append_right (by simpa using hi)] at h2
        rw [List.getElem?_replicate] at h2
        split at h2 <;> cases h2
    have ha : vs[i]? = some v := by
      unfold start at h2
      rw [List.getElem?_append_left (by simpa using hi), List.getElem?_map] at h2
      cases e : vs[i]? with
      | none => rw [e] at h2; cases h2
      | some a => rw [e] at h2; cases h2; rfl
    obtain ⟨u, hu, rv⟩ := r.get ha
    have hp : ps[i]? = some y := by
      rw [← S.pre, List.getElem?_take_of_lt (by omega)]; exact h1
    have ndP : ps.Nodup := by rw [← S.pre]; exact S.nd.sublist (List.take_sublist _ _)
    refine ⟨u, rv, ?_⟩
    rcases S.par y (List.mem_of_getElem? hp) with k | k
    · exact .inl ⟨k, bindL_get ndP hp hu k⟩
    · obtain ⟨c, e⟩ := cell_has (n := s.heap.objs.size + 1) k
      refine .inr ⟨.inl k, c, e, ?_⟩
      have q := x.cell y c e
      rw [bindC_get ndP hp hu (by show scope.names.lookup y ≠ _; rw [k]; decide)] at q
      exact q
  · exact e0.hok.fresh (Nat.le_of_lt (x.above y c (PySem.mem_of_lookup h)))
  · unfold start
    show _ = N.length
    rw [List.length_append, List.length_map, List.length_replicate]
    omega
theorem fn_of {CX : CXT} {P : Program} {w : World} {K : PySem.W.Frag} {mg : Str → Option Value} {base : Heap} {k : Nat} {f : Addr} {name qual : Str} {params : Arguments} {body : List Stmt} {scope : Scope} {dV kV doc pm cdv ct oc : Value} {an od : Option Addr}
    {osl : Array (Option Value)} {N ps : List Str} {sp : Sp} (lk : K.lookup f = some ⟨oc, od, .func (PySem.W.fnOf name qual params body scope dV kV doc pm an cdv ct), osl⟩) (hcd : PySem.W.codeIn K cdv qual = true) (S : FnScope N ps scope)
    (len : ∀ vs H Q E, sp vs H Q E → vs.length = ps.length)
    (hbody : ∀ (A : Around) (outer : List Env) (s : Shared) (H : Hp) (vs : List V) (Q : VK) (E : XK), Room q0 k (A.deeper (envOfC qual scope s.heap.objs.size f cdv)) → sp vs H Q E →
      ∃ t, PSs (cxOf q0 CX P w K mg base N qual scope f cdv A outer s H E) body t ∧ t { nx := fun _ H' => Q .non H', rt := Q } (start N vs) H) :
    FnOk q0 P w K mg base CX (k + 1) f (PySem.W.fnOf name qual params body scope dV kV doc pm an cdv ct) ps sp := by
  refine ⟨len, fun A outer s H args us vs Q E hr e0 hb r hsp => ?_⟩
  have hl := len _ _ _ _ hsp
  have KX : K.In s.heap := e0.mod.kin.keeps fun b o e => (e0.bs b o e).1
  have lim : s.heap.NoLimit := e0.mod.nolimit.keeps fun b o e => (e0.bs b o e).1
  have hkind : ∀ y ∈ ps.zip us, scope.names.lookup y.1 = some .local ∨ (scope.names.lookup y.1 = some .cell ∧ ((cellsFrom (s.heap.objs.size + 1) scope.names []).lookup y.1).isSome = true) := fun ⟨n, v⟩ hy => by
    rcases S.par n (List.of_mem_zip hy).1 with q | q
    · exact .inl q
    · exact .inr ⟨q, PySem.W.cellsFrom_some _ _ _ (.inl q)⟩
  refine codeAny_call_function hr.depth (KX _ _ lk) rfl S.co S.gen rfl (PySem.W.codeRec_of KX hcd) (hb _ _ _ _ ?_)
  refine wpAny_newFunctionEnv_cells S.kind hkind fun env he s1 x => ?_
  subst he
  refine ⟨lim.keeps x.toInCall.keep, codeAny_func ?_⟩
  obtain ⟨t, ht, hq⟩ := hbody A outer s H vs Q E (hr.deeper _) hsp
  have I : Inv (cxOf q0 CX P w K mg base N qual scope f cdv A outer s H E) [] (start N vs) H s1 := inv_start S hr.hd e0 hl r x
  refine wpAny_mono (ht [] s1 (start N vs) H _ I hq) (fun fl s' hs => ?_) fun e s' hs => hs
  have fin : ∀ {σ' : St} {H' : Hp} {v : V} {u : Value}, Inv (cxOf q0 CX P w K mg base N qual scope f cdv A outer s H E) [] σ' H' s' → RelV v u → Q v H' → CE outer P w H s Q u s' :=
    fun {σ' H' v u} J rv q => ⟨v, H', J.os, J.bare, J.base, J.hok, rv, q⟩
  cases fl with
  | ret u =>
    obtain ⟨v, σ', H', J, rv, q⟩ := hs
    exact fin J rv q
  | next =>
    obtain ⟨σ', H', J, q⟩ := hs
    exact fin (v := V.non) (u := Value.none) J rfl q
  | brk =>
    obtain ⟨_, _, _, q⟩ := hs
    exact False.elim q
  | cont =>
    obtain ⟨_, _, _, q⟩ := hs
    exact False.elim q
end L2
namespace L2
open PySem PySem.Spec PyProof.Rows
variable {q0 : Bool}
section
variable {X : Cx} {x : Str} {p pos : Pos} {e : Expr} {es : List Expr} {t : TA} {id T : String} {r : List V → Hp → VK → Prop}
def tCB (r : List V → Hp → VK → Prop) (t : TA) : TE := fun σ H Q => t σ H fun vs H1 => r vs H1 Q
theorem pe_callB (hc : CallR X (.builtin id) r) (hg : Gl X x) (hm : X.mg x = none) (hv : bootBuiltins x = some (.builtin id)) (ha : PA X (e :: es) t) (hn : x ≠ "__name__" := by decide) (hdb : (x == ("__debug__" : Str)) = false := by decide)
    (he : starEach (e :: es) X.env = (false, eval e X.env) :: starEach es X.env := by rfl) (hpl : (backTo pos (starEach es X.env)).any (·.1) = false := by rfl) : PE X (.Call (.Name x p) (e :: es) [] pos) (tCB r t) := by
  intro pins s σ H Q I h
  refine wpAny_Call_Name_kw (ld_blt I hg hm hv ?_ hn hdb)
  exact PyProof.Rows.callWith_builtin1 (thn (ha pos pins s σ H _ I h) fun us s1 ⟨vs, H1, I1, r1, q1⟩ => hc pins s1 σ H1 vs us Q I1 r1 q1) he hpl
theorem pe_callTy (hc : CallR X (.type T) r) (hg : Gl X x) (hm : X.mg x = none) (hv : bootBuiltins x = some (.type T)) (ha : PA X (e :: es) t) (hn : x ≠ "__name__" := by decide) (hdb : (x == ("__debug__" : Str)) = false := by decide)
    (he : starEach (e :: es) X.env = (false, eval e X.env) :: starEach es X.env := by rfl) (hpl : (backTo pos (starEach es X.env)).any (·.1) = false := by rfl) : PE X (.Call (.Name x p) (e :: es) [] pos) (tCB r t) := by
  intro pins s σ H Q I h
  refine wpAny_Call_Name_kw (ld_blt I hg hm hv ?_ hn hdb)
  exact PyProof.Rows.callWith_type1 (thn (ha pos pins s σ H _ I h) fun us s1 ⟨vs, H1, I1, r1, q1⟩ => hc pins s1 σ H1 vs us Q I1 r1 q1) he hpl
end
end L2
namespace HT
open PySem PyProof.Rows
section
open PySem.SeqAt
open PySem.AutoSeq1 (wpAny_loadPart')
open PySem.MeetsSeq PySem.MeetsSeq2 PySem.MeetsSeq3
end
section
variable {prog : Program} {w : World} {A : Around} {E : Value → Shared → Prop} {s : Shared}
theorem cat_tup {t b : Addr} {vs ws : List Value} {Q : Value → Shared → Prop} (ht : IsTup s.heap t vs.toArray) (hb : IsTup s.heap b ws.toArray) (hv : vs ≠ [])
    (h1 : ws = [] → Q (.ref t) s) (h2 : ws ≠ [] → Q (.ref s.heap.objs.size) { s with heap := s.heap.push { cls := .type "tuple", data := .seq (vs ++ ws).toArray } })
    (hsz : vs.length + ws.length ≤ sizeLine) : wpAny (model prog w) A (binaryOp .Add (.ref t) (.ref b)) Q E s := by
  obtain ⟨⟨cls, dd, data, sl⟩, ho, hc, n, hd⟩ := id ht
  obtain ⟨⟨cls2, dd2, data2, sl2⟩, ho2, hc2, n2, hd2⟩ := id hb
  simp only at hc hd hc2 hd2
  subst hc hd hc2 hd2
  have e : vs.toArray ++ ws.toArray = (vs ++ ws).toArray := by simp
  by_cases hw : ws = []
  · exact concat_meets ⟨_, ho, rfl⟩ ⟨_, ho2, rfl⟩ noFill_tuple_add seq_tuple_add PySem.F.slot_tuple_add PySem.F.entry_tuple_add (PySem.F.args_tuple_add_2 _ _)
      (tuple_addW1 t b vs.toArray ws.toArray n n2 dd dd2 sl sl2 (by simpa using hv) (by simp [hw])) ⟨ho, ho2, h1 hw⟩
  · refine concat_meets ⟨_, ho, rfl⟩ ⟨_, ho2, rfl⟩ noFill_tuple_add seq_tuple_add PySem.F.slot_tuple_add PySem.F.entry_tuple_add (PySem.F.args_tuple_add_2 _ _)
      (tuple_addW2 t b vs.toArray ws.toArray n n2 dd dd2 sl sl2 (by simpa using hv) (by simpa using hw) (by rw [List.size_toArray, List.size_toArray]; exact hsz)) ⟨ho, ho2, ?_⟩
    rw [e]
    exact h2 hw
def sIx (n d : Nat) : Option Int → Nat
  | none => d
  | some v => if v < 0 then (v + (n : Int)).toNat else min v.toNat n
end
end HT
namespace L2
open PySem PySem.Spec PyProof.Rows
variable {q0 : Bool}
abbrev TO := St → Hp → (Option Int → Hp → Prop) → Prop
def PO (X : Cx) (e : Option Expr) (t : TO) : Prop :=
  ∀ (pins : List (Addr × Obj)) (s : Shared) (σ : St) (H : Hp) (Q : Option Int → Hp → Prop), Inv X pins σ H s → t σ H Q →
    wpAny (model X.prog X.w) X.A (evalPart e X.env) (fun u s' => ∃ o H', Inv X pins σ H' s' ∧ IsPart u o ∧ Q o H') X.xe s
def tNoPart : TO := fun _ H Q => Q none H
def tPart (t : TE) : TO := fun σ H Q => t σ H fun x H1 => ∃ i, x = .int i ∧ Q (some i) H1
section
variable {X : Cx} {e : Expr} {te : TE} {lo hi : Option Expr} {tl th : TO} {pos p2 : Pos}
theorem po_none : PO X none tNoPart := by
  intro pins s σ H Q I h
  rw [evalPart_none]
  exact wpAny_pure ⟨none, H, I, .none, h⟩
theorem po_some (h : PE X e te) : PO X (some e) (tPart te) := by
  intro pins s σ H Q I hw
  rw [evalPart_some]
  refine thn (h pins s σ H _ I hw) fun u s1 ⟨x, H1, I1, r1, q1⟩ => ?_
  obtain ⟨i, rfl, q⟩ := q1
  obtain ⟨t, rfl⟩ := r1
  exact ⟨some i, H1, I1, .int i t, q⟩
def SlR (X : Cx) (r : V → Option Int → Option Int → Hp → VK → Prop) : Prop :=
  ∀ (pins : List (Addr × Obj)) (s : Shared) (σ : St) (H : Hp) (x : V) (v vl vu : Value) (lo hi : Option Int) (sl : Addr) (Q : VK), Inv X pins σ H s → RelV x v → s.heap.IsSliceOf sl vl vu .none → IsPart vl lo → IsPart vu hi → r x lo hi H Q →
    ∃ T id, typeLookup (.type T) "__getitem__" = pure (some (.builtin id)) ∧ s.TypeIs v T ∧ wpAny (model X.prog X.w) X.A (getItem v (.ref sl)) (EP X pins σ Q) X.xe s
def tSl (r : V → Option Int → Option Int → Hp → VK → Prop) (te : TE) (tl th : TO) : TE := fun σ H Q => te σ H fun x H1 => tl σ H1 fun l H2 => th σ H2 fun u H3 => r x l u H3 Q
theorem pe_slice {r : V → Option Int → Option Int → Hp → VK → Prop} (hr : SlR X r) (he : PE X e te) (hl : PO X lo tl) (hu : PO X hi th) : PE X (.Subscript e (.Slice lo hi none p2) pos) (tSl r te tl th) := by
  intro pins s σ H Q I h
  refine Subscript_ (thn (he pins s σ H _ I h) fun v s1 ⟨x, H1, I1, r1, q1⟩ => ?_)
  refine wpAny_Slice (thn (hl pins s1 σ H1 _ I1 q1) fun vl s2 ⟨l, H2, I2, pl, q2⟩ => thn (hu pins s2 σ H2 _ I2 q2) fun vu s3 ⟨u, H3, I3, pu, q3⟩ => ?_)
  rw [evalPart_none]
  refine wpAny_pure ?_
  have I4 : Inv X pins σ H3 { s3 with heap := s3.heap.push { cls := .type "slice", data := .fields #[vl, vu, .none] } } := I3.kept (t' := s3.toks) fun b ob q => Heap.get?_push_of_some _ q
  obtain ⟨T, id, hT, ht, hg⟩ := hr pins { s3 with heap := s3.heap.push { cls := .type "slice", data := .fields #[vl, vu, .none] } } σ H3 x v vl vu l u s3.heap.objs.size Q I4 r1 (Heap.IsSliceOf.new ..) pl pu q3
  show wpAny (model X.prog X.w) X.A (subscriptTail e (.Slice lo hi none p2) v (.ref s3.heap.objs.size)) (EP X pins σ Q) X.xe { s3 with heap := s3.heap.push { cls := .type "slice", data := .fields #[vl, vu, .none] } }
  exact tail_any (ops := [.ref s3.heap.objs.size, v]) ht hT hg (by with_unfolding_all rfl)
def cutV (xs : List V) (lo hi : Option Int) : List V := (xs.drop (HT.sIx xs.length 0 lo)).take (HT.sIx xs.length xs.length hi - HT.sIx xs.length 0 lo)
theorem cutV_length (xs : List V) (lo hi : Option Int) : (cutV xs lo hi).length ≤ xs.length := by
  unfold cutV
  rw [List.length_take, List.length_drop]
  omega
def rCatT (K : PySem.W.Frag) : R2 := fun x y H Q => ∃ a b xs ys, x = .ref a ∧ y = .ref b ∧ SqT K H a xs ∧ SqT K H b ys ∧ xs ≠ [] ∧ xs.length + ys.length ≤ sizeLine ∧
  (ys = [] → Q (.ref a) H) ∧ (ys ≠ [] → ∀ p, H p = none → Q (.ref p) (upd H p (.tup (xs ++ ys))))
theorem Vals.nil_iff {xs : List V} {us : List Value} (r : Vals xs us) : us = [] ↔ xs = [] := by
  cases r with
  | nil => simp
  | cons _ _ => simp
theorem op_catT : OpR X (binaryOp .Add) (rCatT X.K) := by
  intro pins s σ H x y v u Q I rx ry h
  obtain ⟨a, b, xs, ys, rfl, rfl, ha, hb, hx, hz, q1, q2⟩ := h
  cases rx
  cases ry
  obtain ⟨its, r1, p1, _⟩ := I.tuple ha
  obtain ⟨its2, r2, p2, _⟩ := I.tuple hb
  refine HT.cat_tup p1 p2 (fun z => hx (r1.nil_iff.mp z)) (fun z => ⟨.ref a, H, I, rfl, q1 (r2.nil_iff.mp z)⟩) (fun z => ?_) (by rw [← r1.length, ← r2.length]; exact hz)
  refine ⟨.ref s.heap.objs.size, _, I.laid (t' := s.toks) (o := .tup (xs ++ ys)) (fun b ob q => Heap.get?_push_of_some _ q) (Nat.le_refl _) ?_, rfl, q2 (fun w => z (r2.nil_iff.mpr w)) _ (I.hok.fresh (Nat.le_refl _))⟩
  exact ⟨by rw [List.length_append]; exact hz, _, r1.append r2, IsTup.new _ _⟩
end
end L2
namespace L2
open PySem PySem.Spec PyProof.Rows
variable {q0 : Bool}
def ixN (n : Nat) (i : Int) : Option Nat := if 0 ≤ i then (if i < n then some i.toNat else none) else if -(n : Int) ≤ i then some (i + n).toNat else none
def atI {α : Type} (xs : List α) (i : Int) : Option α := (ixN xs.length i).bind fun j => xs[j]?
theorem ixN_seq {n : Nat} {i : Int} {j : Nat} (h : ixN n i = some j) : seqIndex? i n = some j ∧ j < n ∧ -(n : Int) ≤ i ∧ i < n := by
  unfold ixN at h
  by_cases h0 : 0 ≤ i
  · rw [if_pos h0] at h
    by_cases h1 : i < n
    · rw [if_pos h1] at h
      have e : i.toNat = j := Option.some.inj h
      exact ⟨by rw [seqIndex_of h0 h1, e], by omega, by omega, h1⟩
    · rw [if_neg h1] at h; cases h
  · rw [if_neg h0] at h
    by_cases h1 : -(n : Int) ≤ i
    · rw [if_pos h1] at h
      have e : (i + n).toNat = j := Option.some.inj h
      exact ⟨by rw [seqIndex_neg (by omega) h1, e], by omega, h1, by omega⟩
    · rw [if_neg h1] at h; cases h
theorem atI_get {α : Type} {xs : List α} {i : Int} {v : α} (h : atI xs i = some v) : ∃ j, seqIndex? i xs.length = some j ∧ xs[j]? = some v ∧ j < xs.length ∧ -(xs.length : Int) ≤ i ∧ i < xs.length := by
  unfold atI at h
  cases e : ixN xs.length i with
  | none => rw [e] at h; cases h
  | some j =>
    rw [e] at h
    obtain ⟨h1, h2, h3, h4⟩ := ixN_seq e
    exact ⟨j, h1, h, h2, h3, h4⟩
theorem atI_nat {α : Type} {xs : List α} {j : Nat} {v : α} (h : xs[j]? = some v) : atI xs (j : Int) = some v := by
  have hj : j < xs.length := (List.getElem?_eq_some_iff.mp h).1
  have e : ixN xs.length (j : Int) = some j := by
    unfold ixN
    rw [if_pos (by omega), if_pos (by omega)]; simp
  unfold atI; rw [e]; exact h
def PlainIx (b : Expr) : Prop := ∀ o i, subscripted b false o i = operate [o, i] (getItem o i)
def IxR (X : Cx) (r : R2) : Prop :=
  ∀ (value slice : Expr) (pins : List (Addr × Obj)) (s : Shared) (σ : St) (H : Hp) (x y : V) (v u : Value) (Q : VK), Inv X pins σ H s → RelV x v → RelV y u → r x y H Q →
    subscripted slice false v u = operate [v, u] (getItem v u) → wpAny (model X.prog X.w) X.A (subscriptTail value slice v u) (EP X pins σ Q) X.xe s
def MtR (X : Cx) (id : String) (r : V → List V → Hp → VK → Prop) : Prop :=
  ∀ (pins : List (Addr × Obj)) (s : Shared) (σ : St) (H : Hp) (x : V) (xs : List V) (v : Value) (us : List Value) (Q : VK), Inv X pins σ H s → RelV x v → Vals xs us → r x xs H Q →
    wpAny (model X.prog X.w) X.A (call (.builtin id) (v :: us)) (EP X pins σ Q) X.xe s
section
variable {X : Cx} {a b : Expr} {ta tb : TE} {pos : Pos}
theorem pe_ix {r : R2} (hr : IxR X r) (ha : PE X a ta) (hb : PE X b tb) (hs : PlainIx b) : PE X (.Subscript a b pos) (tOp r ta tb) := by
  intro pins s σ H Q I h
  exact Subscript_ (binT ha hb I h fun v u s2 x y H2 I2 rx ry q => hr a b pins s2 σ H2 x y v u Q I2 rx ry q (hs _ _))
def rIxL (K : PySem.W.Frag) : R2 := fun x y H Q => ∃ p xs i v, x = .ref p ∧ y = .int i ∧ SqL K H p xs ∧ atI xs i = some v ∧ Q v H
def rIxT (K : PySem.W.Frag) : R2 := fun x y H Q => ∃ p xs i v, x = .ref p ∧ y = .int i ∧ SqT K H p xs ∧ atI xs i = some v ∧ Q v H
def rIxS : R2 := fun x y H Q => ∃ z i c, x = .str z ∧ y = .int i ∧ z.length ≤ sizeLine ∧ atI z.cps.toList i = some c ∧ Q (.str ⟨#[c]⟩) H
theorem ix_list : IxR X (rIxL X.K) := by
  intro value slice pins s σ H x y v u Q I rx ry h hs
  obtain ⟨p, xs, i, z, rfl, rfl, hq, he, q⟩ := h
  cases rx
  obtain ⟨t, rfl⟩ := ry
  obtain ⟨its, r, pl, hz⟩ := I.list hq
  obtain ⟨j, h1, h2, h3, h4, h5⟩ := atI_get he
  obtain ⟨w, ew, rw'⟩ := r.get h2
  have hl := r.length
  have hn := line63
  have fin : EP X pins σ Q w s := ⟨z, H, I, rw', q⟩
  by_cases h0 : 0 ≤ i
  · have hj : i.toNat = j := by
      rw [seqIndex_of h0 h5] at h1
      exact Option.some.inj h1
    exact item_listR pl.isList h0 (by omega) (by rw [hj]; simpa using ew) fin hs
  · have hj : (i + (its.toArray.size : Int)).toNat = j := by
      rw [seqIndex_neg (by omega) h4] at h1
      rw [List.size_toArray, ← hl]
      exact Option.some.inj h1
    exact subscriptTail_builtinR (x := w) pl.isList.typeIs slot_list_getitem.lookup
      (wpAny_getItem_list_neg (Q := fun r s' => r = w ∧ EP X pins σ Q r s') pl.isList (by omega) (by rw [List.size_toArray] <;> omega) (by omega) (by rw [hj]; simpa using ew) ⟨rfl, fin⟩) hs
theorem ix_tup : IxR X (rIxT X.K) := by
  intro value slice pins s σ H x y v u Q I rx ry h hs
  obtain ⟨p, xs, i, z, rfl, rfl, hq, he, q⟩ := h
  cases rx
  obtain ⟨t, rfl⟩ := ry
  obtain ⟨its, r, pl, hz⟩ := I.tuple hq
  obtain ⟨j, h1, h2, h3, h4, h5⟩ := atI_get he
  obtain ⟨w, ew, rw'⟩ := r.get h2
  have hl := r.length
  have hn := line63
  have fin : EP X pins σ Q w s := ⟨z, H, I, rw', q⟩
  exact subscriptTail_builtinR (x := w) pl.typeIs slot_tuple_getitem.lookup
    (getItem_tuple (j := j) (Q := fun r s' => r = w ∧ EP X pins σ Q r s') pl (by omega) (by omega) (by rw [List.size_toArray, ← hl]; exact h1) (by simpa using ew) ⟨rfl, fin⟩) hs
theorem ix_str : IxR X rIxS := by
  intro value slice pins s σ H x y v u Q I rx ry h hs
  obtain ⟨z, i, c, rfl, rfl, hz, he, q⟩ := h
  obtain ⟨t, rfl⟩ := rx
  obtain ⟨t', rfl⟩ := ry
  obtain ⟨j, h1, h2, h3, h4, h5⟩ := atI_get he
  have hl : z.cps.toList.length = z.length := by simp [Str.length]
  rw [hl] at h1 h4 h5
  have hn := line63
  exact tail_any (typeIs_str s z t) slot_str_getitem.lookup (getItem_str (c := c) (by
    have e1 : decide (i < -(2 ^ 63 : Int)) = false := decide_eq_false (by omega)
    have e2 : decide (i ≥ 2 ^ 63) = false := decide_eq_false (by omega)
    rw [e1, e2, Bool.or_false]) (by rw [h1]; simpa using h2) ⟨.str ⟨#[c]⟩, H, I.tok _, ⟨_, rfl⟩, q⟩) hs
theorem mapSeq_set (its : List Value) (n j : Nat) (u : Value) : Obj.mapSeq (·.setIfInBounds j u) { cls := .type "list", data := .seq its.toArray n } = { cls := .type "list", data := .seq (its.set j u).toArray n } := by
  simp [Obj.mapSeq]
theorem Inv.lst {pins : List (Addr × Obj)} {σ : St} {H : Hp} {s : Shared} {p : Addr} {xs : List V} (I : Inv X pins σ H s) (h : H p = some (.lst xs)) :
    ∃ (its : List Value) (n : Nat), Vals xs its ∧ s.heap.get? p = some { cls := .type "list", data := .seq its.toArray n } ∧ xs.length ≤ sizeLine := by
  obtain ⟨z, its, n, r, e⟩ := I.hok p _ h
  exact ⟨its, n, r, e, z⟩
theorem Inv.lstUpd {pins : List (Addr × Obj)} {σ : St} {H : Hp} {s : Shared} {p : Addr} {xs ys : List V} {its its' : List Value} {n n' : Nat} {f : Obj → Obj} (I : Inv X pins σ H s) (h : H p = some (.lst xs))
    (ho : s.heap.get? p = some { cls := .type "list", data := .seq its.toArray n }) (hf : f { cls := .type "list", data := .seq its.toArray n } = { cls := .type "list", data := .seq its'.toArray n' }) (r : Vals ys its') (hz : ys.length ≤ sizeLine) (t : Nat) :
    Inv X pins σ (upd H p (.lst ys)) { s with heap := s.heap.update p f, toks := t } := by
  have e : (s.heap.update p f).get? p = some { cls := .type "list", data := .seq its'.toArray n' } := by
    rw [Heap.get?_update_self f ho (by rw [hf] <;> rfl), hf]
  refine I.write (x := p) (e := p) (by rw [h]; trivial) (.inl rfl) (fun b u hb q => (Heap.get?_update_other _ _ (Ne.symm hb)).trans q) ⟨_, e⟩ ?_
  exact ⟨hz, its', n', r, e⟩
def rSetL : V → V → V → Hp → (Hp → Prop) → Prop := fun o i v H Q => ∃ p xs k j, o = .ref p ∧ i = .int k ∧ H p = some (.lst xs) ∧ ixN xs.length k = some j ∧ Q (upd H p (.lst (xs.set j v)))
theorem set_list : PSet X rSetL := by
  intro pins s σ H o i v ov iv u Q I ro ri rv h
  obtain ⟨p, xs, k, j, rfl, rfl, hp, hj, q⟩ := h
  cases ro
  obtain ⟨t, rfl⟩ := ri
  obtain ⟨its, n, r, ho, hz⟩ := I.lst hp
  obtain ⟨h1, h2, h3, h4⟩ := ixN_seq hj
  have hl := r.length
  have hn := line63
  have I' : Inv X pins σ (upd H p (.lst (xs.set j v))) { s with heap := s.heap.update p (Obj.mapSeq (·.setIfInBounds j u)) } :=
    I.lstUpd hp ho (mapSeq_set its n j u) (r.set rv j) (by rw [List.length_set]; exact hz) s.toks
  by_cases h0 : 0 ≤ k
  · have hk : k.toNat = j := by
      rw [seqIndex_of h0 h4] at h1
      exact Option.some.inj h1
    exact PySem.W.ki_setAt ho h0 (by omega) (by rw [List.size_toArray, ← hl]; exact h4) (by rw [hk]; exact ⟨_, I', q⟩)
  · have hk : (k + (its.toArray.size : Int)).toNat = j := by
      rw [seqIndex_neg (by omega) h3] at h1
      rw [List.size_toArray, ← hl]
      exact Option.some.inj h1
    exact PySem.W.ki_setBack ho (by omega) (by rw [List.size_toArray, ← hl]; exact h3) (by omega) (by rw [hk]; exact ⟨_, I', q⟩)
theorem slice_bounds (lo hi : Option Int) (n : Nat) : (sliceBounds lo hi none n).1 = ((HT.sIx n 0 lo : Nat) : Int) ∧ (sliceBounds lo hi none n).2.1 = ((HT.sIx n n hi : Nat) : Int) ∧ (sliceBounds lo hi none n).2.2 = 1 := by
  refine ⟨?_, ?_, rfl⟩
  · cases lo with
    | none => simp [sliceBounds, HT.sIx]
    | some i =>
      simp only [sliceBounds, HT.sIx, Option.getD_none, show (1 : Int) > 0 by decide, if_true]
      by_cases h : i < 0
      · simp only [h, if_true] <;> omega
      · simp only [h, if_false] <;> omega
  · cases hi with
    | none => simp [sliceBounds, HT.sIx]
    | some i =>
      simp only [sliceBounds, HT.sIx, Option.getD_none, show (1 : Int) > 0 by decide, if_true]
      by_cases h : i < 0
      · simp only [h, if_true] <;> omega
      · simp only [h, if_false] <;> omega
theorem slicePick_cut (its : List Value) (lo hi : Option Int) : slicePick its.toArray lo hi none = ((its.drop (HT.sIx its.length 0 lo)).take (HT.sIx its.length its.length hi - HT.sIx its.length 0 lo)).toArray := by
  obtain ⟨h1, h2, h3⟩ := slice_bounds lo hi its.toArray.size
  unfold slicePick
  rw [h1, h2, h3]
  simp only [sliceRange_one, pick_run, List.size_toArray] <;> rfl
def rSlL (K : PySem.W.Frag) : V → Option Int → Option Int → Hp → VK → Prop := fun x lo hi H Q => ∃ a xs, x = .ref a ∧ SqL K H a xs ∧ ∀ p, H p = none → Q (.ref p) (upd H p (.lst (cutV xs lo hi)))
theorem sl_list : SlR X (rSlL X.K) := by
  intro pins s σ H x v vl vu lo hi sl Q I rx hs pl pu h
  obtain ⟨a, xs, rfl, hx, q⟩ := h
  cases rx
  obtain ⟨its, r, ht, hz⟩ := I.list hx
  have hlen := r.length
  refine ⟨"list", _, slot_list_getitem.lookup, ht.isList.typeIs, ?_⟩
  refine wpAny_getItem_list_slice ht.isList hs pl pu .none (by simp) ?_ (by rw [List.size_toArray] <;> omega)
  rw [slicePick_cut, ← hlen]
  refine ⟨.ref s.heap.objs.size, _, I.laid (t' := s.toks) (o := .lst (cutV xs lo hi)) (fun b ob q => Heap.get?_push_of_some _ q) (Nat.le_refl _) ?_, rfl, q _ (I.hok.fresh (Nat.le_refl _))⟩
  exact ⟨Nat.le_trans (cutV_length xs lo hi) hz, _, 0, (r.drop (HT.sIx xs.length 0 lo)).take (HT.sIx xs.length xs.length hi - HT.sIx xs.length 0 lo), Heap.get?_push_size _ rfl⟩
def flatV : V → Bool
  | .non => true
  | .bl _ => true
  | .int _ => true
  | .str _ => true
  | _ => false
def eqV : V → V → Bool
  | .non, .non => true
  | .bl a, .bl b => a == b
  | .bl a, .int b => (if a then 1 else 0) == b
  | .int a, .bl b => a == (if b then 1 else 0)
  | .int a, .int b => a == b
  | .str a, .str b => a == b
  | _, _ => false
theorem eqAt_V {A : Around} {s : Shared} {y x : V} {u v : Value} (ry : RelV y u) (rx : RelV x v) (fy : flatV y = true) (fx : flatV x = true) : SeqAt.EqAt A s u v (eqV y x) := by
  cases y with
  | non =>
    cases ry
    cases x with
    | non => cases rx; exact SeqAt.EqAt.same _
    | bl b => cases rx; exact SeqAt.EqAt.none_bool b
    | int b => obtain ⟨t, rfl⟩ := rx; exact SeqAt.EqAt.none_int b t
    | str b => obtain ⟨t, rfl⟩ := rx; exact SeqAt.EqAt.none_str b t
    | _ => exact absurd (show false = true from fx) Bool.false_ne_true
  | bl a =>
    cases ry
    cases x with
    | non => cases rx; exact SeqAt.EqAt.bool_none a
    | bl b => cases rx; exact SeqAt.EqAt.bool_bool a b
    | int b => obtain ⟨t, rfl⟩ := rx; exact SeqAt.EqAt.bool_int a b t
    | str b => obtain ⟨t, rfl⟩ := rx; exact SeqAt.EqAt.bool_str a b t
    | _ => exact absurd (show false = true from fx) Bool.false_ne_true
  | int a =>
    obtain ⟨t', rfl⟩ := ry
    cases x with
    | non => cases rx; exact SeqAt.EqAt.int_none a t'
    | bl b => cases rx; exact SeqAt.EqAt.int_bool a t' b
    | int b => obtain ⟨t, rfl⟩ := rx; exact SeqAt.EqAt.int_int a t' b t
    | str b => obtain ⟨t, rfl⟩ := rx; exact SeqAt.EqAt.int_str a t' b t
    | _ => exact absurd (show false = true from fx) Bool.false_ne_true
  | str a =>
    obtain ⟨t', rfl⟩ := ry
    cases x with
    | non => cases rx; exact SeqAt.EqAt.str_none a t'
    | bl b => cases rx; exact SeqAt.EqAt.str_bool a t' b
    | int b => obtain ⟨t, rfl⟩ := rx; exact SeqAt.EqAt.str_int a t' b t
    | str b => obtain ⟨t, rfl⟩ := rx; exact SeqAt.EqAt.str_str a t' b t
    | _ => exact absurd (show false = true from fx) Bool.false_ne_true
  | _ => exact absurd (show false = true from fy) Bool.false_ne_true
def eqU (x : V) (u : Value) : Bool := match u with
  | .none => eqV .non x
  | .bool b => eqV (.bl b) x
  | .int i _ => eqV (.int i) x
  | .str z _ => eqV (.str z) x
  | _ => false
theorem eqU_of {x y : V} {u : Value} (r : RelV y u) (f : flatV y = true) : eqU x u = eqV y x := by
  cases y with
  | non => cases r; rfl
  | bl b => cases r; rfl
  | int i => obtain ⟨t, rfl⟩ := r; rfl
  | str z => obtain ⟨t, rfl⟩ := r; rfl
  | _ => exact absurd (show false = true from f) Bool.false_ne_true
theorem any_eqU {x : V} : ∀ {xs : List V} {us : List Value}, Vals xs us → xs.all flatV = true → us.any (eqU x) = xs.any fun y => eqV y x
  | _, _, .nil, _ => rfl
  | y :: xs, u :: us, .cons r t, f => by
    rw [List.all_cons, Bool.and_eq_true] at f
    rw [List.any_cons, List.any_cons, eqU_of r f.1, any_eqU t f.2]
theorem mem_eqAt {A : Around} {s : Shared} {x : V} {v : Value} (rx : RelV x v) (fx : flatV x = true) : ∀ {xs : List V} {us : List Value}, Vals xs us → xs.all flatV = true → ∀ u ∈ us, SeqAt.EqAt A s u v (eqU x u)
  | _, _, .nil, _ => fun u hu => by cases hu
  | y :: xs, u :: us, .cons r t, f => fun u' hu => by
    rw [List.all_cons, Bool.and_eq_true] at f
    rcases List.mem_cons.mp hu with rfl | hu
    · rw [eqU_of r f.1]; exact eqAt_V r rx f.1 fx
    · exact mem_eqAt rx fx t f.2 u' hu
def inV (x : V) (xs : List V) : Bool := xs.any fun y => eqV y x
def rIn (K : PySem.W.Frag) (neg : Bool) : R2 := fun x y H Q => ∃ p xs, y = .ref p ∧ (SqL K H p xs ∨ SqT K H p xs) ∧ flatV x = true ∧ xs.all flatV = true ∧ Q (.bl (if neg then !inV x xs else inV x xs)) H
theorem op_in_seq : OpR X (compareOp .In) (rIn X.K false) := by
  intro pins s σ H x y v u Q I rx ry h
  obtain ⟨p, xs, rfl, hq, fx, fs, q⟩ := h
  cases ry
  rcases hq with hq | hq
  · obtain ⟨its, r, pl, hz⟩ := I.list hq
    refine SeqAt.in_listAt (eqU x) pl.isList (fun w hw => mem_eqAt rx fx r fs w (by simpa using hw)) ⟨.bl _, H, I, rfl, ?_⟩
    rw [show its.toArray.any (eqU x) = its.any (eqU x) by simp, any_eqU r fs]
    exact q
  · obtain ⟨its, r, pl, hz⟩ := I.tuple hq
    refine SeqAt.in_tupleAt (eqU x) pl (fun w hw => mem_eqAt rx fx r fs w (by simpa using hw)) ⟨.bl _, H, I, rfl, ?_⟩
    rw [show its.toArray.any (eqU x) = its.any (eqU x) by simp, any_eqU r fs]
    exact q
theorem op_notIn_seq : OpR X (compareOp .NotIn) (rIn X.K true) := by
  intro pins s σ H x y v u Q I rx ry h
  obtain ⟨p, xs, rfl, hq, fx, fs, q⟩ := h
  cases ry
  rcases hq with hq | hq
  · obtain ⟨its, r, pl, hz⟩ := I.list hq
    refine SeqAt.notIn_listAt (eqU x) pl.isList (fun w hw => mem_eqAt rx fx r fs w (by simpa using hw)) ⟨.bl _, H, I, rfl, ?_⟩
    rw [show its.toArray.any (eqU x) = its.any (eqU x) by simp, any_eqU r fs]
    exact q
  · obtain ⟨its, r, pl, hz⟩ := I.tuple hq
    refine SeqAt.notIn_tupleAt (eqU x) pl (fun w hw => mem_eqAt rx fx r fs w (by simpa using hw)) ⟨.bl _, H, I, rfl, ?_⟩
    rw [show its.toArray.any (eqU x) = its.any (eqU x) by simp, any_eqU r fs]
    exact q
theorem call_len_seq : CallR X (.builtin "len") (fun xs H Q => ∃ p ys, xs = [.ref p] ∧ (SqL X.K H p ys ∨ SqT X.K H p ys) ∧ Q (.int ys.length) H) := by
  intro pins s σ H xs us Q I r h
  obtain ⟨p, ys, rfl, hq, q⟩ := h
  obtain ⟨u, rfl, rx⟩ := vals1 r
  cases rx
  have hn := line63
  rcases hq with hq | hq
  · obtain ⟨its, r', pl, hz⟩ := I.list hq
    have hlen := r'.length
    exact Calls.call_len_list pl.isList (by simp only [List.size_toArray] <;> omega) ⟨.int ys.length, H, I.tok _, ⟨s.toks + 1, by rw [List.size_toArray, hlen]⟩, q⟩
  · obtain ⟨its, r', pl, hz⟩ := I.tuple hq
    have hlen := r'.length
    exact len_tuple pl (by simp only [List.size_toArray] <;> omega) ⟨.int ys.length, H, I.tok _, ⟨s.toks + 1, by rw [List.size_toArray, hlen]⟩, q⟩
theorem call_len_str : CallR X (.builtin "len") (fun xs H Q => ∃ z, xs = [.str z] ∧ z.length ≤ sizeLine ∧ Q (.int z.length) H) := by
  intro pins s σ H xs us Q I r h
  obtain ⟨z, rfl, hz, q⟩ := h
  obtain ⟨u, rfl, t, rfl⟩ := vals1 r
  have hn := line63
  exact len_str (by omega) ⟨.int z.length, H, I.tok _, ⟨_, rfl⟩, q⟩
theorem call_list_of : CallR X (.type "list") (fun xs H Q => ∃ p ys, xs = [.ref p] ∧ (SqL X.K H p ys ∨ SqT X.K H p ys) ∧ ∀ l, H l = none → Q (.ref l) (upd H l (.lst ys))) := by
  intro pins s σ H xs us Q I r h
  obtain ⟨p, ys, rfl, hq, q⟩ := h
  obtain ⟨u, rfl, rx⟩ := vals1 r
  cases rx
  have fin : ∀ (its : List Value), Vals ys its → ys.length ≤ sizeLine → ∀ (h' : Heap) (c' : Nat), (∀ b o', s.heap.get? b = some o' → h'.get? b = some o') →
      h'.get? s.heap.objs.size = some { cls := .type "list", dict := none, data := .seq its.toArray c', slots := #[] } → EP X pins σ Q (.ref s.heap.objs.size) { s with heap := h' } := fun its r' hz h' c' kp e =>
    ⟨.ref s.heap.objs.size, _, I.laid (t' := s.toks) kp (Nat.le_refl _) (show ObjOk X.prog X.w _ h' _ (.lst ys) from ⟨hz, its, c', r', e⟩), rfl, q _ (I.hok.fresh (Nat.le_refl _))⟩
  rcases hq with hq | hq
  · obtain ⟨its, r', pl, hz⟩ := I.list hq
    have hlen := r'.length
    obtain ⟨o, ho, hc, n, hd⟩ := pl.isList
    exact call_list_seq p (.inl rfl) ho hc hd (fun h' c' kp e => fin its r' hz h' c' kp e) (by simp only [List.size_toArray] <;> omega)
  · obtain ⟨its, r', pl, hz⟩ := I.tuple hq
    have hlen := r'.length
    obtain ⟨o, ho, hc, n, hd⟩ := pl
    exact call_list_seq p (.inr rfl) ho hc hd (fun h' c' kp e => fin its r' hz h' c' kp e) (by simp only [List.size_toArray] <;> omega)
def tyV (K : PySem.W.Frag) (T : String) (x : V) (H : Hp) : Prop := match x with
  | .str _ => T = "str"
  | .int _ => T = "int"
  | .ref p => (T = "list" ∧ ∃ xs, SqL K H p xs) ∨ (T = "tuple" ∧ ∃ o, K.lookup p = some o ∧ o.cls = .type "tuple" ∧ o.dict = none) ∨
      (T = "dict" ∧ ((∃ kvs, H p = some (.dK kvs)) ∨ ∃ kvs, H p = some (.dT kvs))) ∨ (T = "set" ∧ ∃ S n, H p = some (.set S n))
  | _ => False
theorem tyV_is {pins : List (Addr × Obj)} {σ : St} {H : Hp} {s : Shared} {T : String} {x : V} {v : Value} (I : Inv X pins σ H s) (r : RelV x v) (ty : tyV X.K T x H) :
    s.TypeIs v T ∧ ∀ a, v = .ref a → ∃ ob, s.heap.get? a = some ob ∧ ob.dict = none := by
  cases x with
  | str z =>
    obtain ⟨t, rfl⟩ := r
    cases (show T = "str" from ty)
    exact ⟨typeIs_str s z t, fun _ e => nomatch e⟩
  | int i =>
    obtain ⟨t, rfl⟩ := r
    cases (show T = "int" from ty)
    exact ⟨typeIs_int s i t, fun _ e => nomatch e⟩
  | ref p =>
    cases r
    rcases ty with ⟨rfl, xs, hq⟩ | ⟨rfl, o, hk, hc, hd⟩ | ⟨rfl, hk⟩ | ⟨rfl, S, n, hk⟩
    · obtain ⟨its, _, pl, _⟩ := I.list hq
      refine ⟨pl.isList.typeIs, fun a e => ?_⟩
      cases e
      obtain ⟨o, n, e, c, hd, _⟩ := pl
      exact ⟨o, e, hd⟩
    · refine ⟨⟨o, I.kIn p o hk, hc⟩, fun a e => ?_⟩
      cases e
      exact ⟨o, I.kIn _ o hk, hd⟩
    · have z : ∃ o, s.heap.get? p = some o ∧ o.ExactDict := by
        rcases hk with ⟨kvs, hk⟩ | ⟨kvs, hk⟩
        · obtain ⟨_, _, _, _, o, _, _, e, ex, _⟩ := I.hok p _ hk
          exact ⟨o, e, ex⟩
        · obtain ⟨_, _, _, _, o, _, _, e, ex, _⟩ := I.hok p _ hk
          exact ⟨o, e, ex⟩
      obtain ⟨o, e, ex⟩ := z
      refine ⟨⟨o, e, ex.1⟩, fun a e2 => ?_⟩
      cases e2
      exact ⟨o, e, ex.2.1⟩
    · obtain ⟨o, _, _, _, e, ex, _⟩ := I.hok p _ hk
      refine ⟨⟨o, e, ex.1⟩, fun a e2 => ?_⟩
      cases e2
      exact ⟨o, e, ex.2.1⟩
  | _ => exact False.elim ty
def tBM (K : PySem.W.Frag) (T : String) (r : V → List V → Hp → VK → Prop) (to : TE) (t : TA) : TE := fun σ H Q => to σ H fun x H1 => tyV K T x H1 ∧ t σ H1 fun xs H2 => r x xs H2 Q
variable {o e : Expr} {es : List Expr} {to : TE} {t : TA} {name : Str} {apos cpos : Pos} {T id : String} {r : V → List V → Hp → VK → Prop}
theorem pe_bm (pa : PlainAttrs T) (slot : Slot T name id) (hty : typeOf (.builtin id) = pure (.type "method_descriptor")) (hm : MtR X id r) (ho : PE X o to) (ha : PA X (e :: es) t)
    (hbase : attributeBase o name X.env (eval o X.env) = eval o X.env := by rfl)
    (hfew : ((backTo cpos (starEach (e :: es) X.env)).all (fun x => !x.1) && (backToKw cpos (keywordEach [] X.env)).all (fun x => x.1.isSome)
      && decide ((e :: es).length + ([] : List Keyword).length + (if ([] : List Keyword).isEmpty then 0 else 1) < 30)) = true := by rfl)
    (hline : (apos.endLine == cpos.line) = true := by rfl) (hs : starEach (e :: es) X.env = (false, eval e X.env) :: starEach es X.env := by rfl) (hplain : (backTo cpos (starEach es X.env)).any (·.1) = false := by rfl) :
    PE X (.Call (.Attribute o name apos) (e :: es) [] cpos) (tBM X.K T r to t) := by
  intro pins s σ H Q I h
  refine wpAny_Call_method_late hbase hfew hline rfl (thn (ho pins s σ H _ I h) fun v s1 ⟨x, H1, I1, r1, ty, q1⟩ => ?_)
  obtain ⟨h1, h2⟩ := tyV_is I1 r1 ty
  refine ⟨T, id, pa, slot, hty, h1, h2, ?_⟩
  have hA := ha cpos pins s1 σ H1 _ I1 q1
  rw [hs] at hA ⊢
  refine Calls.callWith_builtin (by show (false || (backTo cpos (starEach es X.env)).any (·.1)) = false; rw [hplain] <;> rfl) (Calls.evalArgs_plain ?_)
  exact thn hA fun us s2 ⟨vs, H2, I2, r2, q2⟩ => hm pins s2 σ H2 x vs v us Q I2 r1 r2 q2
end
end L2
namespace L2
open PySem PySem.Spec PyProof.Rows
variable {q0 : Bool}
def MtM (X : Cx) (id : String) (r : V → List V → Hp → VK → Prop) : Prop :=
  ∀ (pins : List (Addr × Obj)) (s : Shared) (σ : St) (H : Hp) (x : V) (xs : List V) (v : Value) (us : List Value) (Q : VK), Inv X pins σ H s → RelV x v → Vals xs us → r x xs H Q →
    wpAny (model X.prog X.w) X.A (call (.builtin id) (v :: us)) (EP X pins σ Q) X.xe s
theorem Vals.one : ∀ {x : V} {us : List Value}, Vals [x] us → ∃ u, us = [u] ∧ RelV x u
  | _, _, .cons r .nil => ⟨_, rfl, r⟩
section
variable {X : Cx} {pins : List (Addr × Obj)} {σ : St} {H : Hp} {s : Shared} {l b : Addr} {xs ys zs : List V}
theorem Inv.lset {its its' : List Value} {n : Nat} {f : Array Value → Array Value} {t' : Nat} (I : Inv X pins σ H s) (hH : H l = some (.lst xs))
    (e : s.heap.get? l = some { cls := .type "list", data := .seq its.toArray n }) (hf : f its.toArray = its'.toArray) (hv : Vals ys its') (hz : ys.length ≤ sizeLine) :
    Inv X pins σ (upd H l (.lst ys)) { s with heap := s.heap.update l (Obj.mapSeq f), toks := t' } := by
  have q := PySem.IsL.update e f
  rw [hf] at q
  refine I.write (x := l) (e := l) (by rw [hH]; exact trivial) (.inl rfl) (fun b' u hb hu => (Heap.get?_update_other s.heap (Obj.mapSeq f) (Ne.symm hb)).trans hu) ⟨_, q⟩ ?_
  exact ⟨hz, its', _, hv, q⟩
theorem Inv.lnew {its : List Value} {t' : Nat} (I : Inv X pins σ H s) (hv : Vals ys its) (hz : ys.length ≤ sizeLine) :
    Inv X pins σ (upd H s.heap.objs.size (.lst ys)) { s with heap := s.heap.push { cls := .type "list", data := .seq its.toArray }, toks := t' } :=
  I.laid (fun _ _ q => Heap.get?_push_of_some _ q) (Nat.le_refl _) ⟨hz, its, 0, hv, Heap.get?_push_size _ rfl⟩
theorem Inv.fresh (I : Inv X pins σ H s) : H s.heap.objs.size = none := I.hok.fresh (Nat.le_refl _)
theorem Inv.lstM (I : Inv X pins σ H s) (hH : H l = some (.lst xs)) : xs.length ≤ sizeLine ∧ ∃ (its : List Value) (n : Nat), Vals xs its ∧ xs.length = its.length ∧ s.heap.get? l = some { cls := .type "list", data := .seq its.toArray n } := by
  obtain ⟨z, its, n, r, e⟩ := I.hok l _ hH
  exact ⟨z, its, n, r, r.length, e⟩
theorem notLongL {n : Nat} (h : n ≤ sizeLine) : Builtin.List.listTooLong n = false := by
  unfold Builtin.List.listTooLong
  exact decide_eq_false (by omega)
end
section
variable {X : Cx}
def rAppend : V → List V → Hp → VK → Prop := fun x vs H Q => ∃ l xs y, x = .ref l ∧ vs = [y] ∧ H l = some (.lst xs) ∧ xs.length < sizeLine ∧ Q .non (upd H l (.lst (xs ++ [y])))
theorem mt_append : MtM X "list.append" rAppend := by
  intro pins s σ H x vs v us Q I rx rv h
  obtain ⟨l, xs, y, rfl, rfl, hH, hz, q⟩ := h
  cases rx
  obtain ⟨u, rfl, ru⟩ := rv.one
  obtain ⟨z, its, n, r, hl, e⟩ := I.lstM hH
  refine call_meets F.slot_list_append ⟨_, e, rfl⟩ F.entry_list_append (F.args_list_append_2 _ _) (PySem.list_append l its.toArray n u (by rw [List.size_toArray]; omega)) ⟨e, ?_⟩
  refine ⟨.non, _, I.lset (its' := its ++ [u]) hH e (by simp) (r.append (.cons ru .nil)) ?_, rfl, q⟩
  rw [List.length_append, List.length_singleton]
  omega
def rExtend : V → List V → Hp → VK → Prop := fun x vs H Q => ∃ l b xs zs, x = .ref l ∧ vs = [.ref b] ∧ H l = some (.lst xs) ∧ H b = some (.lst zs) ∧ xs.length + zs.length ≤ sizeLine ∧ Q .non (upd H l (.lst (xs ++ zs)))
theorem mt_extend : MtM X "list.extend" rExtend := by
  intro pins s σ H x vs v us Q I rx rv h
  obtain ⟨l, b, xs, zs, rfl, rfl, hH, hB, hz, q⟩ := h
  cases rx
  obtain ⟨u, rfl, ru⟩ := rv.one
  cases ru
  obtain ⟨z, its, n, r, hl, e⟩ := I.lstM hH
  obtain ⟨z2, its2, n2, r2, hl2, e2⟩ := I.lstM hB
  have hsz : its.toArray.size + its2.toArray.size ≤ sizeLine := by rw [List.size_toArray, List.size_toArray]; omega
  have hlong : ¬ (!its.toArray.isEmpty && Builtin.List.listTooLong (its.toArray.size + its2.toArray.size)) = true := by
    rw [notLongL hsz, Bool.and_false]
    exact Bool.false_ne_true
  refine call_meets F.slot_list_extend ⟨_, e, rfl⟩ F.entry_list_extend (F.args_list_extend_2 _ _)
    (AutoSeq1.list_extend_list_list_0 l its.toArray n b its2.toArray n2 hlong (by rw [List.size_toArray]; omega) (by omega)) ⟨e, e2, ?_⟩
  refine ⟨.non, _, I.lset (its' := its ++ its2) hH e (by simp) (r.append r2) ?_, rfl, q⟩
  rw [List.length_append]
  omega
def rCat : R2 := fun x y H Q => ∃ l b xs zs, x = .ref l ∧ y = .ref b ∧ H l = some (.lst xs) ∧ H b = some (.lst zs) ∧ xs.length + zs.length ≤ sizeLine ∧ ∀ p, H p = none → Q (.ref p) (upd H p (.lst (xs ++ zs)))
theorem op_cat : OpR X (binaryOp .Add) rCat := by
  intro pins s σ H x y v u Q I rx ry h
  obtain ⟨l, b, xs, zs, rfl, rfl, hH, hB, hz, q⟩ := h
  cases rx
  cases ry
  obtain ⟨z, its, n, r, hl, e⟩ := I.lstM hH
  obtain ⟨z2, its2, n2, r2, hl2, e2⟩ := I.lstM hB
  refine PySem.P.add_list e e2 ?_ (by rw [List.size_toArray, List.size_toArray]; omega)
  have ea : its.toArray ++ its2.toArray = (its ++ its2).toArray := by simp
  rw [ea]
  exact ⟨.ref _, _, I.lnew (t' := s.toks) (r.append r2) (by rw [List.length_append]; omega), rfl, q _ I.fresh⟩
end
section
variable {prog : Program} {w : World} {A : Around} {E : Value → Shared → Prop} {s : Shared}
end
section
variable {X : Cx}
end
end L2
namespace L2
open PySem PySem.Spec PyProof.Rows
variable {q0 : Bool}
section
variable {κ : Type} [DecidableEq κ]
def valV (kvs : List (κ × V)) (k : κ) : Option V := (kvs.find? fun kv => decide (kv.1 = k)).map (·.2)
def putK (kvs : List (κ × V)) (k : κ) (v : V) : List (κ × V) :=
  if (kvs.any fun kv => decide (kv.1 = k)) = true then kvs.map (fun kv => if kv.1 = k then (kv.1, v) else kv) else kvs ++ [(k, v)]
theorem valV_pos {p : κ × V} {r : List (κ × V)} {k : κ} (e : p.1 = k) : valV (p :: r) k = some p.2 := by simp [valV, List.find?_cons, e]
theorem valV_neg {p : κ × V} {r : List (κ × V)} {k : κ} (e : ¬ p.1 = k) : valV (p :: r) k = valV r k := by simp [valV, List.find?_cons, e]
theorem valV_any (k : κ) : ∀ kvs : List (κ × V), (kvs.any fun kv => decide (kv.1 = k)) = (valV kvs k).isSome
  | [] => rfl
  | p :: r => by
    rw [List.any_cons]
    by_cases e : p.1 = k
    · simp only [valV_pos e, decide_eq_true e, Bool.true_or, Option.isSome_some]
    · rw [valV_neg e, decide_eq_false e, Bool.false_or]; exact valV_any k r
theorem length_putK (kvs : List (κ × V)) (k : κ) (v : V) : (putK kvs k v).length ≤ kvs.length + 1 := by
  unfold putK
  split
  · rw [List.length_map]; omega
  · rw [List.length_append, List.length_cons, List.length_nil]; omega
theorem putK_new {kvs : List (κ × V)} {k : κ} (v : V) (h : valV kvs k = none) : putK kvs k v = kvs ++ [(k, v)] := by
  unfold putK
  rw [valV_any, h]
  exact if_neg (by decide)
theorem RelO.isSome_eq {o : Option V} {u : Option Value} (r : RelO o u) : o.isSome = u.isSome := by
  cases o with
  | none => cases u with
    | none => rfl
    | some _ => exact (show False from r).elim
  | some _ => cases u with
    | none => exact (show False from r).elim
    | some _ => rfl
theorem KV.val {kvs : List (κ × V)} {vs : List (κ × Value)} (r : KV kvs vs) (k : κ) : RelO (valV kvs k) (valueAt vs k) := by
  unfold KV at r
  induction r with
  | nil => exact True.intro
  | @cons p q ps qs h t ih =>
    obtain ⟨h1, h2⟩ := h
    by_cases e : p.1 = k
    · have e' : q.1 = k := h1.symm.trans e
      have b : valueAt (q :: qs) k = some q.2 := by simp [valueAt, List.find?_cons, e']
      rw [valV_pos e, b]; exact h2
    · have e' : ¬ q.1 = k := fun z => e (h1.trans z)
      have b : valueAt (q :: qs) k = valueAt qs k := by simp [valueAt, List.find?_cons, e']
      rw [valV_neg e, b]; exact ih
theorem KV.any {kvs : List (κ × V)} {vs : List (κ × Value)} (r : KV kvs vs) (k : κ) : (kvs.any fun kv => decide (kv.1 = k)) = vs.any fun kv => decide (kv.1 = k) := by
  unfold KV at r
  induction r with
  | nil => rfl
  | cons h t ih => rw [List.any_cons, List.any_cons, ih, h.1]
theorem KV.repl {kvs : List (κ × V)} {vs : List (κ × Value)} (r : KV kvs vs) (k : κ) {y : V} {u : Value} (ry : RelV y u) :
    KV (kvs.map fun kv => if kv.1 = k then (kv.1, y) else kv) (vs.map fun kv => if kv.1 = k then (kv.1, u) else kv) := by
  unfold KV at r ⊢
  induction r with
  | nil => exact .nil
  | @cons p q ps qs h t ih =>
    rw [List.map_cons, List.map_cons]
    refine .cons ?_ ih
    obtain ⟨h1, h2⟩ := h
    by_cases e : p.1 = k
    · rw [if_pos e, if_pos (h1.symm.trans e)]; exact ⟨h1, ry⟩
    · rw [if_neg e, if_neg (fun z => e (h1.trans z))]; exact ⟨h1, h2⟩
theorem KV.put {kvs : List (κ × V)} {vs : List (κ × Value)} (r : KV kvs vs) (k : κ) {y : V} {u : Value} (ry : RelV y u) : KV (putK kvs k y) (stored vs k u) := by
  unfold putK stored
  rw [r.any k]
  by_cases e : (vs.any fun kv => decide (kv.1 = k)) = true
  · rw [if_pos e, if_pos e]; exact r.repl k ry
  · rw [if_neg e, if_neg e]; exact Paired.snoc r ⟨rfl, ry⟩
theorem KV.keys {kvs : List (κ × V)} {vs : List (κ × Value)} (r : KV kvs vs) : kvs.map (·.1) = vs.map (·.1) := by
  unfold KV at r
  induction r with
  | nil => rfl
  | cons h t ih => rw [List.map_cons, List.map_cons, ih, h.1]
theorem KV.length {kvs : List (κ × V)} {vs : List (κ × Value)} (r : KV kvs vs) : kvs.length = vs.length := Paired.length r
end
theorem kV_is {P : Program} {w : World} {k : Key} {u : Value} (r : RelV (kV k) u) : (mixKind P w).is k u = true := by
  cases k with
  | inl i => obtain ⟨t, e⟩ := (show ∃ t, u = Value.int i t from r); subst e; exact mixKind_int P w i t
  | inr x => obtain ⟨t, e⟩ := (show ∃ t, u = Value.str x t from r); subst e; exact mixKind_str P w x t
theorem items_are {P : Program} {w : World} : ∀ {ks : List Key} {us : List Value}, Vals (ks.map kV) us → ItemsAre (mixKind P w) ks us
  | [], _, r => by rw [List.map_nil] at r; cases r; exact .nil
  | k :: ks, _, r => by
    rw [List.map_cons] at r
    cases r with
    | cons h t => exact .cons (kV_is h) (items_are t)
abbrev KT (H : Hp) : List (List Key × V) → List (List Key × Addr × Value) → Prop := Paired fun p q => p.1 = q.1 ∧ H q.2.1 = some (.tup (p.1.map kV)) ∧ RelV p.2 q.2.2
theorem KT.val {H : Hp} {kvs : List (List Key × V)} {xs : List (List Key × Addr × Value)} (r : KT H kvs xs) (k : List Key) : RelO (valV kvs k) ((atKey xs k).map (·.2)) := by
  induction r with
  | nil => exact True.intro
  | @cons p q ps qs h t ih =>
    obtain ⟨h1, _, h2⟩ := h
    by_cases e : p.1 = k
    · have e' : q.1 = k := h1.symm.trans e
      have b : atKey (q :: qs) k = some q.2 := by simp [atKey, List.find?_cons, e']
      rw [valV_pos e, b]; exact h2
    · have e' : ¬ q.1 = k := fun z => e (h1.trans z)
      have b : atKey (q :: qs) k = atKey qs k := by simp [atKey, List.find?_cons, e']
      rw [valV_neg e, b]; exact ih
theorem KT.repl {H : Hp} {kvs : List (List Key × V)} {xs : List (List Key × Addr × Value)} (r : KT H kvs xs) (k : List Key) {y : V} {u : Value} (ry : RelV y u) :
    KT H (kvs.map fun kv => if kv.1 = k then (kv.1, y) else kv) (xs.map (putAt k u)) := by
  induction r with
  | nil => exact .nil
  | @cons p q ps qs h t ih =>
    rw [List.map_cons, List.map_cons]
    refine .cons ?_ ih
    obtain ⟨h1, h2, h3⟩ := h
    unfold putAt
    by_cases e : p.1 = k
    · rw [if_pos e, if_pos (h1.symm.trans e)]; exact ⟨h1, h2, ry⟩
    · rw [if_neg e, if_neg (fun z => e (h1.trans z))]; exact ⟨h1, h2, h3⟩
theorem KT.put {H : Hp} {kvs : List (List Key × V)} {xs : List (List Key × Addr × Value)} (r : KT H kvs xs) (k : List Key) {b : Addr} {y : V} {u : Value} (hb : H b = some (.tup (k.map kV))) (ry : RelV y u) :
    KT H (putK kvs k y) (storedH xs k b u) := by
  have e : (kvs.any fun kv => decide (kv.1 = k)) = (atKey xs k).isSome := by
    rw [valV_any, (r.val k).isSome_eq, Option.isSome_map]
  unfold putK storedH
  rw [e]
  by_cases q : (atKey xs k).isSome = true
  · rw [if_pos q, if_pos q]; exact r.repl k ry
  · rw [if_neg q, if_neg q]; exact Paired.snoc r ⟨rfl, hb, ry⟩
theorem KT.keeps {H H' : Hp} {kvs : List (List Key × V)} {xs : List (List Key × Addr × Value)} (r : KT H kvs xs) (ht : ∀ b ys, H b = some (.tup ys) → H' b = some (.tup ys)) : KT H' kvs xs :=
  Paired.mapP r fun _ _ z => ⟨z.1, ht _ _ z.2.1, z.2.2⟩
section
variable {P : Program} {w : World} {H : Hp} {h : Heap} {a : Addr}
theorem rd_of {u : HO} (ok : HOk P w H h) (e : Rd H a u) : ObjOk P w H h a u := e.ok ok
theorem dk_rd {kvs : List (Key × V)} (ok : HOk P w H h) (e : Rd H a (.dK kvs)) : kvs.length ≤ sizeLine ∧ (a == sysModules) = false ∧ ∃ vs, KV kvs vs ∧ h.DictOf (mixKind P w) a vs :=
  show ObjOk P w H h a (.dK kvs) from rd_of ok e
theorem dk_of {kvs : List (Key × V)} (ok : HOk P w H h) (e : H a = some (.dK kvs)) : kvs.length ≤ sizeLine ∧ (a == sysModules) = false ∧ ∃ vs, KV kvs vs ∧ h.DictOf (mixKind P w) a vs := dk_rd ok (.inl e)
theorem key_of {ks : List Key} (ok : HOk P w H h) (e : H a = some (.tup (ks.map kV))) : (tupleKind (mixKind P w)).is h ks a := by
  obtain ⟨_, its, r, o, h1, h2, n, h3⟩ := (show ObjOk P w H h a (.tup (ks.map kV)) from ok a _ e)
  exact ⟨o, its.toArray, n, h1, h2, h3, by simpa using items_are r⟩
theorem dt_rd {kvs : List (List Key × V)} (ok : HOk P w H h) (e : Rd H a (.dT kvs)) : kvs.length ≤ sizeLine ∧ (a == sysModules) = false ∧
    ∃ xs, KT H kvs xs ∧ h.DictOfH (tupleKind (mixKind P w)) a xs := by
  obtain ⟨z, y, xs, r, o, es, ep, h1, h2, h3, h4, h5⟩ := (show ObjOk P w H h a (.dT kvs) from rd_of ok e)
  refine ⟨z, y, xs, r, o, es, ep, h1, h2, h3, h4, fun x hx => ?_, h5⟩
  have all : ∀ {l : List (List Key × V)} {m : List (List Key × Addr × Value)}, KT H l m → ∀ x ∈ m, (tupleKind (mixKind P w)).is h x.1 x.2.1 := by
    intro l m q
    induction q with
    | nil => intro x hx; exact nomatch hx
    | @cons p q ps qs hq t ih =>
      intro x hx
      rcases List.mem_cons.mp hx with e | hx
      · subst e
        exact key_of ok (by rw [← hq.1]; exact hq.2.1)
      · exact ih x hx
  exact all r x hx
theorem dt_of {kvs : List (List Key × V)} (ok : HOk P w H h) (e : H a = some (.dT kvs)) : kvs.length ≤ sizeLine ∧ (a == sysModules) = false ∧
    ∃ xs, KT H kvs xs ∧ h.DictOfH (tupleKind (mixKind P w)) a xs := dt_rd ok (.inl e)
end
def DGet (H : Hp) (a : Addr) (y : V) (r : Option V) : Prop :=
  (∃ kvs k, Rd H a (.dK kvs) ∧ y = kV k ∧ r = valV kvs k) ∨ ∃ kvs k b, Rd H a (.dT kvs) ∧ y = .ref b ∧ H b = some (.tup (k.map kV)) ∧ r = valV kvs k
def DPut (H : Hp) (a : Addr) (y v : V) (H' : Hp) : Prop :=
  (∃ kvs k, H a = some (.dK kvs) ∧ y = kV k ∧ kvs.length < sizeLine ∧ H' = upd H a (.dK (putK kvs k v))) ∨
  ∃ kvs k b, H a = some (.dT kvs) ∧ y = .ref b ∧ H b = some (.tup (k.map kV)) ∧ kvs.length < sizeLine ∧ H' = upd H a (.dT (putK kvs k v))
theorem DGet.k {H : Hp} {a : Addr} {kvs : List (Key × V)} {k : Key} (e : H a = some (.dK kvs)) : DGet H a (kV k) (valV kvs k) := .inl ⟨kvs, k, .inl e, rfl, rfl⟩
theorem DGet.t {H : Hp} {a b : Addr} {kvs : List (List Key × V)} {k : List Key} (e : H a = some (.dT kvs)) (eb : H b = some (.tup (k.map kV))) : DGet H a (.ref b) (valV kvs k) := .inr ⟨kvs, k, b, .inl e, rfl, eb, rfl⟩
theorem DPut.k {H : Hp} {a : Addr} {kvs : List (Key × V)} {k : Key} {v : V} (e : H a = some (.dK kvs)) (hl : kvs.length < sizeLine) : DPut H a (kV k) v (upd H a (.dK (putK kvs k v))) := .inl ⟨kvs, k, e, rfl, hl, rfl⟩
theorem DPut.t {H : Hp} {a b : Addr} {kvs : List (List Key × V)} {k : List Key} {v : V} (e : H a = some (.dT kvs)) (eb : H b = some (.tup (k.map kV))) (hl : kvs.length < sizeLine) :
    DPut H a (.ref b) v (upd H a (.dT (putK kvs k v))) := .inr ⟨kvs, k, b, e, rfl, eb, hl, rfl⟩
section
variable {X : Cx} {pins : List (Addr × Obj)} {σ : St} {H : Hp} {s : Shared} {a : Addr} {y v : V} {u r : Value} {o : Option V} {A : Around} {E : Value → Shared → Prop}
theorem Inv.big (I : Inv X pins σ H s) : sysModules < s.heap.objs.size := by
  have h : mainGlobals < s.heap.objs.size := (I.mod.glob.keeps I.bk).lt
  exact Nat.lt_trans (by decide) h
theorem d_in {Q : Value → Shared → Prop} (hu : A.units + 1 < cLine) (I : Inv X pins σ H s) (g : DGet H a y o) (ry : RelV y u) (h : ∀ s', Inv X pins σ H s' → Q (.bool o.isSome) s') :
    wpAny (model X.prog X.w) A (compareOp .In u (.ref a)) Q E s := by
  rcases g with ⟨kvs, k, e, ey, l⟩ | ⟨kvs, k, b, e, ey, eb, l⟩
  · subst ey
    obtain ⟨z, hd, vs, rel, dd⟩ := dk_rd I.hok e
    refine wpAny_in_of (kV_is ry) hd dd.mapOf ?_
    rw [← (rel.val k).isSome_eq, ← l]
    exact h _ (I.tok _)
  · subst ey
    cases (show u = Value.ref b from ry)
    obtain ⟨z, hd, xs, rel, dd⟩ := dt_rd I.hok e
    refine wpAny_in_heap (tupleKind_room_in1 hu) (key_of I.hok eb) hd dd ?_
    have q := (rel.val k).isSome_eq
    rw [Option.isSome_map] at q
    rw [← q, ← l]
    exact h _ (I.tok _)
theorem d_write {h' : Heap} {t' : Nat} {ob : HO} (I : Inv X pins σ H s) (mu : Mut (H a)) (hs : Heap.SameBut a s.heap h') (he : ∃ q, h'.get? a = some q) (new : ObjOk X.prog X.w (upd H a ob) h' a ob) :
    Inv X pins σ (upd H a ob) { s with heap := h', toks := t' } :=
  I.write (x := a) (e := a) mu (.inl rfl) (fun b q hb z => (hs.2 b hb).trans z) he new
theorem dk_new {P : Program} {w : World} {H' : Hp} {h' : Heap} {kvs : List (Key × V)} {vs : List (Key × Value)} (z : kvs.length ≤ sizeLine) (hd : (a == sysModules) = false) (rel : KV kvs vs) (dd : h'.DictOf (mixKind P w) a vs) :
    ObjOk P w H' h' a (.dK kvs) := ⟨z, hd, vs, rel, dd⟩
theorem d_setItem {H' : Hp} {Q : Unit → Shared → Prop} (hu : A.units + 1 < cLine) (I : Inv X pins σ H s) (g : DPut H a y v H') (ry : RelV y u) (rv : RelV v r) (h : ∀ s', Inv X pins σ H' s' → Q () s') :
    wpAny (model X.prog X.w) A (setItem (.ref a) u r) Q E s := by
  rcases g with ⟨kvs, k, e, ey, l, eH⟩ | ⟨kvs, k, b, e, ey, eb, l, eH⟩
  · subst ey eH
    obtain ⟨z, hd, vs, rel, dd⟩ := dk_of I.hok e
    have hz : vs.length ≤ sizeLine := by rw [← rel.length]; exact z
    have hl : (putK kvs k v).length ≤ sizeLine := by have := length_putK kvs k v; omega
    refine wpAny_setItem_pairs (hsz := hz) (kV_is ry) dd fun h' dd' hs => h _ ?_
    have he : ∃ q, h'.get? a = some q := let ⟨q, _, _, hq, _⟩ := dd'; ⟨q, hq⟩
    exact d_write I (by rw [e]; exact True.intro) hs he (dk_new hl hd (rel.put k rv) dd')
  · subst ey eH
    cases (show u = Value.ref b from ry)
    obtain ⟨z, hd, xs, rel, dd⟩ := dt_of I.hok e
    have hz : xs.length ≤ sizeLine := by rw [← Paired.length rel]; exact z
    have hl : (putK kvs k v).length ≤ sizeLine := by have := length_putK kvs k v; omega
    refine wpAny_setItem_heap (hsz := hz) (tupleKind_room_in1 hu) (key_of I.hok eb) dd fun h' dd' hs => h _ ?_
    obtain ⟨q, es, ep, hq, h2, h3, h4, _, h5⟩ := dd'
    refine d_write I (by rw [e]; exact True.intro) hs ⟨q, hq⟩ ⟨hl, hd, _, (rel.put k eb rv).keeps fun c ys ec => ?_, q, es, ep, hq, h2, h3, h4, h5⟩
    rw [upd_ne (ne_of ec e (fun z => nomatch z))]
    exact ec
end
section
variable {X : Cx} {pins : List (Addr × Obj)} {σ : St} {H : Hp} {s : Shared} {a : Addr} {kvs : List (Key × V)} {k : Key} {u : Value} {A : Around} {E : Value → Shared → Prop}
theorem d_len {Q : Value → Shared → Prop} (I : Inv X pins σ H s) (e : Rd H a (.dK kvs)) (h : ∀ t s', Inv X pins σ H s' → Q (.int kvs.length t) s') : wpAny (model X.prog X.w) A (call (.builtin "len") [.ref a]) Q E s := by
  obtain ⟨z, hd, vs, rel, dd⟩ := dk_rd I.hok e
  refine call_len_dict hd dd (by rw [← rel.length]; rw [sizeLine_eq] at z; omega) ?_
  rw [← rel.length]
  exact h _ _ (I.tok _)
end
def tDIn (ty td : TE) : TE := fun σ H Q => ty σ H fun y H1 => td σ H1 fun x H2 => ∃ a o, x = .ref a ∧ DGet H2 a y o ∧ Q (.bl o.isSome) H2
def sDPut (td ty tv : TE) : TS := fun D σ H => tv σ H fun v H1 => td σ H1 fun x H2 => ty σ H2 fun y H3 => ∃ a H4, x = .ref a ∧ DPut H3 a y v H4 ∧ D.nx σ H4
section
variable {X : Cx} {o i e value : Expr} {pos pos' tpos : Pos} {td ty tv : TE}
theorem pc_din (hu : X.A.units + 1 < cLine) (hi : PE X i ty) (ho : PE X o td) : PC X .In i o (tDIn ty td) := by
  intro pins s σ H Q I h
  refine thn (hi pins s σ H _ I h) fun iv s1 ⟨y, H1, I1, ry, q1⟩ => thn (ho pins s1 σ H1 _ I1 q1) fun u s2 ⟨x, H2, I2, rx, a, ov, ex, g, q2⟩ => ?_
  subst ex
  obtain rfl : u = Value.ref a := rx
  exact d_in hu I2 g ry fun s3 I3 => ⟨.bl ov.isSome, H2, I3, rfl, q2⟩
theorem ps_dput (hu : X.A.units + 1 < cLine) (ho : PE X o td) (hi : PE X i ty) (hv : PE X value tv) (hs : swapsWith value (some (.Subscript o i pos')) pos.line X.env = pure false) :
    PS X (.Assign [.Subscript o i pos'] value pos) (sDPut td ty tv) := by
  intro pins s σ H D I h
  refine wpAny_Assign_Subscript (thn (hv pins s σ H _ I h) fun r s1 ⟨v, H1, I1, rv, q1⟩ => thn (ho pins s1 σ H1 _ I1 q1) fun u s2 ⟨x, H2, I2, rx, q2⟩ => thn (hi pins s2 σ H2 _ I2 q2) fun iv s3 ⟨y, H3, I3, ry, a, H4, ex, g, q3⟩ => ?_) hs
  subst ex
  obtain rfl : u = Value.ref a := rx
  exact d_setItem hu I3 g ry rv fun s4 I4 => ⟨σ, H4, I4, q3⟩
end
theorem dk_empty {P : Program} {w : World} {H : Hp} (h : Heap) (hb : sysModules < h.objs.size) : ObjOk P w H (h.push { cls := .type "dict", data := .dict #[] }) h.objs.size (.dK []) :=
  ⟨Nat.zero_le _, beq_eq_false_iff_ne.mpr (Ne.symm (Nat.ne_of_lt hb)), [], .nil, Heap.DictOf.new h⟩
theorem dt_empty {P : Program} {w : World} {H : Hp} (h : Heap) (hb : sysModules < h.objs.size) : ObjOk P w H (h.push { cls := .type "dict", data := .dict #[] }) h.objs.size (.dT []) :=
  ⟨Nat.zero_le _, beq_eq_false_iff_ne.mpr (Ne.symm (Nat.ne_of_lt hb)), [], .nil, _, #[], 0, Heap.get?_push_size _ rfl, ⟨rfl, rfl, rfl⟩, rfl, rfl, List.nodup_nil⟩
def tDNewK : TE := fun _ H Q => ∀ p, H p = none → Q (.ref p) (upd H p (.dK []))
def tDNewT : TE := fun _ H Q => ∀ p, H p = none → Q (.ref p) (upd H p (.dT []))
section
variable {X : Cx} {pos : Pos}
theorem pe_dnewK : PE X (.Dict [] [] pos) tDNewK := fun pins s σ H Q I h =>
  wpAny_Dict_empty ⟨.ref s.heap.objs.size, _, I.laid (a := s.heap.objs.size) (o := .dK []) (t' := s.toks) (fun _ _ q => Heap.get?_push_of_some _ q) (Nat.le_refl _) (dk_empty s.heap I.big), rfl, h _ (I.hok.fresh (Nat.le_refl _))⟩
theorem pe_dnewT : PE X (.Dict [] [] pos) tDNewT := fun pins s σ H Q I h =>
  wpAny_Dict_empty ⟨.ref s.heap.objs.size, _, I.laid (a := s.heap.objs.size) (o := .dT []) (t' := s.toks) (fun _ _ q => Heap.get?_push_of_some _ q) (Nat.le_refl _) (dt_empty s.heap I.big), rfl, h _ (I.hok.fresh (Nat.le_refl _))⟩
end
section
variable {X : Cx} {pins : List (Addr × Obj)} {σ : St} {H : Hp} {s : Shared} {a : Addr} {y d : V} {u r : Value} {o : Option V} {A : Around} {E : Value → Shared → Prop}
end
section
variable {X : Cx} {o e f : Expr} {apos cpos : Pos} {td ty tx : TE}
end
section
variable {X : Cx} {pins : List (Addr × Obj)} {σ : St} {H : Hp} {s : Shared} {a : Addr} {kvs : List (Key × V)} {A : Around} {E : Value → Shared → Prop}
end
section
variable {X : Cx} {pins : List (Addr × Obj)} {σ : St} {H : Hp} {s : Shared} {a : Addr} {y : V} {u : Value} {A : Around} {E : Value → Shared → Prop}
end
end L2
namespace Att
open PySem PySem.W PySem.Calls PyProof.Rows
theorem ints_of_wellAll {P : Params} {h : Heap} : ∀ (ns : List Int) (vs : List Value), WellAll P h vs (ns.map WData.int) → IntsAre vs ns := by
  intro ns
  induction ns with
  | nil =>
    intro vs w
    rw [List.map_nil] at w
    cases w
    exact .nil
  | cons n ns ih =>
    intro vs w
    rw [List.map_cons] at w
    cases w with
    | cons a b =>
      cases a
      exact .cons _ _ (ih _ b)
theorem script_of {l : OpenLaw} {n : Nat} (hn : l.most = some n) {P : Params} {h : Heap} {args : List WData} {vals : List Value}
    (hpre : l.row.toRowW.claim.pre args = true) (hwl : WellAll P h vals args) :
    ∃ a vs ns, vals = [Value.ref a] ∧ args = [WData.list (ns.map WData.int)] ∧ h.get? a = some { cls := .type "list", data := .seq vs.toArray } ∧ IntsAre vs ns ∧ ns.length ≤ n := by
  have hsh : WShape.hasAll [] args [.list .int] = true := (pre_splitW hpre).1
  have hc : l.pre.holds [] { args := args } = true := (pre_splitW hpre).2
  obtain ⟨d, r, rfl, h1, h2⟩ := hasAllW_cons hsh
  obtain rfl := hasAllW_nil h2
  obtain ⟨xs, rfl, h3⟩ := hasW_list h1
  obtain ⟨ns, rfl⟩ := items_int h3
  have hlen : ns.length ≤ n := by
    unfold OpenLaw.pre at hc
    have h4 : (WTm.not (.lt (.lit (.int (n : Int))) (.len (.arg 0)))).holds [] { args := [.list (ns.map .int)] } = true := by
      have h4 := (holds_andW hc).1
      rw [hn] at h4
      exact h4
    have h5 := condW_of h4 (w_not (w_lt w_lit (w_len_list (w_arg rfl))))
    rw [List.length_map] at h5
    refine Nat.le_of_not_lt fun q => ?_
    have q' : (n : Int) < ((ns.length : Nat) : Int) := by omega
    first
      | (rw [decide_eq_true q'] at h5; exact absurd h5 (by decide))
      | (simp at h5; omega)
  cases hwl with
  | cons w1 w2 =>
    cases w2
    cases w1 with
    | list ho hall => exact ⟨_, _, ns, rfl, rfl, ho, ints_of_wellAll ns _ hall, hlen⟩
theorem post_true (l : OpenLaw) (args : List WData) : l.row.toRowW.claim.post args (.bool true) args = true :=
  postW_of (r := l.row.toRowW) (X := (true == true))
    (show WShape.has [] (.bool true) .bool = true by first | rfl | decide | simp [WShape.has, WShape.arms, WShape.armsAll])
    (show (WTm.eq .res (.lit (.bool true))).value [] { args := args, res := some (.bool true), after := args } = some (.bool (true == true)) from w_eq_bool (w_res rfl) w_lit) rfl
theorem attach_call {l : OpenLaw} {n : Nat} {q : Program} {loose : List Str} {XP : (Str → Option Value) → Heap → Prop} {YP : World → Heap → Prop} {d : DefRec}
    (hn : l.most = some n) (hdf : d.params.defaults = [])
    (call : ∀ (w : World) (s₀ s₁ : Shared) (mg mb : Str → Option Value) (fa : Addr) (o : Obj) (pm cd doc : Value) (a : Addr) (vs : List Value) (ns : List Int),
      Ground q loose [] XP w s₀ mg mb s₁.heap → YP w s₁.heap →
      s₁.heap.get? fa = some o → o.data = .func (docDef d.name d.params d.body d.scope pm cd doc) → s₁.heap.CodeRec cd d.name → mg d.name = some (.ref fa) →
      s₁.heap.get? a = some { cls := .type "list", data := .seq vs.toArray } → IntsAre vs ns → ns.length ≤ n → s₁.gens = #[] →
      codeAny (model l.prog w) callerA (.call (.ref fa) ⟨[.ref a], []⟩) (fun r s' => r = .ok (.ret (.bool true)) ∧ OldK s₁.heap s'.heap ∧ s'.os = s₁.os ∧ AllBare s'.gens) s₁) :
    WalkO q loose XP YP l.row.toRowW d [] (fun f vs => PySem.call f vs) := by
  intro w s₀ s₁ mg mb G Y fa o pm cd doc dV kV ho hd hcd hD hmg hg args vals as hpre hlay hrd hwl hlo
  obtain rfl : dV = .none := Dflts.none hD hdf
  obtain rfl : kV = .none := Dflts.noKw hD
  obtain ⟨a, vs, ns, rfl, rfl, hobj, hints, hlen⟩ := script_of hn hpre hwl
  refine enter_call (codeAny_mono (call w s₀ s₁ mg mb fa o pm cd doc a vs ns G Y ho (fd_plain hd) hcd hmg hobj hints hlen hg) fun r s' hq => ?_)
  obtain ⟨rfl, h2, h3, h4⟩ := hq
  exact ⟨.inl ⟨.bool true, .bool true, [], rfl, fun _ => rfl, .bool true, post_true l _, fun _ => ⟨List.Pairwise.nil, fun _ hm => (nomatch hm)⟩⟩, h2, h3, h4⟩
section
variable {prog : Program} {w : World} {A : Around} {E : Value → Shared → Prop} {s : Shared} {K : Frag}
def ledger (h : Heap) (L d : Addr) : List (Addr × Obj) := (List.range h.objs.size).filterMap fun a => if a = L ∨ a = d then none else (h.get? a).map fun o => (a, o)
end
end Att
namespace L2
open PySem PySem.Spec PyProof.Rows
variable {q0 : Bool}
theorem vals_ints : ∀ {vs : List Value} {ns : List Int}, IntsAre vs ns → Vals (ns.map V.int) vs
  | _, _, .nil => .nil
  | _, _, .cons n t h => .cons ⟨t, rfl⟩ (vals_ints h)
def Only (H : Hp) : Prop := ∀ b, H b = none ∨ ∃ o xs, H b = some (.frz o (.lst xs))
theorem law_call {P : Program} {w : World} {K : PySem.W.Frag} {mg mb : Str → Option Value} {CX : CXT} {k : Nat} {fa a : Addr} {fd : FuncData} {x : Str} {sp : Sp} {s₁ : Shared} {vs : List Value} {ns : List Int}
    (KX : K.In s₁.heap) (hns : s₁.heap.Ns mainGlobals mg) (hb : s₁.heap.Ns builtinsNs mb) (hbb : ∀ x : Str, x ≠ "__name__" → mb x = bootBuiltins x) (hlim : s₁.heap.NoLimit) (hg : s₁.gens = #[])
    (ha : s₁.heap.get? a = some { cls := .type "list", data := .seq vs.toArray }) (hi : IntsAre vs ns) (hl : ns.length ≤ sizeLine) (hr : Room q0 k callerA)
    (F : ∀ base : Heap, K.In base → base.Ns mainGlobals mg → FnOk q0 P w K mg base CX k fa fd [x] sp) (hbind : ∀ (s : Shared) (u : Value), BindsTo s fd ⟨[u], []⟩ [(x, u)])
    (hsp : ∀ H : Hp, Only H → SqL K H a (ns.map V.int) → sp [.ref a] H (fun v _ => v = .bl true) fun _ _ _ => False)
    (hCX : ∀ H e s', CX [] H s₁ (fun _ _ _ => False) e s' → False) :
    codeAny (model P w) callerA (.call (.ref fa) ⟨[.ref a], []⟩) (fun r s' => r = .ok (.ret (.bool true)) ∧ OldK s₁.heap s'.heap ∧ s'.os = s₁.os ∧ AllBare s'.gens) s₁ := by
  have rv := vals_ints hi
  have lenV := hi.length
  -- from an abstract heap in which nothing but the script may be tracked
  have core : ∀ H : Hp, Only H → SqL K H a (ns.map V.int) → HOk P w H s₁.heap → (∀ b, H b ≠ none → b = a) → (H a ≠ none → K.lookup a = none) →
      codeAny (model P w) callerA (.call (.ref fa) ⟨[.ref a], []⟩) (fun r s' => r = .ok (.ret (.bool true)) ∧ OldK s₁.heap s'.heap ∧ s'.os = s₁.os ∧ AllBare s'.gens) s₁ := by
    intro H hO hS hok hA hK
    have base_of : ∀ {b : Addr} {o : Obj}, s₁.heap.get? b = some o → H b = none → (hidT s₁.heap H).get? b = some o := fun e n => hidT_get e n
    have noA : ∀ {b : Addr} {o : Obj} {es : Array DictEntry} {ep : Nat}, s₁.heap.get? b = some o → o.data = .dict es ep → H b = none := fun {b o es ep} e d => by
      cases q : H b with
      | none => rfl
      | some u =>
        have e' : b = a := hA b (by rw [q]; simp)
        subst e'
        rw [ha] at e; cases e
        have d' : Data.seq vs.toArray _ = Data.dict es ep := d
        cases d'
    have nsK : ∀ {b : Addr} {m : Str → Option Value}, s₁.heap.Ns b m → (hidT s₁.heap H).Ns b m := fun {b m} ⟨o, es, ep, e, d, r⟩ => ⟨o, es, ep, base_of e (noA e d), d, r⟩
    have hKb : K.In (hidT s₁.heap H) := fun b o e => base_of (KX b o e) (by
      cases q : H b with
      | none => rfl
      | some u =>
        have e' : b = a := hA b (by rw [q]; simp)
        subst e'
        rw [hK (by rw [q]; simp)] at e; cases e)
    have hM : Mod K mg (hidT s₁.heap H) := ⟨hKb, nsK hns, ⟨mb, nsK hb, hbb⟩, let ⟨mc, h1, h2⟩ := hlim; ⟨mc, nsK h1, h2⟩⟩
    have e0 : Env0 P w K mg (hidT s₁.heap H) callerA [] s₁ H := ⟨rfl, hM, fun b o e => of_hidT e, Nat.le_of_eq (hidT_size _ _), trivial, fun b hb => absurd (show b ∈ ([] : List Addr) from hb) (by simp), hok, .of_eq hg⟩
    refine codeAny_mono ((F _ hKb (nsK hns)).run callerA [] s₁ H ⟨[.ref a], []⟩ [.ref a] [.ref a] _ _ hr e0 (hbind s₁ (.ref a)) (.cons rfl .nil) (hsp H hO hS)) fun r s' h => ?_
    cases r with
    | error e => exact (hCX H e s' h).elim
    | ok fl =>
      cases fl with
      | next => exact False.elim h
      | brk => exact False.elim h
      | cont => exact False.elim h
      | ret u =>
        obtain ⟨v, H', os, bare, un, hok', r', q⟩ := h
        have q' : v = .bl true := q
        subst q'
        obtain rfl : u = Value.bool true := r'
        refine ⟨rfl, OldK.of_keep fun b o e => ?_, os, bare⟩
        cases q : H b with
        | none => exact un.keep b o e q (by intro z; exact absurd (show b ∈ ([] : List Addr) from z) (by simp)) (by simp)
        | some u =>
          rcases hO b with z | ⟨ob, xs, z⟩
          · rw [q] at z; cases z
          · have z2 := un.frzs b ob _ z
            obtain ⟨e1, _⟩ := hok b _ z
            obtain ⟨e2, _⟩ := hok' b _ z2
            rw [e] at e1; cases e1
            exact e2
  cases hk : K.lookup a with
  | some o =>
    -- the script is one of the module's own objects
    have e := KX a o hk
    rw [ha] at e
    cases e
    refine core (fun _ => none) (fun _ => .inl rfl) (.inr ⟨_, vs.toArray, _, hk, rfl, rfl, rfl, by rw [List.size_toArray, lenV]; exact hl, by simpa using rv⟩) (fun b u z => by have z' : (none : Option HO) = some u := z; cases z') (fun b z => absurd rfl z) fun z => absurd rfl z
  | none =>
    refine core (fun b => if b = a then some (.frz { cls := .type "list", data := .seq vs.toArray } (.lst (ns.map V.int))) else none) (fun b => ?_) (.inl (.inr ⟨{ cls := .type "list", data := .seq vs.toArray }, if_pos rfl⟩)) (fun b u z => ?_) (fun b z => ?_) fun _ => hk
    · by_cases hb : b = a
      · exact .inr ⟨_, _, if_pos hb⟩
      · exact .inl (if_neg hb)
    · by_cases hb : b = a
      · have z' := (if_pos hb).symm.trans z
        cases z'
        subst hb
        exact ⟨ha, by rw [List.length_map]; exact hl, vs, _, rv, ha⟩
      · have z' := (if_neg hb).symm.trans z
        cases z'
    · by_cases hb : b = a
      · exact hb
      · exact absurd (if_neg hb) z
end L2
namespace L2
open PySem PySem.Spec PyProof.Rows
variable {q0 : Bool}
abbrev KOf {K : PySem.W.Frag} {h : Heap} (_ : K.In h) : PySem.W.Frag := K
theorem walk_of {l : PySem.W.OpenLaw} {n k : Nat} {q : Program} {loose : List Str} {XP : (Str → Option Value) → Heap → Prop} {YP : World → Heap → Prop} {d : DefRec} {K : Params → PySem.W.Frag} {CX : World → CXT} {sp : World → Sp} {x : Str}
    (hn : l.most = some n) (hn2 : n ≤ sizeLine) (hdf : d.params.defaults = []) (hr : Room q0 k callerA)
    (hY : ∀ (w : World) (h : Heap), YP w h → (K w.params).In h)
    (F : ∀ (w : World) (mg : Str → Option Value) (fa : Addr) (h : Heap), (K w.params).In h → h.Ns mainGlobals mg → mg d.name = some (.ref fa) →
      ∃ fd : FuncData, (∀ (s : Shared) (u : Value), BindsTo s fd ⟨[u], []⟩ [(x, u)]) ∧
        ∀ base : Heap, (K w.params).In base → base.Ns mainGlobals mg → FnOk q0 l.prog w (K w.params) mg base (CX w) k fa fd [x] (sp w))
    (hsp : ∀ (w : World) (H : Hp) (a : Addr) (ns : List Int), ns.length ≤ n → Only H → SqL (K w.params) H a (ns.map V.int) → sp w [.ref a] H (fun v _ => v = .bl true) fun _ _ _ => False)
    (hCX : ∀ (w : World) (H : Hp) (s : Shared) (e : Value) (s' : Shared), CX w [] H s (fun _ _ _ => False) e s' → False) :
    PySem.W.WalkO q loose XP YP l.row.toRowW d [] (fun f vs => PySem.call f vs) := by
  refine Att.attach_call hn hdf fun w s₀ s₁ mg mb fa o pm cd doc a vs ns G Y ho hd hcd hmg hobj hints hlen hg => ?_
  have KX := hY w _ Y
  obtain ⟨fd, hb, hF⟩ := F w mg fa _ KX G.T.g hmg
  exact law_call KX G.T.g G.T.b G.T.builtins G.T.nolimit hg hobj hints (Nat.le_trans hlen hn2) hr hF hb (fun H hO hS => hsp w H a ns hlen hO hS) fun H e s' => hCX w H s₁ e s'
end L2
namespace L2
open PySem PySem.Spec PyProof.Rows
variable {q0 : Bool}
def inClass (s : Stmt) (j : Nat) : Stmt := match s with
  | .ClassDef _ _ _ body _ _ _ _ _ _ _ => body.getD j (.Pass ⟨0, 0, 0, 0⟩)
  | _ => .Pass ⟨0, 0, 0, 0⟩
def defArgs (s : Stmt) : Arguments := match s with
  | .FunctionDef _ a _ _ _ _ _ _ _ _ => a
  | _ => { posonlyargs := [], args := [], vararg := none, kwonlyargs := [], kw_defaults := [], kwarg := none, defaults := [] }
def defBody (s : Stmt) : List Stmt := match s with
  | .FunctionDef _ _ b _ _ _ _ _ _ _ => b
  | _ => []
def defScope (s : Stmt) : Scope := match s with
  | .FunctionDef _ _ _ _ _ _ sc _ _ _ => sc
  | _ => { kind := .function, names := [], isGenerator := false, isCoroutine := false }
abbrev CX0 : CXT := fun _ _ _ _ _ _ => False
structure Fun (K : PySem.W.Frag) (x qual : Str) (st : Stmt) (f : Addr) (fd : FuncData) : Prop where
  ex : ∃ (oc : Value) (od : Option Addr) (kV doc pm : Value) (an : Option Addr) (cdv ct : Value) (osl : Array (Option Value)),
    fd = PySem.W.fnOf x qual (defArgs st) (defBody st) (defScope st) .none kV doc pm an cdv ct ∧ K.lookup f = some ⟨oc, od, .func fd, osl⟩ ∧ PySem.W.codeIn K cdv qual = true
  kp : PySem.W.keepIn K (.ref f) = true
section
variable {P : Program} {w : World} {K : PySem.W.Frag} {mg : Str → Option Value} {base : Heap}
theorem Fun.ok {x qual : Str} {st : Stmt} {f : Addr} {fd : FuncData} {N ps : List Str} {k : Nat} {sp : Sp} (F : Fun K x qual st f fd) (S : FnScope N ps (defScope st)) (len : ∀ vs H Q E, sp vs H Q E → vs.length = ps.length)
    (hbody : ∀ (cdv : Value) (A : Around) (outer : List Env) (s : Shared) (H : Hp) (vs : List V) (Q : VK) (E : XK), Room q0 k (A.deeper (envOfC qual (defScope st) s.heap.objs.size f cdv)) → sp vs H Q E →
      ∃ t, PSs (cxOf q0 CX0 P w K mg base N qual (defScope st) f cdv A outer s H E).nox (defBody st) t ∧ t { nx := fun _ H' => Q .non H', rt := Q } (start N vs) H) : FnOk q0 P w K mg base CX0 (k + 1) f fd ps sp := by
  obtain ⟨oc, od, kV, doc, pm, an, cdv, ct, osl, rfl, lk, hcd⟩ := F.ex
  refine fn_of lk hcd S len fun A outer s H vs Q E hr hsp => ?_
  obtain ⟨t, h, q⟩ := hbody cdv A outer s H vs Q E hr hsp
  exact ⟨t, h.nox, q⟩
theorem Fun.binds {x qual : Str} {st : Stmt} {f : Addr} {fd : FuncData} {ps : List Str} (F : Fun K x qual st f fd)
    (h : ∀ (kV doc pm : Value) (an : Option Addr) (cdv ct : Value) (us : List Value), us.length = ps.length → bindArgs (PySem.W.fnOf x qual (defArgs st) (defBody st) (defScope st) .none kV doc pm an cdv ct) ⟨us, []⟩ = pure (ps.zip us)) : Binds K fd ps [] := by
  obtain ⟨oc, od, kV, doc, pm, an, cdv, ct, osl, rfl, lk, hcd⟩ := F.ex
  exact .all (h kV doc pm an cdv ct)
theorem fun_mk {x qual : Str} {st : Stmt} {f : Addr} {oc : Value} {od an : Option Addr} {osl : Array (Option Value)} {kV doc pm cdv ct : Value} (l : K.lookup f = some ⟨oc, od, .func (PySem.W.fnOf x qual (defArgs st) (defBody st) (defScope st) .none kV doc pm an cdv ct), osl⟩)
    (c : PySem.W.codeIn K cdv qual = true) (k : PySem.W.keepIn K (.ref f) = true) : Fun K x qual st f (PySem.W.fnOf x qual (defArgs st) (defBody st) (defScope st) .none kV doc pm an cdv ct) := ⟨⟨oc, od, kV, doc, pm, an, cdv, ct, osl, rfl, l, c⟩, k⟩
end
theorem hu_of {A : Around} {k : Nat} (hr : Room q0 k A) : A.units + 1 < cLine := Nat.lt_of_le_of_lt (Nat.add_le_add_left (by decide : 1 ≤ 64) _) hr.units
section
variable {X : Cx}
theorem pv (i : Nat) {x : Str} {pos : Pos} (hN : X.N[i]? = some x := by rfl) (hv : Vis X.env.scope x := by first | exact Or.inl rfl | exact Or.inr (Or.inl rfl) | exact Or.inr (Or.inr rfl)) (hd : (x == ("__debug__" : Str)) = false := by decide)
    (hcd : (x == ("__classdict__" : Str)) = false := by decide) : PE X (.Name x pos) (tVar i) := pe_var hN hv hd hcd
end
theorem iteF {A B : Prop} (h : B) : if false = true then A else B := by
  rw [if_neg Bool.false_ne_true]
  exact h
theorem iteT {A B : Prop} (h : A) : if true = true then A else B := by
  rw [if_pos rfl]
  exact h
theorem ite2 {c A B : Prop} [Decidable c] (h1 : c → A) (h2 : ¬ c → B) : if c then A else B := by
  by_cases h : c
  · rw [if_pos h]
    exact h1 h
  · rw [if_neg h]
    exact h2 h
def Same (H H' : Hp) : Prop := ∀ b o, H b = some o → H' b = some o
theorem Same.refl (H : Hp) : Same H H := fun _ _ h => h
theorem Same.trans {H H1 H2 : Hp} (a : Same H H1) (b : Same H1 H2) : Same H H2 := fun c o h => b c o (a c o h)
theorem Same.free {H H' : Hp} (e : Same H H') {l : Addr} (h : H' l = Option.none) : H l = Option.none := by
  cases q : H l with
  | none => rfl
  | some o =>
    rw [e l o q] at h
    cases h
theorem Same.seq {K : PySem.W.Frag} {H H' : Hp} {a : Addr} {xs : List V} (e : Same H H') (h : SqL K H a xs) : SqL K H' a xs := by
  rcases h with (h | ⟨o, h⟩) | h
  · exact .inl (.inl (e _ _ h))
  · exact .inl (.inr ⟨o, e _ _ h⟩)
  · exact .inr h
end L2
namespace Srt
open PySem PySem.W PyProof.Rows
abbrev CM := Nat → Nat → (Bool → Shared → Prop) → Shared → Prop
abbrev g (p : Array Nat) (i : Nat) : Nat := p.getD i 0
section
variable {n : Nat} {lt : Nat → Nat → Bool} {cmp : CM} {s : Shared}
end
end Srt
set_option maxRecDepth 100000
namespace XL
open PySem
def Xat (h : Heap) (e : Addr) (cls : Value) (od tb : Option Addr) : Prop :=
  ∃ oe vs, h.get? e = some oe ∧ oe.cls = cls ∧ oe.dict = od ∧ oe.data = .fields vs ∧ 1 < vs.size ∧
    ((tb = none ∧ vs[1]? = some Value.none) ∨ ∃ T oT ts, tb = some T ∧ vs[1]? = some (.ref T) ∧ T ≠ e ∧ h.get? T = some oT ∧ oT.data = .fields ts ∧ ts[3]? = some Value.none)
structure Stp (fs : List Addr) (e : Addr) (tb : Option Addr) (h h' : Heap) : Prop where
  keep : ∀ b o, h.get? b = some o → b ≠ e → tb ≠ some b → b ∉ fs → h'.get? b = some o
  slot : ∀ b o, h.get? b = some o → b ∈ fs → ∃ sl, h'.get? b = some { o with slots := sl }
abbrev frsOf (l : List Env) : List Addr := l.filterMap (·.frame)
theorem dict_mapF (o : Obj) (f : Array Value → Array Value) : (o.mapFields f).dict = o.dict := by
  obtain ⟨c, d, dt, sl⟩ := o
  cases dt <;> rfl
section
variable {M : Model} {A : Around} {E : Value → Shared → Prop} {s : Shared}
theorem entry_x {base : Heap} {env : Env} {outer : List Env} {L e : Addr} {oe : Obj} {vs : Array Value} {hd : Value} {nx : Bool} {cls : Value} {od tb : Option Addr} {g : Heap} {Q : Unit → Shared → Prop}
    (fr : A.frames = some (env :: outer)) (ff : s.heap.FunFrames base (env :: outer)) (fL : env.frame = some L)
    (ge : s.heap.get? e = some oe) (de : oe.data = .fields vs) (se : 1 < vs.size) (ce : oe.cls = cls) (oo : oe.dict = od)
    (st : Stp (frsOf (env :: outer)) e tb g s.heap) (sz : g.objs.size ≤ s.heap.objs.size)
    (k : ∀ h' T, Stp (frsOf (env :: outer)) e tb g h' → g.objs.size ≤ T → Xat h' e cls od (some T) → Q () { s with heap := h' }) :
    wpAny M A (do let a ← frameOf env; let pl ← entryPlaceOf L nx; let b ← EntryCells.newEntry hd a .none (rawInt L) .none pl; setField (.ref e) 1 b) (fun _ s' => wpAny M A (setFlight (.ref e) none) Q E s') E s := by
  have nef : e ∉ frsOf (env :: outer) := fun hm => by
    obtain ⟨_, o, ho, hnf⟩ := ff.mem hm
    have z := ge.symm.trans ho
    cases z
    exact hnf vs de
  refine wpAny_bind (wpAny_frameOf_fun fr ff fL fun h1 so => ?_)
  refine wpAny_bind (wpAny_entryPlaceOf fun pl ip => ?_)
  unfold EntryCells.newEntry newFields
  refine wpAny_bind (wpAny_newObj_type ?_ (ip.sizeOk5 _ _ _ _ _))
  have e1 : h1.get? e = some oe := (so.2.1 e nef).trans ge
  generalize eT : ({ cls := .type "traceback", dict := none, data := .fields ([hd, .ref L, .none, rawInt L, .none] ++ (if pl.isEmpty then List.replicate 6 Value.none else pl)).toArray } : Obj) = oT
  have dT : oT.data = .fields ([hd, .ref L, .none, rawInt L, .none] ++ (if pl.isEmpty then List.replicate 6 Value.none else pl)).toArray := by rw [← eT]
  have fT : oT.isFreed = false := by rw [← eT]; rfl
  have e2 : (h1.push oT).get? e = some oe := Heap.get?_push_of_some oT e1
  refine wpAny_setField e2 de se ?_
  have nTe : h1.objs.size ≠ e := Nat.ne_of_gt (Heap.lt_size e1)
  have d3 := Obj.data_mapFields de (·.setIfInBounds 1 (Value.ref h1.objs.size))
  have e3 := Heap.get?_update_self (Obj.mapFields (·.setIfInBounds 1 (Value.ref h1.objs.size))) e2 (Obj.isFreed_of_fields d3)
  have T3 : ((h1.push oT).update e (Obj.mapFields (·.setIfInBounds 1 (Value.ref h1.objs.size)))).get? h1.objs.size = some oT :=
    (Heap.get?_update_other (h1.push oT) _ (Ne.symm nTe)).trans (Heap.get?_push_size h1 fT)
  unfold setFlight
  refine wpAny_bind (wpAny_field e3 d3 (x := .ref h1.objs.size) (by simp [se]) ?_)
  rw [if_pos (show (Value.ref h1.objs.size != Value.none) = true from by simp)]
  refine wpAny_setField T3 dT (by simp only [List.size_toArray, List.length_append, List.length_cons, List.length_nil] <;> omega) (k _ h1.objs.size ?_ ?_ ?_)
  · have go : ∀ b o, b ≠ e → h1.get? b = some o → (((h1.push oT).update e (Obj.mapFields (·.setIfInBounds 1 (Value.ref h1.objs.size)))).update h1.objs.size
        (Obj.mapFields (·.setIfInBounds 3 ((none : Option Addr).elim Value.none fun f => rawInt f)))).get? b = some o := fun b o be hb => by
      have bT : h1.objs.size ≠ b := Nat.ne_of_gt (Heap.lt_size hb)
      rw [Heap.get?_update_other _ _ bT, Heap.get?_update_other _ _ (Ne.symm be)]
      exact Heap.get?_push_of_some oT hb
    refine ⟨fun b o hb be bt bf => go b o be ((so.2.1 b bf).trans (st.keep b o hb be bt bf)), fun b o hb bf => ?_⟩
    obtain ⟨sl, h2⟩ := st.slot b o hb bf
    obtain ⟨sl2, h3⟩ := so.2.2 b _ h2
    exact ⟨sl2, go b _ (fun z => nef (z ▸ bf)) h3⟩
  · rw [so.1]; exact sz
  · refine ⟨_, _, ?_, (Obj.cls_mapFields _ _).trans ce, (dict_mapF _ _).trans oo, d3, by simp [se], .inr ⟨h1.objs.size, _, _, rfl, by simp [se], nTe, Heap.get?_update_self _ T3 (Obj.isFreed_of_fields (Obj.data_mapFields dT _)), Obj.data_mapFields dT _, ?_⟩⟩
    · rw [Heap.get?_update_other _ _ nTe]
      exact e3
    · first | (simp; done) | (rcases ip with rfl | ⟨_, _, _, _, _, _, _, rfl⟩ <;> simp)
theorem note_x {base : Heap} {env : Env} {outer : List Env} {L e : Addr} {cls : Value} {od tb : Option Addr} {Q : Unit → Shared → Prop}
    (fr : A.frames = some (env :: outer)) (ff : s.heap.FunFrames base (env :: outer)) (fL : env.frame = some L) (x : Xat s.heap e cls od tb)
    (k : ∀ h' T, Stp (frsOf (env :: outer)) e tb s.heap h' → s.heap.objs.size ≤ T → Xat h' e cls od (some T) → Q () { s with heap := h' }) :
    wpAny M A (noteFrame (.ref e) env) (fun _ s' => wpAny M A (setFlight (.ref e) none) Q E s') E s := by
  obtain ⟨oe, vs, ge, ce, oo, de, se, y⟩ := x
  unfold noteFrame
  simp only [fL]
  rcases y with ⟨rfl, h1⟩ | ⟨T, oT, ts, rfl, h1, nTe, gT, dT, h3⟩
  · refine wpAny_bind (wpAny_field ge de h1 ?_)
    rw [if_neg (by decide)]
    exact entry_x fr ff fL ge de se ce oo ⟨fun b o hb _ _ _ => hb, fun b o hb _ => ⟨o.slots, hb⟩⟩ (Nat.le_refl _) k
  · refine wpAny_bind (wpAny_field ge de h1 ?_)
    rw [if_pos (show (Value.ref T != Value.none) = true from by simp)]
    refine wpAny_bind (wpAny_field gT dT h3 ?_)
    rw [if_neg (show ¬ ((Value.none == rawInt L) = true) from by simp [rawInt])]
    refine wpAny_bind (wpAny_setField gT dT (Array.getElem?_eq_some_iff.mp h3).1 ?_)
    have ot : ∀ b, b ≠ T → (s.heap.update T (Obj.mapFields (·.setIfInBounds 3 Value.none))).get? b = s.heap.get? b := fun b hb => Heap.get?_update_other _ _ (Ne.symm hb)
    have nr : ∀ b o, s.heap.get? b = some o → (∀ vs, o.data ≠ .fields vs) → b ≠ T := fun b o hb hn q => by
      rw [q] at hb
      have z := gT.symm.trans hb
      cases z
      exact hn ts dT
    refine entry_x (g := s.heap) fr (ff.of_keeps fun b o hb hn => ⟨o, (ot b (nr b o hb hn)).trans hb, rfl⟩) fL ((ot e (Ne.symm nTe)).trans ge) de se ce oo
      ⟨fun b o hb _ bt _ => (ot b fun z => bt (congrArg some z.symm)).trans hb, fun b o hb bf => ⟨o.slots, ?_⟩⟩ (Nat.le_of_eq (Heap.size_after_update ..).symm) k
    · obtain ⟨_, o', ho', hn⟩ := ff.mem bf
      have z := hb.symm.trans ho'
      cases z
      exact (ot b (nr b _ hb hn)).trans hb
end
end XL
set_option maxRecDepth 100000
namespace XL
open PySem
section
variable {prog : Program} {w : World} {A : Around} {E : Value → Shared → Prop} {h : Heap} {g : Array GenState} {d : Drawn} {t : Nat} {os : OsState}
variable {nm qn : Str} {C N : Addr} {bs bm bmB : List Value} {hz : Bool} {sn : List Str} {sub : List Value} {ab : Bool} {col : Option Bool} {dd : Option Addr} {k0 k1 k2 k3 k5 : Option Value} {B ni ii : String}
theorem tcall_xinit (F : ExcBaseFacts B ni ii bmB) (T : OwnTail h bmB bm) {us : List Value} {fI : Addr} {oI : Obj} {Q : Fin → Shared → Prop}
    (gC : h.get? C = some (excClassObj nm qn C N bs bm hz sn sub ab col dd k0 k1 k2 k3 k5 ni))
    (hi : ∀ (A' : Around) (Q' : Option Value → Shared → Prop) (E' : Value → Shared → Prop) (s' : Shared), (∀ b o, h.get? b = some o → s'.heap.get? b = some o) → Q' (some (.ref fI)) s' → wpAny (model prog w) A' (typeLookup (.ref C) "__init__") Q' E' s')
    (gI : h.get? fI = some oI) (cI : oI.cls = .type "function") (lu : us.length ≤ sizeLine)
    (k : ∀ h' e, Heap.MadeExcOf h h' e (.ref C) us → h.objs.size ≤ e →
      wpAny (model prog w) A (call (.ref fI) (.ref e :: us)) (fun r s' => r = .none ∧ Q (.done (.ret (.ref e))) s') E ⟨h', g, d, t, os⟩) :
    wpAny (model prog w) A (Builtin.«type.__call__» ⟨.ref C :: us, []⟩) Q E ⟨h, g, d, t, os⟩ := by
  repeat (first | with_reducible refine wpAny_loadPart_at gC ?_ | with_reducible refine wpAny_madeBy_exc gC ?_ | wp_step)
  refine codeAny_call_builtin_code (Code.quiet_builtin _ F.quiet) (wpAny_check_new_subT F T gC ?_)
  refine codeAny_exc_new_subT F T gC ?_ lu
  show wpAny _ _ _ _ _ _
  generalize e1 : ({ cls := .type "tuple", data := .seq us.toArray } : Obj) = oT
  have fT : oT.isFreed = false := by rw [← e1]; rfl
  generalize e2 : ({ cls := .ref C, data := .fields #[.ref h.objs.size, .none, .none, .none, .bool false, .none] } : Obj) = oE
  have fE : oE.isFreed = false := by rw [← e2]; rfl
  have up : ∀ b o, h.get? b = some o → ((h.push oT).push oE).get? b = some o := fun b o q => Heap.get?_push_of_some oE (Heap.get?_push_of_some oT q)
  have gC' := up _ _ gC
  have gI' := up _ _ gI
  have gE : ((h.push oT).push oE).get? (h.objs.size + 1) = some oE := by
    have z := Heap.get?_push_size (h.push oT) fE
    rwa [Heap.size_push] at z
  have cE : oE.cls = .ref C := by rw [← e2]
  have me : (Value.ref C :: bm).contains (.ref C) = true := by simp
  unfold isInstance
  repeat (first | (with_reducible refine wpAny_loadPart_at gE ?_; rw [cE]) | (with_reducible refine wpAny_isSubtype_exc gC' ?_; rw [me]) | wp_step)
  show wpAny _ _ (typeLookup (.ref C) _) _ _ _
  refine hi _ _ _ _ up ?_
  refine wpAny_holding (wpAny_bind ?_)
  unfold bindSpecial
  refine wpAny_bind (wpAny_typeOf (T := "function") ⟨_, gI', cI⟩ ?_)
  rw [if_pos (by decide)]
  refine wpAny_pure (wpAny_bind (wpAny_mono (k _ (h.objs.size + 1) ⟨up, Heap.get?_none_of_le (Nat.le_succ _), h.objs.size, ?_, Heap.get?_none_of_le (Nat.le_refl _), ?_⟩ (Nat.le_succ _)) (fun r s' z => ?_) fun _ _ x => x))
  · rw [e2]; exact gE
  · rw [e1]; exact Heap.get?_push_of_some oE (Heap.get?_push_size h fT)
  · obtain ⟨rfl, z⟩ := z
    wp_walk
    exact z
theorem call_xinit (F : ExcBaseFacts B ni ii bmB) (T : OwnTail h bmB bm) {us : List Value} {fI : Addr} {oI : Obj} {Q : Value → Shared → Prop}
    (gC : h.get? C = some (excClassObj nm qn C N bs bm hz sn sub ab col dd k0 k1 k2 k3 k5 ni))
    (hi : ∀ (A' : Around) (Q' : Option Value → Shared → Prop) (E' : Value → Shared → Prop) (s' : Shared), (∀ b o, h.get? b = some o → s'.heap.get? b = some o) → Q' (some (.ref fI)) s' → wpAny (model prog w) A' (typeLookup (.ref C) "__init__") Q' E' s')
    (gI : h.get? fI = some oI) (cI : oI.cls = .type "function") (lu : us.length ≤ sizeLine)
    (k : ∀ h' e, Heap.MadeExcOf h h' e (.ref C) us → h.objs.size ≤ e →
      wpAny (model prog w) (A.under (.builtin "type.__call__" ⟨.ref C :: us, []⟩)) (call (.ref fI) (.ref e :: us)) (fun r s' => r = .none ∧ Q (.ref e) s') E ⟨h', g, d, t, os⟩) :
    wpAny (model prog w) A (call (.ref C) us) Q E ⟨h, g, d, t, os⟩ := by
  have a1 := tc_lookup
  have a2 := tc_bind (.ref C)
  have ty : (⟨h, g, d, t, os⟩ : Shared).TypeIs (.ref C) "type" := ⟨_, gC, rfl⟩
  refine wpAny_call (codeAny_of_tree ?_)
  show wpAny _ _ (callAny (.ref C) _) _ _ _
  repeat (any_goals (first | assumption | with_reducible refine wpAny_loadPart_at gC ?_ | wp_step))
  refine ⟨rfl, ?_⟩
  refine codeAny_call_builtin_at (Code.quiet_builtin _ (by decide +kernel)) entry_typeCall (wpAny_check_type_call_sub gC (tcall_xinit F T gC hi gI cI lu fun h' e hm hs => ?_))
  exact k h' e hm hs
theorem raise_x {M : Model} {s : Shared} {env : Env} {x : Sem Value} {Q : Flow → Shared → Prop} (hh : A.handled = none)
    (k : wpAny M A x (fun v s1 => ∃ e od C nm qn N bs bm hz sn sub ab col dd k0 k1 k2 k3 k5 ni, v = .ref e ∧ bm.contains (.type "BaseException") = true ∧ s1.heap.get? C = some (excClassObj nm qn C N bs bm hz sn sub ab col dd k0 k1 k2 k3 k5 ni) ∧ Xat s1.heap e (.ref C) od none ∧ E (.ref e) s1) E s) :
    wpAny M A (raiseStmt env (some x) none) Q E s := by
  unfold raiseStmt
  refine wpAny_bind (wpAny_mono k (fun v s1 z => ?_) fun _ _ x => x)
  obtain ⟨e, od, C, nm, qn, N, bs, bm, hz, sn, sub, ab, col, dd, k0, k1, k2, k3, k5, ni, rfl, bB, gC, ⟨oe, vs, ge, ce, oo, de, se, y⟩, zE⟩ := z
  have me : (Value.ref C :: bm).contains (.type "BaseException") = true := by rw [List.contains_cons, bB, Bool.or_true]
  obtain ⟨hp, g, d, tk, os⟩ := s1
  rcases y with ⟨_, y1⟩ | ⟨T, _, _, z, _⟩
  · repeat (first | (with_reducible refine wpAny_loadPart_at ge ?_; rw [ce]) | with_reducible refine wpAny_loadPart_at gC ?_ | (with_reducible refine wpAny_isSubtype_exc gC ?_; rw [me]) | wp_step)
    rw [de]
    refine wpAny_pure ?_
    rw [y1]
    refine wpAny_pure ?_
    rw [if_neg (by decide)]
    exact wpAny_pure (wpAny_raiseNew_none hh zE)
  · cases z
end
end XL
set_option maxRecDepth 100000
namespace XL
open PySem PySem.W PySem.Calls PyProof.Rows Builtin Builtin.ObjectAttr
def vErr : List Value := [.type "ValueError", .type "Exception", .type "BaseException", .type "object"]
def excLine : List Value → Bool
  | [] => false
  | .ref c :: r => excLine r || ((.ref c :: r : List Value) == vErr)
  | v :: r => (v :: r) == vErr
def excOver (K : Frag) (C : Addr) : Bool := (clsIn K C).any fun cd => excLine cd.mro
theorem line_pass (self : Value) : ∀ {l : List Value}, excLine l = true → refuseLoop self "__setattr__" l = pure ()
  | [], e => by cases e
  | v :: r, e => by
    have last : ((v :: r : List Value) == vErr) = true → refuseLoop self "__setattr__" (v :: r) = pure () := fun z => by
      rw [eq_of_beq z]
      exact PySem.F.store_ValueError.passes self
    cases v with
    | ref c =>
      rcases Bool.or_eq_true_iff.mp e with z | z
      · rw [refuseLoop_ref]
        exact line_pass self z
      · exact last z
    | _ => exact last e
theorem line_has : ∀ {l : List Value}, excLine l = true → l.contains (.type "object") = true ∧ l.contains (.type "BaseException") = true ∧ l.isEmpty = false
  | [], e => by cases e
  | v :: r, e => by
    have last : ((v :: r : List Value) == vErr) = true → (v :: r).contains (.type "object") = true ∧ (v :: r).contains (.type "BaseException") = true ∧ (v :: r).isEmpty = false := fun z => by
      rw [eq_of_beq z]
      exact ⟨by decide +kernel, by decide +kernel, rfl⟩
    cases v with
    | ref c =>
      rcases Bool.or_eq_true_iff.mp e with z | z
      · obtain ⟨a, b, _⟩ := line_has z
        exact ⟨by rw [List.contains_cons, a, Bool.or_true], by rw [List.contains_cons, b, Bool.or_true], rfl⟩
      · exact last z
    | _ => exact last e
structure XC (K : Frag) (C : Addr) : Prop where
  over : excOver K C = true
  hd : hasDictIn K C = true
  sa : findIn K (.ref C) "__setattr__" = some (some (.builtin "object.__setattr__"))
  ga : findIn K (.ref C) "__getattribute__" = some (some (.builtin "BaseException.__getattribute__"))
  gh : findIn K (.ref C) "__getattr__" = some none
  ca : findIn K (.ref C) "__class__" = some (some (.builtin "object.__class__"))
  cg : specialIn K (.builtin "object.__class__") "__get__" = some (some (.builtin "getset_descriptor.__get__"))
  ct : takesIn K (.builtin "object.__class__") = some true
section
variable {prog : Program} {w : World} {A : Around} {E : Value → Shared → Prop} {s : Shared} {K : Frag} {x C dx : Addr} {ox : Obj} {od : Option Obj} {name : Str} {v : Value} {R : Result → Shared → Prop}
theorem XC.mro (c : XC K C) : ∃ cd, clsIn K C = some cd ∧ excLine cd.mro = true ∧ cd.hasDict = true := by
  obtain ⟨cd, h1, h2⟩ := any_some c.over
  obtain ⟨cd', h3, h4⟩ := any_some c.hd
  rw [h1] at h3
  cases h3
  exact ⟨cd, h1, h2, h4⟩
theorem XC.isObj (c : XC K C) : mroIn K C (.type "object") = some true := by
  obtain ⟨cd, h1, h2, _⟩ := c.mro
  obtain ⟨a, _, b⟩ := line_has h2
  unfold mroIn
  rw [h1, Option.bind_some, if_neg (by rw [b]; decide), a]
theorem XC.isExc (c : XC K C) : mroIn K C (.type "BaseException") = some true := by
  obtain ⟨cd, h1, h2, _⟩ := c.mro
  obtain ⟨_, a, b⟩ := line_has h2
  unfold mroIn
  rw [h1, Option.bind_some, if_neg (by rw [b]; decide), a]
theorem osa_x {tk : Tok} (X : K.In s.heap) (c : XC K C) (I : InstAt s.heap x ox C od) (ha : findIn K (.ref C) name = some none)
    (h : wpAny (model prog w) A.in1 (storeInOwnDict (.ref x) (.ref C) (.str name tk) name v false)
      (fun fin s' => match fin with | .done f => R (.ok f) s' | .again c' => c'.quiet = true ∧ codeAny (model prog w) A c' R s') (fun e s' => R (.error e) s') s) :
    codeAny (model prog w) A (.call (.builtin "object.__setattr__") ⟨[.ref x, .str name tk, v], []⟩) R s := by
  have SF := PySem.F.store_object
  obtain ⟨cd, hc, hl, _⟩ := c.mro
  have sub : Looks (model prog w) s.heap (isInstance (.ref x) (.type "object")) true := I.type.andThen (looks_mroIn X c.isObj)
  refine codeAny_call_builtin SF.slot.plain SF.entry (@check_slot (model prog w) _ _ s "object.__setattr__" "object" "__setattr__" (.ref x) [.str name tk, v] [] _ SF.kind SF.split sub (SF.args (.ref x) (.str name tk) v) ?_)
  have hm : Looks (model prog w) s.heap (mroOf (.ref C)) cd.mro := (looks_clsIn X hc).andThen .now
  rw [osa_eq, refuse_eq]
  refine wpAny_bind (wpAny_bind (I.type.here (wpAny_bind (hm.here ?_))))
  rw [line_pass _ hl]
  refine wpAny_pure (wpAny_bind (I.type.here (wpAny_bind ((looks_findIn X ha).here (wpAny_bind ((Looks.now (a := (none : Option Value))).here ?_))))))
  exact h
theorem own_x (X : K.In s.heap) (c : XC K C) (hx : s.heap.get? x = some ox) (hc : ox.cls = .ref C) (ho : ox.dict = some dx) {Q : Option Addr → Shared → Prop} (h : Q (some dx) s) :
    wpAny (model prog w) A (ownDictForStores (.ref x)) Q E s := by
  obtain ⟨cd, h1, _, h2⟩ := c.mro
  unfold ownDictForStores instanceDict
  refine wpAny_bind (wpAny_loadPart hx ?_)
  rw [hc]
  refine wpAny_bind ((looks_clsIn X h1).here ?_)
  rw [h2, ho]
  exact wpAny_pure h
theorem set_x1 {ns : List Str} {mA : Str → Option Value} {Q : Unit → Shared → Prop} (X : K.In s.heap) (c : XC K C) (hx : s.heap.get? x = some ox) (hc : ox.cls = .ref C) (hn : notCls ox = true) (ho : ox.dict = some dx) (hm : s.heap.Ns1 dx mA)
    (ha : findIn K (.ref C) name = some none) (hw : PySem.Within mA ns) (hz : ns.length ≤ sizeLine)
    (h : ∀ h', h'.Ns1 dx (fun y => if y = name then some v else mA y) → Heap.SameBut dx s.heap h' → Q () { s with heap := h', toks := s.toks + 2 }) :
    wpAny (model prog w) A (setAttr (.ref x) name v) Q E s := by
  obtain ⟨o1, _, _, g1, _⟩ := id hm
  have I : InstAt s.heap x ox C (some o1) := ⟨hx, hc, hn, by rw [ho]; exact g1⟩
  refine set_plain X I c.sa (osa_x (s := { s with toks := s.toks + 1 }) X c I ha ?_)
  refine wpAny_bind (wpAny_pure (wpAny_bind (own_x (s := { s with toks := s.toks + 1 }) X c hx hc ho ?_)))
  refine wpAny_bind (wpAny_pure (wpAny_bind ?_))
  refine wpAny_nsSet1 (s := { s with toks := s.toks + 1 }) hm fun h' n2 s2 => ?_
  obtain ⟨oD, eD, pD, gD, dD, cD⟩ := n2.count (PySem.Within.cons name v hw)
  refine wpAny_bind (wpAny_lookBehind gD (by rw [dD]; exact pastItsLine_dict (Nat.le_trans cD (by rw [List.length_cons]; omega))) ?_)
  exact wpAny_pure (h _ n2 s2)
theorem set_x0 {Q : Unit → Shared → Prop} (X : K.In s.heap) (c : XC K C) (hx : s.heap.get? x = some ox) (hc : ox.cls = .ref C) (hn : notCls ox = true) (ho : ox.dict = none) (hf : ox.isFreed = false)
    (ha : findIn K (.ref C) name = some none)
    (h : ∀ h', h'.get? x = some { ox with dict := some s.heap.objs.size } → h'.Ns1 s.heap.objs.size (fun y => if y = name then some v else none) →
      (∀ b o, b ≠ x → s.heap.get? b = some o → h'.get? b = some o) → s.heap.objs.size ≤ h'.objs.size → Q () { s with heap := h', toks := s.toks + 2 }) :
    wpAny (model prog w) A (setAttr (.ref x) name v) Q E s := by
  obtain ⟨cd, h1, _, h2⟩ := c.mro
  have I : InstAt s.heap x ox C none := ⟨hx, hc, hn, by rw [ho]; trivial⟩
  refine set_plain X I c.sa (osa_x (s := { s with toks := s.toks + 1 }) X c I ha ?_)
  refine wpAny_bind (wpAny_pure (wpAny_bind ?_))
  unfold ownDictForStores instanceDict
  refine wpAny_bind (wpAny_loadPart (s := { s with toks := s.toks + 1 }) hx ?_)
  rw [hc]
  refine wpAny_bind ((looks_clsIn X h1).here (s := { s with toks := s.toks + 1 }) ?_)
  rw [h2, ho, if_neg (by simp)]
  obtain ⟨oc, odi, oda, osl⟩ := ox
  dsimp only at hc ho
  subst hc ho
  have hx1 : (s.heap.push { cls := .type "dict", data := .dict #[] }).get? x = some ⟨.ref C, none, oda, osl⟩ := Heap.get?_push_of_some _ hx
  have nx : x ≠ s.heap.objs.size := Nat.ne_of_lt (Heap.lt_size hx)
  have key : wpAny (model prog w) A.in1 (do let d ← alloc { cls := .type "dict", data := .dict #[] }; update x (fun o => { o with dict := some d }); dictMade (.ref C) x d)
      (fun a s' => wpAny (model prog w) A.in1 (match a with | some d => storeInDict d (.str name s.toks) name v | none => noDictFor (.ref x) (.ref C) name false)
        (fun fin s' => match fin with
          | .done f => (match (Except.ok f : Result) with | .ok (.ret _) => Q () s' | .ok _ => False | .error e => E e s')
          | .again c' => c'.quiet = true ∧ codeAny (model prog w) A c' (fun r s' => match r with | .ok (.ret _) => Q () s' | .ok _ => False | .error e => E e s') s')
        (fun e s' => E e s') s') (fun e s' => E e s') { s with toks := s.toks + 1 } := by
    refine wpAny_bind (wpAny_alloc' ?_)
    refine wpAny_bind (wpAny_update' hx1 ?_)
    refine wpAny_pure ?_
    dsimp only
    have g2 : ((s.heap.push { cls := .type "dict", data := .dict #[] }).update x fun o => { o with dict := some s.heap.objs.size }).get? s.heap.objs.size = some { cls := .type "dict", data := .dict #[] } :=
      (Heap.get?_update_ne _ _ _ _ nx.symm).trans (Heap.get?_push_at rfl rfl)
    have n2 : ((s.heap.push { cls := .type "dict", data := .dict #[] }).update x fun o => { o with dict := some s.heap.objs.size }).Ns s.heap.objs.size (fun _ => none) :=
      ⟨_, #[], _, g2, rfl, fun e he => absurd he (by simp), fun _ => rfl⟩
    unfold storeInDict newKeyGuard
    refine wpAny_bind (wpAny_pure (wpAny_bind (wpAny_nsSet1 (Heap.Ns1.of_empty n2) fun h' n3 s3 => ?_)))
    obtain ⟨oD, eD, pD, gD, dD, cD⟩ := n3.count (Within.cons name v Within.nil)
    refine wpAny_bind (wpAny_lookBehind gD (by rw [dD]; exact pastItsLine_dict (Nat.le_trans cD (by rw [List.length_cons, List.length_nil, sizeLine_eq]; omega))) ?_)
    refine wpAny_pure (h h' ?_ n3 (fun b o bx hb => ?_) ?_)
    · refine (s3.2 x nx).trans (Heap.get?_update_self _ hx1 ?_)
      cases oda <;> first | rfl | exact hf
    · exact (s3.2 b (Nat.ne_of_lt (Heap.lt_size hb))).trans ((Heap.get?_update_ne _ _ _ _ bx).trans (Heap.get?_push_of_some _ hb))
    · rw [s3.1, Heap.size_after_update, Heap.size_push]
      exact Nat.le_succ _
  cases oda <;> first | exact key | cases hn
theorem ga_bind (v : Value) : bindSpecial (.builtin "BaseException.__getattribute__") v = pure (.builtin "BaseException.__getattribute__", [v]) := by
  have f := PySem.F.attr_ValueError.ga.bind v
  exact f
theorem ga_plain : plainId "BaseException.__getattribute__" = true := PySem.F.attr_ValueError.ga.plain
theorem get_xo {Q : Value → Shared → Prop} {expr fill : Bool} {tk : Tok} (X : K.In s.heap) (c : XC K C) (I : InstAt s.heap x ox C od)
    (h : wpAny (model prog w) A.in1 (Builtin.«object.__getattribute__» ⟨[.ref x, .str name tk], []⟩)
      (fun fin s' => match fin with | .done (.ret v) => wpAny (model prog w) A (handedOut v) Q E s' | _ => False) (fun _ _ => False) s) :
    wpAny (model prog w) A (getAttrBy (.ref x) (.str name tk) fill expr) Q E s := by
  obtain ⟨hh, g, d, t, os⟩ := s
  have L0 := I.type (M := model prog w)
  have L1 := looks_findIn (M := model prog w) X c.ga
  have L2 := looks_findIn (M := model prog w) X c.gh
  have sub : Looks (model prog w) hh (isInstance (.ref x) (.type "BaseException")) true := I.type.andThen (looks_mroIn X c.isExc)
  have f2 : (onTheHeap (Value.ref C) && Value.builtin "BaseException.__getattribute__" == Value.builtin "object.__getattribute__") = false := by
    rw [show (Value.builtin "BaseException.__getattribute__" == Value.builtin "object.__getattribute__") = false from by decide +kernel]; rfl
  have f3 : (expr && onTheHeap (Value.builtin "BaseException.__getattribute__")) = false := by cases expr <;> rfl
  unfold getAttrBy
  refine wpAny_holding (wpAny_bind (L0.at (wpAny_bind (L1.at ?_))))
  dsimp only
  rw [f2]
  simp only [Bool.false_eq_true, if_false]
  unfold getAttrByItsOwn hookBefore
  refine wpAny_bind (L2.at (wpAny_bind (wpAny_attempt (wpAny_holding ?_))))
  unfold callGetattribute
  rw [f3]
  simp only [Bool.false_eq_true, if_false]
  unfold boundAndCalled
  rw [ga_bind]
  refine wpAny_bind (wpAny_pure (wpAny_call (codeAny_call_builtin ga_plain PySem.F.entry_bexc_ga
    (@check_slot (model prog w) _ _ ⟨hh, g, d, t, os⟩ "BaseException.__getattribute__" "BaseException" "__getattribute__" (.ref x) [.str name tk] [] _ (by decide +kernel) (by decide +kernel) sub (PySem.F.args_bexc_ga _ _) ?_))))
  refine wpAny_mono h (fun fin s' z => ?_) fun e s' z => z.elim
  rcases fin with (_ | _ | _ | _) | _ <;> first | exact z | exact z.elim
theorem get_x {Q : Value → Shared → Prop} {expr : Bool} (X : K.In s.heap) (c : XC K C) (hx : s.heap.get? x = some ox) (hc : ox.cls = .ref C) (hn : notCls ox = true) (ho : ox.dict = some dx) {o1 : Obj} (g1 : s.heap.get? dx = some o1) (hl : lookIn name o1 = some (some v))
    (ha : findIn K (.ref C) name = some none) (hv : handedIn v = true) (h : Q v { s with toks := s.toks + 1 }) :
    wpAny (model prog w) A (getAttr (.ref x) name expr) Q E s := by
  have I : InstAt s.heap x ox C (some o1) := ⟨hx, hc, hn, by rw [ho]; exact g1⟩
  have hf : findObj K C (some o1) name = some (.value v) := findObj_own c.hd ha rfl hl
  unfold getAttr
  refine wpAny_bind (wpAny_mkText ?_)
  refine get_xo (s := { s with toks := s.toks + 1 }) X c I ?_
  have L0 := I.type (M := model prog w)
  have L1 := looks_find (M := model prog w) X I hf
  obtain ⟨hh, g, d, t, os⟩ := s
  refine wpAny_bind (wpAny_pure (wpAny_bind (wpAny_pure (wpAny_bind (L0.at (wpAny_bind (L1.at ?_)))))))
  refine wpAny_pure ?_
  show wpAny _ _ (handedOut v) _ _ _
  rw [handedOut_of hv]
  exact wpAny_pure h
theorem get_xcls {Q : Option Value → Shared → Prop} (X : K.In s.heap) (c : XC K C) (I : InstAt s.heap x ox C od) (h : Q (some (.ref C)) { s with toks := s.toks + 1 }) :
    wpAny (model prog w) A (getAttr? (.ref x) "__class__") Q E s := by
  obtain ⟨cd, h1, _, h2⟩ := c.mro
  have hf : findObj K C od "__class__" = some (.bind (.builtin "getset_descriptor.__get__") (.builtin "object.__class__")) := by
    unfold findObj
    rw [h1, Option.bind_some, c.ca, Option.bind_some]
    simp [c.cg, c.ct]
  unfold getAttr? getAttrBy?
  refine wpAny_bind (wpAny_mkText (wpAny_bind (wpAny_attempt ?_)))
  refine get_xo (s := { s with toks := s.toks + 1 }) X c I ?_
  have L0 := I.type (M := model prog w)
  have L1 := looks_find (M := model prog w) X I hf
  refine wpAny_bind (wpAny_pure (wpAny_bind (wpAny_pure (wpAny_bind (L0.here (s := { s with toks := s.toks + 1 }) (wpAny_bind (L1.here (s := { s with toks := s.toks + 1 }) ?_)))))))
  show wpAny _ _ (holding [_] (call _ [_, .ref x, .ref C]) >>= ret) _ _ _
  refine wpAny_bind (wpAny_holding (wpAny_call (class_get (s := { s with toks := s.toks + 1 }) (ox := ox) (od := od) X I c.isObj ?_)))
  refine wpAny_pure ?_
  show wpAny _ _ (handedOut (.ref C)) _ _ _
  exact wpAny_pure (wpAny_pure h)
end
end XL
set_option maxRecDepth 100000
namespace XL
open PySem
theorem isStr_ne {x y : Str} {v : Value} (hx : v.isStr x = true) (n : y ≠ x) : v.isStr y = false := by
  cases v <;> simp_all [Value.isStr]
  exact fun z => n z.symm
theorem find_erase {name y : Str} (n : y ≠ name) : ∀ (l : List DictEntry) (i : Nat), l.findIdx? (·.key.isStr name) = some i → (l.eraseIdx i).find? (·.key.isStr y) = l.find? (·.key.isStr y)
  | [], i, h => by simp at h
  | e :: r, i, h => by
    rw [List.findIdx?_cons] at h
    by_cases q : e.key.isStr name = true
    · rw [if_pos q] at h
      cases h
      have z := isStr_ne q n
      simp [z]
    · rw [if_neg q] at h
      cases hi : r.findIdx? (·.key.isStr name) with
      | none => rw [hi] at h; cases h
      | some j =>
        rw [hi] at h
        cases h
        have ih := find_erase n r j hi
        simp only [List.eraseIdx_cons_succ, List.find?_cons]
        split
        · rfl
        · exact ih
section
variable {M : Model} {A : Around} {E : Value → Shared → Prop} {s : Shared} {env : Env}
theorem nsDel_x {a : Addr} {m : Str → Option Value} {name : Str} {Q : Bool → Shared → Prop} (hn : s.heap.Ns a m)
    (k : ∀ h' m', h'.Ns a m' → (∀ y, y ≠ name → m' y = m y) → Heap.SameBut a s.heap h' → Q (m name).isSome { s with heap := h' }) : wpAny M A (nsDel a name) Q E s := by
  obtain ⟨o, es, ep, ho, hd, hk, hm⟩ := id hn
  have nor : es.any (·.refKey) = false := by
    rw [Array.any_eq_false']
    intro e he
    obtain ⟨n, t, h⟩ := hk e he
    simp [DictEntry.refKey, h]
  have some_eq : (m name).isSome = es.any (·.key.isStr name) := by
    rw [← hm name]
    simp only [nsFind, findBy, Option.isSome_map]
    rw [Bool.eq_iff_iff]
    simp only [Array.find?_isSome, Array.any_eq_true]
    constructor
    · rintro ⟨z, hz, hp⟩
      obtain ⟨i, hi, rfl⟩ := Array.mem_iff_getElem.mp hz
      exact ⟨i, hi, hp⟩
    · rintro ⟨i, hi, hp⟩
      exact ⟨_, Array.getElem_mem hi, hp⟩
  have has : nsHas name o = pure (es.any (·.key.isStr name)) := by
    rw [nsHas_eq]
    unfold nsHasByArray
    rw [hd]
    show (if (es.any fun z => z.key.isStr name) = true then _ else _) = _
    generalize (es.any fun z => z.key.isStr name) = b
    cases b <;> simp [nor]
  unfold nsDel
  refine wpAny_bind (wpAny_loadPart ho ?_)
  rw [has]
  refine wpAny_bind (wpAny_pure ?_)
  rw [← some_eq]
  cases q : (m name).isSome
  · have z := k s.heap m hn (fun _ _ => rfl) (.refl ..)
    rw [q] at z
    exact wpAny_pure z
  · refine wpAny_bind (wpAny_updatePart ho (wpAny_pure ?_))
    have key : ∃ m', (s.heap.update a (Obj.dropName name)).Ns a m' ∧ ∀ y, y ≠ name → m' y = m y := by
      obtain ⟨cl, d, dt, sl⟩ := o
      subst hd
      cases hi : es.findIdx? (·.key.isStr name) with
      | none =>
        exact ⟨m, ⟨_, _, ep, Heap.get?_update_self _ ho (by simp only [Obj.dropName_eq, Obj.dropNameByArray, hi] <;> rfl), (by simp only [Obj.dropName_eq, Obj.dropNameByArray, hi] <;> rfl), hk, hm⟩, fun _ _ => rfl⟩
      | some i =>
        refine ⟨_, ⟨_, _, ep + 1, Heap.get?_update_self _ ho (by simp only [Obj.dropName_eq, Obj.dropNameByArray, hi] <;> rfl), (by simp only [Obj.dropName_eq, Obj.dropNameByArray, hi] <;> rfl), hk.erase i, fun _ => rfl⟩, fun y hy => ?_⟩
        rw [← hm y]
        obtain ⟨l⟩ := es
        have hi' : l.findIdx? (·.key.isStr name) = some i := by simpa using hi
        have z := find_erase hy l i hi'
        simp only [nsFind, findBy]
        have il : i < l.length := by
          have := List.findIdx?_eq_some_iff_findIdx_eq.mp hi'
          exact this.1
        have e1 : (Array.mk l).eraseIdxIfInBounds i = Array.mk (l.eraseIdx i) := by
          simp [Array.eraseIdxIfInBounds, il]
        rw [e1]
        simp only [List.find?_toArray]
        rw [z]
    obtain ⟨m', n', e'⟩ := key
    have z := k _ m' n' e' (Heap.SameBut.update ..)
    rw [q] at z
    exact z
theorem name_gone {n : Str} {pos : Pos} {m : Str → Option Value} {Q : Unit → Shared → Prop} (hl : env.kindOf n = some .local) (hn : s.heap.Ns env.locals m)
    (hp : (env.scope.kind == .class || (env.scope.kind == .module && env.locals != env.globals)) = false)
    (h : ∀ h' m', h'.Ns env.locals m' → (∀ y, y ≠ n → m' y = m y) → Heap.SameBut env.locals s.heap h' → Q () { s with heap := h', toks := s.toks + 1 }) :
    wpAny M A (do bindName env n .none; unbindBehindTheSuite env n pos) Q E s := by
  refine wpAny_bind (wpAny_bindName (wpAny_storeName_local hl hn (fun h1 n1 s1 => ?_) hp))
  unfold unbindBehindTheSuite
  refine wpAny_onRaise ?_
  unfold unbindName
  refine wpAny_bind (wpAny_point (wpAny_bind ?_))
  unfold deleteName
  simp only [hl, hp]
  rw [if_neg (by decide)]
  refine wpAny_bind (nsDel_x n1 fun h2 m2 n2 e2 s2 => ?_)
  simp only [if_true, Option.isSome_some, Bool.not_true, Bool.false_eq_true, if_false]
  refine wpAny_pure (wpAny_point (h h2 m2 n2 (fun y hy => ?_) (s1.trans s2)))
  rw [e2 y hy, if_neg hy]
end
end XL
set_option maxRecDepth 100000
namespace L2
open PySem PySem.Spec PyProof.Rows XL
variable {q0 : Bool}
def XN (e C : Addr) (od : Option Addr) : HO := .ext fun h => Xat h e (.ref C) od none
def XO (e C : Addr) (od : Option Addr) : HO := .ext fun h => ∃ ox vs, h.get? e = some ox ∧ ox.cls = .ref C ∧ ox.dict = od ∧ ox.data = .fields vs
def XD (dx : Addr) (fs : List (Str × V)) : HO := .ext fun h => fs.length ≤ 1000 ∧ ∃ mA, h.Ns1 dx mA ∧ (∀ f, RelO (fs.lookup f) (mA f)) ∧ PySem.Within mA (fs.map (·.1))
section
variable {P : Program} {w : World} {H : Hp} {h : Heap} {e C dx : Addr} {od : Option Addr} {fs : List (Str × V)}
theorem xn_ok (x : Xat h e (.ref C) od none) : ObjOk P w H h e (XN e C od) := by
  refine ⟨x, ?_, fun h1 h2 z k => ?_⟩
  · obtain ⟨oe, _, g, _⟩ := x
    exact ⟨oe, g⟩
  · obtain ⟨oe, vs, g, c, o, d, sz, y⟩ := z
    rcases y with y | ⟨T, _, _, z, _⟩
    · exact ⟨oe, vs, k oe g, c, o, d, sz, .inl y⟩
    · cases z
theorem xo_ok (x : ∃ ox vs, h.get? e = some ox ∧ ox.cls = .ref C ∧ ox.dict = od ∧ ox.data = .fields vs) : ObjOk P w H h e (XO e C od) := by
  refine ⟨x, ?_, fun h1 h2 z k => ?_⟩
  · obtain ⟨oe, _, g, _⟩ := x
    exact ⟨oe, g⟩
  · obtain ⟨oe, vs, g, c, o, d⟩ := z
    exact ⟨oe, vs, k oe g, c, o, d⟩
theorem xat_xo {tb : Option Addr} (x : Xat h e (.ref C) od tb) : ∃ ox vs, h.get? e = some ox ∧ ox.cls = .ref C ∧ ox.dict = od ∧ ox.data = .fields vs := by
  obtain ⟨oe, vs, g, c, o, d, _⟩ := x
  exact ⟨oe, vs, g, c, o, d⟩
theorem ns1_at {h1 h2 : Heap} {m : Str → Option Value} (n : h1.Ns1 dx m) (k : ∀ o, h1.get? dx = some o → h2.get? dx = some o) : h2.Ns1 dx m := by
  obtain ⟨o, es, ep, g, r⟩ := n
  exact ⟨o, es, ep, k o g, r⟩
theorem xd_ok (hl : fs.length ≤ 1000) {mA : Str → Option Value} (n : h.Ns1 dx mA) (r : ∀ f, RelO (fs.lookup f) (mA f)) (wi : PySem.Within mA (fs.map (·.1))) : ObjOk P w H h dx (XD dx fs) := by
  refine ⟨⟨hl, mA, n, r, wi⟩, ?_, fun h1 h2 z k => ?_⟩
  · obtain ⟨o, es, ep, g, _⟩ := n
    exact ⟨o, g⟩
  · obtain ⟨hl, mA, n, r, wi⟩ := z
    exact ⟨hl, mA, ns1_at n k, r, wi⟩
end
def CXo (P : Program) (w : World) : CXT := fun outer H s E u s' => ∃ e C od H' T, u = .ref e ∧ s'.os = s.os ∧ AllBare s'.gens ∧ Un (frs outer) [] H H' s.heap s'.heap ∧ HOk P w H' s'.heap ∧
  Xat s'.heap e (.ref C) od (some T) ∧ H' e = some (XO e C od) ∧ s.heap.objs.size ≤ T ∧ H' T = none ∧ E e C H'
def Tbs (X : Cx) (pins : List (Addr × Obj)) (H : Hp) (tb : Option Addr) : Prop := ∀ T, tb = some T → X.s₀.heap.objs.size ≤ T ∧ H T = none ∧ T ≠ X.env.locals ∧ (∀ x c, X.env.cells.lookup x = some c → c ≠ T) ∧ ∀ p ∈ X.pn ++ pins, p.1 ≠ T
def Takes (X : Cx) (E : St → XK) : Prop := ∀ (pins : List (Addr × Obj)) (σ : St) (H : Hp) (s : Shared) (e C : Addr) (od tb : Option Addr), Inv X pins σ H s → Xat s.heap e (.ref C) od tb → H e = some (XO e C od) →
  Tbs X pins H tb → E σ e C H → X.xe (.ref e) s
section
variable {X : Cx} {pins : List (Addr × Obj)} {σ : St} {H : Hp} {s : Shared} {e C : Addr} {od tb : Option Addr}
theorem Inv.size_lt (I : Inv X pins σ H s) {b : Addr} (h : s.heap.objs.size ≤ b) : H b = none ∧ b ≠ X.env.locals ∧ (∀ x c, X.env.cells.lookup x = some c → c ≠ b) ∧ ∀ p ∈ X.pn ++ pins, p.1 ≠ b := by
  refine ⟨I.hok.fresh h, fun z => ?_, fun x c hc z => ?_, fun p hp z => ?_⟩
  · rw [z] at h
    exact absurd I.lt (Nat.not_lt.mpr h)
  · obtain ⟨v, o, ho, _⟩ := I.cell x c hc
    rw [z] at ho
    exact absurd (Heap.lt_size ho) (Nat.not_lt.mpr h)
  · have g := (I.pin p hp).1
    rw [z] at g
    exact absurd (Heap.lt_size g) (Nat.not_lt.mpr h)
theorem Inv.noted {h' : Heap} {T : Addr} (I : Inv X pins σ H s) (he : H e = some (XO e C od)) (tbs : Tbs X pins H tb) (st : Stp (frs X.stack) e tb s.heap h') (x : Xat h' e (.ref C) od (some T)) :
    Inv X pins σ H { s with heap := h' } := by
  have neE : ∀ b, H b = none → b ≠ e := fun b n z => by rw [z, he] at n; cases n
  have neT : ∀ b u, H b = some u → tb ≠ some b := fun b u hb z => by rw [(tbs b z).2.1] at hb; cases hb
  have nfr : ∀ b u, H b = some u → b ∉ frs X.stack := fun b u hb z => by rw [I.stkFree b z] at hb; cases hb
  have kp : ∀ b u o, H b = some u → b ≠ e → s.heap.get? b = some o → h'.get? b = some o := fun b u o hb ne g => st.keep b o g ne (neT b u hb) (nfr b u hb)
  have un : Un (frs X.stack) tb.toList H H s.heap h' := by
    refine ⟨fun b o g n hb hx => st.keep b o g (neE b n) (fun z => hx (by rw [z]; simp)) hb, fun b o g n hb hx => st.slot b o g hb, fun b o g n hx => n, fun b o g hx => ?_, fun b xs z => z, fun b o u z => z, fun b ps z => ⟨#[], by rw [z]; simp⟩⟩
    by_cases b1 : b = e
    · subst b1
      obtain ⟨oe, _, ge, _⟩ := x
      exact ⟨oe, ge⟩
    · by_cases b2 : b ∈ frs X.stack
      · obtain ⟨sl, q⟩ := st.slot b o g b2
        exact ⟨_, q⟩
      · exact ⟨o, st.keep b o g b1 (fun z => hx (by rw [z]; simp)) b2⟩
  have hok : HOk X.prog X.w H h' := fun b u hb => by
    by_cases b1 : b = e
    · subst b1
      rw [he] at hb
      cases hb
      exact xo_ok (xat_xo x)
    · refine (I.hok b u hb).stay (fun c v hc q => ?_) (fun c q => q) fun c xs q => q
      rcases hc with rfl | hc
      · exact kp c u v hb b1 q
      · exact kp c _ v hc (fun z => by rw [z, he] at hc; cases hc) q
  refine I.call (g' := s.gens) (d' := s.drawn) (t' := s.toks) (ch := tb.toList) un hok I.bare fun b hb => ?_
  have z : tb = some b := by
    cases tb with
    | none => simp at hb
    | some T' => simp at hb; rw [hb]
  obtain ⟨a1, _, a3, a4, a5⟩ := tbs b z
  exact ⟨.inr a1, a3, a4, a5⟩
theorem Takes.pass {E : St → XK} (t : Takes X E) : Passes (CXo X.prog X.w) X E := fun pins σ H s u s' I h => by
  obtain ⟨e, C, od, H', T, rfl, os, bare, un, hok, x, he, sT, hT, q⟩ := h
  have J : Inv X pins σ H' s' := I.call' os un hok bare (ch := []) fun b z => absurd z (by simp)
  refine t pins σ H' s' e C od (some T) J x he (fun T' z => ?_) q
  cases z
  obtain ⟨_, a, b, c⟩ := I.size_lt sT
  exact ⟨Nat.le_trans I.sz sT, hT, a, b, c⟩
theorem pass_none : Passes (CXo X.prog X.w) X (fun _ _ _ _ => False) := fun pins σ H s u s' I h => by
  obtain ⟨e, C, od, H', T, _, _, _, _, _, _, _, _, _, q⟩ := h
  exact q.elim
theorem takes_def {P : Program} {w : World} {K : PySem.W.Frag} {mg : Str → Option Value} {base : Heap} {N : List Str} {qual : Str} {scope : Scope} {f : Addr} {cd : Value} {A : Around} {outer : List Env} {s₀ : Shared} {H₀ : Hp} {E : XK} :
    Takes (cxOf q0 (CXo P w) P w K mg base N qual scope f cd A outer s₀ H₀ E) (fun _ => E) := fun pins σ H s e C od tb I x he tbs q => by
  show wpAny (model P w) _ (leaving _ (.ref e)) _ _ s
  unfold leaving
  refine wpAny_bind (note_x (L := s₀.heap.objs.size) I.ok.frames I.stack rfl x fun h' T st sT x' => ?_)
  have J := I.noted he tbs st x'
  exact ⟨e, C, od, H, T, rfl, J.os, J.bare, J.base, J.hok, x', he, Nat.le_trans I.sz sT, I.hok.fresh sT, q⟩
end
end L2
set_option maxRecDepth 100000
namespace XL
open PySem PySem.W
def strKey (e : DictEntry) : Bool := match e.key with | .str _ _ => true | _ => false
def nsNoInit (K : Frag) (ns : Addr) : Bool := match K.lookup ns with
  | some ⟨_, _, .dict es _, _⟩ => es.toList.all strKey && !(es.toList.any (·.key.isStr "__init__"))
  | _ => false
def tailIn (K : Frag) : List Value → Bool
  | [] => false
  | .ref a :: r => (match K.lookup a with
      | some ⟨_, _, .cls cd, _⟩ => nsNoInit K cd.ns && tailIn K r
      | _ => false)
  | v :: r => (v :: r) == vErr
theorem ns_of {K : Frag} {h : Heap} {ns : Addr} (X : K.In h) (e : nsNoInit K ns = true) : ∃ mA, h.Ns ns mA ∧ mA "__init__" = none := by
  unfold nsNoInit at e
  split at e
  · rename_i es n sl ho
    obtain ⟨e1, e2⟩ := Bool.and_eq_true_iff.mp e
    refine ⟨_, ⟨_, es, _, X _ _ ho, rfl, fun z hz => ?_, fun _ => rfl⟩, ?_⟩
    · have q := List.all_eq_true.mp e1 z (Array.mem_toList_iff.mpr hz)
      unfold strKey at q
      split at q
      · rename_i a b c
        exact ⟨a, b, c⟩
      · cases q
    · unfold nsFind findBy
      rw [← Array.find?_toList]
      have z : es.toList.find? (fun e => e.key.isStr "__init__") = none := by
        rw [List.find?_eq_none]
        intro y hy q
        rw [Bool.not_eq_true', List.any_eq_false] at e2
        exact e2 y hy q
      rw [z]
      rfl
  · cases e
theorem tail_of {K : Frag} {h : Heap} (X : K.In h) : ∀ {l : List Value}, tailIn K l = true → OwnTail h vErr l
  | [], e => by cases e
  | v :: r, e => by
    have last : ((v :: r : List Value) == vErr) = true → OwnTail h vErr (v :: r) := fun z => by
      rw [eq_of_beq z]
      exact .base
    cases v with
    | ref a =>
      unfold tailIn at e
      split at e
      · rename_i c d cd sl ho
        obtain ⟨e1, e2⟩ := Bool.and_eq_true_iff.mp e
        obtain ⟨mA, n, z⟩ := ns_of X e1
        exact .own (X _ _ ho) n z (tail_of X e2)
      · cases e
    | _ => exact last e
def xmkIn (K : Frag) (C : Addr) : Bool := match K.lookup C with
  | some ⟨.type "type", _, .cls cd, sl⟩ => (match cd.mro, sl.toList with
    | .ref C' :: bm, [_, _, _, _, some (.builtin i), _] => C' == C && !cd.hasDel && i == "ValueError.__new__" && tailIn K bm
    | _, _ => false)
  | _ => false
theorem xmk_of {K : Frag} {h : Heap} {C : Addr} (X : K.In h) (q : xmkIn K C = true) : ∃ nm qn N bs bm hz sn sub ab col dd k0 k1 k2 k3 k5,
    h.get? C = some (excClassObj nm qn C N bs bm hz sn sub ab col dd k0 k1 k2 k3 k5 "ValueError.__new__") ∧ OwnTail h vErr bm := by
  unfold xmkIn at q
  split at q
  · rename_i dd cd sl ho
    split at q
    · rename_i C' bm k0 k1 k2 k3 n k5 hm hs
      simp only [Bool.and_eq_true, beq_iff_eq, Bool.not_eq_true'] at q
      obtain ⟨⟨⟨rfl, hdel⟩, rfl⟩, ht⟩ := q
      obtain ⟨nm, bs, mro, ns, qn, hd, sn, sub, ab, col, del⟩ := cd
      dsimp only at hm hdel
      subst hm hdel
      have hsl : sl = #[k0, k1, k2, k3, some (.builtin "ValueError.__new__"), k5] := by
        obtain ⟨l⟩ := sl
        simp only at hs
        rw [hs]
      subst hsl
      exact ⟨nm, qn, ns, bs, bm, hd, sn, sub, ab, col, dd, k0, k1, k2, k3, k5, X _ _ ho, tail_of X ht⟩
    · cases q
  · cases q
end XL
namespace L2
open PySem PySem.Spec PyProof.Rows XL
variable {q0 : Bool}
section
variable {X : Cx} {pins : List (Addr × Obj)} {σ : St} {H : Hp} {s : Shared} {a C dx : Addr} {od : Option Addr} {fs : List (Str × V)} {f : Str} {v y : V} {u : Value} {A : Around} {E : Value → Shared → Prop}
theorem xn_at (I : Inv X pins σ H s) (e : H a = some (XN a C od)) : Xat s.heap a (.ref C) od none := (I.hok a _ e).1
theorem xo_at (I : Inv X pins σ H s) (e : H a = some (XO a C od)) : ∃ ox vs, s.heap.get? a = some ox ∧ ox.cls = .ref C ∧ ox.dict = od ∧ ox.data = .fields vs := (I.hok a _ e).1
theorem xd_at (I : Inv X pins σ H s) (e : H dx = some (XD dx fs)) : fs.length ≤ 1000 ∧ ∃ mA, s.heap.Ns1 dx mA ∧ (∀ f, RelO (fs.lookup f) (mA f)) ∧ PySem.Within mA (fs.map (·.1)) := (I.hok dx _ e).1
theorem notCls_f {o : Obj} {vs : Array Value} (d : o.data = .fields vs) : PySem.W.notCls o = true := by
  unfold PySem.W.notCls
  rw [d]
theorem xset0_ok {Q : Unit → Shared → Prop} (I : Inv X pins σ H s) (e : H a = some (XN a C none)) (c : XC X.K C) (n : PySem.W.findIn X.K (.ref C) f = some none) (ry : RelV y u)
    (h : ∀ dx s', H dx = none → Inv X pins σ (upd (upd H dx (XD dx [(f, y)])) a (XN a C (some dx))) s' → Q () s') : wpAny (model X.prog X.w) A (setAttr (.ref a) f u) Q E s := by
  obtain ⟨oe, vs, g, ce, oo, de, sz, tb⟩ := xn_at I e
  refine set_x0 I.kIn c g ce (notCls_f de) oo (Obj.isFreed_of_fields de) n fun h' g' n' k sz' => h s.heap.objs.size _ (I.hok.fresh (Nat.le_refl _)) ?_
  have hN : H s.heap.objs.size = none := I.hok.fresh (Nat.le_refl _)
  have nad : a ≠ s.heap.objs.size := fun z => by rw [z, hN] at e; cases e
  have na : ∀ b, H b = none → b ≠ a := fun b nb z => by rw [z, e] at nb; cases nb
  have nd : ∀ b o, s.heap.get? b = some o → b ≠ s.heap.objs.size := fun b o gb => Nat.ne_of_lt (Heap.lt_size gb)
  have nd' : ∀ b u, H b = some u → b ≠ s.heap.objs.size := fun b u hb z => by rw [z, hN] at hb; cases hb
  have at1 : ∀ b, b ≠ a → b ≠ s.heap.objs.size → upd (upd H s.heap.objs.size (XD s.heap.objs.size [(f, y)])) a (XN a C (some s.heap.objs.size)) b = H b := fun b b1 b2 => by rw [upd_ne b1, upd_ne b2]
  have xnew : Xat h' a (.ref C) (some s.heap.objs.size) none := ⟨_, vs, g', ce, rfl, de, sz, by
    rcases tb with t | ⟨T, _, _, z, _⟩
    · exact .inl t
    · cases z⟩
  have own1 : ∀ b c, H c = some (.own b) → c ≠ a := fun b c hc z => by rw [z, e] at hc; cases hc
  have tup1 : ∀ c xs, H c = some (.tup xs) → c ≠ a := fun c xs hc z => by rw [z, e] at hc; cases hc
  refine I.un ⟨fun b o gb nb _ _ => k b o (na b nb) gb, fun b o gb nb _ _ => ⟨o.slots, k b o (na b nb) gb⟩, fun b o gb nb _ => ?_, fun b o gb _ => ?_, fun b xs z => ?_, fun b o w z => ?_, fun b ps z => ⟨#[], ?_⟩⟩ fun b w hb => ?_
  · rw [at1 b (na b nb) (nd b o gb)]; exact nb
  · by_cases b1 : b = a
    · exact ⟨_, by rw [b1]; exact g'⟩
    · exact ⟨o, k b o b1 gb⟩
  · rw [at1 b (tup1 b xs z) (nd' b _ z)]; exact z
  · rw [at1 b (fun q => by rw [q, e] at z; cases z) (nd' b _ z)]; exact z
  · rw [at1 b (fun q => by rw [q, e] at z; cases z) (nd' b _ z), z]; simp
  · by_cases b1 : b = a
    · subst b1
      rw [upd_same] at hb
      cases hb
      exact xn_ok xnew
    · rw [upd_ne b1] at hb
      by_cases b2 : b = s.heap.objs.size
      · subst b2
        rw [upd_same] at hb
        cases hb
        refine xd_ok (by show 1 ≤ 1000; decide) n' (fun g => ?_) fun g hg => ?_
        · show RelO (List.lookup g [(f, y)]) (if g = f then some u else none)
          by_cases q : g = f
          · rw [if_pos q, q]
            simp only [List.lookup_cons, beq_self_eq_true]
            exact ry
          · rw [if_neg q]
            simp only [List.lookup_cons, beq_eq_false_iff_ne.mpr q]
            exact trivial
        · by_cases q : g = f
          · simp [q]
          · exact absurd (show (if g = f then some u else none) = none from if_neg q) hg
      · rw [upd_ne b2] at hb
        refine (I.hok b w hb).stay (fun c v hc q => ?_) (fun c q => ?_) fun c xs q => ?_
        · rcases hc with rfl | hc
          · exact k c v b1 q
          · exact k c v (own1 b c hc) q
        · rw [at1 c (own1 b c q) (nd' c _ q)]; exact q
        · rw [at1 c (tup1 c xs q) (nd' c _ q)]; exact q
theorem xset1_ok {Q : Unit → Shared → Prop} (I : Inv X pins σ H s) (e : H a = some (XN a C (some dx))) (ed : H dx = some (XD dx fs)) (hl : fs.length < 1000) (c : XC X.K C) (n : PySem.W.findIn X.K (.ref C) f = some none) (ry : RelV y u)
    (h : ∀ s', Inv X pins σ (upd H dx (XD dx (putF f y fs))) s' → Q () s') : wpAny (model X.prog X.w) A (setAttr (.ref a) f u) Q E s := by
  obtain ⟨oe, vs, g, ce, oo, de, sz, tb⟩ := xn_at I e
  obtain ⟨_, mA, nm, r, wi⟩ := xd_at I ed
  have hz : (fs.map (·.1)).length ≤ sizeLine := by rw [List.length_map, sizeLine_eq]; omega
  refine set_x1 I.kIn c g ce (notCls_f de) oo nm n wi hz fun h' n' sb => h _ ?_
  have hd : ∃ o, h'.get? dx = some o := let ⟨o, _, _, e', _⟩ := n'; ⟨o, e'⟩
  refine I.write (x := dx) (e := dx) (by rw [ed]; exact True.intro) (.inl rfl) (fun b q hb z => (sb.2 b hb).trans z) hd ?_
  refine xd_ok (Nat.le_trans (length_putF f y fs) hl) n' (fun g => ?_) fun g hg => ?_
  · show RelO ((putF f y fs).lookup g) (if g = f then some u else mA g)
    rw [lookup_putF]
    by_cases q : g = f
    · rw [if_pos q, if_pos q]; exact ry
    · rw [if_neg q, if_neg q]; exact r g
  · by_cases q : g = f
    · rw [q]; exact (keys_putF f y fs).1
    · refine (keys_putF f y fs).2 g (wi g fun z => hg ?_)
      show (if g = f then some u else mA g) = none
      rw [if_neg q]; exact z
theorem xget_ok {b : Bool} {Q : Value → Shared → Prop} (I : Inv X pins σ H s) (e : H a = some (XO a C (some dx))) (ed : H dx = some (XD dx fs)) (c : XC X.K C) (n : PySem.W.findIn X.K (.ref C) f = some none) (l : fs.lookup f = some v)
    (h : ∀ u s', Inv X pins σ H s' → RelV v u → Q u s') : wpAny (model X.prog X.w) A (getAttr (.ref a) f b) Q E s := by
  obtain ⟨ox, vs, g, ce, oo, de⟩ := xo_at I e
  obtain ⟨_, mA, nm, r, wi⟩ := xd_at I ed
  obtain ⟨u, hu, ru⟩ := RelO.some_of (v := v) (o := mA f) (by rw [← l]; exact r f)
  obtain ⟨o1, g1, hl⟩ := lookIn_ns nm
  exact get_x I.kIn c g ce (notCls_f de) oo g1 (by rw [hl, hu]) n (handed_of ru) (h u _ (I.tok _) ru)
end
def sXF (K : PySem.W.Frag) (ta tv : TE) (f : Str) : TS := fun D σ H => tv σ H fun y H1 => ta σ H1 fun x H2 => ∃ a C, x = .ref a ∧ XC K C ∧ PySem.W.findIn K (.ref C) f = some none ∧
  ((H2 a = some (XN a C none) ∧ ∀ dx, H2 dx = none → D.nx σ (upd (upd H2 dx (XD dx [(f, y)])) a (XN a C (some dx)))) ∨
   ∃ dx fs, H2 a = some (XN a C (some dx)) ∧ H2 dx = some (XD dx fs) ∧ fs.length < 1000 ∧ D.nx σ (upd H2 dx (XD dx (putF f y fs))))
def tXF (K : PySem.W.Frag) (ta : TE) (f : Str) : TE := fun σ H Q => ta σ H fun x H1 => ∃ a C dx fs v, x = .ref a ∧ H1 a = some (XO a C (some dx)) ∧ H1 dx = some (XD dx fs) ∧ XC K C ∧ PySem.W.findIn K (.ref C) f = some none ∧ fs.lookup f = some v ∧ Q v H1
section
variable {X : Cx} {o e value : Expr} {f : Str} {pos pos' tpos : Pos} {ta tv te : TE}
theorem ps_xfld (ha : PE X o ta) (hv : PE X value tv) (hs : swapsWith value (some (.Attribute o f pos')) pos.line X.env = pure false) : PS X (.Assign [.Attribute o f pos'] value pos) (sXF X.K ta tv f) := by
  intro pins s σ H D I h
  refine plainObj_wpAny_Assign_Attribute (thn (hv pins s σ H _ I h) fun u s1 ⟨y, H1, I1, ry, q⟩ => thn (ha pins s1 σ H1 _ I1 q) fun ov s2 ⟨x, H2, I2, rx, a, C, ex, c, n, q2⟩ => ?_) hs
  subst ex
  obtain rfl : ov = Value.ref a := rx
  rcases q2 with ⟨ea, q2⟩ | ⟨dx, fs, ea, ed, hl, q2⟩
  · exact xset0_ok I2 ea c n ry fun dx s3 nd I3 => ⟨σ, _, I3, q2 dx nd⟩
  · exact xset1_ok I2 ea ed hl c n ry fun s3 I3 => ⟨σ, _, I3, q2⟩
theorem pe_xfld (he : PE X e te) (hb : attributeBase e f X.env (eval e X.env) = eval e X.env) : PE X (.Attribute e f pos) (tXF X.K te f) := by
  intro pins s σ H Q I h
  refine attr_of hb (thn (he pins s σ H _ I h) fun u s1 ⟨x, H1, I1, rx, a, C, dx, fs, v, ex, ea, ed, c, n, l, q⟩ => ?_)
  subst ex
  obtain rfl : u = Value.ref a := rx
  exact xget_ok I1 ea ed c n l fun u' s2 I2 ru => ⟨v, H1, I2, ru, q⟩
end
structure XMk (K : PySem.W.Frag) (C f : Addr) : Prop where
  makes : xmkIn K C = true
  init : PySem.W.findIn K (.ref C) "__init__" = some (some (.ref f))
  fn : PySem.W.isFn K (.ref f) = true
  kp : PySem.W.keepIn K (.ref C) = true
def tXMake (C : Addr) (sp : Sp) (dvs : List V) (t : TA) : TE := fun σ H Q => t σ H fun vs H1 => vs.length ≤ 1000 ∧ ∀ e, H1 e = none →
  sp (.ref e :: (vs ++ dvs)) (upd H1 e (XN e C none)) (fun v H2 => v = .non ∧ Q (.ref e) H2) (fun _ _ _ => False)
def tRaise (K : PySem.W.Frag) (te : TE) (E : St → XK) : TS := fun D σ H => te σ H fun v H1 => ∃ e C od, v = .ref e ∧ H1 e = some (XN e C od) ∧ xmkIn K C = true ∧ E σ e C (upd H1 e (XO e C od))
section
variable {X : Cx} {k : Nat} {f C : Addr} {fd : FuncData} {ps : List Str} {sp : Sp} {dvs : List V} {ds : List Value} {E : St → XK} {x m : Str} {p pos apos : Pos} {e o : Expr} {es : List Expr} {ta te : TE} {t : TA}
theorem run_xmake {pins : List (Addr × Obj)} {σ : St} {H : Hp} {s : Shared} {Q : VK} {us : List Value} {vs : List V} (M : XMk X.K C f) (F : FnOk q0 X.prog X.w X.K X.mg X.base (CXo X.prog X.w) k f fd ps sp) (hr : Room q0 (k + 1) X.A) (hb : Binds X.K fd ps ds) (hd : Vals dvs ds)
    (I : Inv X pins σ H s) (r : Vals vs us) (hl : vs.length ≤ 1000)
    (h : ∀ e, H e = none → sp (.ref e :: (vs ++ dvs)) (upd H e (XN e C none)) (fun v H2 => v = .non ∧ Q (.ref e) H2) (fun _ _ _ => False)) :
    wpAny (model X.prog X.w) X.A (call (.ref C) us) (EP X pins σ Q) X.xe s := by
  obtain ⟨nm, qn, N, bs, bm, hz, sn, sub, ab, col, dd, k0, k1, k2, k3, k5, gC, T⟩ := xmk_of I.kIn M.makes
  have ty : PySem.W.typeIn X.K (.ref f) = some (.type "function") := beq_iff_eq.mp M.fn
  obtain ⟨oI, gI, cI⟩ := Option.map_eq_some_iff.mp (show (X.K.lookup f).map (·.cls) = some (.type "function") from ty)
  have lu : us.length ≤ sizeLine := by
    have := r.length
    rw [← this, sizeLine_eq]
    omega
  obtain ⟨hh, gg, d, tk, os⟩ := s
  refine call_xinit PySem.F.excBase_ValueError T gC (fun A' Q' E' s' kk q => PySem.W.looks_findIn I.kIn M.init A' Q' E' s' kk q) (I.kIn _ _ gI) cI lu fun h' e hm se => ?_
  have hn : H e = none := I.hok.fresh se
  obtain ⟨t0, ge, _, _⟩ := hm.there
  have xa : Xat h' e (.ref C) none none := ⟨_, _, ge, rfl, rfl, rfl, by simp, .inl ⟨rfl, rfl⟩⟩
  have I2 : Inv X pins σ (upd H e (XN e C none)) ⟨h', gg, d, tk, os⟩ := I.laid (t' := tk) hm.keeps se (xn_ok xa)
  have hq := h e hn
  have r2 : Vals (V.ref e :: (vs ++ dvs)) (Value.ref e :: (us ++ ds)) := .cons rfl (r.append hd)
  have hl2 : (Value.ref e :: us ++ ds).length = ps.length := by
    have z := r2.length
    rw [F.len _ _ _ _ hq] at z
    exact z.symm
  refine wpAny_call (codeAny_mono (F.run _ X.stack _ _ ⟨Value.ref e :: us, []⟩ (Value.ref e :: (us ++ ds)) _ _ (fun _ _ _ => False) (hr.make C us [])
    (I2.env0.make C us []) (hb _ (Value.ref e :: us) I2.kIn hl2) r2 hq) fun r s' hq' => ?_)
  cases r with
  | error e' => exact (pass_none pins σ _ _ e' s' I2 hq')
  | ok fl =>
    cases fl with
    | ret u =>
      obtain ⟨v, H', I3, rv, ev, q3⟩ := I2.after hq'
      subst ev
      exact ⟨rv, ⟨V.ref e, H', I3, rfl, q3⟩⟩
    | next => exact False.elim hq'
    | brk => exact False.elim hq'
    | cont => exact False.elim hq'
theorem pe_xmake (M : XMk X.K C f) (F : FnOk q0 X.prog X.w X.K X.mg X.base (CXo X.prog X.w) k f fd ps sp) (hr : Room q0 (k + 1) X.A) (hg : Gl X x) (hm : X.mg x = some (.ref C)) (hb : Binds X.K fd ps ds) (hd : Vals dvs ds)
    (ha : PA X (e :: es) t) (hdb : (x == ("__debug__" : Str)) = false := by decide) (he : starEach (e :: es) X.env = (false, eval e X.env) :: starEach es X.env := by rfl) (hpl : (backTo pos (starEach es X.env)).any (·.1) = false := by rfl) :
    PE X (.Call (.Name x p) (e :: es) [] pos) (tXMake C sp dvs t) := by
  intro pins s σ H Q I h
  refine wpAny_Call_Name_kw (ld_glob I hg hm ?_ hdb)
  refine PySem.W.callWith_K (h₀ := X.base) I.ok.mod.kin M.kp (thn (ha pos pins s σ H _ I h) fun us s1 ⟨vs, H1, I1, r, hl, q⟩ => ⟨I1.kIn, ?_⟩) he hpl
  exact run_xmake M F hr hb hd I1 r hl q
theorem Inv.toXO {pins : List (Addr × Obj)} {σ : St} {H : Hp} {s : Shared} {e : Addr} {od : Option Addr} (I : Inv X pins σ H s) (h : H e = some (XN e C od)) : Inv X pins σ (upd H e (XO e C od)) s := by
  have x := xn_at I h
  obtain ⟨oe, _, ge, _⟩ := id x
  exact I.write (x := e) (e := e) (t' := s.toks) (by rw [h]; exact True.intro) (.inl rfl) (fun b u _ z => z) ⟨oe, ge⟩ (xo_ok (xat_xo x))
theorem tail_base {h : Heap} {bm : List Value} (T : OwnTail h vErr bm) : bm.contains (.type "BaseException") = true := T.hasType (by decide +kernel)
theorem ps_raise (hh : X.A.handled = none) (tk : Takes X E) (he : PE X e te) : PS X (.Raise (some e) none pos) (tRaise X.K te E) := by
  intro pins s σ H D I h
  rw [arm_exec_Raise]
  refine wpAny_bind (wpAny_standAt ?_)
  show wpAny _ _ (raiseStmt X.env (some (do let v ← eval e X.env; standAt pos; pure v)) none) _ _ s
  refine raise_x hh (wpAny_bind (thn (he pins s σ H _ I h) fun v s1 ⟨x, H1, I1, rx, a, C, od, ex, ea, mk, q⟩ => wpAny_bind (wpAny_standAt (wpAny_pure ?_))))
  subst ex
  obtain rfl : v = Value.ref a := rx
  obtain ⟨nm, qn, N, bs, bm, hz, sn, sub, ab, col, dd, k0, k1, k2, k3, k5, gC, T⟩ := xmk_of I1.kIn mk
  have x := xn_at I1 ea
  exact ⟨a, od, C, nm, qn, N, bs, bm, hz, sn, sub, ab, col, dd, k0, k1, k2, k3, k5, _, rfl, tail_base T, gC, x, tk pins σ _ s1 a C od none (I1.toXO ea) x upd_same (fun T' z => by cases z) q⟩
end
end L2
set_option maxRecDepth 100000
namespace XL
open PySem PySem.W
section
variable {M : Model} {A : Around} {E : Value → Shared → Prop} {s : Shared}
theorem flight_x {fs : List Addr} {e T : Addr} {cls : Value} {od : Option Addr} {Q : Unit → Shared → Prop} (x : Xat s.heap e cls od (some T)) (nf : ∀ b ∈ fs, b ≠ T)
    (k : ∀ h', Stp fs e (some T) s.heap h' → Xat h' e cls od (some T) → Q () { s with heap := h' }) : wpAny M A (setFlight (.ref e) none) Q E s := by
  obtain ⟨oe, vs, ge, ce, oo, de, se, y⟩ := x
  rcases y with ⟨z, _⟩ | ⟨T', oT, ts, z, h1, nTe, gT, dT, h3⟩
  · cases z
  · cases z
    unfold setFlight
    refine wpAny_bind (wpAny_field ge de h1 ?_)
    rw [if_pos (show (Value.ref T != Value.none) = true from by simp)]
    have z3 : 3 < ts.size := (Array.getElem?_eq_some_iff.mp h3).1
    have ot : ∀ b, b ≠ T → (s.heap.update T (Obj.mapFields (·.setIfInBounds 3 ((none : Option Addr).elim Value.none fun f => rawInt f)))).get? b = s.heap.get? b := fun b hb => Heap.get?_update_other _ _ (Ne.symm hb)
    refine wpAny_setField gT dT z3 (k _ ⟨fun b o hb _ bt _ => (ot b fun q => bt (congrArg some q.symm)).trans hb, fun b o hb bf => ⟨o.slots, (ot b (nf b bf)).trans hb⟩⟩ ?_)
    exact ⟨oe, vs, (ot e (Ne.symm nTe)).trans ge, ce, oo, de, se, .inr ⟨T, _, _, rfl, h1, nTe, Heap.get?_update_self _ gT (Obj.isFreed_of_fields (Obj.data_mapFields dT _)), Obj.data_mapFields dT _, by simp [z3]⟩⟩
variable {nm qn nm' qn' : Str} {C N C' N' : Addr} {bs bm bs' bm' : List Value} {hz hz' : Bool} {sn sn' : List Str} {sub sub' : List Value} {ab ab' : Bool} {col col' : Option Bool} {dd dd' : Option Addr} {k0 k1 k2 k3 k5 j0 j1 j2 j3 j5 : Option Value} {ni ni' : String}
theorem matches_own {h : Heap} {g : Array GenState} {d : Drawn} {t : Nat} {os : OsState} {e : Addr} {oe : Obj} {b : Bool} {Q : Bool → Shared → Prop}
    (gC : h.get? C = some (excClassObj nm qn C N bs bm hz sn sub ab col dd k0 k1 k2 k3 k5 ni)) (gC' : h.get? C' = some (excClassObj nm' qn' C' N' bs' bm' hz' sn' sub' ab' col' dd' j0 j1 j2 j3 j5 ni'))
    (ge : h.get? e = some oe) (ce : oe.cls = .ref C) (bB : bm'.contains (.type "BaseException") = true) (hm : (Value.ref C :: bm).contains (.ref C') = b)
    (k : Q b ⟨h, g, d, t, os⟩) : wpAny M A (excMatches (.ref e) (.ref C')) Q E ⟨h, g, d, t, os⟩ := by
  have mB : (Value.ref C' :: bm').contains (.type "BaseException") = true := by rw [List.contains_cons, bB, Bool.or_true]
  have nt := tc_notTuple
  unfold excMatches
  repeat (first | (with_reducible refine wpAny_loadPart_at ge ?_; rw [ce]) | with_reducible refine wpAny_loadPart_at gC' ?_ | (with_reducible refine wpAny_isSubtype_exc gC' ?_; rw [mB]) | (with_reducible refine wpAny_isSubtype_exc gC ?_; rw [hm]) | wp_step)
  cases b <;> (wp_walk; exact k)
end
end XL
namespace L2
open PySem PySem.Spec PyProof.Rows XL
variable {q0 : Bool}
abbrev Cx.tryc (X : Cx) (pins : List (Addr × Obj)) (xe : Value → Shared → Prop) : Cx := { X with xe := xe, pn := X.pn ++ pins }
abbrev Cx.hand (X : Cx) (e : Addr) : Cx := { X with A := X.A.mark (some (.ref e)), calm := false, xe := fun _ _ => False }
section
variable {X : Cx} {pins : List (Addr × Obj)} {σ : St} {H : Hp} {s : Shared}
theorem Cx.Ok.tryc (ok : X.Ok) (pins : List (Addr × Obj)) (xe : Value → Shared → Prop) : (X.tryc pins xe).Ok :=
  ⟨ok.mod, ok.kind, ok.glob, ok.blt, ok.above, ok.inj, ok.has, ok.cab, ok.hd, ok.frames, ok.stk, ok.exf, ok.bs, ok.bsz, ok.noex, ok.exfs, ok.funs, ok.frf⟩
theorem Cx.Ok.untryc {xe : Value → Shared → Prop} (ok : (X.tryc pins xe).Ok) : X.Ok :=
  ⟨ok.mod, ok.kind, ok.glob, ok.blt, ok.above, ok.inj, ok.has, ok.cab, ok.hd, ok.frames, ok.stk, ok.exf, ok.bs, ok.bsz, ok.noex, ok.exfs, ok.funs, ok.frf⟩
theorem Cx.Ok.hand (ok : X.Ok) (e : Addr) : (X.hand e).Ok :=
  ⟨ok.mod, ok.kind, ok.glob, ok.blt, ok.above, ok.inj, ok.has, ok.cab, (fun z => nomatch z), ok.frames, ok.stk, ok.exf, ok.bs, ok.bsz, ok.noex, ok.exfs, ok.funs, ok.frf⟩
theorem Inv.tryc (I : Inv X pins σ H s) (xe : Value → Shared → Prop) : Inv (X.tryc pins xe) [] σ H s :=
  ⟨I.ok.tryc pins xe, I.os, I.bare, I.base, I.loc, I.cell, I.free, I.freeC, fun p hp => I.pin p (by simpa using hp), I.hok, I.len⟩
theorem Inv.untryc {xe : Value → Shared → Prop} {pl : List (Addr × Obj)} (I : Inv (X.tryc pins xe) pl σ H s) : Inv X pins σ H s :=
  ⟨I.ok.untryc, I.os, I.bare, I.base, I.loc, I.cell, I.free, I.freeC, fun p hp => I.pin p (List.mem_append_left _ hp), I.hok, I.len⟩
theorem Inv.hand (I : Inv X pins σ H s) (e : Addr) : Inv (X.hand e) pins σ H s :=
  ⟨I.ok.hand e, I.os, I.bare, I.base, I.loc, I.cell, I.free, I.freeC, I.pin, I.hok, I.len⟩
theorem Inv.unhand {e : Addr} (ok : X.Ok) (I : Inv (X.hand e) pins σ H s) : Inv X pins σ H s :=
  ⟨ok, I.os, I.bare, I.base, I.loc, I.cell, I.free, I.freeC, I.pin, I.hok, I.len⟩
theorem Inv.gone {h' : Heap} {m m' : Str → Option Value} {n : Str} {j t' : Nat} (I : Inv X pins σ H s) (hN : X.N.Nodup) (hj : X.N[j]? = some n) (hl : X.env.scope.names.lookup n = some .local)
    (hm : s.heap.Ns X.env.locals m) (hv : ∀ (i : Nat) (x : Str) (v : V), X.N[i]? = some x → σ[i]? = some (some v) → Vis X.env.scope x → ∃ u, RelV v u ∧ Look X.env s.heap m x u)
    (n' : h'.Ns X.env.locals m') (e' : ∀ y, y ≠ n → m' y = m y) (sb : Heap.SameBut X.env.locals s.heap h') : Inv X pins (σ.set j none) H { s with heap := h', toks := t' } := by
  have kp : ∀ b o, b ≠ X.env.locals → s.heap.get? b = some o → h'.get? b = some o := fun b o nb g => (sb.2 b nb).trans g
  have neL : ∀ b o, X.s₀.heap.get? b = some o → b ≠ X.env.locals := fun b o e => Nat.ne_of_lt (Nat.lt_of_lt_of_le (Heap.lt_size e) I.ok.above)
  have trk : ∀ b u, H b = some u → b ≠ X.env.locals := fun b u hb z => by rw [z, I.free] at hb; cases hb
  refine ⟨I.ok, I.os, I.bare, ⟨fun b o e n hb hx => kp b o (neL b o e) (I.base.keep b o e n hb hx), fun b o e n hb hx => ?_, fun b o e n hx => I.base.free b o e n hx, fun b o e hx => ?_, I.base.tups, I.base.frzs, I.base.tbls⟩,
    ⟨m', n', fun i x v e1 e2 e3 => ?_⟩, fun x c e => ?_, I.free, I.freeC, fun p hp => ?_, fun b u hb => ?_, by rw [List.length_set]; exact I.len⟩
  · obtain ⟨sl, q⟩ := I.base.slot b o e n hb hx
    exact ⟨sl, kp b _ (neL b o e) q⟩
  · obtain ⟨o', q⟩ := I.base.there b o e hx
    exact ⟨o', kp b o' (neL b o e) q⟩
  · have nij : i ≠ j := fun z => by
      subst z
      have hl2 : i < σ.length := by rw [I.len]; exact (List.getElem?_eq_some_iff.mp hj).1
      rw [List.getElem?_set_self hl2] at e2
      cases e2
    rw [List.getElem?_set_ne (Ne.symm nij)] at e2
    have nx : x ≠ n := fun z => nij (nodup_ix hN e1 (by rw [z]; exact hj))
    obtain ⟨u, r, l⟩ := hv i x v e1 e2 e3
    refine ⟨u, r, ?_⟩
    rcases l with ⟨k, z⟩ | ⟨k, c, e, o, ho, hd⟩
    · exact .inl ⟨k, by rw [e' x nx]; exact z⟩
    · exact .inr ⟨k, c, e, o, kp c o (I.cne x c e) ho, hd⟩
  · obtain ⟨v, o, ho, hd⟩ := I.cell x c e
    exact ⟨v, o, kp c o (I.cne x c e) ho, hd⟩
  · obtain ⟨e, a, ne, nf, d⟩ := I.pin p hp
    exact ⟨kp p.1 p.2 ne e, a, ne, nf, d⟩
  · refine (I.hok b u hb).stay (fun c v hc q => ?_) (fun c q => q) fun c xs q => q
    rcases hc with rfl | hc
    · exact kp c v (trk c u hb) q
    · exact kp c v (trk c _ hc) q
end
def endH (D : Ends) (j : Nat) : Ends := { nx := fun σ H => D.nx (σ.set j none) H, rt := D.rt, bk := fun σ H => D.bk (σ.set j none) H, ct := fun σ H => D.ct (σ.set j none) H }
section
variable {X : Cx} {pos np hpos : Pos} {body hbody : List Stmt} {b0 : Stmt} {cx n : Str} {C0 : Addr} {j : Nat} {E : St → XK} {tb th : TS}
end
end L2
set_option maxRecDepth 100000
namespace XL
open PySem PySem.W
theorem kitx_x {K : Frag} {x C : Addr} (c : XC K C) : KitX K (.ref x) (.ref C) (fun h => ∃ ox od, InstAt h x ox C od) where
  ty := fun _ _ _ ⟨_, _, I⟩ => I.type
  it := fun _ _ X _ => by
    obtain ⟨cd, hc, _, _⟩ := c.mro
    unfold clsIn at hc
    split at hc
    · rename_i c' d' cd' sl' ho
      intro A' Q' E' s' k q
      unfold isType loadHead
      exact wpAny_bind (wpAny_loadPart (k _ _ (X _ _ ho)) (wpAny_pure q))
    · cases hc
  ne := fun h tp dd its n sl X htp => by
    obtain ⟨cd, hc, _, _⟩ := c.mro
    refine Bool.eq_false_iff.mpr fun q => ?_
    have e : C = tp := Value.ref.inj (beq_iff_eq.mp q)
    subst e
    unfold clsIn at hc
    split at hc
    · rename_i c' d' cd' sl' ho
      have z := (X _ _ ho).symm.trans htp
      cases z
    · cases hc
  ca := fun X ⟨ox, od, I⟩ k => get_xcls X c I k
end XL
namespace L2
open PySem PySem.Spec PyProof.Rows XL
variable {q0 : Bool}
def clsV : V → Option Value
  | .ty n => some (.type n)
  | .ref a => some (.ref a)
  | _ => none
theorem clsV_rel {c : V} {u cv : Value} (e : clsV c = some cv) (r : RelV c u) : u = cv := by
  cases c <;> first | (cases e; exact r) | cases e
def clsVs : List V → Option (List Value)
  | [] => some []
  | c :: r => (clsV c).bind fun a => (clsVs r).map (a :: ·)
theorem clsVs_rel : ∀ {cs : List V} {us cv : List Value}, clsVs cs = some cv → Vals cs us → us = cv
  | [], _, _, e, .nil => by cases e; rfl
  | c :: r, _, _, e, .cons rc rr => by
    obtain ⟨a, e1, e2⟩ := Option.bind_eq_some_iff.mp e
    obtain ⟨b, e3, rfl⟩ := Option.map_eq_some_iff.mp e2
    rw [clsV_rel e1 rc, clsVs_rel e3 rr]
section
variable {X : Cx} {pins : List (Addr × Obj)} {σ : St} {H : Hp} {s : Shared} {A : Around} {E : Value → Shared → Prop} {Q : Value → Shared → Prop}
theorem xo_inst {a C : Addr} {od : Option Addr} (I : Inv X pins σ H s) (h : H a = some (XO a C od)) (hd : ∀ d, od = some d → ∃ o, s.heap.get? d = some o) : ∃ ox odx, PySem.W.InstAt s.heap a ox C odx := by
  obtain ⟨ox, vs, g, ce, oo, de⟩ := xo_at I h
  cases e : od with
  | none => exact ⟨ox, none, g, ce, notCls_f de, by rw [oo, e]; trivial⟩
  | some d =>
    obtain ⟨o, go⟩ := hd d e
    exact ⟨ox, some o, g, ce, notCls_f de, by rw [oo, e]; exact go⟩
end
def rIsin (K : PySem.W.Frag) : List V → Hp → VK → Prop := fun xs H Q => ∃ x c, xs = [x, c] ∧ ((∃ t cv b, TyOf K H x t ∧ clsV c = some cv ∧ PySem.W.kitOne K t cv = some b ∧ Q (.bl b) H) ∨
  (∃ a C od cv b, x = .ref a ∧ H a = some (XO a C od) ∧ (∀ d, od = some d → ∃ fs, H d = some (XD d fs)) ∧ XC K C ∧ clsV c = some cv ∧ PySem.W.kitOne K (.ref C) cv = some b ∧ Q (.bl b) H) ∨
  (∃ a C od p cs cv b, x = .ref a ∧ H a = some (XO a C od) ∧ (∀ d, od = some d → ∃ fs, H d = some (XD d fs)) ∧ XC K C ∧ c = .ref p ∧ SqT K H p cs ∧ clsVs cs = some cv ∧ PySem.W.kitAny K (.ref C) cv = some b ∧ Q (.bl b) H))
section
variable {X : Cx}
theorem call_isin : CallR X (.builtin "isinstance") (rIsin X.K) := by
  intro pins s σ H us xs Q I r h
  obtain ⟨x, c, rfl, h⟩ := h
  obtain ⟨u, v, rfl, ru, rv⟩ := vals2 r
  rcases h with ⟨t, cv, b, ty, ec, ek, q⟩ | ⟨a, C, od, cv, b, rfl, ha, hd, xc, ec, ek, q⟩ | ⟨a, C, od, p, cs, cv, b, rfl, ha, hd, xc, rfl, hp, ec, ek, q⟩
  · obtain rfl := clsV_rel ec rv
    exact isinst_ok I ru ty ek fun tk => ⟨.bl b, H, I.tok tk, rfl, q⟩
  · obtain rfl := clsV_rel ec rv
    obtain rfl : u = Value.ref a := ru
    refine PySem.W.kia_one (kitx_x xc) I.kIn (xo_inst I ha fun d e => ?_) ek (fun z => nomatch z) fun tk => ⟨.bl b, H, I.tok tk, rfl, q⟩
    obtain ⟨fs, hw⟩ := hd d e
    obtain ⟨_, _, ⟨o, _, _, go, _⟩, _⟩ := xd_at I hw
    exact ⟨o, go⟩
  · obtain rfl : u = Value.ref a := ru
    obtain rfl : v = Value.ref p := rv
    obtain ⟨its, vi, it, _⟩ := I.tuple hp
    obtain rfl := clsVs_rel ec vi
    obtain ⟨o, g, oc, n, od'⟩ := it
    obtain ⟨c1, d1, dt1, sl1⟩ := o
    dsimp only at oc od'
    subst oc od'
    refine PySem.W.kia_tup (kitx_x xc) I.kIn (xo_inst I ha fun d e => ?_) g ek (fun z => nomatch z) fun tk => ⟨.bl b, H, I.tok tk, rfl, q⟩
    obtain ⟨fs, hw⟩ := hd d e
    obtain ⟨_, _, ⟨o, _, _, go, _⟩, _⟩ := xd_at I hw
    exact ⟨o, go⟩
end
end L2
set_option maxRecDepth 100000
namespace L2
open PySem PySem.Spec PyProof.Rows XL
variable {q0 : Bool}
def frees (scope : Scope) : List Str := (scope.names.filter fun x => x.2 == .free).map (·.1)
def Cx.clo (X : Cx) (scope : Scope) : List (Str × Addr) := (frees scope).reverse.map fun n => (n, (X.env.cells.lookup n).getD 0)
theorem closure_of {env : Env} {f : Str → Addr} : ∀ (l : List (Str × NameKind)) (acc : List (Str × Addr)), (∀ x ∈ l, x.2 = .free → env.cells.lookup x.1 = some (f x.1)) →
    (forIn l acc fun x cs => (if x.2 == .free then do let c ← cellOf env x.1; pure (ForInStep.yield ((x.1, c) :: cs)) else pure (ForInStep.yield cs) : Sem (ForInStep (List (Str × Addr))))) =
      pure ((((l.filter fun x => x.2 == .free).map (·.1)).reverse.map fun n => (n, f n)) ++ acc)
  | [], acc, _ => rfl
  | x :: r, acc, h => by
    have ih := fun a => closure_of r a fun y hy => h y (List.mem_cons_of_mem _ hy)
    rw [List.forIn_cons]
    by_cases q : x.2 = .free
    · have e := h x List.mem_cons_self q
      have qb : (x.2 == NameKind.free) = true := by rw [q]; rfl
      rw [if_pos qb, List.filter_cons, if_pos qb]
      have ec : cellOf env x.1 = pure (f x.1) := by unfold cellOf; rw [e]
      rw [ec]
      simp only [pure_bind]
      rw [ih]
      simp
    · have qb : (x.2 == NameKind.free) = false := by simpa using q
      rw [if_neg (by rw [qb]; decide), List.filter_cons, if_neg (by rw [qb]; decide)]
      simp only [pure_bind]
      rw [ih]
theorem clo_of {X : Cx} {scope : Scope} (h : ∀ n ∈ frees scope, ∃ c, X.env.cells.lookup n = some c) : closureFor scope X.env = pure (X.clo scope) := by
  unfold closureFor
  have z := closure_of (env := X.env) (f := fun n => (X.env.cells.lookup n).getD 0) scope.names [] fun x hx hf => by
    obtain ⟨c, e⟩ := h x.1 (List.mem_map.mpr ⟨x, List.mem_filter.mpr ⟨hx, by simp [hf]⟩, rfl⟩)
    rw [e]
    rfl
  rw [List.append_nil] at z
  refine (bind_pure (m := Sem) _).trans ?_
  exact z
theorem clo_mem {X : Cx} {scope : Scope} {n : Str} {c : Addr} (h : (X.clo scope).lookup n = some c) : n ∈ frees scope ∧ c = (X.env.cells.lookup n).getD 0 := by
  have z := PySem.mem_of_lookup h
  unfold Cx.clo at z
  obtain ⟨y, hy, e⟩ := List.mem_map.mp z
  injection e with e1 e2
  subst e1
  exact ⟨List.mem_reverse.mp hy, e2.symm⟩
theorem lookup_map_self {f : Str → Addr} {n : Str} : ∀ {l : List Str}, n ∈ l → (l.map fun y => (y, f y)).lookup n = some (f n)
  | [], h => by simp at h
  | y :: r, h => by
    rw [List.map_cons, List.lookup_cons]
    by_cases q : n = y
    · subst q
      simp
    · rw [show (n == y) = false from by simpa using q]
      exact lookup_map_self ((List.mem_cons.mp h).resolve_left q)
theorem clo_get {X : Cx} {scope : Scope} {n : Str} {c : Addr} (hn : n ∈ frees scope) (h : X.env.cells.lookup n = some c) : (X.clo scope).lookup n = some c := by
  have z := lookup_map_self (f := fun n => (X.env.cells.lookup n).getD 0) (List.mem_reverse.mpr hn)
  unfold Cx.clo
  rw [z, h]
  rfl
section
variable {X : Cx} {pins : List (Addr × Obj)} {σ : St} {H : Hp} {s : Shared} {scope : Scope} {x : Str} {ys : List Str} {fr : List Nat} {fp : List Addr}
end
section
variable {X : Cx} {pins : List (Addr × Obj)} {σ : St} {H : Hp} {s : Shared} {scope : Scope} {x : Str} {ys : List Str} {fr : List Nat} {fp : List Addr}
end
def tTrue : TT := fun _ H Q => Q true H
def PIf (X : Cx) (ifs : List Expr) (t : TT) : Prop :=
  ∀ (pins : List (Addr × Obj)) (s : Shared) (σ : St) (H : Hp) (Q : Bool → Hp → Prop), Inv X pins σ H s → t σ H Q →
    wpAny (model X.prog X.w) X.A (forIn ifs true fun c r => if r = true then do let ok ← isTrue c X.env (eval c X.env); pure (ForInStep.yield ok) else pure (ForInStep.yield r)) (TP X pins σ Q) X.xe s
theorem pif_nil {X : Cx} : PIf X [] tTrue := fun pins s σ H Q I h => wpAny_pure ⟨H, I, h⟩
theorem pif_one {X : Cx} {c : Expr} {t : TT} (hc : PT X c t) : PIf X [c] t := fun pins s σ H Q I h => by
  rw [List.forIn_cons]
  refine wpAny_bind ?_
  rw [if_pos rfl]
  refine wpAny_bind (wpAny_mono (hc pins s σ H Q I h) (fun b s1 q => wpAny_pure ?_) fun _ _ z => z)
  exact wpAny_pure q
section
variable {X : Cx} {scope : Scope} {x : Str} {ys : List Str} {fr : List Nat} {elt iter : Expr} {ifs : List Expr} {px pos : Pos} {wi : TI} {tc : TT} {te : TE}
end
end L2
set_option maxRecDepth 100000
namespace L2
open PySem PySem.Spec PyProof.Rows XL
variable {q0 : Bool}
theorem relab_has {env : Env} {scope : Scope} (nc : ∀ y ∈ scope.names, y.2 ≠ .cell) (n : Str) (h : (relabel scope env).names.lookup n = some .cell ∨ (relabel scope env).names.lookup n = some .free) : n ∈ frees scope := by
  have key : ∀ k, (relabel scope env).names.lookup n = some k → (k = .cell ∨ k = .free) → n ∈ frees scope := fun k e hk => by
    obtain ⟨y, hy, ey⟩ := List.mem_map.mp (PySem.mem_of_lookup e)
    obtain ⟨m, j⟩ := y
    dsimp only at ey
    split at ey
    · rename_i q
      injection ey with e1 e2
      subst e1
      have : j = .free := by
        simp only [Bool.and_eq_true, beq_iff_eq] at q
        exact q.1.1
      subst this
      exact List.mem_map.mpr ⟨_, List.mem_filter.mpr ⟨hy, by simp⟩, rfl⟩
    · injection ey with e1 e2
      subst e1 e2
      rcases hk with z | z
      · exact absurd z (nc _ hy)
      · subst z
        exact List.mem_map.mpr ⟨_, List.mem_filter.mpr ⟨hy, by simp⟩, rfl⟩
  rcases h with h | h
  · exact key _ h (.inl rfl)
  · exact key _ h (.inr rfl)
theorem relab_free {env : Env} {scope : Scope} {n : Str} (h : scope.names.lookup n = some .free) : (relabel scope env).names.lookup n = some .cell ∨ (relabel scope env).names.lookup n = some .free := by
  have key : ∀ (l : List (Str × NameKind)), l.lookup n = some .free → (l.map fun (m, k) => if (k == NameKind.free && env.scope.kind == .function && env.kindOf m == some .cell) then (m, NameKind.cell) else (m, k)).lookup n = some .cell ∨
      (l.map fun (m, k) => if (k == NameKind.free && env.scope.kind == .function && env.kindOf m == some .cell) then (m, NameKind.cell) else (m, k)).lookup n = some .free := fun l => by
    induction l with
    | nil => intro e; simp at e
    | cons y r ih =>
      intro e
      obtain ⟨m, k⟩ := y
      rw [List.map_cons]
      rw [List.lookup_cons] at e
      cases q : n == m with
      | true =>
        rw [q] at e
        cases e
        dsimp only
        split
        · left; rw [List.lookup_cons, q]
        · right; rw [List.lookup_cons, q]
      | false =>
        rw [q] at e
        have z := ih e
        dsimp only
        split <;> (rw [List.lookup_cons, q]; exact z)
  exact key _ h
section
variable {P : Program} {w : World} {K : PySem.W.Frag} {mg : Str → Option Value} {base : Heap}
theorem Fun.okx {x qual : Str} {st : Stmt} {f : Addr} {fd : FuncData} {N ps : List Str} {k : Nat} {sp : Sp} (F : Fun K x qual st f fd) (S : FnScope N ps (defScope st)) (len : ∀ vs H Q E, sp vs H Q E → vs.length = ps.length)
    (hbody : ∀ (cdv : Value) (A : Around) (outer : List Env) (s : Shared) (H : Hp) (vs : List V) (Q : VK) (E : XK), Room q0 k (A.deeper (envOfC qual (defScope st) s.heap.objs.size f cdv)) → sp vs H Q E →
      ∃ t, PSs (cxOf q0 (CXo P w) P w K mg base N qual (defScope st) f cdv A outer s H E) (defBody st) t ∧ t { nx := fun _ H' => Q .non H', rt := Q } (start N vs) H) : FnOk q0 P w K mg base (CXo P w) (k + 1) f fd ps sp := by
  obtain ⟨oc, od, kV, doc, pm, an, cdv, ct, osl, rfl, lk, hcd⟩ := F.ex
  exact fn_of lk hcd S len fun A outer s H vs Q E hr hsp => hbody cdv A outer s H vs Q E hr hsp
theorem Fun.okn {x qual : Str} {st : Stmt} {f : Addr} {fd : FuncData} {N ps : List Str} {k : Nat} {sp : Sp} (F : Fun K x qual st f fd) (S : FnScope N ps (defScope st)) (len : ∀ vs H Q E, sp vs H Q E → vs.length = ps.length)
    (hbody : ∀ (cdv : Value) (A : Around) (outer : List Env) (s : Shared) (H : Hp) (vs : List V) (Q : VK) (E : XK), Room q0 k (A.deeper (envOfC qual (defScope st) s.heap.objs.size f cdv)) → sp vs H Q E →
      ∃ t, PSs (cxOf q0 (CXo P w) P w K mg base N qual (defScope st) f cdv A outer s H E).nox (defBody st) t ∧ t { nx := fun _ H' => Q .non H', rt := Q } (start N vs) H) : FnOk q0 P w K mg base (CXo P w) (k + 1) f fd ps sp := by
  obtain ⟨oc, od, kV, doc, pm, an, cdv, ct, osl, rfl, lk, hcd⟩ := F.ex
  refine fn_of lk hcd S len fun A outer s H vs Q E hr hsp => ?_
  obtain ⟨t, h, q⟩ := hbody cdv A outer s H vs Q E hr hsp
  exact ⟨t, h.nox, q⟩
end
end L2
set_option maxRecDepth 100000
namespace L2
open PySem PySem.Spec PyProof.Rows XL
theorem ifP {b : Bool} {A B : Prop} (h : b = true) (q : A) : if b = true then A else B := by
  rw [if_pos h]
  exact q
theorem ifN {b : Bool} {A B : Prop} (h : b = false) (q : B) : if b = true then A else B := by
  rw [if_neg (by rw [h]; decide)]
  exact q
end L2
set_option maxRecDepth 100000
namespace L2
open PySem PySem.Spec PyProof.Rows XL
def sgn (c : Nat) : V := .str ⟨#[c]⟩
def Its (x : Str) : It := ⟨fun i _ => i < x.cps.toList.length, fun i H v H' => H' = H ∧ ∃ c, x.cps.toList[i]? = some c ∧ v = sgn c, fun i _ => x.cps.toList.length ≤ i⟩
theorem iter_at {h h' : Heap} {it : Addr} {ty : String} {x : Str} {t : Tok} {i : Nat} (y : h.IsStrIter it ty x t i) (k : ∀ o, h.get? it = some o → h'.get? it = some o) : h'.IsStrIter it ty x t i := by
  obtain ⟨o, ho, r⟩ := y
  exact ⟨o, k o ho, r⟩
theorem turn_str {P : Program} {w : World} {K : PySem.W.Frag} {tg : Expr} {x : Str} (t : Tok) (it : Addr) : Turn P w K tg (Its x) [it] it (fun i h => h.IsStrIter it "str_ascii_iterator" x t i) where
  mem := by simp
  obj := fun i h st b hb => by
    have e : b = it := by simpa using hb
    subst e
    obtain ⟨o, e, c, d⟩ := st
    exact ⟨o, e, fun v z => by rw [d] at z; cases z⟩
  keep := fun i h h' st k => iter_at st fun o e => k it (by simp) o e
  item := by
    intro X hP hw hK hc i pins s σ H E I hf st hg
    subst hP hw hK
    have lt : i < x.cps.toList.length := hg
    have ex : x.cps[i]? = some (x.cps.toList[i]) := by simp
    obtain ⟨f0, f1, f2, f3, f4, f5⟩ := hf it (by simp)
    refine wpAny_pyNext_ascii_item st ex fun h' st' sb => ?_
    have I1 : Inv X pins σ H { s with heap := h', toks := s.toks + 1 } := I.turned (t' := s.toks + 1) (fun b o hb e => (sb.2 b hb).trans e) f0 f1 f3 f4 f5
    obtain ⟨o, e, c, d⟩ := id st'
    exact ⟨_, rfl, go_of (s := { s with heap := h', toks := s.toks + 1 }) e c d (by decide) ⟨sgn (x.cps.toList[i]), H, I1, ⟨_, rfl⟩, ⟨rfl, _, by simp, rfl⟩, st', fun b hb => (hf b hb).1⟩⟩
  done := by
    intro X hP hw hK hc i pins s σ H E I hf st hg
    subst hP hw hK
    have ge : x.cps.toList.length ≤ i := hg
    obtain ⟨f0, f1, f2, f3, f4, f5⟩ := hf it (by simp)
    exact wpAny_pyNext_ascii_end (I.ok.hd hc) st (by simpa using ge) fun h' eb => ⟨rfl, I.turned (t' := s.toks) (fun b o hb e => eb b o hb e) f0 f1 f3 f4 f5⟩
  self := fun _ _ _ _ _ st h => wpAny_pyIter_striter_ascii st h
def iStr (tl : TE) : TI := fun σ H R => tl σ H fun v H1 => ∃ x : Str, v = .str x ∧ x.cps.all (· < 128) = true ∧ R (Its x) H1
theorem pi_str {X : Cx} {tg l : Expr} {tl : TE} (hl : PE X l tl) : PI X tg l (iStr tl) := by
  intro pins s σ H R I h
  refine thn (hl pins s σ H _ I h) fun v s1 ⟨y, H1, I1, r1, x, e, ha, q⟩ => ?_
  subst e
  obtain ⟨t, rfl⟩ := r1
  refine wpAny_pyIter_ascii ha ?_
  refine ⟨s1.heap.objs.size, [s1.heap.objs.size], _, _, H1, rfl, I1.kept (t' := s1.toks) fun b o e => Heap.get?_push_of_some _ e, turn_str t _, ⟨_, Heap.get?_push_size _ rfl, rfl, rfl⟩, fun b hb => ?_, q⟩
  have e : b = s1.heap.objs.size := by simpa using hb
  subst e
  exact I1.fpOk (Nat.le_refl _) (I1.hok.fresh (Nat.le_refl _))
theorem for_str {x : Str} {g : TG} {tb : TS} {D : Ends} {σ : St} {H : Hp} (Pv : Nat → St → Hp → Prop) (h0 : Pv 0 σ H)
    (hs : ∀ i c σ H, x.cps.toList[i]? = some c → Pv i σ H → g (sgn c) σ H fun σ2 H2 => tb { D with nx := Pv (i + 1), ct := Pv (i + 1), bk := D.nx } σ2 H2) (hd : ∀ σ H, Pv x.cps.toList.length σ H → D.nx σ H) :
    ∃ W : Nat → Nat → St → Hp → Prop, (∃ m, W 0 m σ H) ∧ ∀ i m σ H, W i m σ H →
      ((Its x).stop i H ∧ D.nx σ H) ∨ ((Its x).go i H ∧ ∃ N : St → Hp → Prop, (∀ σ' H', N σ' H' → ∃ m', m' < m ∧ W (i + 1) m' σ' H') ∧ ∀ v H', (Its x).yld i H v H' → g v σ H' fun σ2 H2 => tb { D with nx := N, ct := N, bk := D.nx } σ2 H2) := by
  refine ⟨fun i m σ H => m = x.cps.toList.length - i ∧ i ≤ x.cps.toList.length ∧ Pv i σ H, ⟨x.cps.toList.length, by simp, Nat.zero_le _, h0⟩, ?_⟩
  rintro i m σ H ⟨rfl, hi, p⟩
  by_cases lt : i < x.cps.toList.length
  · refine .inr ⟨lt, Pv (i + 1), fun σ' H' p' => ⟨x.cps.toList.length - (i + 1), by omega, rfl, lt, p'⟩, fun v H' y => ?_⟩
    obtain ⟨e, c, ec, ev⟩ := y
    subst e ev
    exact hs i c σ _ ec p
  · have e : i = x.cps.toList.length := by omega
    subst e
    exact .inl ⟨Nat.le_refl _, hd σ H p⟩
section
variable {X : Cx}
theorem op_le_str : OpR X (compareOp .LtE) (fun x y H Q => ∃ i j, x = .str i ∧ y = .str j ∧ Q (.bl (!decide (j.cps.toList < i.cps.toList))) H) := by
  intro pins s σ H x y v u Q I rx ry h
  obtain ⟨i, j, rfl, rfl, q⟩ := h
  obtain ⟨t, rfl⟩ := rx
  obtain ⟨t', rfl⟩ := ry
  exact PySem.P.le_str (fin_bl I q rfl)
theorem call_range2 : CallR X (.type "range") (fun xs H Q => ∃ i j, xs = [.int i, .int j] ∧ ∀ p, H p = none → Q (.ref p) (upd H p (.rng i j))) := by
  intro pins s σ H xs us Q I r h
  obtain ⟨i, j, rfl, q⟩ := h
  obtain ⟨u, w', rfl, ⟨t, rfl⟩, ⟨t', rfl⟩⟩ := vals2 r
  refine call_range_2 ⟨.ref s.heap.objs.size, _, I.laid (t' := s.toks + 1) (fun b o e => Heap.get?_push_of_some _ e) (Nat.le_refl _) (show ObjOk X.prog X.w _ _ _ (.rng i j) from ⟨_, _, _, Heap.get?_push_size _ rfl⟩), rfl, q _ (I.hok.fresh (Nat.le_refl _))⟩
end
end L2
set_option maxRecDepth 100000
namespace L2
open PySem PySem.Spec PyProof.Rows
variable {q0 : Bool}
section
variable {X : Cx}
theorem vals_of : ∀ {us : List Value} {ys : List V}, us.length = ys.length → (∀ (j : Nat) (y : V) (u : Value), ys[j]? = some y → us[j]? = some u → RelV y u) → Vals ys us
  | [], [], _, _ => .nil
  | u :: us, y :: ys, hl, h => .cons (h 0 y u rfl rfl) (vals_of (Nat.succ.inj hl) fun j y' u' e e' => h (j + 1) y' u' e e')
def rngL (lo hi : Int) : List V := (List.range (hi - lo).toNat).map fun (i : Nat) => V.int (lo + (i : Int))
theorem call_list_rng (hc : X.calm = true) : CallR X (.type "list") (fun xs H Q => ∃ p lo hi, xs = [.ref p] ∧ H p = some (.rng lo hi) ∧ (-(2 ^ 62) ≤ lo ∧ lo < 2 ^ 62 ∧ -(2 ^ 62) ≤ hi ∧ hi < 2 ^ 62) ∧ (hi - lo).toNat ≤ 1000 ∧
    ∀ l, H l = none → Q (.ref l) (upd H l (.lst (rngL lo hi)))) := by
  intro pins s σ H xs us Q I r h
  obtain ⟨p, lo, hi, rfl, hp, ⟨h1, h2, h3, h4⟩, hn, q⟩ := h
  obtain ⟨u, rfl, rx⟩ := vals1 r
  cases rx
  obtain ⟨t1, t2, t3, g⟩ := (show ObjOk X.prog X.w H s.heap p (.rng lo hi) from I.hok p _ hp)
  refine call_list_range (I.ok.hd hc) g (small_one h1 h2 h3 h4) (n := (hi - lo).toNat) (by rw [rangeSize_one]; split <;> omega) (Nat.le_trans hn (by decide)) fun h' tk acc' c' kp e it => ?_
  have len : acc'.toList.length = (rngL lo hi).length := by rw [rngL, List.length_map, List.length_range]; exact it.1
  refine ⟨.ref s.heap.objs.size, _, I.laid (t' := tk) kp (Nat.le_refl _) (show ObjOk X.prog X.w _ h' _ (.lst (rngL lo hi)) from ⟨?_, acc'.toList, c', vals_of len fun j y u ey eu => ?_, by simpa using e⟩), rfl, q _ (I.hok.fresh (Nat.le_refl _))⟩
  · rw [rngL, List.length_map, List.length_range]
    exact Nat.le_trans hn (by decide)
  · have eu' : acc'[j]? = some u := by simpa using eu
    obtain ⟨t, e2⟩ := it.2 j u eu'
    have lt : j < (hi - lo).toNat := by
      have := (List.getElem?_eq_some_iff.mp ey).1
      simpa [rngL] using this
    rw [rngL, List.getElem?_map, List.getElem?_range lt] at ey
    cases ey
    exact ⟨t, by rw [e2, Int.mul_one]⟩
end
end L2
set_option maxRecDepth 100000
namespace L2
open PySem PySem.Spec PyProof.Rows
variable {q0 : Bool}
structure FunD (K : PySem.W.Frag) (x qual : Str) (st : Stmt) (T f : Addr) (fd : FuncData) : Prop where
  ex : ∃ (oc : Value) (od : Option Addr) (kV doc pm : Value) (an : Option Addr) (cdv ct : Value) (osl : Array (Option Value)),
    fd = PySem.W.fnOf x qual (defArgs st) (defBody st) (defScope st) (.ref T) kV doc pm an cdv ct ∧ K.lookup f = some ⟨oc, od, .func fd, osl⟩ ∧ PySem.W.codeIn K cdv qual = true
  kp : PySem.W.keepIn K (.ref f) = true
section
variable {P : Program} {w : World} {K : PySem.W.Frag} {mg : Str → Option Value} {base : Heap}
theorem FunD.okn {x qual : Str} {st : Stmt} {T f : Addr} {fd : FuncData} {N ps : List Str} {k : Nat} {sp : Sp} (F : FunD K x qual st T f fd) (S : FnScope N ps (defScope st)) (len : ∀ vs H Q E, sp vs H Q E → vs.length = ps.length)
    (hbody : ∀ (cdv : Value) (A : Around) (outer : List Env) (s : Shared) (H : Hp) (vs : List V) (Q : VK) (E : XK), Room q0 k (A.deeper (envOfC qual (defScope st) s.heap.objs.size f cdv)) → sp vs H Q E →
      ∃ t, PSs (cxOf q0 (CXo P w) P w K mg base N qual (defScope st) f cdv A outer s H E).nox (defBody st) t ∧ t { nx := fun _ H' => Q .non H', rt := Q } (start N vs) H) : FnOk q0 P w K mg base (CXo P w) (k + 1) f fd ps sp := by
  obtain ⟨oc, od, kV, doc, pm, an, cdv, ct, osl, rfl, lk, hcd⟩ := F.ex
  refine fn_of lk hcd S len fun A outer s H vs Q E hr hsp => ?_
  obtain ⟨t, h, q⟩ := hbody cdv A outer s H vs Q E hr hsp
  exact ⟨t, h.nox, q⟩
theorem FunD.binds {x qual : Str} {st : Stmt} {T f : Addr} {fd : FuncData} {ps : List Str} {o : Obj} {items : Array Value} {n : Nat} {ds : List Value} (F : FunD K x qual st T f fd) (ho : K.lookup T = some o) (hs : o.data = .seq items n) (m : Nat) (hm : m + ds.length = ps.length)
    (h : ∀ (kV doc pm : Value) (an : Option Addr) (cdv ct : Value) (us : List Value), us.length = m →
      ∃ k, bindArgs (PySem.W.fnOf x qual (defArgs st) (defBody st) (defScope st) (.ref T) kV doc pm an cdv ct) ⟨us, []⟩ = seqItems? (.ref T) >>= k ∧ k (some items) = pure (ps.zip (us ++ ds))) : Binds K fd ps ds := by
  obtain ⟨oc, od, kV, doc, pm, an, cdv, ct, osl, rfl, lk, hcd⟩ := F.ex
  intro s us hK hl
  rw [List.length_append] at hl
  obtain ⟨k, h1, h2⟩ := h kV doc pm an cdv ct us (by omega)
  exact BindsTo.of_defaults rfl (hK _ _ ho) hs h1 h2
theorem fund_mk {x qual : Str} {st : Stmt} {T f : Addr} {oc : Value} {od an : Option Addr} {osl : Array (Option Value)} {kV doc pm cdv ct : Value} (l : K.lookup f = some ⟨oc, od, .func (PySem.W.fnOf x qual (defArgs st) (defBody st) (defScope st) (.ref T) kV doc pm an cdv ct), osl⟩)
    (c : PySem.W.codeIn K cdv qual = true) (k : PySem.W.keepIn K (.ref f) = true) : FunD K x qual st T f (PySem.W.fnOf x qual (defArgs st) (defBody st) (defScope st) (.ref T) kV doc pm an cdv ct) := ⟨⟨oc, od, kV, doc, pm, an, cdv, ct, osl, rfl, l, c⟩, k⟩
end
end L2
set_option maxRecDepth 100000
namespace L2
open PySem PySem.Spec PyProof.Rows XL
variable {q0 : Bool}
abbrev Cx.blkG (X : Cx) (scope : Scope) (zs : List Str) (ys : List Str) (C : Addr) (ex : List Addr) (s : Shared) (H : Hp) (pn : List (Addr × Obj)) : Cx where
  prog := X.prog
  w := X.w
  K := X.K
  mg := X.mg
  base := X.base
  A := X.A
  N := zs ++ ys
  s₀ := s
  H₀ := H
  env := compEnvC scope (X.clo scope) C X.env
  outer := X.stack
  stack := X.stack
  ex := ex
  fn := fun _ => false
  calm := X.calm
  pn := pn
  xe := fun _ _ => False
theorem compLoop_testsG {prog : Program} {w : World} {A : Around} {R : Result → Shared → Prop} {s : Shared} {elt target iter : Expr} {ifs : List Expr} {scope : Scope} {pos : Pos} {it acc : Value} {env : Env} (I : Nat → Shared → Prop)
    (turn : ∀ n s, I n s → wpAny (model prog w) A (pyNext it) (fun r s₁ => match r with
      | none => R (.ok .next) s₁
      | some v => wpAny (model prog w) A (letOwnedTupleGo target it v) (fun _ s₀ => wpAny (model prog w) A (assign target env v) (fun _ s₂ =>
          wpAny (model prog w) A (forIn ifs true fun c r => if r = true then do let ok ← isTrue c env (eval c env); pure (ForInStep.yield ok) else pure (ForInStep.yield r)) (fun ok s₃ =>
            if ok = true then wpAny (model prog w) A (eval elt env) (fun x s₄ =>
              wpAny (model prog w) A (call (.builtin "list.append") [acc, x]) (fun _ s₅ => ∃ m, m < n ∧ I m s₅) (notedBy (model prog w) A env fun e s' => R (.error e) s') s₄) (notedBy (model prog w) A env fun e s' => R (.error e) s') s₃
            else ∃ m, m < n ∧ I m s₃) (notedBy (model prog w) A env fun e s' => R (.error e) s') s₂) (notedBy (model prog w) A env fun e s' => R (.error e) s') s₀) (notedBy (model prog w) A env fun e s' => R (.error e) s') s₁) (notedBy (model prog w) A env fun e s' => R (.error e) s') s)
    (n : Nat) (h : I n s) : codeAny (model prog w) A (.compLoop (.ListComp elt [⟨target, iter, ifs, 0⟩] scope pos) 0 it acc env) R s := by
  refine codeAny_loop rfl I (fun n s hI => ?_) n h
  show wpAny _ A ((compTurn (.ListComp elt [⟨target, iter, ifs, 0⟩] scope pos) 0 it acc env).onRaise (fun x => do noteFrame x env; theTreesLotGoes x)) _ _ s
  refine wpAny_noted ?_
  rw [compTurn_list]
  refine wpAny_bind (wpAny_standAt (wpAny_bind (wpAny_mono (turn n s hI) (fun r s₁ h₁ => ?_) fun _ _ h' => h')))
  cases r with
  | none => exact wpAny_pure h₁
  | some v =>
    refine wpAny_bind (wpAny_mono h₁ (fun _ s₀ h₀ => wpAny_bind (wpAny_mono h₀ (fun _ s₂ h₂ => wpAny_bind (wpAny_mono h₂ (fun ok s₃ h₃ => ?_) fun _ _ h' => h')) fun _ _ h' => h')) fun _ _ h' => h')
    cases ok with
    | false => exact wpAny_pure ⟨rfl, h₃⟩
    | true =>
      exact wpAny_bind (wpAny_bind (wpAny_mono h₃ (fun x s₄ h₄ => wpAny_bind (wpAny_mono h₄ (fun _ s₅ h₅ => wpAny_pure (wpAny_pure ⟨rfl, h₅⟩)) fun _ _ h' => h')) fun _ _ h' => h'))
structure BlkG (X : Cx) (scope : Scope) (zs : List Str) (ys : List Str) (fr : List Nat) : Prop where
  kind : scope.kind = .function
  own : ∀ x ∈ zs, scope.names.lookup x = some .local
  ncell : ∀ y ∈ scope.names, y.2 ≠ .cell
  names : ∀ y ∈ scope.names, y.2 = .local → scope.names.lookup y.1 = some .local
  free : ∀ n ∈ frees scope, X.env.scope.names.lookup n = some .cell
  has : ∀ n, ((relabel scope X.env).names.lookup n = some .cell ∨ (relabel scope X.env).names.lookup n = some .free) → n ∈ frees scope
  slots : fr.map (fun i => X.N[i]?) = ys.map some
  ysf : ∀ y ∈ ys, y ∈ frees scope
  ysc : ∀ y ∈ ys, (relabel scope X.env).names.lookup y = some .cell ∨ (relabel scope X.env).names.lookup y = some .free
  st : X.stack = X.env :: X.outer
  nd : X.N.Nodup
  ndb : (zs ++ ys).Nodup
def blk0 (σ : St) (fr : List Nat) (n : Nat) : St := List.replicate n none ++ fr.map fun i => (σ[i]?).join
section
variable {X : Cx} {pins : List (Addr × Obj)} {σ : St} {H : Hp} {s : Shared} {scope : Scope} {zs : List Str} {ys : List Str} {fr : List Nat} {fp : List Addr}
theorem BlkG.cells (B : BlkG X scope zs ys fr) (I : Inv X pins σ H s) : ∀ n ∈ frees scope, ∃ c, X.env.cells.lookup n = some c := fun n hn => I.ok.has n (.inl (B.free n hn))
theorem BlkG.sub (B : BlkG X scope zs ys fr) (I : Inv X pins σ H s) {n : Str} {c : Addr} (h : (X.clo scope).lookup n = some c) : X.env.cells.lookup n = some c := by
  obtain ⟨a, b⟩ := clo_mem h
  obtain ⟨d, e⟩ := B.cells I n a
  rw [e] at b
  rw [b, e]
  rfl
theorem Inv.blkG {h1 : Heap} {m1 : Str → Option Value} {t' : Nat} (B : BlkG X scope zs ys fr) (I : Inv X pins σ H s) (hf : ∀ b ∈ fp, FpOk X pins H b) (hz : ∀ b ∈ fp, b < s.heap.objs.size) (n1 : h1.Ns s.heap.objs.size m1) (k1 : ∀ b o, s.heap.get? b = some o → h1.get? b = some o) :
    Inv (X.blkG scope zs ys s.heap.objs.size fp s H (X.pn ++ pins)) [] (blk0 σ fr zs.length) H { s with heap := h1, toks := t' } := by
  have sub : ∀ n c, (X.clo scope).lookup n = some c → X.env.cells.lookup n = some c := fun n c h => B.sub I h
  have cz : ∀ n c, X.env.cells.lookup n = some c → c < s.heap.objs.size := fun n c e => by
    obtain ⟨v, o, ho, _⟩ := I.cell n c e
    exact Heap.lt_size ho
  have nfs : ∀ b ∈ fp, b ∉ frs X.stack := fun b hb z => (List.mem_cons.mp (I.stkSub b z)).elim (hf b hb).2.1 (hf b hb).2.2.1
  have fz : ∀ b, b ∈ frs X.stack → b < s.heap.objs.size := fun b hb => by
    obtain ⟨_, o, ho, _⟩ := I.stack.mem hb
    exact Heap.lt_size ho
  refine ⟨⟨I.ok.mod, B.kind, I.ok.glob, I.ok.blt, Nat.le_refl _, fun y z c h1 h2 => I.ok.inj y z c (sub y c h1) (sub z c h2), fun y hy => ?_, (fun y c hy _ => nomatch hy), I.ok.hd, I.ok.frames, .inl rfl, fun b hb => ⟨?_, fun y c h => (hf b hb).2.2.2.2.1 y c (sub y c h)⟩,
      I.bs, Nat.le_trans I.ok.bsz I.sz, fun b o e hb => ?_, fun b hb => nfs b hb, I.stack, I.stkFree⟩,
    rfl, I.bare, Un.kept k1, ⟨m1, n1, fun i y v e1 e2 e3 => ?_⟩, fun y c h => ?_, I.hok.fresh (Nat.le_refl _), fun y c h => I.freeC y c (sub y c h), fun p hp => ?_, I.hok.kept k1, ?_⟩
  · obtain ⟨c, e⟩ := B.cells I y (B.has y hy)
    exact ⟨c, clo_get (B.has y hy) e⟩
  · exact Nat.ne_of_lt (hz b hb)
  · rcases (hf b hb).2.2.2.1 with z | z
    · exact I.ok.noex b o e z
    · exact absurd (Nat.lt_of_lt_of_le (Heap.lt_size (I.ok.bs b o e).1) z) (Nat.lt_irrefl _)
  · have ln : (List.replicate zs.length (none : Option V)).length = zs.length := List.length_replicate
    by_cases lt : i < zs.length
    · have e2' : (blk0 σ fr zs.length)[i]? = some (some v) := e2
      unfold blk0 at e2'
      rw [List.getElem?_append_left (by rw [ln]; exact lt), List.getElem?_replicate] at e2'
      split at e2' <;> cases e2'
    · obtain ⟨k, rfl⟩ : ∃ k, i = zs.length + k := ⟨i - zs.length, by omega⟩
      have e2' : (fr.map fun i => (σ[i]?).join)[k]? = some (some v) := by
        have z : (blk0 σ fr zs.length)[zs.length + k]? = some (some v) := e2
        unfold blk0 at z
        rw [List.getElem?_append_right (by rw [ln]; omega), ln] at z
        simpa using z
      have e1' : ys[k]? = some y := by
        have z : (zs ++ ys)[zs.length + k]? = some y := e1
        rw [List.getElem?_append_right (by omega)] at z
        simpa using z
      rw [List.getElem?_map] at e2'
      obtain ⟨j, hj, ej⟩ := Option.map_eq_some_iff.mp e2'
      have ev : σ[j]? = some (some v) := by
        cases q : σ[j]? with
        | none => rw [q] at ej; cases ej
        | some w => rw [q] at ej; exact congrArg some ej
      have eN : X.N[j]? = some y := by
        have z := congrArg (fun l => l[k]?) B.slots
        simp only [List.getElem?_map, hj, e1', Option.map_some] at z
        exact Option.some.inj z
      have my : y ∈ ys := List.mem_of_getElem? e1'
      obtain ⟨m, _, lk⟩ := I.loc
      obtain ⟨u, r, l⟩ := lk j y v eN ev (.inr (.inl (B.free y (B.ysf y my))))
      refine ⟨u, r, .inr ⟨B.ysc y my, ?_⟩⟩
      rcases l with ⟨kk, _⟩ | ⟨_, c, e, o, ho, hd⟩
      · have z := B.free y (B.ysf y my)
        rw [show X.env.scope.names.lookup y = some .local from kk] at z
        cases z
      · exact ⟨c, clo_get (B.ysf y my) e, o, k1 c o ho, hd⟩
  · obtain ⟨v, o, ho, hd⟩ := I.cell y c (sub y c h)
    exact ⟨v, o, k1 c o ho, hd⟩
  · have hp' : p ∈ X.pn ++ pins := by simpa using hp
    obtain ⟨a1, a2, a3, a4, a5⟩ := I.pin p hp'
    exact ⟨k1 _ _ a1, a2, Nat.ne_of_lt (Heap.lt_size a1), fun z => (List.mem_cons.mp (I.stkSub _ z)).elim a3 a4, a5⟩
  · have z := congrArg List.length B.slots
    simp only [List.length_map] at z
    simp [blk0, z]
end
section
variable {X : Cx} {pins : List (Addr × Obj)} {σ : St} {H : Hp} {s : Shared} {scope : Scope} {zs : List Str} {ys : List Str} {fr : List Nat} {fp : List Addr}
theorem Inv.unblkG {C : Addr} {s' : Shared} {h2 : Heap} {σ' : St} {H' : Hp} {pl : List (Addr × Obj)} (I : Inv X pins σ H s) (hf : ∀ b ∈ fp, FpOk X pins H b) (hC : s.heap.objs.size ≤ C) (J : Inv (X.blkG scope zs ys C fp s H (X.pn ++ pins)) pl σ' H' s') (sb : Heap.SameBut C s'.heap h2) :
    Inv X pins σ H' { s' with heap := h2 } := by
  have kp : ∀ b o, b ≠ C → s'.heap.get? b = some o → h2.get? b = some o := fun b o nb g => (sb.2 b nb).trans g
  have old : ∀ b o, s.heap.get? b = some o → b ≠ C := fun b o g => Nat.ne_of_lt (Nat.lt_of_lt_of_le (Heap.lt_size g) hC)
  have trk : ∀ b u, H' b = some u → b ≠ C := fun b u hb z => by
    have f : H' C = none := J.free
    rw [z, f] at hb
    cases hb
  refine I.call' (s' := { s' with heap := h2 }) J.os (ch := fp) ⟨fun b o e n hb hx => kp b o (old b o e) (J.base.keep b o e n hb hx), fun b o e n hb hx => ?_, fun b o e n hx => J.base.free b o e n hx, fun b o e hx => ?_, J.base.tups, J.base.frzs, J.base.tbls⟩ (fun b u hb => ?_) J.bare fun b hb => ?_
  · obtain ⟨sl, q⟩ := J.base.slot b o e n hb hx
    exact ⟨sl, kp b _ (old b o e) q⟩
  · obtain ⟨o', q⟩ := J.base.there b o e hx
    exact ⟨o', kp b o' (old b o e) q⟩
  · refine (J.hok b u hb).stay (fun c v hc q => ?_) (fun c q => q) fun c xs q => q
    rcases hc with rfl | hc
    · exact kp c v (trk c u hb) q
    · exact kp c v (trk c _ hc) q
  · obtain ⟨_, a1, _, a3, a4, a5⟩ := hf b hb
    exact ⟨a3, a1, a4, a5⟩
end
def GOk (n : Nat) (g : TG) : Prop := ∀ v σ H Q, g v σ H Q → g v σ H (fun σ' H' => Q σ' H' ∧ σ'.length = σ.length ∧ ∀ i, n ≤ i → σ'[i]? = σ[i]?)
theorem gok_name {i n : Nat} (h : i < n) : GOk n (gName i) := fun v σ H Q q => ⟨q, by simp, fun j hj => by rw [List.getElem?_set_ne (by omega)]⟩
def CompG (J : It) (n : Nat) (g : TG) (σ : St) (fr : List Nat) (tc : TT) (te : TE) (l : Addr) (H1 : Hp) (Q : VK) : Prop := ∃ W : Nat → Nat → List V → Hp → Prop, (∃ m, W 0 m [] (upd H1 l (.lst []))) ∧ ∀ i m xs H2, W i m xs H2 →
  (J.stop i H2 ∧ Q (.ref l) H2) ∨ (J.go i H2 ∧ ∀ v H3, J.yld i H2 v H3 → g v (blk0 σ fr n) H3 fun σ' H3' => tc σ' H3' fun b H4 => if b = true then
    (te σ' H4 fun y H5 => H5 l = some (.lst xs) ∧ xs.length < sizeLine ∧ ∃ m', m' < m ∧ W (i + 1) m' (xs ++ [y]) (upd H5 l (.lst (xs ++ [y])))) else ∃ m', m' < m ∧ W (i + 1) m' xs H4)
def tCompG (wi : TI) (n : Nat) (g : TG) (fr : List Nat) (tc : TT) (te : TE) : TE := fun σ H Q => wi σ H fun J H1 => ∀ l, H1 l = none → CompG J n g σ fr tc te l H1 Q
section
variable {X : Cx} {scope : Scope} {zs : List Str} {ys : List Str} {fr : List Nat} {elt iter tg : Expr} {g : TG} {ifs : List Expr} {px pos : Pos} {wi : TI} {tc : TT} {te : TE}
theorem comp_coreG {pins : List (Addr × Obj)} {s : Shared} {σ : St} {H : Hp} {Q : VK} {U : Option (Value → Sem Unit)} {R : Value → Shared → Prop} (hc : X.calm = true) (B : BlkG X scope zs ys fr) (hi : PI X tg iter wi) (hg : ∀ C ex s H pn, (∀ x ∈ zs, (relabel scope X.env).names.lookup x = some .local) → (zs ++ ys).Nodup → PG (X.blkG scope zs ys C ex s H pn) tg g) (gok : GOk zs.length g)
    (hif : ∀ C ex s H pn, PIf (X.blkG scope zs ys C ex s H pn) ifs tc) (he : ∀ C ex s H pn, PE (X.blkG scope zs ys C ex s H pn) elt te) (I : Inv X pins σ H s) (h : tCompG wi zs.length g fr tc te σ H Q)
    (fin : ∀ C l H' s' m, (X.s₀.heap.objs.size ≤ C ∧ C ≠ X.env.locals ∧ (∀ x c, X.env.cells.lookup x = some c → c ≠ C) ∧ ∀ p ∈ X.pn ++ pins, p.1 ≠ C) → H' C = none → s'.heap.Ns C m → (∀ h2, Heap.SameBut C s'.heap h2 → Inv X pins σ H' { s' with heap := h2 }) → Q (.ref l) H' → compPost (model X.prog X.w) X.A X.xe U R (.ref l) C (.ok .next) s') :
    wpAny (model X.prog X.w) X.A (eval iter X.env) (fun v s1 => wpAny (model X.prog X.w) X.A (pyIter v) (fun it s2 => wpAny (model X.prog X.w) X.A (newList []) (fun acc s3 =>
      wpAny (model X.prog X.w) X.A (newFunctionEnv scope X.env.globals (X.clo scope) [] X.env.qual none .none (some X.env)) (fun cenv s4 =>
        codeAny (model X.prog X.w) X.A (.compStart (.ListComp elt [⟨tg, iter, ifs, 0⟩] scope pos) 0 it acc { cenv with scope := relabel scope X.env }) (compPost (model X.prog X.w) X.A X.xe U R acc cenv.locals) s4) X.xe s3) X.xe s2) X.xe s1) X.xe s := by
  refine thn (hi pins s σ H _ I h) fun v s1 h1 => thn h1 fun itv s2 h2 => ?_
  obtain ⟨it, fp, tn, J, H2, rfl, I2, T, st2, f2, body⟩ := h2
  have hN : H2 s2.heap.objs.size = none := I2.hok.fresh (Nat.le_refl _)
  obtain ⟨W, ⟨m0, w0⟩, turn⟩ := body s2.heap.objs.size hN
  refine wpAny_newObj_type ?_
  generalize hs3 : ({ s2 with heap := s2.heap.push { cls := .type "list", data := .seq ([] : List Value).toArray } } : Shared) = s3
  have k3 : ∀ b o, s2.heap.get? b = some o → s3.heap.get? b = some o := fun b o g => by rw [← hs3]; exact Heap.get?_push_of_some _ g
  have I3 : Inv X pins σ (upd H2 s2.heap.objs.size (.lst [])) s3 := by
    rw [← hs3]
    exact I2.laid (t' := s2.toks) (fun b u e => Heap.get?_push_of_some _ e) (Nat.le_refl _) ⟨Nat.zero_le _, [], 0, .nil, Heap.get?_push_size _ rfl⟩
  have z2 : ∀ b ∈ fp, b < s2.heap.objs.size := fun b hb => by
    obtain ⟨o, g, _⟩ := T.obj 0 _ st2 b hb
    exact Heap.lt_size g
  have z3 : ∀ b ∈ fp, b < s3.heap.objs.size := fun b hb => by
    obtain ⟨o, g, _⟩ := T.obj 0 _ st2 b hb
    exact Heap.lt_size (k3 b o g)
  have f3 : ∀ b ∈ fp, FpOk X pins (upd H2 s2.heap.objs.size (.lst [])) b := fun b hb => ⟨by rw [upd_ne (Nat.ne_of_lt (z2 b hb))]; exact (f2 b hb).1, (f2 b hb).2⟩
  have st3 : tn 0 s3.heap := T.keep _ _ _ st2 fun b _ o g => k3 b o g
  refine wpAny_newFunctionEnv B.ncell (by intro y hy; simp at hy) (fun h1 n1 sb1 => ?_) B.kind
  have k4 : ∀ b o, s3.heap.get? b = some o → h1.get? b = some o := fun b o g => sb1.extBut b o (Nat.ne_of_lt (Heap.lt_size g)) (Heap.get?_push_of_some _ g)
  have I4 := I3.blkG (t' := s3.toks + ([] : List (Str × Value)).length) B f3 z3 n1 k4
  have st4 : tn 0 h1 := T.keep _ _ _ st3 fun b _ o g => k4 b o g
  have own' : ∀ x ∈ zs, (relabel scope X.env).names.lookup x = some .local := fun x hx => lookup_relabel_local (B.own x hx)
  -- the iterator's objects, through the loop
  have stat : ∀ {H' : Hp}, (∀ b ∈ fp, H' b = none) → ∀ b ∈ fp, FpOk (X.blkG scope zs ys s3.heap.objs.size fp s3 (upd H2 s2.heap.objs.size (.lst [])) (X.pn ++ pins)) [] H' b := fun hn b hb => by
    obtain ⟨_, a1, a2, a3, a4, a5⟩ := f3 b hb
    exact ⟨hn b hb, Nat.ne_of_lt (z3 b hb), fun z => (List.mem_cons.mp (I3.stkSub b z)).elim a1 a2, .inl hb, fun y c h => a4 y c (B.sub I3 h), fun p hp => a5 p (by simpa using hp)⟩
  have loop : ∀ s4 : Shared, s4 = { s3 with heap := h1, toks := s3.toks + ([] : List (Str × Value)).length } →
      codeAny (model X.prog X.w) X.A (.compLoop (.ListComp elt [⟨tg, iter, ifs, 0⟩] scope pos) 0 (.ref it) (.ref s2.heap.objs.size) (compEnvC scope (X.clo scope) s3.heap.objs.size X.env))
        (compPost (model X.prog X.w) X.A X.xe U R (.ref s2.heap.objs.size) s3.heap.objs.size) s4 := by
    rintro s4 rfl
    refine compLoop_testsG (fun n s' => ∃ i xs H', Inv (X.blkG scope zs ys s3.heap.objs.size fp s3 (upd H2 s2.heap.objs.size (.lst [])) (X.pn ++ pins)) [] (blk0 σ fr zs.length) H' s' ∧ tn i s'.heap ∧ (∀ b ∈ fp, H' b = none) ∧ W i n xs H') ?_ m0
      ⟨0, [], _, I4, st4, fun b hb => (f3 b hb).1, w0⟩
    rintro n s5 ⟨i, xs, H5, I5, st5, fr5, w5⟩
    rcases turn i n xs H5 w5 with ⟨stop, q⟩ | ⟨go, step⟩
    · refine wpAny_mono (T.done (X.blkG scope zs ys s3.heap.objs.size fp s3 (upd H2 s2.heap.objs.size (.lst [])) (X.pn ++ pins)) rfl rfl rfl hc i [] s5 _ H5 (fun _ _ => False) I5 (stat fr5) st5 stop) (fun r s6 ⟨hr, I6⟩ => ?_) fun _ _ z => z.elim
      subst hr
      obtain ⟨m, hm, _⟩ := I6.loc
      exact fin _ _ H5 s6 m ⟨I3.sz, (I3.size_lt (Nat.le_refl _)).2⟩ I6.free hm (fun h2 sb => I3.unblkG f3 (Nat.le_refl _) I6 sb) q
    · refine wpAny_mono (T.item (X.blkG scope zs ys s3.heap.objs.size fp s3 (upd H2 s2.heap.objs.size (.lst [])) (X.pn ++ pins)) rfl rfl rfl hc i [] s5 _ H5 (fun _ _ => False) I5 (stat fr5) st5 go) (fun r s6 ⟨u, hr, h6⟩ => ?_) fun _ _ z => z.elim
      subst hr
      refine wpAny_mono h6 (fun _ s7 ⟨y, H7, I7, r7, y7, st7, fr7⟩ => ?_) fun _ _ z => z.elim
      have I7' := I7.pinned (stat fr7) (T.obj _ _ st7)
      refine wpAny_mono (hg _ _ _ _ _ own' B.ndb _ s7 _ H7 y u _ I7' r7 (gok _ _ _ _ (step y H7 y7))) (fun _ s8 ⟨σ8, H8, I8, q8, l8, k8⟩ => ?_) fun _ _ z => z.elim
      have back : ∀ {s9 : Shared} {H9 : Hp} {xs' : List V}, Inv (X.blkG scope zs ys s3.heap.objs.size fp s3 (upd H2 s2.heap.objs.size (.lst [])) (X.pn ++ pins)) ([] ++ pinsAt fp s7.heap) σ8 H9 s9 → (∃ m', m' < n ∧ W (i + 1) m' xs' H9) →
          ∃ m, m < n ∧ ∃ i xs H', Inv (X.blkG scope zs ys s3.heap.objs.size fp s3 (upd H2 s2.heap.objs.size (.lst [])) (X.pn ++ pins)) [] (blk0 σ fr zs.length) H' s9 ∧ tn i s9.heap ∧ (∀ b ∈ fp, H' b = none) ∧ W i m xs H' := fun {s9 H9 xs'} I9 ⟨m', lt, w9⟩ => by
        refine ⟨m', lt, i + 1, xs', H9, I9.unpinned.weak l8.symm (fun j v e => ?_), T.keep _ _ _ st7 fun b hb o e => (I9.pin (b, o) (List.mem_append_right _ (List.mem_append_right _ (mem_pinsAt hb e)))).1, fun b hb => ?_, w9⟩
        · by_cases lj : j < zs.length
          · unfold blk0 at e
            rw [List.getElem?_append_left (by rw [List.length_replicate]; exact lj), List.getElem?_replicate] at e
            split at e <;> cases e
          · rw [k8 j (by omega)]
            exact e
        obtain ⟨o, e, d⟩ := T.obj _ _ st7 b hb
        exact (I9.pin (b, o) (List.mem_append_right _ (List.mem_append_right _ (mem_pinsAt hb e)))).2.1
      refine wpAny_mono (hif _ _ _ _ _ _ s8 _ H8 _ I8 q8) (fun ok s9 ⟨H9, I9, q9⟩ => ?_) fun _ _ z => z.elim
      cases ok with
      | false =>
        rw [if_neg (by decide)] at q9 ⊢
        exact back I9 q9
      | true =>
        rw [if_pos rfl] at q9 ⊢
        refine wpAny_mono (he _ _ _ _ _ _ s9 _ H9 _ I9 q9) (fun ev s10 ⟨yv, H10, I10, r10, hl, len, w10⟩ => ?_) fun _ _ z => z.elim
        refine wpAny_mono (mt_append (X := X.blkG scope zs ys s3.heap.objs.size fp s3 (upd H2 s2.heap.objs.size (.lst [])) (X.pn ++ pins)) _ s10 _ H10 (.ref s2.heap.objs.size) [yv] (.ref s2.heap.objs.size) [ev] (fun v H' => H' = upd H10 s2.heap.objs.size (.lst (xs ++ [yv]))) I10 rfl (.cons r10 .nil) ⟨_, xs, yv, rfl, rfl, hl, len, rfl⟩)
          (fun _ s11 ⟨_, H11, I11, _, e11⟩ => ?_) fun _ _ z => z.elim
        subst e11
        exact back I11 w10
  exact codeAny_compStart_list (loop _ rfl) (T.self _ 0 _ _ _ st4 (loop _ rfl))
theorem pe_compG (hc : X.calm = true) (B : BlkG X scope zs ys fr) (hi : PI X tg iter wi) (hg : ∀ C ex s H pn, (∀ x ∈ zs, (relabel scope X.env).names.lookup x = some .local) → (zs ++ ys).Nodup → PG (X.blkG scope zs ys C ex s H pn) tg g) (gok : GOk zs.length g) (hif : ∀ C ex s H pn, PIf (X.blkG scope zs ys C ex s H pn) ifs tc) (he : ∀ C ex s H pn, PE (X.blkG scope zs ys C ex s H pn) elt te)
    (hs : ∀ x, foldedSetIterable iter X.env x = pure x := by intro _; rfl) : PE X (.ListComp elt [⟨tg, iter, ifs, 0⟩] scope pos) (tCompG wi zs.length g fr tc te) := by
  intro pins s σ H Q I h
  rw [eval_ListComp]
  refine wpAny_comprehension_free (use := none) rfl hs (clo_of (B.cells I)) B.kind B.names (comp_coreG hc B hi hg gok hif he I h fun C l H' s' m _ _ hm iv q => ?_)
  exact ⟨m, hm, fun h2 sb => ⟨.ref l, H', iv h2 sb, rfl, q⟩⟩
theorem ps_setcG {j : Nat} {y : Str} {py spos : Pos} (hc : X.calm = true) (B : BlkG X scope zs ys fr) (hi : PI X tg iter wi) (hg : ∀ C ex s H pn, (∀ x ∈ zs, (relabel scope X.env).names.lookup x = some .local) → (zs ++ ys).Nodup → PG (X.blkG scope zs ys C ex s H pn) tg g) (gok : GOk zs.length g) (hif : ∀ C ex s H pn, PIf (X.blkG scope zs ys C ex s H pn) ifs tc) (he : ∀ C ex s H pn, PE (X.blkG scope zs ys C ex s H pn) elt te)
    (hj : X.N[j]? = some y) (hy : Loc X.env.scope y) (hf : X.fn y = true ∨ X.env.scope.names.lookup y = some .local := by first | exact .inl rfl | exact .inr rfl | assumption)
    (hsw : swapsWith (.ListComp elt [⟨tg, iter, ifs, 0⟩] scope pos) (some (.Name y py)) spos.line X.env = pure true := by rfl)
    (hs : ∀ x, foldedSetIterable iter X.env x = pure x := by intro _; rfl) : PS X (.Assign [.Name y py] (.ListComp elt [⟨tg, iter, ifs, 0⟩] scope pos) spos) (tAsg (tCompG wi zs.length g fr tc te) (gName j)) := by
  intro pins s σ H D I h
  rw [exec_Assign_Name_used _ _ _ _ hsw]
  refine wpAny_bind (wpAny_standAt (wpAny_bind ?_))
  show wpAny _ _ (do let _ ← comprehension (.ListComp elt [⟨tg, iter, ifs, 0⟩] scope pos) scope X.env _ (newList []) false (eval iter X.env) (some (assign (.Name y py) X.env))) _ _ s
  refine wpAny_bind (wpAny_mono (wpAny_comprehension_free (use := some (assign (.Name y py) X.env)) (Q := fun _ s' => SP X pins D .next s') rfl hs (clo_of (B.cells I)) B.kind B.names
    (comp_coreG hc B hi hg gok hif he I h fun C l H' s' m hC hn hm iv q => ?_)) (fun _ s' z => wpAny_pure (wpAny_pure z)) fun _ _ e => e)
  show wpAny _ _ (assign (.Name y py) X.env (.ref l)) _ _ _
  have J : Inv X pins σ H' s' := iv s'.heap (.refl ..)
  refine wpAny_assign_Name (store_ok2 (v := V.ref l) J B.nd hj hy rfl (fun s2 J2 ⟨a, sb, ha⟩ => ?_) hf)
  have na : a ≠ C := by
    rcases ha with z | z
    · rw [z]; exact Ne.symm hC.2.1
    · exact hC.2.2.1 _ _ z
  refine ⟨m, ?_, fun h2 s3 => ?_⟩
  · obtain ⟨o, es, ep, g, r⟩ := hm
    exact ⟨o, es, ep, (sb.2 C (Ne.symm na)).trans g, r⟩
  · exact ⟨_, H', J2.turned (t' := s2.toks) (fun b o nb g => (s3.2 b nb).trans g) hn (hC.2.1) (.inr hC.1) hC.2.2.1 hC.2.2.2, q⟩
end
def blkOkG (scope sc0 : Scope) (N0 : List Str) (zs : List Str) (ys : List Str) (fr : List Nat) : Bool :=
  scope.kind == .function && zs.all (fun x => scope.names.lookup x == some .local) && scope.names.all (fun y => y.2 != .cell) && scope.names.all (fun y => y.2 != .local || scope.names.lookup y.1 == some .local) &&
  (frees scope).all (fun n => sc0.names.lookup n == some .cell) && fr.map (fun i => N0[i]?) == ys.map some && ys.all (fun y => scope.names.lookup y == some .free) && decide N0.Nodup && decide (zs ++ ys).Nodup
theorem blkG_of {X : Cx} {scope sc0 : Scope} {N0 : List Str} {zs : List Str} {ys : List Str} {fr : List Nat} (chk : blkOkG scope sc0 N0 zs ys fr = true) (es : X.env.scope = sc0) (eN : X.N = N0) (st : X.stack = X.env :: X.outer) : BlkG X scope zs ys fr := by
  unfold blkOkG at chk
  simp only [Bool.and_eq_true, beq_iff_eq, List.all_eq_true, decide_eq_true_eq] at chk
  obtain ⟨⟨⟨⟨⟨⟨⟨⟨a1, a2⟩, a3⟩, a4⟩, a5⟩, a6⟩, a7⟩, a8⟩, a9⟩ := chk
  have nc : ∀ y ∈ scope.names, y.2 ≠ .cell := fun y hy => by simpa using a3 y hy
  refine ⟨a1, a2, nc, fun y hy hl => ?_, fun n hn => by rw [es]; exact a5 n hn, fun n h => relab_has nc n h, by rw [eN]; exact a6, fun y hy => ?_, fun y hy => relab_free (a7 y hy), st, by rw [eN]; exact a8, a9⟩
  · have z := a4 y hy
    rw [hl] at z
    simpa using z
  · exact List.mem_map.mpr ⟨(y, .free), List.mem_filter.mpr ⟨PySem.mem_of_lookup (a7 y hy), by simp⟩, rfl⟩
theorem gok_tup {K : PySem.W.Frag} {m n : Nat} {t : TGs} (h : ∀ vs σ H Q, t vs σ H Q → t vs σ H (fun σ' H' => Q σ' H' ∧ σ'.length = σ.length ∧ ∀ i, n ≤ i → σ'[i]? = σ[i]?)) : GOk n (gTup K m t) := fun v σ H Q q => by
  obtain ⟨a, xs, e, hs, hl, q⟩ := q
  exact ⟨a, xs, e, hs, hl, h _ _ _ _ q⟩
theorem goks_nil {n : Nat} : ∀ vs σ H Q, gNil vs σ H Q → gNil vs σ H (fun σ' H' => Q σ' H' ∧ σ'.length = σ.length ∧ ∀ i, n ≤ i → σ'[i]? = σ[i]?) := fun vs σ H Q q => ⟨q.1, q.2, rfl, fun _ _ => rfl⟩
theorem goks_cons {i n : Nat} (hi : i < n) {t : TGs} (h : ∀ vs σ H Q, t vs σ H Q → t vs σ H (fun σ' H' => Q σ' H' ∧ σ'.length = σ.length ∧ ∀ i, n ≤ i → σ'[i]? = σ[i]?)) :
    ∀ vs σ H Q, gCons (gName i) t vs σ H Q → gCons (gName i) t vs σ H (fun σ' H' => Q σ' H' ∧ σ'.length = σ.length ∧ ∀ i, n ≤ i → σ'[i]? = σ[i]?) := fun vs σ H Q q => by
  obtain ⟨v, r, e, q⟩ := q
  refine ⟨v, r, e, ?_⟩
  have z := h _ _ _ _ q
  have e2 : ∀ (j : Nat), n ≤ j → (σ.set i (some v))[j]? = σ[j]? := fun j hj => by rw [List.getElem?_set_ne (by omega)]
  have e1 : (σ.set i (some v)).length = σ.length := by simp
  have key : (fun σ' H' => Q σ' H' ∧ σ'.length = (σ.set i (some v)).length ∧ ∀ j, n ≤ j → σ'[j]? = (σ.set i (some v))[j]?) = (fun σ' (H' : Hp) => Q σ' H' ∧ σ'.length = σ.length ∧ ∀ j, n ≤ j → σ'[j]? = σ[j]?) := by
    funext σ' H'
    rw [e1]
    refine propext ⟨fun ⟨a, b, c⟩ => ⟨a, b, fun j hj => (c j hj).trans (e2 j hj)⟩, fun ⟨a, b, c⟩ => ⟨a, b, fun j hj => (c j hj).trans (e2 j hj).symm⟩⟩
  rw [key] at z
  exact z
theorem compG_by {J : It} {n : Nat} {g : TG} {σ : St} {fr : List Nat} {tc : TT} {te : TE} {l : Addr} {H1 : Hp} {Q : VK} (len : Nat) (Pv : Nat → List V → Hp → Prop) (h0 : Pv 0 [] (upd H1 l (.lst []))) (hgo : ∀ i xs H, i < len → Pv i xs H → J.go i H)
    (step : ∀ i xs H2 v H3, i < len → Pv i xs H2 → J.yld i H2 v H3 → ∀ N : List V → Hp → Prop, (∀ xs' H', Pv (i + 1) xs' H' → N xs' H') → g v (blk0 σ fr n) H3 fun σ' H3' => tc σ' H3' fun b H4 => if b = true then
      (te σ' H4 fun y H5 => H5 l = some (.lst xs) ∧ xs.length < sizeLine ∧ N (xs ++ [y]) (upd H5 l (.lst (xs ++ [y])))) else N xs H4)
    (fin : ∀ xs H2, Pv len xs H2 → J.stop len H2 ∧ Q (.ref l) H2) : CompG J n g σ fr tc te l H1 Q := by
  refine ⟨fun i m xs H => m = len - i ∧ i ≤ len ∧ Pv i xs H, ⟨len, by simp, Nat.zero_le _, h0⟩, ?_⟩
  rintro i m xs H2 ⟨rfl, hi, p⟩
  by_cases lt : i < len
  · exact .inr ⟨hgo i xs H2 lt p, fun v H3 y => step i xs H2 v H3 lt p y (fun xs' H' => ∃ m', m' < len - i ∧ m' = len - (i + 1) ∧ i + 1 ≤ len ∧ Pv (i + 1) xs' H') fun xs' H' q => ⟨_, by omega, rfl, lt, q⟩⟩
  · have e : i = len := by omega
    subst e
    exact .inl (fin xs H2 p)
end L2
set_option maxRecDepth 100000
namespace L2
open PySem PySem.Spec PyProof.Rows XL
variable {q0 : Bool}
section
variable {X : Cx} {pins : List (Addr × Obj)} {σ : St} {H : Hp} {s : Shared}
theorem Inv.adopt {p : Addr} {o : HO} (I : Inv X pins σ H s) (n : H p = none) (h0 : X.s₀.heap.objs.size ≤ p) (hL : p ≠ X.env.locals) (hC : ∀ x c, X.env.cells.lookup x = some c → c ≠ p) (hp : ∀ q ∈ X.pn ++ pins, q.1 ≠ p)
    (new : ObjOk X.prog X.w (upd H p o) s.heap p o) : Inv X pins σ (upd H p o) s := by
  have ne : ∀ b u, H b = some u → b ≠ p := fun b u e => ne_of_none e n
  refine ⟨I.ok, I.os, I.bare, ⟨I.base.keep, I.base.slot, fun b ob e hn hx => ?_, I.base.there, fun b xs e => ?_, fun b ob u e => ?_, fun b ps e => ?_⟩, I.loc, I.cell, ?_, fun x c e => ?_, fun q hq => ?_, fun b u e => ?_, I.len⟩
  · rw [upd_ne (Nat.ne_of_lt (Nat.lt_of_lt_of_le (Heap.lt_size e) h0))]
    exact I.base.free b ob e hn hx
  · have z := I.base.tups b xs e
    rw [upd_ne (ne b _ z)]
    exact z
  · have z := I.base.frzs b ob u e
    rw [upd_ne (ne b _ z)]
    exact z
  · obtain ⟨m, z⟩ := I.base.tbls b ps e
    exact ⟨m, by rw [upd_ne (ne b _ z)]; exact z⟩
  · rw [upd_ne (Ne.symm hL)]
    exact I.free
  · rw [upd_ne (hC x c e)]
    exact I.freeC x c e
  · obtain ⟨a1, a2, a3⟩ := I.pin q hq
    exact ⟨a1, by rw [upd_ne (hp q hq)]; exact a2, a3⟩
  · by_cases hb : b = p
    · subst hb
      rw [upd_same] at e
      cases e
      exact new
    · rw [upd_ne hb] at e
      exact (I.hok b u e).stay (fun c v _ q => q) (fun c q => by rw [upd_ne (ne c _ q)]; exact q) fun c xs q => by rw [upd_ne (ne c _ q)]; exact q
theorem Inv.thaw {d : Addr} {o : Obj} {u : HO} (I : Inv X pins σ H s) (e : H d = some (.frz o u)) (nf : ∀ o' u', X.H₀ d ≠ some (.frz o' u')) : Inv X pins σ (upd H d u) s := by
  have ne : ∀ b v, H b = some v → (∀ o' u', v ≠ .frz o' u') → b ≠ d := fun b v h1 h2 z => by
    subst z
    rw [e] at h1
    cases h1
    exact h2 _ _ rfl
  have ne0 : ∀ b, H b = none → b ≠ d := fun b h1 z => by
    subst z
    rw [e] at h1
    cases h1
  refine ⟨I.ok, I.os, I.bare, ⟨I.base.keep, I.base.slot, fun b ob q hn hx => ?_, I.base.there, fun b xs q => ?_, fun b ob v q => ?_, fun b ps q => ?_⟩, I.loc, I.cell, ?_, fun x c q => ?_, fun p hp => ?_, fun b v q => ?_, I.len⟩
  · have z := I.base.free b ob q hn hx
    rw [upd_ne (ne0 b z)]
    exact z
  · have z := I.base.tups b xs q
    rw [upd_ne (ne b _ z (fun _ _ h => nomatch h))]
    exact z
  · have z := I.base.frzs b ob v q
    have hb : b ≠ d := fun w => by
      subst w
      exact nf _ _ q
    rw [upd_ne hb]
    exact z
  · obtain ⟨m, z⟩ := I.base.tbls b ps q
    exact ⟨m, by rw [upd_ne (ne b _ z (fun _ _ h => nomatch h))]; exact z⟩
  · rw [upd_ne (ne0 _ I.free)]
    exact I.free
  · rw [upd_ne (ne0 _ (I.freeC x c q))]
    exact I.freeC x c q
  · obtain ⟨a1, a2, a3⟩ := I.pin p hp
    exact ⟨a1, by rw [upd_ne (ne0 _ a2)]; exact a2, a3⟩
  · have st : ∀ (a : Addr) (v : HO), ObjOk X.prog X.w H s.heap a v → ObjOk X.prog X.w (upd H d u) s.heap a v := fun a v k =>
      k.stay (fun c v _ q => q) (fun c q => by rw [upd_ne (ne c _ q (fun _ _ h => nomatch h))]; exact q) fun c xs q => by rw [upd_ne (ne c _ q (fun _ _ h => nomatch h))]; exact q
    by_cases hb : b = d
    · subst hb
      rw [upd_same] at q
      cases q
      obtain ⟨g, ok⟩ := I.hok b _ e
      exact st _ _ ok
    · rw [upd_ne hb] at q
      exact st _ _ (I.hok b v q)
theorem Inv.nofrz {d : Addr} {kvs : List (Key × V)} (I : Inv X pins σ H s) (e : H d = some (.dK kvs)) : ∀ o' u', X.H₀ d ≠ some (.frz o' u') := fun o' u' z => by
  have q := I.base.frzs d o' u' z
  rw [e] at q
  cases q
theorem KV.get : ∀ {kvs : List (Key × V)} {vs : List (Key × Value)} {i : Nat} {k : Key} {x : V}, KV kvs vs → kvs[i]? = some (k, x) → ∃ u, vs[i]? = some (k, u) ∧ RelV x u
  | _, _, _, _, _, .nil, e => by simp at e
  | _, (_, _) :: _, 0, _, _, .cons r _, e => by
    simp at e
    subst e
    obtain ⟨r1, r2⟩ := r
    dsimp only at r1 r2
    subst r1
    exact ⟨_, rfl, r2⟩
  | _, _, i + 1, k, x, .cons _ t, e => by
    obtain ⟨u, h1, h2⟩ := KV.get (i := i) (k := k) (x := x) t (by simpa using e)
    exact ⟨u, by simpa using h1, h2⟩
theorem kV_rel {P : Program} {w : World} {k : Key} {u : Value} (h : (mixKind P w).is k u = true) : RelV (kV k) u := by
  rcases keyIs_shape (show keyIs k u = true from h) with ⟨i, t, rfl, rfl⟩ | ⟨x, t, rfl, rfl⟩
  · exact ⟨t, rfl⟩
  · exact ⟨t, rfl⟩
theorem frz_at {d : Addr} {o : Obj} {kvs : List (Key × V)} {ep : Nat} (I : Inv X pins σ H s) (e : H d = some (.frz o (.dK kvs))) (hep : ∃ es, o.data = .dict es ep) : ∃ vs, KV kvs vs ∧ s.heap.DictAt (mixKind X.prog X.w) d vs ep := by
  obtain ⟨g, _, _, vs, rel, o', es', ep', g', ex, hdat, hk, hp, hn⟩ := I.hok d _ e
  rw [g] at g'
  cases g'
  obtain ⟨es, he⟩ := hep
  rw [he] at hdat
  cases hdat
  exact ⟨vs, rel, o, _, g, ex, he, hk, hp, hn⟩
end
def Iti (d : Addr) (o : Obj) (kvs : List (Key × V)) : It :=
  ⟨fun i H => H d = some (.frz o (.dK kvs)) ∧ i < kvs.length, fun i H v H' => ∃ p k x, kvs[i]? = some (k, x) ∧ v = .ref p ∧ H p = none ∧ H' = upd H p (.tup [kV k, x]), fun i H => H d = some (.frz o (.dK kvs)) ∧ kvs.length ≤ i⟩
theorem turn_items {P : Program} {w : World} {K : PySem.W.Frag} {elts : List Expr} {x1} {tpos : Pos} (d it : Addr) (o : Obj) (kvs : List (Key × V)) (ep : Nat) (hep : ∃ es, o.data = .dict es ep) :
    Turn P w K (.Tuple elts x1 tpos) (Iti d o kvs) [it] it (fun i h => ∃ ok ov, IsItemIter h it d i kvs.length ep ok ov) where
  mem := by simp
  obj := fun i h st b hb => by
    have e : b = it := by simpa using hb
    subst e
    obtain ⟨ok, ov, st⟩ := st
    exact ⟨_, st, fun v z => by
      have z' : Data.fields _ = Data.cell v := z
      cases z'⟩
  keep := fun i h h' ⟨ok, ov, st⟩ k => ⟨ok, ov, k it (by simp) _ st⟩
  item := by
    intro X hP hw hK hc i pins s σ H E I hf st hg
    subst hP hw hK
    obtain ⟨ok, ov, st⟩ := st
    obtain ⟨e, lt⟩ := hg
    obtain ⟨vs, rel, da⟩ := frz_at I e hep
    obtain ⟨f0, f1, f2, f3, f4, f5⟩ := hf it (by simp)
    have hl : kvs.length = vs.length := rel.length
    obtain ⟨⟨k, x⟩, q⟩ : ∃ y, kvs[i] = y := ⟨_, rfl⟩
    have hx : kvs[i]? = some (k, x) := by rw [List.getElem?_eq_getElem lt, q]
    obtain ⟨u, hv, ru⟩ := rel.get hx
    rw [hl] at st
    refine wpAny_pyNext_items_item st da hv fun key h' hkey hout ht hz hkp => ?_
    refine ⟨_, rfl, wpAny_letOwnedTupleGo_items hout fun h'' hit' hsb => ?_⟩
    have kk : ∀ b o, b ≠ it → s.heap.get? b = some o → h''.get? b = some o := fun b o hb g => (hsb.2 b hb).trans (hkp b o hb g)
    have I1 : Inv X pins σ H { s with heap := h'' } := I.turned (t' := s.toks) kk f0 f1 f3 f4 f5
    obtain ⟨n0, nL, nC, nP⟩ := I.size_lt (Nat.le_refl s.heap.objs.size)
    have itlt : it < s.heap.objs.size := Heap.lt_size st
    have pne : s.heap.objs.size ≠ it := Nat.ne_of_gt itlt
    have hp : h''.get? s.heap.objs.size = some { cls := .type "tuple", data := .seq #[key, u] } := (hsb.2 _ pne).trans ht
    refine ⟨.ref s.heap.objs.size, upd H s.heap.objs.size (.tup [kV k, x]), I1.adopt n0 I.sz nL nC nP ⟨by show 2 ≤ sizeLine; decide, [key, u], .cons (kV_rel hkey) (.cons ru .nil), _, hp, rfl, _, rfl⟩, rfl, ⟨_, k, x, hx, rfl, n0, rfl⟩, ?_, fun b hb => ?_⟩
    · rw [← hl] at hit'
      exact ⟨_, _, hit'⟩
    · have e : b = it := by simpa using hb
      subst e
      rw [upd_ne (Ne.symm pne)]
      exact f0
  done := by
    intro X hP hw hK hc i pins s σ H E I hf st hg
    subst hP hw hK
    obtain ⟨ok, ov, st⟩ := st
    obtain ⟨e, le⟩ := hg
    obtain ⟨vs, rel, da⟩ := frz_at I e hep
    obtain ⟨f0, f1, f2, f3, f4, f5⟩ := hf it (by simp)
    have hl : kvs.length = vs.length := rel.length
    rw [hl] at st
    exact wpAny_pyNext_items_end (I.ok.hd hc) st da (by simpa using (by omega : vs.length ≤ i)) fun h' eb => ⟨rfl, I.turned (t' := s.toks) (fun b o hb e => eb b o hb e) f0 f1 f3 f4 f5⟩
  self := fun _ _ _ _ _ ⟨ok, ov, st⟩ h => PySem.W.kcp_self st h
def iItems (X : Cx) (to : TE) : TI := fun σ H R => to σ H fun x H1 => ∃ d kvs, x = .ref d ∧ H1 d = some (.dK kvs) ∧ ∀ ob, (∀ o' u', X.H₀ d ≠ some (.frz o' u')) → R (Iti d ob kvs) (upd H1 d (.frz ob (.dK kvs)))
section
variable {X : Cx} {o : Expr} {to : TE} {elts : List Expr} {x1 : _} {tpos apos cpos : Pos}
theorem pi_items (ho : PE X o to) (hbase : attributeBase o "items" X.env (eval o X.env) = eval o X.env := by rfl) (hline : (apos.endLine == cpos.line) = true := by rfl) :
    PI X (.Tuple elts x1 tpos) (.Call (.Attribute o "items" apos) [] [] cpos) (iItems X to) := by
  intro pins s σ H R I h
  refine wpAny_Call_method0_late hbase hline (thn (ho pins s σ H _ I h) fun v s1 ⟨x, H1, I1, r1, q1⟩ => ?_)
  obtain ⟨d, kvs, e1, e, q⟩ := q1
  subst e1
  cases r1
  obtain ⟨z, hd, vs, rel, dd⟩ := dk_of I1.hok e
  obtain ⟨ob, es, ep, g, ex, hdat, hk, hp, hn⟩ := id dd
  refine ⟨"dict", "dict.items", PySem.F.plainAttrs_dict, PySem.F.slot_dict_items, PySem.F.type_dict_items, dd.typeIs, fun a e2 => ?_, Calls.callWith_builtin rfl (PySem.evalArgs_none ?_)⟩
  · cases e2
    exact ⟨ob, g, ex.2.1⟩
  refine call_meetsIn PySem.F.slot_dict_items dd.typeIs PySem.F.entry_dict_items (PySem.F.args_dict_items_1 _) (meets_dict_items (mixKind X.prog X.w) d hd) ⟨⟨vs, dd⟩, ?_⟩
  have da : (s1.heap.push { cls := .type "dict_items", data := .fields #[.ref d] }).DictAt (mixKind X.prog X.w) d vs ep := ⟨ob, es, Heap.get?_push_of_some _ g, ex, hdat, hk, hp, hn⟩
  refine wpAny_pyIter_items (s := { s1 with heap := s1.heap.push { cls := .type "dict_items", data := .fields #[.ref d] } }) ⟨_, Heap.get?_push_size _ rfl, rfl, rfl⟩ da ?_
  have I2 : Inv X pins σ H1 { s1 with heap := s1.heap.push { cls := .type "dict_items", data := .fields #[.ref d] } } := I1.kept (t' := s1.toks) fun b o e => Heap.get?_push_of_some _ e
  generalize hs2 : ({ s1 with heap := s1.heap.push { cls := .type "dict_items", data := .fields #[.ref d] } } : Shared) = s2 at I2
  have g2 : s2.heap.get? d = some ob := by rw [← hs2]; exact Heap.get?_push_of_some _ g
  have I3 : Inv X pins σ (upd H1 d (.frz ob (.dK kvs))) s2 := I2.write (t' := s2.toks) (x := d) (e := d) (by rw [e]; exact True.intro) (.inl rfl) (fun b u _ q => q) ⟨ob, g2⟩ ⟨g2, I2.hok d _ e⟩
  have I4 : Inv X pins σ (upd H1 d (.frz ob (.dK kvs))) { s2 with heap := s2.heap.push { cls := .type "dict_itemiterator", data := .fields #[.none, .bool false, .ref d, .int 0 0, .int vs.length 0, .int ep 0, .none, .none] } } :=
    I3.kept (t' := s2.toks) fun b o e => Heap.get?_push_of_some _ e
  have fin : PIE X pins σ (.Tuple elts x1 tpos) R (.ref s2.heap.objs.size) { s2 with heap := s2.heap.push { cls := .type "dict_itemiterator", data := .fields #[.none, .bool false, .ref d, .int 0 0, .int vs.length 0, .int ep 0, .none, .none] } } := by
    refine ⟨s2.heap.objs.size, [s2.heap.objs.size], _, _, upd H1 d (.frz ob (.dK kvs)), rfl, I4, turn_items d _ ob kvs ep ⟨es, hdat⟩, ⟨.none, .none, ?_⟩, fun b hb => ?_, q ob (I1.nofrz e)⟩
    · have hl : kvs.length = vs.length := rel.length
      show IsItemIter _ _ d 0 kvs.length ep .none .none
      rw [hl]
      exact Heap.get?_push_size _ rfl
    · have eb : b = s2.heap.objs.size := by simpa using hb
      subst eb
      exact I3.fpOk (Nat.le_refl _) (I3.hok.fresh (Nat.le_refl _))
  exact fin
theorem thaw_end {pins : List (Addr × Obj)} {σ : St} {Q : VK} {u : Value} {s : Shared} (h : EP X pins σ (fun v H2 => ∃ d ob u, H2 d = some (.frz ob u) ∧ (∀ o' u', X.H₀ d ≠ some (.frz o' u')) ∧ Q v (upd H2 d u)) u s) : EP X pins σ Q u s := by
  obtain ⟨v, H2, I2, r2, d, ob, u', e, nf, q⟩ := h
  exact ⟨v, _, I2.thaw e nf, r2, q⟩
theorem pe_thaw {e : Expr} {t : TE} (h : PE X e t) : PE X e (fun σ H Q => t σ H fun v H2 => ∃ d ob u, H2 d = some (.frz ob u) ∧ (∀ o' u', X.H₀ d ≠ some (.frz o' u')) ∧ Q v (upd H2 d u)) := fun pins s σ H Q I q =>
  thn (h pins s σ H _ I q) fun _ _ z => thaw_end z
end
end L2
set_option maxRecDepth 100000
namespace PySem.F
end PySem.F
namespace L2
open PySem PySem.Spec PyProof.Rows XL
variable {q0 : Bool}
section
variable {X : Cx} {pins : List (Addr × Obj)} {σ : St} {H : Hp} {s : Shared} {a : Addr} {y v : V} {u r : Value} {A : Around} {E : Value → Shared → Prop}
end
end L2
set_option maxRecDepth 100000
namespace L2
open PySem PySem.Spec PyProof.Rows XL
variable {q0 : Bool}
section
variable {X : Cx} {tg : Expr}
end
theorem vals_at {xs : List V} {us : List Value} (r : Vals xs us) {j : Nat} (h : j < us.toArray.size) : ∃ x, xs[j]? = some x ∧ RelV x us.toArray[j] := by
  have hl := r.length
  have hj : j < xs.length := by simp at h; omega
  obtain ⟨u, h1, h2⟩ := r.get (x := xs[j]) (List.getElem?_eq_getElem hj)
  refine ⟨xs[j], List.getElem?_eq_getElem hj, ?_⟩
  have : us.toArray[j] = u := by
    have z := List.getElem?_eq_some_iff.mp h1
    obtain ⟨z1, z2⟩ := z
    simpa using z2
  rw [this]
  exact h2
section
variable {X : Cx} {pins : List (Addr × Obj)} {σ : St} {H : Hp} {s : Shared}
end
theorem hu20_of {A : Around} {k : Nat} (hr : Room q0 k A) : A.units + 20 < cLine := by have := hr.un; omega
theorem call_lenD {X : Cx} : CallR X (.builtin "len") (fun xs H Q => ∃ a kvs, xs = [.ref a] ∧ H a = some (.dK kvs) ∧ Q (.int kvs.length) H) := by
  intro pins s σ H xs us Q I r h
  obtain ⟨a, kvs, rfl, e, q⟩ := h
  obtain ⟨u, rfl, rx⟩ := vals1 r
  obtain rfl : u = Value.ref a := rx
  exact d_len I (.inl e) fun t s' I' => ⟨.int _, H, I', ⟨t, rfl⟩, q⟩
inductive Ents (w : World) : List DictEntry → List (Key × V) → Prop
  | nil : Ents w [] []
  | cons {k : Key} {x : V} {key val : Value} {h : Int} {es : List DictEntry} {kvs : List (Key × V)} (hh : h = keyH w k) (hk : RelV (kV k) key) (hv : RelV x val) (r : Ents w es kvs) : Ents w (⟨h, key, val⟩ :: es) ((k, x) :: kvs)
def GDict (w : World) (K : PySem.W.Frag) (D : Addr) (kvs : List (Key × V)) : Prop := (D == sysModules) = false ∧ ∃ (es : Array DictEntry) (ep : Nat), K.lookup D = some ⟨.type "dict", none, .dict es ep, #[]⟩ ∧ Ents w es.toList kvs ∧ (kvs.map (·.1)).Nodup
theorem Ents.ok {P : Program} {w : World} {es : List DictEntry} {kvs : List (Key × V)} (h : Ents w es kvs) : ∃ vs, KV kvs vs ∧ Pairs (mixKind P w) es vs ∧ ∀ e ∈ es, ∃ k, (mixKind P w).is k e.key = true ∧ e.hash = (mixKind P w).hash k := by
  induction h with
  | nil => exact ⟨[], .nil, .nil, fun e z => nomatch z⟩
  | @cons k x key val h es kvs hh hk hv _ ih =>
    obtain ⟨vs, a, b, c⟩ := ih
    refine ⟨(k, val) :: vs, .cons ⟨rfl, hv⟩ a, .cons (kV_is hk) rfl b, fun e he => ?_⟩
    rcases List.mem_cons.mp he with rfl | z
    · exact ⟨k, kV_is hk, hh⟩
    · exact c e z
section
variable {X : Cx} {pins : List (Addr × Obj)} {σ : St} {H : Hp} {s : Shared} {D : Addr} {kvs : List (Key × V)}
theorem gdict_at (I : Inv X pins σ H s) (g : GDict X.w X.K D kvs) : ∃ vs, KV kvs vs ∧ s.heap.DictOf (mixKind X.prog X.w) D vs := by
  obtain ⟨_, es, ep, l, en, nd⟩ := g
  obtain ⟨vs, a, b, c⟩ := en.ok (P := X.prog)
  refine ⟨vs, a, _, es, ep, I.kIn _ _ l, ⟨rfl, rfl, rfl⟩, rfl, fun e he => c e (by simpa using he), b, ?_⟩
  rw [← a.keys]
  exact nd
def tGIn (kvs : List (Key × V)) (neg : Bool) (ty : TE) : TE := fun σ H Q => ty σ H fun y H1 => ∃ k : Key, y = kV k ∧ Q (.bl (if neg then !(valV kvs k).isSome else (valV kvs k).isSome)) H1
theorem pc_gnotin {i : Expr} {ty : TE} {x : Str} {p : Pos} (hi : PE X i ty) (hg : Gl X x) (hm : X.mg x = some (.ref D)) (g : GDict X.w X.K D kvs) (hd : (x == ("__debug__" : Str)) = false := by decide) : PC X .NotIn i (.Name x p) (tGIn kvs true ty) := by
  intro pins s σ H Q I h
  refine thn (hi pins s σ H _ I h) fun iv s1 ⟨y, H1, I1, ry, k, ey, q1⟩ => thn (pe_glob (v := .ref D) hg hm rfl hd pins s1 σ H1 (fun v H2 => v = .ref D ∧ H2 = H1) I1 ⟨rfl, rfl⟩) fun u s2 ⟨x, H2, I2, rx, e1, e2⟩ => ?_
  subst ey e1 e2
  obtain rfl : u = Value.ref D := rx
  obtain ⟨vs, rel, dd⟩ := gdict_at I2 g
  refine wpAny_notIn_of (kV_is ry) g.1 dd.mapOf ?_
  rw [← (rel.val k).isSome_eq]
  exact ⟨.bl _, _, I2.tok _, rfl, q1⟩
end
end L2
set_option maxRecDepth 100000
namespace L2
open PySem PySem.Spec PyProof.Rows XL
variable {q0 : Bool}
end L2
set_option maxRecDepth 100000
namespace L2
open PySem PySem.Spec PyProof.Rows XL
variable {q0 : Bool}
section
variable {X : Cx} {pins : List (Addr × Obj)} {σ : St} {H : Hp} {s : Shared} {h' : Heap}
theorem Inv.turnedL {t' : Nat} {ch : List Addr} (I : Inv X pins σ H s) (k : ∀ b o, b ∉ ch → s.heap.get? b = some o → h'.get? b = some o) (hf : ∀ b ∈ ch, FpOk X pins H b) : Inv X pins σ H { s with heap := h', toks := t' } := by
  have nit : ∀ b u, H b = some u → b ∉ ch := fun b u e z => by
    have := (hf b z).1
    rw [this] at e
    cases e
  refine I.step (g' := s.gens) (d' := s.drawn) (ch := ch) (fun b hb => ?_) (fun b o _ _ hc e _ => k b o hc e) (fun b o _ _ hc e _ => ⟨o.slots, k b o hc e⟩) (fun _ _ _ _ n => n)
    (fun b o hc e => ⟨o, k b o hc e⟩) (fun _ _ e => e) (fun _ _ _ e => e) (fun b ps e => ⟨#[], by rw [e]; simp⟩) (fun m hm => ?_) (fun b u e => ?_) I.bare
  · obtain ⟨f0, f1, f2, f3, f4, f5⟩ := hf b hb
    exact ⟨f3, f1, f4, f5⟩
  · obtain ⟨o, es, ep, ho, r⟩ := hm
    exact ⟨o, es, ep, k _ o (fun z => (hf _ z).2.1 rfl) ho, r⟩
  · refine (I.hok b u e).stay (fun c v hc q => k c v ?_ q) (fun _ q => q) fun _ _ q => q
    rcases hc with z | z
    · rw [z]; exact nit b u e
    · exact nit c _ z
end
section
variable {X : Cx} {tg : Expr}
end
theorem ne_num {a b : Nat} (h : a ≠ b) : (a : Addr) ≠ (b : Addr) := h
section
variable {X : Cx} {elts : List Expr} {x1 : _} {tpos : Pos}
end
end L2
set_option maxRecDepth 100000
namespace L2
open PySem PySem.Spec PyProof.Rows XL
variable {q0 : Bool}
section
variable {X : Cx} {elts : List Expr} {x1 : _} {tpos : Pos}
end
end L2
namespace L2
open PySem PySem.Spec PyProof.Rows XL
end L2
set_option maxRecDepth 100000
namespace L2
open PySem PySem.Spec PyProof.Rows XL
def tMid (t : TS) : TS := fun D σ H => ∃ Pv : St → Hp → Prop, t { D with nx := Pv } σ H ∧ ∀ σ' H', Pv σ' H' → D.nx σ' H'
theorem ps_mid {X : Cx} {st : Stmt} {t : TS} (h : PS X st t) : PS X st (tMid t) := by
  intro pins s σ H D I q
  obtain ⟨Pv, q1, q2⟩ := q
  refine thn (h pins s σ H { D with nx := Pv } I q1) fun fl s1 z => ?_
  cases fl with
  | next =>
    obtain ⟨σ', H', I', r⟩ := z
    exact ⟨σ', H', I', q2 _ _ r⟩
  | _ => exact z
end L2
set_option maxRecDepth 100000
namespace XL
open PySem PySem.W
section
variable {prog : Program} {w : World} {A : Around} {E : Value → Shared → Prop} {h : Heap} {g : Array GenState} {d : Drawn} {t : Nat} {os : OsState}
variable {nm qn : Str} {C N : Addr} {bs bm bmB : List Value} {hz : Bool} {sn : List Str} {sub : List Value} {ab : Bool} {col : Option Bool} {dd : Option Addr} {k0 k1 k2 k3 k5 : Option Value} {B ni ii : String}
end
end XL
namespace L2
open PySem PySem.Spec PyProof.Rows XL
variable {q0 : Bool}
section
variable {X : Cx} {C : Addr} {x : Str} {p pos : Pos}
end
section
variable {X : Cx} {pos np hpos np1 np2 hpos1 hpos2 : Pos} {body hbody hbody1 hbody2 : List Stmt} {b0 b1 b2 : Stmt} {cx cx1 cx2 n : Str} {C0 C1 C2 : Addr} {j : Nat} {E : St → XK} {tb th th1 th2 : TS} {rest : List ExceptHandler}
theorem handle_hit {pins : List (Addr × Obj)} {σ' : St} {H' : Hp} {s2 : Shared} {D : Ends} {e C T : Addr} {od : Option Addr} (ok : X.Ok) (hg : Gl X cx) (hm : X.mg cx = some (.ref C0)) (mk0 : xmkIn X.K C0 = true) (hN : X.N.Nodup) (hj : X.N[j]? = some n) (hl : X.env.scope.names.lookup n = some .local)
    (hh : ∀ e, PSs (X.hand e) (b0 :: hbody) th) (hdb : (cx == ("__debug__" : Str)) = false) (J2 : Inv X pins σ' H' s2) (x' : Xat s2.heap e (.ref C) od (some T)) (he : H' e = some (XO e C od)) (tbs2 : Tbs X pins H' (some T)) (nT : ∀ b ∈ frs X.stack, b ≠ T)
    (mkC : xmkIn X.K C = true) (mro : PySem.W.mroIn X.K C (.ref C0) = some true) (hth : th (endH D j) (σ'.set j (some (.ref e))) H') :
    wpAny (model X.prog X.w) X.A (handleBy (.ref e) X.env (.ExceptHandler (some (.Name cx np)) (some n) (b0 :: hbody) hpos :: rest)) (SP X pins D) X.xe s2 := by
  obtain ⟨nm, qn, N, bs, bm, hz, sn, sub, ab, col, dd, k0, k1, k2, k3, k5, gC, TC⟩ := xmk_of J2.kIn mkC
  obtain ⟨nm', qn', N', bs', bm', hz', sn', sub', ab', col', dd', j0, j1, j2, j3, j5, gC0, TC0⟩ := xmk_of J2.kIn mk0
  refine wpAny_handleBy_cons (codeAny_handlers_test (ld_glob (X := X.hand e) (J2.hand e) hg hm ?_ hdb)) (by intro z; cases z)
  obtain ⟨oe, _, ge, ce, _⟩ := id x'
  have hmr : (Value.ref C :: bm).contains (.ref C0) = true := by
    obtain ⟨cd, e1, e2⟩ := Option.bind_eq_some_iff.mp mro
    have e3 : (Value.ref C :: bm) = cd.mro := by
      unfold PySem.W.clsIn at e1
      split at e1
      · rename_i c1 d1 cd1 sl1 ho
        cases e1
        have z := (J2.kIn _ _ ho).symm.trans gC
        injection z with z
        injection z with _ _ z _
        injection z with z
        rw [z]
      · cases e1
    rw [e3]
    split at e2
    · cases e2
    · exact Option.some.inj e2
  refine matches_own (M := model X.prog X.w) gC gC0 ge ce (tail_base TC0) hmr ?_
  show codeAny _ _ _ _ _
  refine codeAny_handlers_suite_as (flight_x (fs := frs X.stack) x' nT fun h3 st3 x3 => ?_)
  have J3 : Inv X pins σ' H' { s2 with heap := h3 } := J2.noted he tbs2 st3 x3
  refine store_ok (v := V.ref e) J3 hN hj (.inl hl) rfl (fun s4 J4 => ?_) (.inr hl)
  refine wpAny_mono (hh e pins s4 _ H' _ (J4.hand e) hth) (fun f s5 q5 => ?_) fun _ _ z => z.elim
  have fin : ∀ {σ5 : St} {H5 : Hp} {Q : Unit → Shared → Prop}, Inv (X.hand e) pins σ5 H5 s5 → (∀ s6, Inv X pins (σ5.set j none) H5 s6 → Q () s6) →
      wpAny (model X.prog X.w) X.A (do bindName X.env n Value.none; unbindBehindTheSuite X.env n hpos) Q X.xe s5 := fun {σ5 H5 Q} K5 kq => by
    have K6 : Inv X pins σ5 H5 s5 := Inv.unhand ok K5
    obtain ⟨m, hm5, hv5⟩ := K6.loc
    refine name_gone (show X.env.kindOf n = some .local from hl) hm5 (by simp [ok.kind]) fun h6 m6 n6 e6 s6 => kq _ (K6.gone hN hj hl hm5 hv5 n6 e6 s6)
  cases f with
  | next =>
    obtain ⟨σ5, H5, K5, z⟩ := q5
    exact fin K5 fun s6 K6 => ⟨_, H5, K6, z⟩
  | brk =>
    obtain ⟨σ5, H5, K5, z⟩ := q5
    exact fin K5 fun s6 K6 => ⟨_, H5, K6, z⟩
  | cont =>
    obtain ⟨σ5, H5, K5, z⟩ := q5
    exact fin K5 fun s6 K6 => ⟨_, H5, K6, z⟩
  | ret u =>
    obtain ⟨v, σ5, H5, K5, r, z⟩ := q5
    exact fin K5 fun s6 K6 => ⟨v, _, H5, K6, r, z⟩
theorem handle_miss {pins : List (Addr × Obj)} {σ' : St} {H' : Hp} {s2 : Shared} {D : Ends} {e C T : Addr} {od : Option Addr} (hg : Gl X cx) (hm : X.mg cx = some (.ref C0)) (mk0 : xmkIn X.K C0 = true) (hdb : (cx == ("__debug__" : Str)) = false) (J2 : Inv X pins σ' H' s2) (x' : Xat s2.heap e (.ref C) od (some T))
    (mkC : xmkIn X.K C = true) (mro : PySem.W.mroIn X.K C (.ref C0) = some false) (k : wpAny (model X.prog X.w) X.A (handleBy (.ref e) X.env rest) (SP X pins D) X.xe s2) :
    wpAny (model X.prog X.w) X.A (handleBy (.ref e) X.env (.ExceptHandler (some (.Name cx np)) (some n) (b0 :: hbody) hpos :: rest)) (SP X pins D) X.xe s2 := by
  obtain ⟨nm, qn, N, bs, bm, hz, sn, sub, ab, col, dd, k0, k1, k2, k3, k5, gC, TC⟩ := xmk_of J2.kIn mkC
  obtain ⟨nm', qn', N', bs', bm', hz', sn', sub', ab', col', dd', j0, j1, j2, j3, j5, gC0, TC0⟩ := xmk_of J2.kIn mk0
  refine wpAny_handleBy_cons (codeAny_handlers_test (ld_glob (X := X.hand e) (J2.hand e) hg hm ?_ hdb)) (by intro z; cases z)
  obtain ⟨oe, _, ge, ce, _⟩ := id x'
  have hmr : (Value.ref C :: bm).contains (.ref C0) = false := by
    obtain ⟨cd, e1, e2⟩ := Option.bind_eq_some_iff.mp mro
    have e3 : (Value.ref C :: bm) = cd.mro := by
      unfold PySem.W.clsIn at e1
      split at e1
      · rename_i c1 d1 cd1 sl1 ho
        cases e1
        have z := (J2.kIn _ _ ho).symm.trans gC
        injection z with z
        injection z with _ _ z _
        injection z with z
        rw [z]
      · cases e1
    rw [e3]
    split at e2
    · cases e2
    · exact Option.some.inj e2
  refine matches_own (M := model X.prog X.w) gC gC0 ge ce (tail_base TC0) hmr ?_
  exact k
def tTry2 (K : PySem.W.Frag) (C1 C2 : Addr) (j : Nat) (E : St → XK) (tb th1 th2 : TS) : TS := fun D σ H => tb D σ H ∧ ∀ σ' e C H', E σ' e C H' → xmkIn K C = true ∧ ((PySem.W.mroIn K C (.ref C1) = some true ∧ th1 (endH D j) (σ'.set j (some (.ref e))) H') ∨
  (PySem.W.mroIn K C (.ref C1) = some false ∧ PySem.W.mroIn K C (.ref C2) = some true ∧ th2 (endH D j) (σ'.set j (some (.ref e))) H'))
theorem ps_try2 (hg1 : Gl X cx1) (hm1 : X.mg cx1 = some (.ref C1)) (mk1 : xmkIn X.K C1 = true) (hg2 : Gl X cx2) (hm2 : X.mg cx2 = some (.ref C2)) (mk2 : xmkIn X.K C2 = true) (hN : X.N.Nodup) (hj : X.N[j]? = some n) (hl : X.env.scope.names.lookup n = some .local) (hf : X.env.frame = some X.env.locals) (hst : X.stack = X.env :: X.outer)
    (hb : ∀ pins xe, Takes (X.tryc pins xe) E → PSs (X.tryc pins xe) body tb) (hh1 : ∀ e, PSs (X.hand e) (b1 :: hbody1) th1) (hh2 : ∀ e, PSs (X.hand e) (b2 :: hbody2) th2) (hdb1 : (cx1 == ("__debug__" : Str)) = false := by decide) (hdb2 : (cx2 == ("__debug__" : Str)) = false := by decide) :
    PS X (.Try body [.ExceptHandler (some (.Name cx1 np1)) (some n) (b1 :: hbody1) hpos1, .ExceptHandler (some (.Name cx2 np2)) (some n) (b2 :: hbody2) hpos2] [] [] pos) (tTry2 X.K C1 C2 j E tb th1 th2) := by
  intro pins s σ H D I ⟨h1, h2⟩
  refine wpAny_Try_except ?_
  have ok := I.ok
  have T : Takes (X.tryc pins (fun e s₁ => wpAny (model X.prog X.w) X.A (noteFrame e X.env) (fun _ s₂ => wpAny (model X.prog X.w) X.A (setFlight e none) (fun _ s₃ => wpAny (model X.prog X.w) X.A (handleBy e X.env [.ExceptHandler (some (.Name cx1 np1)) (some n) (b1 :: hbody1) hpos1, .ExceptHandler (some (.Name cx2 np2)) (some n) (b2 :: hbody2) hpos2]) (SP X pins D) X.xe s₃) X.xe s₂) X.xe s₁)) E := by
    intro pl σ' H' s' e C od tb' I' x he tbs q
    have J := I'.untryc
    have tbs' : Tbs X pins H' tb' := fun T z => by
      obtain ⟨a1, a2, a3, a4, a5⟩ := tbs T z
      exact ⟨a1, a2, a3, a4, fun p hp => a5 p (List.mem_append_left _ hp)⟩
    obtain ⟨mkC, alt⟩ := h2 σ' e C H' q
    have fr : X.A.frames = some (X.env :: X.outer) := by rw [← hst]; exact J.ok.frames
    have ff : s'.heap.FunFrames X.base (X.env :: X.outer) := by rw [← hst]; exact J.stack
    refine note_x (L := X.env.locals) fr ff hf x fun h' T st sT x' => ?_
    rw [← hst] at st
    have J2 := J.noted he tbs' st x'
    have fr2 : X.base.objs.size ≤ s'.heap.objs.size := Nat.le_trans J.ok.bsz J.sz
    have ff2 : h'.FunFrames X.base X.stack := J2.stack
    have nT : ∀ b ∈ frs X.stack, b ≠ T := fun b hb z => by
      obtain ⟨_, o, ho, hnf⟩ := J.stack.mem hb
      rw [z] at ho
      exact absurd (Heap.lt_size ho) (Nat.not_lt.mpr sT)
    have fresh := J.size_lt sT
    have tbs2 : Tbs X pins H' (some T) := fun T' z => by
      cases z
      exact ⟨Nat.le_trans J.sz sT, fresh.1, fresh.2.1, fresh.2.2.1, fresh.2.2.2⟩
    rcases alt with ⟨mro, hth⟩ | ⟨mro1, mro, hth⟩
    · exact handle_hit ok hg1 hm1 mk1 hN hj hl hh1 hdb1 J2 x' he tbs2 nT mkC mro hth
    · exact handle_miss hg1 hm1 mk1 hdb1 J2 x' mkC mro1 (handle_hit ok hg2 hm2 mk2 hN hj hl hh2 hdb2 J2 x' he tbs2 nT mkC mro hth)
  refine wpAny_mono (hb pins _ T [] s σ H D (I.tryc _) h1) (fun f s1 q => ?_) fun u s1 q => q
  cases f with
  | next =>
    obtain ⟨σ', H', J, z⟩ := q
    exact wpAny_execs_nil ⟨σ', H', J.untryc, z⟩
  | brk =>
    obtain ⟨σ', H', J, z⟩ := q
    exact ⟨σ', H', J.untryc, z⟩
  | cont =>
    obtain ⟨σ', H', J, z⟩ := q
    exact ⟨σ', H', J.untryc, z⟩
  | ret u =>
    obtain ⟨v, σ', H', J, r, z⟩ := q
    exact ⟨v, σ', H', J.untryc, r, z⟩
end
end L2
set_option maxRecDepth 100000
namespace L2
open PySem PySem.Spec PyProof.Rows XL
section
variable {X : Cx} {a b c d : Expr} {ta tb tc td : TE} {pos : Pos}
end
end L2
set_option maxRecDepth 100000
set_option maxHeartbeats 4000000
namespace L2
open PySem PySem.Calls PyProof PyProof.Rows
def eU (e : V → Bool) (u : Value) : Bool := match absV u with | some y => e y | none => false
theorem eU_of {e : V → Bool} {y : V} {u : Value} (r : RelV y u) : eU e u = e y := by unfold eU; rw [r.abs]
theorem any_eU {e : V → Bool} : ∀ {xs : List V} {us : List Value}, Vals xs us → us.any (eU e) = xs.any e
  | _, _, .nil => rfl
  | y :: xs, u :: us, .cons r t => by rw [List.any_cons, List.any_cons, eU_of r, any_eU t]
theorem mem_rel : ∀ {xs : List V} {us : List Value}, Vals xs us → ∀ u ∈ us, ∃ y ∈ xs, RelV y u
  | _, _, .nil => fun u hu => nomatch hu
  | y :: xs, u :: us, .cons r t => fun u' hu => by
    rcases List.mem_cons.mp hu with rfl | hu
    · exact ⟨y, List.mem_cons_self, r⟩
    · obtain ⟨z, h1, h2⟩ := mem_rel t u' hu
      exact ⟨z, List.mem_cons_of_mem _ h1, h2⟩
section
variable {X : Cx}
end
end L2
set_option maxRecDepth 100000
namespace PySem.F
end PySem.F
namespace L2
open PySem PySem.Spec PyProof.Rows XL
variable {q0 : Bool}
end L2
set_option maxRecDepth 100000
namespace L2
open PySem PySem.Spec PyProof.Rows XL
variable {q0 : Bool}
section
variable {z TI TO i1 i2 l1 l2 : Addr} {P : Nat → Prop} {i : Nat} {h : Heap}
end
end L2
set_option maxRecDepth 100000
namespace L2
open PySem PySem.Spec PyProof.Rows XL
variable {q0 : Bool}
end L2
set_option maxRecDepth 100000
namespace L2
open PySem PySem.Spec PyProof.Rows XL
variable {q0 : Bool}
section
variable {X : Cx} {pos np1 np2 np3 hpos1 hpos2 hpos3 : Pos} {body hbody1 hbody2 hbody3 : List Stmt} {rest : List ExceptHandler} {b1 b2 b3 : Stmt} {cx1 cx2 cx3 n : Str} {C1 C2 C3 : Addr} {j : Nat} {E : St → XK} {tb th1 th2 th3 : TS}
end
end L2
set_option maxRecDepth 100000
namespace L2
open PySem PySem.Spec PyProof.Rows XL PySem.W
variable {q0 : Bool}
end L2
set_option maxRecDepth 100000
namespace L2
open PySem PySem.Spec PyProof.Rows XL PySem.W
variable {q0 : Bool}
end L2
set_option maxRecDepth 100000
namespace L2
open PySem PySem.Spec PyProof.Rows XL PySem.W
variable {q0 : Bool}
theorem valV_ix {κ : Type} [DecidableEq κ] : ∀ {kvs : List (κ × V)} {k : κ} {v : V}, valV kvs k = some v → ∃ i : Nat, kvs[i]? = some (k, v)
  | [], k, v, h => by cases h
  | p :: r, k, v, h => by
    by_cases e : p.1 = k
    · rw [valV_pos e] at h
      cases h
      exact ⟨0, by simp [← e]⟩
    · rw [valV_neg e] at h
      obtain ⟨i, hi⟩ := valV_ix h
      exact ⟨i + 1, by simpa using hi⟩
section
variable {X : Cx} {o e : Expr} {td ty : TE} {apos cpos : Pos}
end
end L2
set_option maxRecDepth 100000
namespace L2
open PySem PySem.Spec PyProof.Rows XL PySem.W
variable {q0 : Bool}
end L2
set_option maxRecDepth 100000
set_option maxHeartbeats 1000000
namespace L2
open PySem PySem.Spec PyProof.Rows XL PySem.W
inductive DV where
  | non
  | bl (b : Bool)
  | int (i : Int)
  | str (x : Str)
  | tup (xs : List DV)
  | lst (xs : List DV)
mutual
def dEq : DV → DV → Bool
  | .non, .non => true
  | .bl a, .bl b => a == b
  | .bl a, .int b => (if a then 1 else 0) == b
  | .int a, .bl b => a == (if b then 1 else 0)
  | .int a, .int b => a == b
  | .str a, .str b => a == b
  | .tup xs, .tup ys => dEqs xs ys
  | .lst xs, .lst ys => dEqs xs ys
  | _, _ => false
def dEqs : List DV → List DV → Bool
  | [], [] => true
  | x :: xs, y :: ys => dEq x y && dEqs xs ys
  | _, _ => false
end
mutual
theorem dEq_refl : ∀ d, dEq d d = true
  | .non => rfl
  | .bl _ => by simp [dEq]
  | .int _ => by simp [dEq]
  | .str _ => by simp [dEq]
  | .tup xs => by simp only [dEq]; exact dEqs_refl xs
  | .lst xs => by simp only [dEq]; exact dEqs_refl xs
theorem dEqs_refl : ∀ xs, dEqs xs xs = true
  | [] => rfl
  | x :: xs => by simp only [dEqs, Bool.and_eq_true]; exact ⟨dEq_refl x, dEqs_refl xs⟩
end
mutual
def DV.pl : DV → Bool
  | .bl _ => false
  | .tup xs => pls xs
  | .lst xs => pls xs
  | _ => true
def pls : List DV → Bool
  | [] => true
  | x :: xs => x.pl && pls xs
end
theorem dEqs_all : ∀ {xs ys : List DV} {e : Nat → Bool}, (∀ (j : Nat) (x y : DV), xs[j]? = some x → ys[j]? = some y → e j = dEq x y) → ((List.range (min xs.length ys.length)).all e && xs.length == ys.length) = dEqs xs ys
  | [], [], _, _ => rfl
  | [], _ :: _, _, _ => by simp [dEqs]
  | _ :: _, [], _, _ => by simp [dEqs]
  | x :: xs, y :: ys, e, h => by
    have ih := dEqs_all (xs := xs) (ys := ys) (e := fun j => e (j + 1)) (fun j a b ha hb => h (j + 1) a b (by simpa using ha) (by simpa using hb))
    have h0 := h 0 x y rfl rfl
    rw [List.length_cons, List.length_cons, show min (xs.length + 1) (ys.length + 1) = min xs.length ys.length + 1 by omega, List.range_succ_eq_map, List.all_cons, List.all_map]
    show _ = (dEq x y && dEqs xs ys)
    rw [← ih, h0]
    have z : ((xs.length + 1 == ys.length + 1) : Bool) = (xs.length == ys.length) := by
      rw [Bool.eq_iff_iff]
      simp
    rw [z, Bool.and_assoc]
    rfl
theorem dEqs_len : ∀ {xs ys : List DV}, xs.length ≠ ys.length → dEqs xs ys = false
  | [], [], h => absurd rfl h
  | [], _ :: _, _ => rfl
  | _ :: _, [], _ => rfl
  | x :: xs, y :: ys, h => by
    show (dEq x y && dEqs xs ys) = false
    rw [dEqs_len (xs := xs) (ys := ys) (fun z => h (by simp [z]))]
    exact Bool.and_false _
inductive Dv (K : PySem.W.Frag) (H : Hp) : Nat → V → DV → Prop
  | non {n : Nat} : Dv K H n .non .non
  | bl {n : Nat} {b : Bool} : Dv K H n (.bl b) (.bl b)
  | int {n : Nat} {b : Int} : Dv K H n (.int b) (.int b)
  | str {n : Nat} {b : Str} : Dv K H n (.str b) (.str b)
  | tup {n : Nat} {a : Addr} {xs : List V} {ds : List DV} (ha : SqT K H a xs) (hl : xs.length = ds.length) (h : ∀ (j : Nat) (x : V) (d : DV), xs[j]? = some x → ds[j]? = some d → Dv K H n x d) : Dv K H (n + 1) (.ref a) (.tup ds)
  | lst {n : Nat} {a : Addr} {xs : List V} {ds : List DV} (ha : SqL K H a xs) (hl : xs.length = ds.length) (h : ∀ (j : Nat) (x : V) (d : DV), xs[j]? = some x → ds[j]? = some d → Dv K H n x d) : Dv K H (n + 1) (.ref a) (.lst ds)
section
variable {X : Cx} {pins : List (Addr × Obj)} {σ : St} {H : Hp} {s : Shared}
theorem two_kinds {h : Heap} {a : Addr} {i j : Array Value} (p : h.IsTuple a i) (q : PlainL h a j) : False := by
  obtain ⟨o, e, c, _⟩ := p
  obtain ⟨o', n, e', c', _⟩ := q
  rw [e] at e'
  cases e'
  rw [c] at c'
  exact absurd c' (by decide)
theorem ext_of {xs ys : List DV} (h : xs.length = ys.length) (f : ∀ (j : Nat) (x y : DV), xs[j]? = some x → ys[j]? = some y → x = y) : xs = ys := by
  refine List.ext_getElem? fun j => ?_
  by_cases c : j < xs.length
  · rw [List.getElem?_eq_getElem c, List.getElem?_eq_getElem (by omega), f j _ _ (List.getElem?_eq_getElem c) (List.getElem?_eq_getElem (by omega))]
  · rw [List.getElem?_eq_none (by omega), List.getElem?_eq_none (by omega)]
theorem dv_fun (I : Inv X pins σ H s) {n : Nat} {x : V} {d : DV} (h : Dv X.K H n x d) : ∀ {m : Nat} {e : DV}, Dv X.K H m x e → d = e := by
  induction h with
  | non => intro m e h; cases h; rfl
  | bl => intro m e h; cases h; rfl
  | int => intro m e h; cases h; rfl
  | str => intro m e h; cases h; rfl
  | @tup n a xs ds ha hl h ih =>
    intro m e h2
    cases h2 with
    | @tup m _ ys es hb kl k =>
      obtain rfl := I.tuple_inj ha hb
      refine congrArg DV.tup (ext_of (by omega) fun j d e h1 h2 => ?_)
      have lt : j < xs.length := by
        have := (List.getElem?_eq_some_iff.mp h1).1
        omega
      exact ih j xs[j] d (List.getElem?_eq_getElem lt) h1 (k j xs[j] e (List.getElem?_eq_getElem lt) h2)
    | @lst m _ ys es hb kl k =>
      obtain ⟨its, _, t1, _⟩ := I.tuple ha
      obtain ⟨its2, _, t2, _⟩ := I.list hb
      exact (two_kinds t1 t2).elim
  | @lst n a xs ds ha hl h ih =>
    intro m e h2
    cases h2 with
    | @lst m _ ys es hb kl k =>
      obtain rfl := I.list_inj ha hb
      refine congrArg DV.lst (ext_of (by omega) fun j d e h1 h2 => ?_)
      have lt : j < xs.length := by
        have := (List.getElem?_eq_some_iff.mp h1).1
        omega
      exact ih j xs[j] d (List.getElem?_eq_getElem lt) h1 (k j xs[j] e (List.getElem?_eq_getElem lt) h2)
    | @tup m _ ys es hb kl k =>
      obtain ⟨its, _, t1, _⟩ := I.tuple hb
      obtain ⟨its2, _, t2, _⟩ := I.list ha
      exact (two_kinds t1 t2).elim
def at2 (f : DV → DV → Bool) (ds es : List DV) (j : Nat) : Bool := match ds[j]?, es[j]? with | some d, some e => f d e | _, _ => false
theorem at2_of {f : DV → DV → Bool} {ds es : List DV} {j : Nat} {d e : DV} (h : ds[j]? = some d) (h2 : es[j]? = some e) : at2 f ds es j = f d e := by
  unfold at2
  rw [h, h2]
theorem dv_at (I : Inv X pins σ H s) {n : Nat} {x : V} {d : DV} (h : Dv X.K H n x d) : ∀ {m : Nat} {y : V} {e : DV}, Dv X.K H m y e → ∀ {A : Around} {u v : Value}, A.units + n + m < cLine → RelV x u → RelV y v →
    SeqAt.EqAt A s u v (dEq d e) ∧ SeqAt.RcAt A s u v (dEq d e) ∧ SeqAt.RcNeAt A s u v (!dEq d e) := by
  induction h with
  | @non n =>
    intro m y e h2 A u v hu rx ry
    obtain rfl : u = Value.none := rx
    cases h2 with
    | @non  =>
      obtain rfl : v = Value.none := ry
      exact ⟨SeqAt.EqAt.same _, SeqAt.RcAt.none_none, SeqAt.RcNeAt.none_none⟩
    | @bl _ b2 =>
      obtain rfl : v = Value.bool _ := ry
      exact ⟨SeqAt.EqAt.none_bool _, SeqAt.RcAt.none_bool _, SeqAt.RcNeAt.none_bool _⟩
    | @int _ b2 =>
      obtain ⟨_, rfl⟩ := ry
      exact ⟨SeqAt.EqAt.none_int _ _, SeqAt.RcAt.none_int _ _, SeqAt.RcNeAt.none_int _ _⟩
    | @str _ b2 =>
      obtain ⟨_, rfl⟩ := ry
      exact ⟨SeqAt.EqAt.none_str _ _, SeqAt.RcAt.none_str _ _, SeqAt.RcNeAt.none_str _ _⟩
    | @tup m b ys es hb kl k =>
      obtain rfl : v = Value.ref _ := ry
      obtain ⟨its2, r2, t2, z2⟩ := I.tuple hb
      have l2 := r2.length
      exact ⟨SeqAt.EqAt.none_tuple t2 (by omega), SeqAt.RcAt.none_tuple t2 (by omega), SeqAt.RcNeAt.none_tuple t2 (by omega)⟩
    | @lst m b ys es hb kl k =>
      obtain rfl : v = Value.ref _ := ry
      obtain ⟨its2, r2, t2, z2⟩ := I.list hb
      have l2 := r2.length
      exact ⟨SeqAt.EqAt.none_list t2.isList (by omega), SeqAt.RcAt.none_list t2.isList (by omega), SeqAt.RcNeAt.none_list t2.isList (by omega)⟩
  | @bl n b1 =>
    intro m y e h2 A u v hu rx ry
    obtain rfl : u = Value.bool _ := rx
    cases h2 with
    | @non  =>
      obtain rfl : v = Value.none := ry
      exact ⟨SeqAt.EqAt.bool_none _, SeqAt.RcAt.bool_none _, SeqAt.RcNeAt.bool_none _⟩
    | @bl _ b2 =>
      obtain rfl : v = Value.bool _ := ry
      exact ⟨SeqAt.EqAt.bool_bool _ _, SeqAt.RcAt.bool_bool _ _, SeqAt.RcNeAt.bool_bool _ _⟩
    | @int _ b2 =>
      obtain ⟨_, rfl⟩ := ry
      exact ⟨SeqAt.EqAt.bool_int _ _ _, SeqAt.RcAt.bool_int _ _ _, SeqAt.RcNeAt.bool_int _ _ _⟩
    | @str _ b2 =>
      obtain ⟨_, rfl⟩ := ry
      exact ⟨SeqAt.EqAt.bool_str _ _ _, SeqAt.RcAt.bool_str _ _ _, SeqAt.RcNeAt.bool_str _ _ _⟩
    | @tup m b ys es hb kl k =>
      obtain rfl : v = Value.ref _ := ry
      obtain ⟨its2, r2, t2, z2⟩ := I.tuple hb
      have l2 := r2.length
      exact ⟨SeqAt.EqAt.bool_tuple _ t2 (by omega), SeqAt.RcAt.bool_tuple _ t2 (by omega), SeqAt.RcNeAt.bool_tuple _ t2 (by omega)⟩
    | @lst m b ys es hb kl k =>
      obtain rfl : v = Value.ref _ := ry
      obtain ⟨its2, r2, t2, z2⟩ := I.list hb
      have l2 := r2.length
      exact ⟨SeqAt.EqAt.bool_list _ t2.isList (by omega), SeqAt.RcAt.bool_list _ t2.isList (by omega), SeqAt.RcNeAt.bool_list _ t2.isList (by omega)⟩
  | @int n b1 =>
    intro m y e h2 A u v hu rx ry
    obtain ⟨_, rfl⟩ := rx
    cases h2 with
    | @non  =>
      obtain rfl : v = Value.none := ry
      exact ⟨SeqAt.EqAt.int_none _ _, SeqAt.RcAt.int_none _ _, SeqAt.RcNeAt.int_none _ _⟩
    | @bl _ b2 =>
      obtain rfl : v = Value.bool _ := ry
      exact ⟨SeqAt.EqAt.int_bool _ _ _, SeqAt.RcAt.int_bool _ _ _, SeqAt.RcNeAt.int_bool _ _ _⟩
    | @int _ b2 =>
      obtain ⟨_, rfl⟩ := ry
      exact ⟨SeqAt.EqAt.int_int _ _ _ _, SeqAt.RcAt.int_int _ _ _ _, SeqAt.RcNeAt.int_int _ _ _ _⟩
    | @str _ b2 =>
      obtain ⟨_, rfl⟩ := ry
      exact ⟨SeqAt.EqAt.int_str _ _ _ _, SeqAt.RcAt.int_str _ _ _ _, SeqAt.RcNeAt.int_str _ _ _ _⟩
    | @tup m b ys es hb kl k =>
      obtain rfl : v = Value.ref _ := ry
      obtain ⟨its2, r2, t2, z2⟩ := I.tuple hb
      have l2 := r2.length
      exact ⟨SeqAt.EqAt.int_tuple _ _ t2 (by omega), SeqAt.RcAt.int_tuple _ _ t2 (by omega), SeqAt.RcNeAt.int_tuple _ _ t2 (by omega)⟩
    | @lst m b ys es hb kl k =>
      obtain rfl : v = Value.ref _ := ry
      obtain ⟨its2, r2, t2, z2⟩ := I.list hb
      have l2 := r2.length
      exact ⟨SeqAt.EqAt.int_list _ _ t2.isList (by omega), SeqAt.RcAt.int_list _ _ t2.isList (by omega), SeqAt.RcNeAt.int_list _ _ t2.isList (by omega)⟩
  | @str n b1 =>
    intro m y e h2 A u v hu rx ry
    obtain ⟨_, rfl⟩ := rx
    cases h2 with
    | @non  =>
      obtain rfl : v = Value.none := ry
      exact ⟨SeqAt.EqAt.str_none _ _, SeqAt.RcAt.str_none _ _, SeqAt.RcNeAt.str_none _ _⟩
    | @bl _ b2 =>
      obtain rfl : v = Value.bool _ := ry
      exact ⟨SeqAt.EqAt.str_bool _ _ _, SeqAt.RcAt.str_bool _ _ _, SeqAt.RcNeAt.str_bool _ _ _⟩
    | @int _ b2 =>
      obtain ⟨_, rfl⟩ := ry
      exact ⟨SeqAt.EqAt.str_int _ _ _ _, SeqAt.RcAt.str_int _ _ _ _, SeqAt.RcNeAt.str_int _ _ _ _⟩
    | @str _ b2 =>
      obtain ⟨_, rfl⟩ := ry
      exact ⟨SeqAt.EqAt.str_str _ _ _ _, SeqAt.RcAt.str_str _ _ _ _, SeqAt.RcNeAt.str_str _ _ _ _⟩
    | @tup m b ys es hb kl k =>
      obtain rfl : v = Value.ref _ := ry
      obtain ⟨its2, r2, t2, z2⟩ := I.tuple hb
      have l2 := r2.length
      exact ⟨SeqAt.EqAt.str_tuple _ _ t2 (by omega), SeqAt.RcAt.str_tuple _ _ t2 (by omega), SeqAt.RcNeAt.str_tuple _ _ t2 (by omega)⟩
    | @lst m b ys es hb kl k =>
      obtain rfl : v = Value.ref _ := ry
      obtain ⟨its2, r2, t2, z2⟩ := I.list hb
      have l2 := r2.length
      exact ⟨SeqAt.EqAt.str_list _ _ t2.isList (by omega), SeqAt.RcAt.str_list _ _ t2.isList (by omega), SeqAt.RcNeAt.str_list _ _ t2.isList (by omega)⟩
  | @tup n a xs ds ha hl h ih =>
    intro m y e h2 A u v hu rx ry
    obtain rfl : u = Value.ref _ := rx
    obtain ⟨its, r1, t1, z1⟩ := I.tuple ha
    have l1 := r1.length
    cases h2 with
    | @non  =>
      obtain rfl : v = Value.none := ry
      exact ⟨SeqAt.EqAt.tuple_none t1 (by omega), SeqAt.RcAt.tuple_none t1 (by omega), SeqAt.RcNeAt.tuple_none t1 (by omega)⟩
    | @bl _ b2 =>
      obtain rfl : v = Value.bool _ := ry
      exact ⟨SeqAt.EqAt.tuple_bool _ t1 (by omega), SeqAt.RcAt.tuple_bool _ t1 (by omega), SeqAt.RcNeAt.tuple_bool _ t1 (by omega)⟩
    | @int _ b2 =>
      obtain ⟨_, rfl⟩ := ry
      exact ⟨SeqAt.EqAt.tuple_int _ _ t1 (by omega), SeqAt.RcAt.tuple_int _ _ t1 (by omega), SeqAt.RcNeAt.tuple_int _ _ t1 (by omega)⟩
    | @str _ b2 =>
      obtain ⟨_, rfl⟩ := ry
      exact ⟨SeqAt.EqAt.tuple_str _ _ t1 (by omega), SeqAt.RcAt.tuple_str _ _ t1 (by omega), SeqAt.RcNeAt.tuple_str _ _ t1 (by omega)⟩
    | @tup m b ys es hb kl k =>
      obtain rfl : v = Value.ref _ := ry
      obtain ⟨its2, r2, t2, z2⟩ := I.tuple hb
      have l2 := r2.length
      have step : ∀ (j : Nat) (h1 : j < its.toArray.size) (h2 : j < its2.toArray.size), SeqAt.EqAt A.in1 s its.toArray[j] its2.toArray[j] (at2 dEq ds es j) := fun j h1 h2 => by
        obtain ⟨x, hx, rx⟩ := vals_at r1 h1
        obtain ⟨y, hy, ry⟩ := vals_at r2 h2
        have j1 : j < ds.length := by simp at h1; omega
        have j2 : j < es.length := by simp at h2; omega
        rw [at2_of (List.getElem?_eq_getElem j1) (List.getElem?_eq_getElem j2)]
        exact (ih j x _ hx (List.getElem?_eq_getElem j1) (k j y _ hy (List.getElem?_eq_getElem j2)) (A := A.in1) (by show A.units + 1 + n + m < cLine; omega) rx ry).1
      have all := dEqs_all (xs := ds) (ys := es) (e := at2 dEq ds es) fun j x y h1 h2 => at2_of h1 h2
      have both : SeqAt.RcAt A s (.ref a) (.ref b) (dEqs ds es) ∧ SeqAt.RcNeAt A s (.ref a) (.ref b) (!dEqs ds es) := by
        have z1 := SeqAt.RcAt.tuples (A := A) (e := at2 dEq ds es) (show s.heap.IsTuple a its.toArray from t1) (show s.heap.IsTuple b its2.toArray from t2) (by omega) step
        have z2 := SeqAt.RcNeAt.tuples (A := A) (e := at2 dEq ds es) (show s.heap.IsTuple a its.toArray from t1) (show s.heap.IsTuple b its2.toArray from t2) (by omega) step
        have e1 : its.toArray.size = ds.length := by simp; omega
        have e2 : its2.toArray.size = es.length := by simp; omega
        rw [e1, e2, all] at z1 z2
        exact ⟨z1, z2⟩
      simp only [dEq]
      refine ⟨?_, both⟩
      by_cases q : a = b
      · subst q
        have ed : DV.tup ds = DV.tup es := dv_fun I (Dv.tup ha hl h) (Dv.tup hb kl k)
        rw [show es = ds by injection ed with z; exact z.symm, dEqs_refl]
        exact SeqAt.EqAt.same _
      · exact .of_refs q both.1
    | @lst m b ys es hb kl k =>
      obtain rfl : v = Value.ref _ := ry
      obtain ⟨its2, r2, t2, z2⟩ := I.list hb
      have l2 := r2.length
      exact ⟨SeqAt.EqAt.tuple_list t1 t2.isList (by omega), SeqAt.RcAt.tuple_list t1 t2.isList (by omega), SeqAt.RcNeAt.tuple_list t1 t2.isList (by omega)⟩
  | @lst n a xs ds ha hl h ih =>
    intro m y e h2 A u v hu rx ry
    obtain rfl : u = Value.ref _ := rx
    obtain ⟨its, r1, t1, z1⟩ := I.list ha
    have l1 := r1.length
    cases h2 with
    | @non  =>
      obtain rfl : v = Value.none := ry
      exact ⟨SeqAt.EqAt.list_none t1.isList (by omega), SeqAt.RcAt.list_none t1.isList (by omega), SeqAt.RcNeAt.list_none t1.isList (by omega)⟩
    | @bl _ b2 =>
      obtain rfl : v = Value.bool _ := ry
      exact ⟨SeqAt.EqAt.list_bool _ t1.isList (by omega), SeqAt.RcAt.list_bool _ t1.isList (by omega), SeqAt.RcNeAt.list_bool _ t1.isList (by omega)⟩
    | @int _ b2 =>
      obtain ⟨_, rfl⟩ := ry
      exact ⟨SeqAt.EqAt.list_int _ _ t1.isList (by omega), SeqAt.RcAt.list_int _ _ t1.isList (by omega), SeqAt.RcNeAt.list_int _ _ t1.isList (by omega)⟩
    | @str _ b2 =>
      obtain ⟨_, rfl⟩ := ry
      exact ⟨SeqAt.EqAt.list_str _ _ t1.isList (by omega), SeqAt.RcAt.list_str _ _ t1.isList (by omega), SeqAt.RcNeAt.list_str _ _ t1.isList (by omega)⟩
    | @tup m b ys es hb kl k =>
      obtain rfl : v = Value.ref _ := ry
      obtain ⟨its2, r2, t2, z2⟩ := I.tuple hb
      have l2 := r2.length
      exact ⟨SeqAt.EqAt.list_tuple t1.isList t2 (by omega), SeqAt.RcAt.list_tuple t1.isList t2 (by omega), SeqAt.RcNeAt.list_tuple t1.isList t2 (by omega)⟩
    | @lst m b ys es hb kl k =>
      obtain rfl : v = Value.ref _ := ry
      obtain ⟨its2, r2, t2, z2⟩ := I.list hb
      have l2 := r2.length
      have step : ∀ (j : Nat) (h1 : j < its.toArray.size) (h2 : j < its2.toArray.size), SeqAt.EqAt A.in1 s its.toArray[j] its2.toArray[j] (at2 dEq ds es j) := fun j h1 h2 => by
        obtain ⟨x, hx, rx⟩ := vals_at r1 h1
        obtain ⟨y, hy, ry⟩ := vals_at r2 h2
        have j1 : j < ds.length := by simp at h1; omega
        have j2 : j < es.length := by simp at h2; omega
        rw [at2_of (List.getElem?_eq_getElem j1) (List.getElem?_eq_getElem j2)]
        exact (ih j x _ hx (List.getElem?_eq_getElem j1) (k j y _ hy (List.getElem?_eq_getElem j2)) (A := A.in1) (by show A.units + 1 + n + m < cLine; omega) rx ry).1
      have all := dEqs_all (xs := ds) (ys := es) (e := at2 dEq ds es) fun j x y h1 h2 => at2_of h1 h2
      have both : SeqAt.RcAt A s (.ref a) (.ref b) (dEqs ds es) ∧ SeqAt.RcNeAt A s (.ref a) (.ref b) (!dEqs ds es) := by
        have e1 : its.toArray.size = ds.length := by simp; omega
        have e2 : its2.toArray.size = es.length := by simp; omega
        by_cases c : ds.length = es.length
        · have z1 := SeqAt.RcAt.lists (A := A) (e := at2 dEq ds es) t1.isList t2.isList (by omega) (by omega) step
          have z2 := SeqAt.RcNeAt.lists (A := A) (e := at2 dEq ds es) t1.isList t2.isList (by omega) (by omega) step
          have all' : (List.range ds.length).all (at2 dEq ds es) = dEqs ds es := by
            rw [← all, c, Nat.min_self]
            simp
          rw [e1, all'] at z1 z2
          exact ⟨z1, z2⟩
        · rw [dEqs_len c]
          exact ⟨SeqAt.RcAt.lists_lengths (A := A) t1.isList t2.isList (by rw [e1, e2]; simpa using c) (by omega), SeqAt.RcNeAt.lists_lengths (A := A) t1.isList t2.isList (by rw [e1, e2]; simpa using c) (by omega)⟩
      simp only [dEq]
      refine ⟨?_, both⟩
      by_cases q : a = b
      · subst q
        have ed : DV.lst ds = DV.lst es := dv_fun I (Dv.lst ha hl h) (Dv.lst hb kl k)
        rw [show es = ds by injection ed with z; exact z.symm, dEqs_refl]
        exact SeqAt.EqAt.same _
      · exact .of_refs q both.1
end
theorem Same.seqL {K : PySem.W.Frag} {H H' : Hp} {a : Addr} {xs : List V} (s : Same H H') (h : SqL K H a xs) : SqL K H' a xs := by
  rcases h with (h | ⟨ob, h⟩) | h
  · exact .inl (.inl (s _ _ h))
  · exact .inl (.inr ⟨ob, s _ _ h⟩)
  · exact .inr h
def rEqV (K : PySem.W.Frag) : R2 := fun x y H Q => ∃ (n m : Nat) (d e : DV), Dv K H n x d ∧ Dv K H m y e ∧ n ≤ 9 ∧ m ≤ 9 ∧ Q (.bl (dEq d e)) H
def rNeV (K : PySem.W.Frag) : R2 := fun x y H Q => ∃ (n m : Nat) (d e : DV), Dv K H n x d ∧ Dv K H m y e ∧ n ≤ 9 ∧ m ≤ 9 ∧ Q (.bl (!dEq d e)) H
def rInV (K : PySem.W.Frag) (neg : Bool) : R2 := fun x y H Q => ∃ (n m : Nat) (d : DV) (es : List DV), Dv K H n x d ∧ Dv K H m y (.lst es) ∧ n ≤ 9 ∧ m ≤ 9 ∧ Q (.bl (if neg then !es.any (fun z => dEq z d) else es.any fun z => dEq z d)) H
section
variable {X : Cx}
theorem op_eqV (hu : X.A.units + 20 < cLine) : OpR X (compareOp .Eq) (rEqV X.K) := by
  intro pins s σ H x y u v Q I rx ry h
  obtain ⟨n, m, d, e, h1, h2, hn, hm, q⟩ := h
  exact (dv_at I h1 h2 (A := X.A) (by omega) rx ry).2.1 X.prog X.w X.xe _ ⟨.bl _, H, I, rfl, q⟩
theorem op_neV (hu : X.A.units + 20 < cLine) : OpR X (compareOp .NotEq) (rNeV X.K) := by
  intro pins s σ H x y u v Q I rx ry h
  obtain ⟨n, m, d, e, h1, h2, hn, hm, q⟩ := h
  exact PySem.W.cmp_ofNotEq ((dv_at I h1 h2 (A := X.A) (by omega) rx ry).2.2 X.prog X.w X.xe _ ⟨.bl _, H, I, rfl, q⟩)
theorem any_ix {α β : Type} {f : α → Bool} {g : β → Bool} : ∀ {xs : List α} {ys : List β}, xs.length = ys.length → (∀ (j : Nat) (x : α) (y : β), xs[j]? = some x → ys[j]? = some y → f x = g y) → xs.any f = ys.any g
  | [], [], _, _ => rfl
  | [], _ :: _, h, _ => by cases h
  | _ :: _, [], h, _ => by cases h
  | x :: xs, y :: ys, h, k => by
    rw [List.any_cons, List.any_cons, k 0 x y rfl rfl, any_ix (xs := xs) (ys := ys) (by simpa using h) fun j a b h1 h2 => k (j + 1) a b (by simpa using h1) (by simpa using h2)]
noncomputable def eOf (K : PySem.W.Frag) (H : Hp) (m : Nat) (d : DV) (z : V) : Bool := @dite Bool (∃ e, Dv K H m z e) (Classical.propDecidable _) (fun h => dEq h.choose d) fun _ => false
theorem eOf_of {pins : List (Addr × Obj)} {σ : St} {H : Hp} {s : Shared} (I : Inv X pins σ H s) {m : Nat} {d e : DV} {z : V} (h : Dv X.K H m z e) : eOf X.K H m d z = dEq e d := by
  unfold eOf
  rw [dif_pos ⟨e, h⟩]
  have ex : ∃ e, Dv X.K H m z e := ⟨e, h⟩
  rw [dv_fun I ex.choose_spec h]
theorem op_inV (hu : X.A.units + 20 < cLine) : OpR X (compareOp .In) (rInV X.K false) := by
  intro pins s σ H x y v u Q I rx ry h
  obtain ⟨n, m, d, es, h1, h2, hn, hm, q⟩ := h
  cases h2 with
  | @lst m a xs _ ha hl k =>
    cases ry
    obtain ⟨its, r, pl, hz⟩ := I.list ha
    have get : ∀ z ∈ xs, ∃ (j : Nat) (e : DV), xs[j]? = some z ∧ es[j]? = some e ∧ Dv X.K H m z e := fun z hz => by
      obtain ⟨j, hj⟩ := List.getElem?_of_mem hz
      have lt : j < es.length := by rw [← hl]; exact (List.getElem?_eq_some_iff.mp hj).1
      exact ⟨j, es[j], hj, List.getElem?_eq_getElem lt, k j z _ hj (List.getElem?_eq_getElem lt)⟩
    refine SeqAt.in_listAt (eU (eOf X.K H m d)) pl.isList (fun w hw => ?_) ⟨.bl _, H, I, rfl, ?_⟩
    · obtain ⟨z, m1, m2⟩ := mem_rel r w (by simpa using hw)
      obtain ⟨j, e, _, _, he⟩ := get z m1
      rw [eU_of m2, eOf_of I he]
      exact (dv_at I he h1 (A := X.A.in1) (by show X.A.units + 1 + m + n < cLine; omega) m2 rx).1
    · rw [show its.toArray.any (eU (eOf X.K H m d)) = its.any (eU (eOf X.K H m d)) by simp, any_eU r, any_ix (g := fun z => dEq z d) hl fun j z e g1 g2 => eOf_of I (k j z e g1 g2)]
      exact q
end
end L2
set_option maxRecDepth 100000
set_option maxHeartbeats 1000000
namespace L2
open PySem PySem.Spec PyProof.Rows XL PySem.W
def Tp (H H' : Hp) : Prop := ∀ b xs, H b = some (.tup xs) → H' b = some (.tup xs)
theorem Same.tp {H H' : Hp} (s : Same H H') : Tp H H' := fun b xs e => s b _ e
theorem Tp.trans {H H' H'' : Hp} (s : Tp H H') (r : Tp H' H'') : Tp H H'' := fun b xs e => r b xs (s b xs e)
theorem tp_lst {H : Hp} {l : Addr} {xs ys : List V} (h : H l = some (.lst xs)) : Tp H (upd H l (.lst ys)) := fun b zs e => by
  rw [upd_ne (fun z => by rw [z, h] at e; cases e)]
  exact e
section
variable {J : It} {n : Nat} {g : TG} {σ : St} {fr : List Nat} {tc : TT} {te : TE} {l : Addr} {H1 : Hp} {Q : VK}
theorem comp_go (len : Nat) (hlen : len < sizeLine) (hl : H1 l = none) (x : Nat → V) (hgo : ∀ i H, i < len → Same H1 H → J.go i H) (hy : ∀ i H v H', i < len → Same H1 H → J.yld i H v H' → H' = H ∧ v = x i) (hst : ∀ H, Same H1 H → J.stop len H)
    (p : Nat → Bool) (F : Nat → V → Hp → Prop) (stab : ∀ i y H H', Tp H H' → F i y H → F i y H')
    (step : ∀ i H2, i < len → Same H1 H2 → ∀ (N : V → Hp → Prop) (M : Hp → Prop), (∀ y H', Same H2 H' → p i = true → F i y H' → N y H') → (∀ H', Same H2 H' → p i = false → M H') →
      g (x i) (blk0 σ fr n) H2 fun σ' H3 => tc σ' H3 fun b H4 => if b = true then te σ' H4 N else M H4)
    (fin : ∀ ys H2, Same H1 H2 → H2 l = some (.lst ys) → ys.length = ((List.range len).filter p).length → (∀ (j : Nat) (y : V) (i : Nat), ys[j]? = some y → ((List.range len).filter p)[j]? = some i → F i y H2) → Q (.ref l) H2) : CompG J n g σ fr tc te l H1 Q := by
  refine compG_by len (fun i ys H2 => Same H1 H2 ∧ H2 l = some (.lst ys) ∧ ys.length = ((List.range i).filter p).length ∧ ∀ (j : Nat) (y : V) (k : Nat), ys[j]? = some y → ((List.range i).filter p)[j]? = some k → F k y H2) ?_ ?_ ?_ ?_
  · refine ⟨fun b u e => ?_, upd_same, rfl, fun j y k e => by simp at e⟩
    rw [upd_ne (ne_of_none e hl)]
    exact e
  · rintro i ys H2 lt ⟨s, _⟩
    exact hgo i H2 lt s
  · rintro i ys H2 v H3 lt ⟨s, el, ly, f⟩ yl N hN
    obtain ⟨rfl, rfl⟩ := hy i H2 v H3 lt s yl
    refine step i H3 lt s _ _ (fun y H' s' pt hf => ?_) (fun H' s' pf => ?_)
    · have el' := s' _ _ el
      have ylen : ys.length < sizeLine := by
        rw [ly]
        refine Nat.lt_of_le_of_lt (List.length_filter_le _ _) ?_
        rw [List.length_range]
        omega
      refine ⟨el', ylen, hN _ _ ⟨fun b u e => ?_, upd_same, ?_, fun j z k e1 e2 => ?_⟩⟩
      · rw [upd_ne (ne_of_none e hl)]
        exact s' _ _ (s _ _ e)
      · rw [List.range_succ, List.filter_append, List.length_append, List.length_append, ly, List.filter_cons_of_pos pt]
        rfl
      · rw [List.range_succ, List.filter_append, List.filter_cons_of_pos pt] at e2
        by_cases c : j < ys.length
        · rw [List.getElem?_append_left c] at e1
          rw [List.getElem?_append_left (by omega)] at e2
          exact stab _ _ _ _ ((Same.tp s').trans (tp_lst el')) (f j z k e1 e2)
        · rw [List.getElem?_append_right (by omega)] at e1 e2
          rw [← ly] at e2
          cases hj : j - ys.length with
          | zero =>
            rw [hj] at e1 e2
            simp at e1 e2
            subst e1 e2
            exact stab _ _ _ _ (tp_lst el') hf
          | succ m =>
            rw [hj] at e1
            simp at e1
    · refine hN _ _ ⟨s.trans s', s' _ _ el, ?_, fun j z k e1 e2 => ?_⟩
      · rw [List.range_succ, List.filter_append, List.filter_cons_of_neg (by simp [pf])]
        simpa using ly
      · rw [List.range_succ, List.filter_append, List.filter_cons_of_neg (by simp [pf])] at e2
        simp only [List.filter_nil, List.append_nil] at e2
        exact stab _ _ _ _ (Same.tp s') (f j z k e1 e2)
  · rintro ys H2 ⟨s, el, ly, f⟩
    exact ⟨hst _ s, fin ys H2 s el ly f⟩
theorem comp_listF {K : PySem.W.Frag} {a : Addr} {xs : List V} (hs : SqL K H1 a xs) (hlen : xs.length < sizeLine) (hl : H1 l = none) (p : Nat → Bool) (F : Nat → V → Hp → Prop) (stab : ∀ i y H H', Tp H H' → F i y H → F i y H')
    (step : ∀ (i : Nat) (x : V) (H2 : Hp), xs[i]? = some x → Same H1 H2 → ∀ (N : V → Hp → Prop) (M : Hp → Prop), (∀ y H', Same H2 H' → p i = true → F i y H' → N y H') → (∀ H', Same H2 H' → p i = false → M H') →
      g x (blk0 σ fr n) H2 fun σ' H3 => tc σ' H3 fun b H4 => if b = true then te σ' H4 N else M H4)
    (fin : ∀ ys H2, Same H1 H2 → H2 l = some (.lst ys) → ys.length = ((List.range xs.length).filter p).length → (∀ (j : Nat) (y : V) (i : Nat), ys[j]? = some y → ((List.range xs.length).filter p)[j]? = some i → F i y H2) → Q (.ref l) H2) : CompG (Itl K a) n g σ fr tc te l H1 Q := by
  refine comp_go xs.length hlen hl (fun i => xs.getD i .non) (fun i H lt s => ⟨xs, xs[i], Same.seqL s hs, List.getElem?_eq_getElem lt⟩) (fun i H v H' lt s y => ?_) (fun H s => ⟨xs, Same.seqL s hs, Nat.le_refl _⟩) p F stab (fun i H2 lt s N M h1 h2 => ?_) fin
  · obtain ⟨e, f⟩ := y
    have z := f xs (Same.seqL s hs)
    refine ⟨e, ?_⟩
    simp [z]
  · have e : xs[i]? = some (xs.getD i .non) := by simp [List.getElem?_eq_getElem lt]
    exact step i _ H2 e s N M h1 h2
theorem cut_true {i : Nat} {x : V} {σ0 : St} {H2 : Hp} {N : V → Hp → Prop} {M : Hp → Prop} {g : TG} {te : TE} (h : g x σ0 H2 fun σ' H3 => te σ' H3 N) : g x σ0 H2 fun σ' H3 => tTrue σ' H3 fun b H4 => if b = true then te σ' H4 N else M H4 := by
  have e : (fun (σ' : St) (H3 : Hp) => tTrue σ' H3 fun b H4 => if b = true then te σ' H4 N else M H4) = fun σ' H3 => te σ' H3 N := by
    funext σ' H3
    show (if true = true then te σ' H3 N else M H3) = te σ' H3 N
    rw [if_pos rfl]
  rw [e]
  exact h
end
theorem filt_ix {α : Type} (q : α → Bool) : ∀ (as : List α) (p : Nat → Bool), (∀ (i : Nat) (a : α), as[i]? = some a → p i = q a) → ((List.range as.length).filter p).filterMap (fun i => as[i]?) = as.filter q
  | [], _, _ => rfl
  | a :: as, p, h => by
    have ih := filt_ix q as (fun i => p (i + 1)) fun i b hb => h (i + 1) b (by simpa using hb)
    rw [List.length_cons, List.range_succ_eq_map]
    have e : ((List.range as.length).map Nat.succ).filter p = ((List.range as.length).filter (fun i => p (i + 1))).map Nat.succ := by
      rw [List.filter_map]
      rfl
    have h0 := h 0 a rfl
    by_cases c : q a = true
    · rw [List.filter_cons_of_pos (by rw [h0]; exact c), List.filter_cons_of_pos c, e, List.filterMap_cons]
      simp only [List.getElem?_cons_zero, List.filterMap_map]
      rw [← ih]
      rfl
    · rw [List.filter_cons_of_neg (by rw [h0]; exact c), List.filter_cons_of_neg c, e, List.filterMap_map, ← ih]
      rfl
theorem ix_filt {α : Type} (q : α → Bool) {as : List α} {p : Nat → Bool} (h : ∀ (i : Nat) (a : α), as[i]? = some a → p i = q a) : ((List.range as.length).filter p).length = (as.filter q).length ∧ ∀ j i : Nat, ((List.range as.length).filter p)[j]? = some i → as[i]? = (as.filter q)[j]? := by
  rw [← filt_ix q as p h]
  have all : ∀ i ∈ (List.range as.length).filter p, ∃ a, as[i]? = some a := fun i hi => by
    have := List.mem_range.mp (List.mem_filter.mp hi).1
    exact ⟨as[i], List.getElem?_eq_getElem this⟩
  generalize (List.range as.length).filter p = is at all
  induction is with
  | nil => exact ⟨rfl, fun j i e => by simp at e⟩
  | cons i is ih =>
    obtain ⟨a, ha⟩ := all i List.mem_cons_self
    obtain ⟨h1, h2⟩ := ih fun k hk => all k (List.mem_cons_of_mem _ hk)
    rw [List.filterMap_cons, ha]
    refine ⟨by simp [h1], fun j k e => ?_⟩
    cases j with
    | zero =>
      simp at e
      subst e
      exact ha
    | succ m => exact h2 m k (by simpa using e)
end L2
set_option maxRecDepth 100000
set_option maxHeartbeats 1000000
namespace XL
open PySem PySem.MeetsSeq PySem.MeetsSeq2 PySem.MeetsSeq3 PySem.SeqAt
open AutoSeq1 (wpAny_loadPart')
end XL
namespace L2
open PySem PySem.Spec PyProof.Rows XL PySem.W
def plainE : Expr → Bool
  | .Starred _ _ => false
  | _ => true
theorem star_plain {e : Expr} {es : List Expr} {env : Env} (h : plainE e = true) : starEach (e :: es) env = (false, eval e env) :: starEach es env := by
  cases e <;> first | rfl | cases h
theorem pa_consP {X : Cx} {e : Expr} {es : List Expr} {te : TE} {t : TA} (ha : PE X e te) (hr : PA X es t) (hn : plainE e = true) : PA X (e :: es) (tCons te t) := pa_cons ha hr (star_plain hn)
section
variable {X : Cx}
end
section
variable {J : It} {n : Nat} {g : TG} {σ : St} {fr : List Nat} {tc : TT} {te : TE} {l : Addr} {H1 : Hp} {Q : VK}
end
end L2
set_option maxRecDepth 100000
set_option maxHeartbeats 1000000
namespace XL
open PySem L2
open PyProof.Rows (assign_Tuple)
section
variable {prog : Program} {w : World} {A : Around} {E : Value → Shared → Prop}
theorem draw_lst {it t : Addr} {its : Array Value} (ne : t ≠ it) : ∀ (n i : Nat) (s : Shared) (Q : List Value → Shared → Prop), s.heap.IsListIter it t i → s.heap.IsList t its → i + n ≤ its.size →
    (∀ h', h'.IsListIter it t (i + n) → Heap.SameBut it s.heap h' → Q ((its.toList.drop i).take n) { s with heap := h' }) → wpAny (model prog w) A (draw (.ref it) n) Q E s
  | 0, i, s, Q, hit, _, _, q => by
    show wpAny _ _ (pure []) Q E s
    exact wpAny_pure (by simpa using q s.heap hit (Heap.SameBut.refl ..))
  | n + 1, i, s, Q, hit, ht, le, q => by
    have lt : i < its.size := by omega
    show wpAny _ _ (pyNext (.ref it) >>= _) Q E s
    refine wpAny_bind (wpAny_pyNext_list_item hit ht (x := its[i]) (by simp [lt]) fun h1 i1 s1 => ?_)
    refine wpAny_bind (wpAny_holding (draw_lst ne n (i + 1) _ _ i1 (ht.extBut s1.extBut ne) (by omega) fun h2 i2 s2 => wpAny_pure ?_))
    have e : its.toList.drop i = its[i] :: its.toList.drop (i + 1) := by simp [List.drop_eq_getElem_cons, lt]
    have z := q h2 (by rw [show i + (n + 1) = i + 1 + n by omega]; exact i2) (s1.trans s2)
    rw [e, List.take_succ_cons] at z
    exact z
theorem assign_Tuple_list {env : Env} {es : List Expr} {k} {pos : Pos} {t : Addr} {its : Array Value} {s : Shared} {Q : Unit → Shared → Prop} (hh : A.handled = none) (ht : s.heap.IsList t its)
    (hn : (assignEach es env).length = its.size) (hs : (assignEach es env).findIdx? (·.1) = none)
    (h : ∀ h', Heap.ExtBut s.heap.objs.size s.heap h' → wpAny (model prog w) A (assignInOrder ((assignEach es env).map (·.2)) its.toList) Q E { s with heap := h' }) :
    wpAny (model prog w) A (assign (.Tuple es k pos) env (.ref t)) Q E s := by
  rw [assign_Tuple]
  refine wpAny_bind (wpAny_standAt ?_)
  unfold unpack
  rw [hn, hs]
  refine wpAny_bind (wpAny_holding ?_)
  have ne : t ≠ s.heap.objs.size := by
    obtain ⟨o, e, _⟩ := ht
    exact Nat.ne_of_lt (Heap.lt_size e)
  unfold unpackItems
  refine wpAny_bind ?_
  unfold notIterableAtAll
  refine wpAny_bind (wpAny_specialOf ht.typeIs slot_list_iter.lookup ?_)
  refine wpAny_pure ?_
  simp only [Bool.false_eq_true, if_false]
  refine wpAny_bind (wpAny_holding (wpAny_pyIter_list ht ?_))
  refine wpAny_bind (wpAny_holding (draw_lst ne its.size 0 _ _ ⟨_, Heap.get?_push_size _ rfl, rfl, rfl⟩ (ht.push _) (by omega) fun h1 i1 s1 => ?_))
  rw [show List.take its.size (List.drop 0 its.toList) = its.toList by rw [List.drop_zero]; exact List.take_of_length_le (by simp)]
  rw [if_neg (by simp)]
  have t1 : h1.IsList t its := (ht.push _).extBut s1.extBut ne
  refine wpAny_bind (wpAny_holding (wpAny_pyNext_list_end hh i1 t1 (by simp) fun h2 e2 => ?_))
  simp only [Option.isSome_none, Bool.false_eq_true, if_false]
  exact wpAny_pure (h h2 fun b o hb e => e2 b o hb (s1.extBut b o hb (Heap.get?_push_of_some _ e)))
end
section
variable {X : Cx} {pos : Pos}
def gTupL (K : PySem.W.Frag) (n : Nat) (t : TGs) : TG := fun v σ H Q => ∃ a xs, v = .ref a ∧ SqL K H a xs ∧ xs.length = n ∧ t xs σ H Q
theorem pg_tupL {es : List Expr} {k : Nat} {t : TGs} {n : Nat} (hc : X.calm = true) (h : PGs X es t)
    (hn : (assignEach es X.env).length = n := by rfl) (hst : (assignEach es X.env).findIdx? (·.1) = none := by rfl) : PG X (.Tuple es k pos) (gTupL X.K n t) := by
  intro pins s σ H v u Q I r hw
  obtain ⟨a, xs, e1, hq, hl, hw⟩ := hw
  subst e1
  cases r
  obtain ⟨its, rv, pl, hz⟩ := I.list hq
  refine assign_Tuple_list (I.ok.hd hc) pl.isList (by simp [hn, ← hl, rv.length]) hst fun h' hx => ?_
  have I1 : Inv X pins σ H { s with heap := h' } := I.kept (t' := s.toks) fun b o e => hx b o (Nat.ne_of_lt (Heap.lt_size e)) e
  exact h pins _ σ H xs _ Q I1 (by simpa using rv) hw
end
end XL
set_option maxRecDepth 100000
set_option maxHeartbeats 1000000
namespace L2
open PySem PySem.Spec PyProof.Rows XL PySem.W
section
variable {J : It} {n : Nat} {g : TG} {σ : St} {fr : List Nat} {tc : TT} {te : TE} {l : Addr} {H1 : Hp} {Q : VK}
end
end L2
set_option maxRecDepth 100000
set_option maxHeartbeats 1000000
namespace L2
open PySem PySem.Spec PyProof.Rows XL PySem.W
section
variable {J : It} {n : Nat} {g : TG} {σ : St} {fr : List Nat} {tc : TT} {te : TE} {l : Addr} {H1 : Hp} {Q : VK}
end
end L2
set_option maxRecDepth 100000
set_option maxHeartbeats 1000000
namespace L2
open PySem PySem.Spec PyProof.Rows XL PySem.W PySem.Builtin PySem.Builtin.Str
theorem split_len (x y : Str) : (Txt.split x y).length ≤ x.length + 2 := by
  unfold Txt.split
  split
  · exact Nat.le_add_left 1 (x.length + 1)
  · split
    · exact Nat.le_add_left 1 (x.length + 1)
    · have := StrLaws.occ_length_le x y 0 x.length (x.length + 1)
      rw [length_partsBetween]
      omega
theorem vals_strs : ∀ (l : List (Str × Tok)), Vals ((l.map (·.1)).map V.str) (strValues l)
  | [] => .nil
  | (x, t) :: l => .cons ⟨t, rfl⟩ (vals_strs l)
section
variable {prog : Program} {w : World} {A : Around} {E : Value → Shared → Prop} {s : Shared} {x y : Str} {t u : Tok} {Q : Value → Shared → Prop}
theorem split_raw (hy : (y.length == 0) = false) (hz : x.length + 2 ≤ sizeLine)
    (h : ∀ (l : List (Str × Tok)) (k : Nat), l.map (·.1) = Txt.split x y → Q (.ref s.heap.objs.size) { s with heap := s.heap.push { cls := .type "list", data := .seq (strValues l).toArray }, toks := k }) :
    wpAny (model prog w) A (call (.builtin "str.split") [.str x t, .str y u]) Q E s := by
  have sl := split_len x y
  have go := fun {S : PySem.Spec} => call_meets (prog := prog) (w := w) (A := A) (E := E) (s := s) (S := S) (Q := Q) F.slot_str_split (typeIs_str s x t) F.entry_str_split (F.args_str_split_2 _ _) (rest := [.str y u])
  by_cases c : (decide (x.length < y.length) || decide (strKind x < strKind y)) = true
  · exact go (meets_str_split_cannot_occur x y t u c) (h [(x, t)] s.toks (by unfold Txt.split; rw [if_pos c]; rfl))
  · have c' := Bool.eq_false_iff.mpr c
    by_cases f : (occurrences x y 0 x.length (x.length + 1)).isEmpty = true
    · exact go (meets_str_split_not_found x y t u c' hy f) (h [(x, t)] s.toks (by unfold Txt.split; rw [if_neg c, if_pos f]; rfl))
    · have e : Txt.split x y = partsBetween x (occurrences x y 0 x.length (x.length + 1)) y.length := by unfold Txt.split; rw [if_neg c, if_neg f]
      rw [e] at sl
      refine go (meets_str_split_sep x y t u c' hy (Bool.eq_false_iff.mpr f) (by omega) (by omega)) ?_
      have z := h (numbered s.toks (Txt.split x y)) (s.toks + (Txt.split x y).length) (numbered_texts _ _)
      rw [← strsFrom_eq, e] at z
      exact z
end
section
variable {X : Cx}
theorem mt_split : MtR X "str.split" (fun x xs H Q => ∃ a b, x = .str a ∧ xs = [.str b] ∧ (b.length == 0) = false ∧ a.length + 2 ≤ sizeLine ∧ ∀ l, H l = none → Q (.ref l) (upd H l (.lst ((Txt.split a b).map V.str)))) := by
  intro pins s σ H x xs v us Q I rx rs h
  obtain ⟨a, b, rfl, rfl, hb, hz, q⟩ := h
  obtain ⟨t, rfl⟩ := rx
  obtain ⟨u, rfl, t', rfl⟩ := vals1 rs
  refine split_raw hb hz fun l k e => ?_
  have sl := split_len a b
  rw [← e] at q sl
  have new : ObjOk X.prog X.w (upd H s.heap.objs.size (.lst ((l.map (·.1)).map V.str))) (s.heap.push { cls := .type "list", data := .seq (strValues l).toArray }) s.heap.objs.size (.lst ((l.map (·.1)).map V.str)) := ⟨by rw [List.length_map]; omega, strValues l, 0, vals_strs l, Heap.get?_push_size _ rfl⟩
  exact ⟨.ref s.heap.objs.size, _, I.laid (t' := k) (fun b o e => Heap.get?_push_of_some _ e) (Nat.le_refl _) new, rfl, q _ (I.hok.fresh (Nat.le_refl _))⟩
theorem call_int_text : CallR X (.type "int") (fun xs H Q => ∃ (x : Str) (n : Int), xs = [.str x] ∧ PySem.intText? x = some n ∧ x.length ≤ 640 ∧ Q (.int n) H) := by
  intro pins s σ H xs us Q I r h
  obtain ⟨x, n, rfl, e, hz, q⟩ := h
  obtain ⟨u, rfl, t, rfl⟩ := vals1 r
  exact KIN.call_text e hz ⟨.int n, H, I.tok _, ⟨_, rfl⟩, q⟩
end
theorem jn_cut {c : Nat} : ∀ {a b X Y : List Nat}, c ∉ a → c ∉ b → a ++ c :: X = b ++ c :: Y → a = b ∧ X = Y
  | [], [], X, Y, _, _, h => ⟨rfl, (List.cons.inj h).2⟩
  | [], z :: b, X, Y, _, hb, h => absurd (List.cons.inj h).1 fun e => hb (e ▸ List.mem_cons_self)
  | z :: a, [], X, Y, ha, _, h => absurd (List.cons.inj h).1.symm fun e => ha (e ▸ List.mem_cons_self)
  | z :: a, y :: b, X, Y, ha, hb, h => by
    obtain ⟨e1, e2⟩ := List.cons.inj h
    obtain ⟨r1, r2⟩ := jn_cut (fun m => ha (List.mem_cons_of_mem _ m)) (fun m => hb (List.mem_cons_of_mem _ m)) e2
    exact ⟨by rw [e1, r1], r2⟩
theorem str_toList {a b : Str} (h : a.cps.toList = b.cps.toList) : a = b := by
  obtain ⟨a⟩ := a
  obtain ⟨b⟩ := b
  exact congrArg Str.mk (Array.toList_inj.mp h)
theorem join_two (c : Nat) (a b : Str) (r : List Str) : (Str.join ⟨#[c]⟩ (a :: b :: r)).cps.toList = a.cps.toList ++ c :: (Str.join ⟨#[c]⟩ (b :: r)).cps.toList := by
  show (a ++ (⟨#[c]⟩ : Str) ++ Str.join ⟨#[c]⟩ (b :: r)).cps.toList = _
  show ((a.cps ++ #[c]) ++ (Str.join ⟨#[c]⟩ (b :: r)).cps).toList = _
  simp
theorem join_inj {c : Nat} : ∀ {ws vs : List Str}, ws ≠ [] → vs ≠ [] → (∀ p ∈ ws, c ∉ p.cps.toList) → (∀ p ∈ vs, c ∉ p.cps.toList) → Str.join ⟨#[c]⟩ ws = Str.join ⟨#[c]⟩ vs → ws = vs
  | [], _, h, _, _, _, _ => absurd rfl h
  | _ :: _, [], _, h, _, _, _ => absurd rfl h
  | [a], [b], _, _, _, _, h => by
    have e : a = b := h
    rw [e]
  | [a], b :: b2 :: r, _, _, ha, _, h => by
    have e := congrArg (fun s : Str => s.cps.toList) h
    change a.cps.toList = (Str.join ⟨#[c]⟩ (b :: b2 :: r)).cps.toList at e
    rw [join_two] at e
    exact absurd (by rw [e]; simp) (ha a List.mem_cons_self)
  | a :: a2 :: r, [b], _, _, _, hb, h => by
    have e := congrArg (fun s : Str => s.cps.toList) h
    change (Str.join ⟨#[c]⟩ (a :: a2 :: r)).cps.toList = b.cps.toList at e
    rw [join_two] at e
    exact absurd (by rw [← e]; simp) (hb b List.mem_cons_self)
  | a :: a2 :: r, b :: b2 :: r', _, _, ha, hb, h => by
    have e := congrArg (fun s : Str => s.cps.toList) h
    change (Str.join ⟨#[c]⟩ (a :: a2 :: r)).cps.toList = (Str.join ⟨#[c]⟩ (b :: b2 :: r')).cps.toList at e
    rw [join_two, join_two] at e
    obtain ⟨e1, e2⟩ := jn_cut (ha a List.mem_cons_self) (hb b List.mem_cons_self) e
    rw [str_toList e1, join_inj (ws := a2 :: r) (vs := b2 :: r') (by simp) (by simp) (fun p hp => ha p (List.mem_cons_of_mem _ hp)) (fun p hp => hb p (List.mem_cons_of_mem _ hp)) (str_toList e2)]
theorem split_ne (x y : Str) : Txt.split x y ≠ [] := by
  unfold Txt.split
  split
  · simp
  · split
    · simp
    · intro e
      have := congrArg List.length e
      rw [length_partsBetween] at this
      simp at this
theorem split_join {c : Nat} {ws : List Str} (ne : ws ≠ []) (free : ∀ p ∈ ws, c ∉ p.cps.toList) : Txt.split (Str.join ⟨#[c]⟩ ws) ⟨#[c]⟩ = ws :=
  join_inj (split_ne _ _) ne (StrLaws.split_free _ _) free (StrLaws.join_split _ _)
end L2
set_option maxRecDepth 100000
set_option maxHeartbeats 1000000
namespace L2
open PySem PySem.Spec PyProof.Rows XL
open AutoSeq1 (wpAny_loadPart')
section
variable {prog : Program} {w : World} {A : Around} {E : Value → Shared → Prop} {s : Shared}
end
section
variable {prog : Program} {w : World} {A : Around} {E : Value → Shared → Prop} {s : Shared}
end
section
variable {prog : Program} {w : World} {K : Type} [DecidableEq K] {knd : KeyKind prog w K} {A : Around} {E : Value → Shared → Prop} {s : Shared}
end
section
variable {X : Cx} {elts : List Expr} {x1 : _} {tpos : Pos}
end
section
variable {X : Cx} {o : Expr} {to : TE} {tg : Expr} {apos cpos : Pos}
end
end L2
set_option maxRecDepth 100000
set_option maxHeartbeats 1000000
namespace L2
open PySem PySem.Spec PyProof.Rows XL
section
variable {prog : Program} {w : World} {A : Around} {E : Value → Shared → Prop} {s : Shared}
end
section
variable {X : Cx}
end
end L2
set_option maxRecDepth 100000
set_option maxHeartbeats 1000000
namespace L2
open PySem PySem.Spec PyProof.Rows XL
section
variable {X : Cx} {o : Expr} {to : TE} {tg : Expr}
end
end L2
set_option maxRecDepth 100000
set_option maxHeartbeats 1000000
namespace L2
open PySem PySem.Spec PyProof.Rows XL
open AutoSeq1 (wpAny_loadPart')
section
variable {M : Model} {A : Around} {E : Value → Shared → Prop} {s : Shared} {env : Env}
theorem callWith_type_kwB {pos : Pos} {T : String} {first : List Value} {args : List (Bool × Sem Value)} {keywords : List (Option Str × Sem Value)} {Q : Value → Shared → Prop}
    (hplain : args.any (·.1) = false) (hkw : keywords.any (·.1.isNone) = false)
    (h : wpAny M A (evalArgs (.type T) true args keywords) (fun a s₁ => wpAny M A (call (.type T) (first ++ a.pos) a.kw) Q E s₁) E s) :
    wpAny M A (callWith pos (.type T) first args keywords) Q E s := by
  unfold callWith
  refine wpAny_bind (wpAny_holding (wpAny_mono h (fun a s₁ h₁ => wpAny_bind (wpAny_standAt ?_)) fun _ _ x => x))
  simp only [hplain, hkw, Bool.or_false]
  refine wpAny_bind (wpAny_pure ?_)
  exact wpAny_bind (wpAny_mono h₁ (fun r s₂ hr => wpAny_bind (wpAny_holding (wpAny_point (wpAny_pure hr)))) fun _ _ x => x)
theorem callWith_tkw {pos : Pos} {T : String} {e : Expr} {rest : List Expr} {kws : List Keyword} {Q : Value → Shared → Prop}
    (h : wpAny M A (spliced (backTo pos (starEach (e :: rest) env))) (fun vs s₁ => wpAny M A (evalAll ((backToKw pos (keywordEach kws env)).map (·.2)))
      (fun kvs s₂ => wpAny M A (call (.type T) vs (((backToKw pos (keywordEach kws env)).filterMap (·.1)).zip kvs)) Q E s₂) E s₁) E s)
    (he : backTo pos (starEach (e :: rest) env) = (false, eval e env) :: backTo pos (starEach rest env) := by rfl)
    (hplain : (backTo pos (starEach (e :: rest) env)).any (·.1) = false := by rfl)
    (hall : (backToKw pos (keywordEach kws env)).all (·.1.isSome) = true := by rfl)
    (hkw : (backToKw pos (keywordEach kws env)).any (·.1.isNone) = false := by rfl) :
    wpAny M A (callWith pos (.type T) [] (backTo pos (starEach (e :: rest) env)) (backToKw pos (keywordEach kws env))) Q E s := by
  refine callWith_type_kwB hplain hkw ?_
  rw [he] at h ⊢
  exact evalArgs_kwB hall h
end
section
variable {prog : Program} {w : World} {A : Around} {E : Value → Shared → Prop} {s : Shared}
theorem callType_meets_kw {T newId initId : String} {Bn Bi : Builtin} {args : List Value} {kw : List (Str × Value)} {S : PySem.Spec} {Q Q₁ : Value → Shared → Prop} (ft : TypeCalled T newId initId)
    (hct : checkTypeCall T ⟨args, kw⟩ = pure ()) (hcn : checkBuiltinCall newId ⟨.type T :: args, kw⟩ = pure ())
    (entryN : entryFor table newId = some Bn) (entryI : entryFor table initId = some Bi) (g : Meets (Bn ⟨.type T :: args, kw⟩) S)
    (h : S A.in1 (wants Q₁ E) s)
    (hnext : ∀ obj s₁, Q₁ obj s₁ → s₁.TypeIs obj T ∧ argsOk initId ⟨obj :: args, kw⟩ ∧ ∃ Si, Meets (Bi ⟨obj :: args, kw⟩) Si ∧ Si A.in1 (wants (fun r s₂ => r = .none ∧ Q obj s₂) E) s₁) :
    wpAny (model prog w) A (call (.type T) args kw) Q E s := by
  obtain ⟨c, tl, hmro⟩ := ft.mro
  have hmade := ft.made
  have hsub := ft.sub
  refine wpAny_call (codeAny_of_tree ?_)
  show wpAny _ _ (callAny (.type T) _) _ _ _
  refine wpAny_pure ⟨Code.quiet_builtin _ (by decide +kernel), codeAny_builtin F.entry_type_call ?_⟩
  rw [Around.under_plain (weight_type_call_type T args kw) (units_type_call_type T args kw)]
  have h1 := ft.notType
  have h2 := ft.canCreate
  repeat (any_goals (first | assumption | wp_step))
  refine codeAny_mono (codeAny_call_builtin ft.plain entryN (wpAny_of_eq hcn (g prog w A.in1 _ s h))) fun r s₁ hr => ?_
  cases r with
  | error e => exact hr
  | ok fl =>
    cases fl with
    | ret obj =>
      obtain ⟨hT, hok, Si, gi, hsi⟩ := hnext _ _ hr
      have hli := ft.init.lookup
      have hbi := ft.init.bind obj
      repeat (any_goals (first | assumption | wp_step))
      refine codeAny_mono (codeAny_call_builtin ft.init.plain entryI (ft.init.check _ _ _ _ _ _ _ _ hT hok (gi prog w A.in1 _ s₁ hsi))) fun r₂ s₂ hr₂ => ?_
      cases r₂ with
      | error e => exact hr₂
      | ok fl₂ =>
        cases fl₂ with
        | ret r =>
          obtain ⟨rfl, hq⟩ := hr₂
          repeat (any_goals (first | assumption | wp_step))
        | _ => exact hr₂.elim
    | _ => exact hr.elim
end
theorem meets_enumerate_newF (l : Addr) (items : Array Value) (n : Nat) (dct : Option Addr) (sl : Array (Option Value)) (tc : Tok) :
    Meets (Builtin.«enumerate.__new__» ⟨[.type "enumerate", .ref l], [(Str.ofString "start", .int 1 tc)]⟩) (fun _ R s => s.heap.get? l = some { cls := .type "list", dict := dct, data := .seq items n, slots := sl } ∧
      R (.ok (.ret (.ref (s.heap.push { cls := .type "list_iterator", data := .fields #[.ref l, .int 0 0] }).objs.size)))
        { s with heap := (s.heap.push { cls := .type "list_iterator", data := .fields #[.ref l, .int 0 0] }).push { cls := .type "enumerate", data := .fields #[.none, .bool false, .ref s.heap.objs.size, rawInt 1, .none, .none] } }) :=
  .of_wp fun prog w A R s h => by
    obtain ⟨hp, g, d, tk, os⟩ := s; obtain ⟨hl, h⟩ := h
    have hsub := sub_enumerate
    have hL : Heap.IsList (Shared.heap ⟨hp, g, d, tk, os⟩) l items := ⟨_, hl, rfl, n, rfl⟩
    wp_walk using wpAny_loadPart' hl
    refine wpAny_stack_any fun st => wpAny_pure ?_
    split
    · rename_i c _ _ _ _ _
      cases (c == Value.type "enumerate")
      · wp_walk using wpAny_loadPart' hl, wpAny_pyIter_list hL
        exact ⟨_, rfl, h⟩
      · wp_walk using wpAny_loadPart' hl, wpAny_pyIter_list hL
        exact ⟨_, rfl, h⟩
    · wp_walk using wpAny_loadPart' hl, wpAny_pyIter_list hL
      exact ⟨_, rfl, h⟩
section
variable {prog : Program} {w : World} {A : Around} {E : Value → Shared → Prop} {s : Shared}
theorem enum1_next {e it l : Addr} {i : Nat} {items : Array Value} {x old : Value} {Q : Value → Shared → Prop}
    (he : IsEnum s.heap e it ((i : Int) + 1) old) (hit : s.heap.IsListIter it l i) (hl : s.heap.IsList l items) (hx : items[i]? = some x) (hne : e ≠ it)
    (hQ : ∀ h', IsEnumOut h' e it ((i : Int) + 1 + 1) x s.heap.objs.size → h'.IsListIter it l (i + 1) →
      h'.get? s.heap.objs.size = some { cls := .type "tuple", data := .seq #[.int ((i : Int) + 1) s.toks, x] } → h'.objs.size = s.heap.objs.size + 1 →
      (∀ b o, b ≠ e → b ≠ it → s.heap.get? b = some o → h'.get? b = some o) → Q (.ref s.heap.objs.size) { s with heap := h', toks := s.toks + 1 }) :
    wpAny (model prog w) A (Builtin.«enumerate.__next__» ⟨[.ref e], []⟩) (fun fin s' => ∃ v, fin = .done (.ret v) ∧ Q v s') E s := by
  obtain ⟨hp, g, d, tk, os⟩ := s
  show wpAny _ _ (field (.ref e) 2 >>= _) _ _ _
  refine wpAny_bind (wpAny_field he rfl (x := .ref it) rfl ?_)
  refine wpAny_bind (wpAny_nextOf_list_item hit hl hx fun h₁ hit₁ hs₁ => ?_)
  replace hs₁ : Heap.SameBut it hp h₁ := hs₁
  have he₁ : IsEnum h₁ e it ((i : Int) + 1) old := (hs₁.2 e hne).trans he
  show wpAny _ _ (field (.ref e) 3 >>= _) _ _ ⟨h₁, g, d, tk, os⟩
  refine wpAny_bind (wpAny_field he₁ rfl (x := rawInt ((i : Int) + 1)) rfl ?_)
  show wpAny _ _ (field (.ref e) 4 >>= _) _ _ ⟨h₁, g, d, tk, os⟩
  refine wpAny_bind (wpAny_field he₁ rfl (x := .none) rfl ?_)
  show wpAny _ _ (mkInt ((i : Int) + 1) >>= _) _ _ ⟨h₁, g, d, tk, os⟩
  refine wpAny_bind (wpAny_mkInt ?_)
  show wpAny _ _ (setField (.ref e) 3 (rawInt ((i : Int) + 1 + 1)) >>= _) _ _ ⟨h₁, g, d, tk + 1, os⟩
  refine wpAny_bind (wpAny_setField_rec he₁ (by simp) fun h₂ he₂ hs₂ => ?_)
  replace hs₂ : Heap.SameBut e h₁ h₂ := hs₂
  replace he₂ : IsEnum h₂ e it ((i : Int) + 1 + 1) old := he₂
  show wpAny _ _ (setField (.ref e) 4 .none >>= _) _ _ ⟨h₂, g, d, tk + 1, os⟩
  refine wpAny_bind (wpAny_setField_rec he₂ (by simp) fun h₃ he₃ hs₃ => ?_)
  replace hs₃ : Heap.SameBut e h₂ h₃ := hs₃
  replace he₃ : IsEnum h₃ e it ((i : Int) + 1 + 1) old := he₃
  show wpAny _ _ (newTuple [.int ((i : Int) + 1) tk, x] >>= _) _ _ ⟨h₃, g, d, tk + 1, os⟩
  refine wpAny_bind (wpAny_newTuple ?_)
  have he₄ : IsEnum (h₃.push { cls := .type "tuple", data := .seq #[.int ((i : Int) + 1) tk, x] }) e it ((i : Int) + 1 + 1) old := Heap.get?_push_of_some _ he₃
  generalize hh₄ : h₃.push { cls := .type "tuple", data := .seq #[.int ((i : Int) + 1) tk, x] } = h₄ at he₄
  have hsz : h₃.objs.size = hp.objs.size := by rw [hs₃.1, hs₂.1, hs₁.1]
  have hel : e < hp.objs.size := Heap.lt_size he
  have ht₄ : h₄.get? hp.objs.size = some { cls := .type "tuple", data := .seq #[.int ((i : Int) + 1) tk, x] } := by rw [← hh₄, ← hsz]; exact Heap.get?_push_size _ rfl
  have hz₄ : h₄.objs.size = hp.objs.size + 1 := by rw [← hh₄, Heap.size_push, hsz]
  have hk₄ : ∀ b o, b ≠ e → b ≠ it → hp.get? b = some o → h₄.get? b = some o := fun b o hbe hbi hb => by
    rw [← hh₄]; exact Heap.get?_push_of_some _ (hs₃.extBut b o hbe (hs₂.extBut b o hbe (hs₁.extBut b o hbi hb)))
  have hit₄ : h₄.IsListIter it l (i + 1) := by
    rw [← hh₄]; obtain ⟨o, ho, r⟩ := (hit₁.extBut hs₂.extBut (Ne.symm hne)).extBut hs₃.extBut (Ne.symm hne); exact ⟨o, Heap.get?_push_of_some _ ho, r⟩
  show wpAny _ _ (Builtin.SmallTypes.ownedTupleIsFree (.ref e) >>= _) _ _ ⟨h₄, g, d, tk + 1, os⟩
  rw [hsz]
  clear hh₄ he₃ hs₃ he₂ hs₂ he₁ hs₁ hit₁ hsz h₃ h₂ h₁
  refine wpAny_bind ?_
  · unfold Builtin.SmallTypes.ownedTupleIsFree
    refine wpAny_bind (wpAny_field he₄ rfl (x := .none) rfl (wpAny_pure ?_))
    simp only [if_true]
    refine wpAny_bind (wpAny_rule ?_)
    refine wpAny_bind (wpAny_field he₄ rfl (x := old) rfl ?_)
    refine wpAny_bind (wpAny_setField_rec he₄ (by simp) fun h₅ he₅ hs₅ => ?_)
    replace hs₅ : Heap.SameBut e h₄ h₅ := hs₅
    replace he₅ : IsEnum h₅ e it ((i : Int) + 1 + 1) x := he₅
    show wpAny _ _ (Builtin.SmallTypes.ownedTupleHandOut (.ref e) (.ref hp.objs.size) >>= _) _ _ ⟨h₅, g, d, tk + 1, os⟩
    refine wpAny_bind ?_
    · unfold Builtin.SmallTypes.ownedTupleHandOut
      refine wpAny_bind (wpAny_setField_rec he₅ (by simp) fun h₆ he₆ hs₆ => ?_)
      replace hs₆ : Heap.SameBut e h₅ h₆ := hs₆
      replace he₆ : IsEnumOut h₆ e it ((i : Int) + 1 + 1) x hp.objs.size := he₆
      refine wpAny_setField_rec he₆ (by simp) fun h₇ he₇ hs₇ => ?_
      replace hs₇ : Heap.SameBut e h₆ h₇ := hs₇
      replace he₇ : IsEnumOut h₇ e it ((i : Int) + 1 + 1) x hp.objs.size := he₇
      refine wpAny_bind (wpAny_letGo (wpAny_pure ⟨_, rfl, hQ h₇ he₇ ?_ ?_ ?_ ?_⟩))
      · exact ((hit₄.extBut hs₅.extBut (Ne.symm hne)).extBut hs₆.extBut (Ne.symm hne)).extBut hs₇.extBut (Ne.symm hne)
      · exact hs₇.extBut _ _ (Nat.ne_of_gt hel) (hs₆.extBut _ _ (Nat.ne_of_gt hel) (hs₅.extBut _ _ (Nat.ne_of_gt hel) ht₄))
      · rw [hs₇.1, hs₆.1, hs₅.1, hz₄]
      · exact fun b o hbe hbi hb => hs₇.extBut b o hbe (hs₆.extBut b o hbe (hs₅.extBut b o hbe (hk₄ b o hbe hbi hb)))
theorem typeCall_enum_start (a v : Value) : checkTypeCall "enumerate" ⟨[a], [(Str.ofString "start", v)]⟩ = pure () := by kernel_rfl
theorem newCall_enum_start (a v : Value) : checkBuiltinCall "enumerate.__new__" ⟨[.type "enumerate", a], [(Str.ofString "start", v)]⟩ = pure () := by kernel_rfl
theorem args_object_init_start (a b v : Value) : argsOk "object.__init__" ⟨[a, b], [(Str.ofString "start", v)]⟩ := by unfold argsOk; kernel_rfl
theorem object_init_kw {T newId : String} {self a v : Value} (hl : typeLookup (.type T) "__init__" = pure (some (.builtin "object.__init__")))
    (hm : Bind.madeBy (.type T) = pure (some newId)) (hne : (some newId != some "object.__new__") = true) :
    Meets (Builtin.«object.__init__» ⟨[self, a], [(Str.ofString "start", v)]⟩) (fun _ R s => s.TypeIs self T ∧ R (.ok (.ret .none)) s) := by
  refine Meets.of_wp fun prog w A R s hs => ?_
  obtain ⟨hT, hq⟩ := hs
  repeat (any_goals (first | assumption | wp_step))
  exact ⟨_, rfl, hq⟩
theorem call_enum_start {l : Addr} {items : Array Value} {tc : Tok} {Q : Value → Shared → Prop} (hL : s.heap.IsList l items)
    (h : ∀ h', IsEnum h' (s.heap.objs.size + 1) s.heap.objs.size 1 .none → h'.IsListIter s.heap.objs.size l 0 → h'.objs.size = s.heap.objs.size + 2 →
      (∀ b o, s.heap.get? b = some o → h'.get? b = some o) → Q (.ref (s.heap.objs.size + 1)) { s with heap := h' }) :
    wpAny (model prog w) A (call (.type "enumerate") [.ref l] [(Str.ofString "start", .int 1 tc)]) Q E s := by
  obtain ⟨⟨c, dct, dt, sl⟩, hl, hc, n, hd⟩ := hL
  replace hc : c = .type "list" := hc
  replace hd : dt = .seq items n := hd
  subst hc hd
  refine callType_meets_kw F.called_enumerate (typeCall_enum_start _ _) (newCall_enum_start _ _) F.entry_enumerate_new F.entry_object_init (meets_enumerate_newF l items n dct sl tc) (Q₁ := fun obj s₁ => s₁.TypeIs obj "enumerate" ∧ Q obj s₁) ⟨hl, ?_⟩ fun obj _ hq =>
    ⟨hq.1, args_object_init_start obj _ _, _, object_init_kw F.called_enumerate.init.lookup F.called_enumerate.made (by decide), hq.1, rfl, hq.2⟩
  have hz : (s.heap.push { cls := .type "list_iterator", data := .fields #[.ref l, .int 0 0] }).objs.size = s.heap.objs.size + 1 := Heap.size_push ..
  show _ ∧ _
  rw [hz]
  have he : IsEnum ((s.heap.push { cls := .type "list_iterator", data := .fields #[.ref l, .int 0 0] }).push
      { cls := .type "enumerate", data := .fields #[.none, .bool false, .ref s.heap.objs.size, rawInt 1, .none, .none] }) (s.heap.objs.size + 1) s.heap.objs.size 1 .none := by
    have := Heap.get?_push_size (s.heap.push { cls := .type "list_iterator", data := .fields #[.ref l, .int 0 0] })
      (o := { cls := .type "enumerate", data := .fields #[.none, .bool false, .ref s.heap.objs.size, rawInt 1, .none, .none] }) rfl
    rw [hz] at this; exact this
  refine ⟨⟨_, he, rfl⟩, h _ he ⟨_, Heap.get?_push_of_some _ (Heap.get?_push_size _ rfl), rfl, rfl⟩ (by rw [Heap.size_push, hz]) fun b o x => Heap.get?_push_of_some _ (Heap.get?_push_of_some _ x)⟩
end
end L2
set_option maxRecDepth 100000
set_option maxHeartbeats 1000000
namespace L2
open PySem PySem.Spec PyProof.Rows XL
def Ite1 (K : PySem.W.Frag) (a : Addr) : It :=
  ⟨fun i H => ∃ xs x, SqL K H a xs ∧ xs[i]? = some x, fun i H v H' => ∃ p x, (∀ xs, SqL K H a xs → xs[i]? = some x) ∧ v = .ref p ∧ H p = none ∧ H' = upd H p (.tup [.int ((i : Int) + 1), x]), fun i H => ∃ xs, SqL K H a xs ∧ xs.length ≤ i⟩
theorem turn_enum1 {P : Program} {w : World} {K : PySem.W.Frag} {elts : List Expr} {x1} {tpos : Pos} (e it l : Addr) (hei : e ≠ it) :
    Turn P w K (.Tuple elts x1 tpos) (Ite1 K l) [e, it] e (fun i h => (∃ old, IsEnum h e it ((i : Int) + 1) old) ∧ h.IsListIter it l i) where
  mem := by simp
  obj := fun i h st b hb => by
    obtain ⟨⟨old, he⟩, ⟨o1, e1, c1, d1⟩⟩ := st
    simp only [List.mem_cons, List.not_mem_nil, or_false] at hb
    rcases hb with rfl | rfl
    · exact ⟨_, he, fun v k => by have k' : Data.fields _ = Data.cell v := k; cases k'⟩
    · exact ⟨_, e1, fun v k => by rw [d1] at k; cases k⟩
  keep := fun i h h' ⟨⟨old, he⟩, h1⟩ k => ⟨⟨old, k e (by simp) _ he⟩, h1.at fun o z => k it (by simp) o z⟩
  item := by
    intro X hP hw hK hc i pins s σ H E I hf st hg
    subst hP hw hK
    obtain ⟨xs, x, hq, hx⟩ := hg
    obtain ⟨its, rv, p, hz1⟩ := I.list hq
    obtain ⟨u, hu, ru⟩ := rv.get hx
    obtain ⟨⟨old, he⟩, h1⟩ := id st
    have hTy : s.TypeIs (.ref e) "enumerate" := ⟨_, he, rfl⟩
    unfold pyNext
    refine wpAny_bind (wpAny_attempt (wpAny_callSpecial?_slot (name := Str.ofString "__next__") hTy F.slot_enumerate_next
      (wpAny_call_entry F.slot_enumerate_next hTy F.entry_enumerate_next
        (enum1_next he h1 p.isList (x := u) (by simpa using hu) hei fun h' ho hit' hT hsz hk => wpAny_pure ?_) (F.args_enumerate_next_1 _))))
    refine ⟨_, rfl, wpAny_letOwnedTupleGo_enum (s := { s with heap := h', toks := s.toks + 1 }) ho fun h'' he' hs' => ?_⟩
    have elt : e < s.heap.objs.size := Heap.lt_size he
    have pne : s.heap.objs.size ≠ e := Nat.ne_of_gt elt
    have kk : ∀ b o, b ∉ [e, it] → s.heap.get? b = some o → h''.get? b = some o := fun b o hb g => by
      simp only [List.mem_cons, List.not_mem_nil, or_false, not_or] at hb
      exact (hs'.2 b hb.1).trans (hk b o hb.1 hb.2 g)
    have I1 : Inv X pins σ H { s with heap := h'', toks := s.toks + 1 } := I.turnedL kk hf
    obtain ⟨n0, nL, nC, nP⟩ := I.size_lt (Nat.le_refl s.heap.objs.size)
    have hp : h''.get? s.heap.objs.size = some { cls := .type "tuple", data := .seq #[.int ((i : Int) + 1) s.toks, u] } := (hs'.2 _ pne).trans hT
    refine ⟨.ref s.heap.objs.size, upd H s.heap.objs.size (.tup [.int ((i : Int) + 1), x]), I1.adopt n0 I.sz nL nC nP ⟨by show 2 ≤ sizeLine; decide, [.int ((i : Int) + 1) s.toks, u], .cons ⟨_, rfl⟩ (.cons ru .nil), _, hp, rfl, _, rfl⟩, rfl,
      ⟨_, x, fun zs hz => by rw [I.list_inj hz hq]; exact hx, rfl, n0, rfl⟩, ?_, fun b hb => ?_⟩
    · exact ⟨⟨_, by simpa using he'⟩, hit'.at fun o y => (hs'.2 it (Ne.symm hei)).trans y⟩
    · obtain ⟨o, ho⟩ : ∃ o, s.heap.get? b = some o := by
        obtain ⟨o1, e1, c1, d1⟩ := h1
        simp only [List.mem_cons, List.not_mem_nil, or_false] at hb
        rcases hb with rfl | rfl
        · exact ⟨_, he⟩
        · exact ⟨_, e1⟩
      rw [upd_ne (Nat.ne_of_lt (Heap.lt_size ho))]
      exact (hf b hb).1
  done := by
    intro X hP hw hK hc i pins s σ H E I hf st hg
    subst hP hw hK
    obtain ⟨xs, hq, hl⟩ := hg
    obtain ⟨its, rv, p, hz1⟩ := I.list hq
    have e1 := rv.length
    obtain ⟨⟨old, he⟩, h1⟩ := id st
    have fin : ∀ h', Heap.ExtBut it s.heap h' → (none : Option Value) = none ∧ Inv X pins σ H { s with heap := h' } := fun h' hx => ⟨rfl, I.turnedL (t' := s.toks) (fun b o hb g => by
      simp only [List.mem_cons, List.not_mem_nil, or_false, not_or] at hb
      exact hx b o hb.2 g) hf⟩
    have hTy : s.TypeIs (.ref e) "enumerate" := ⟨_, he, rfl⟩
    unfold pyNext
    refine wpAny_bind (wpAny_attempt (wpAny_callSpecial?_slot (name := Str.ofString "__next__") hTy F.slot_enumerate_next
      (wpAny_call_entry F.slot_enumerate_next hTy F.entry_enumerate_next ?_ (F.args_enumerate_next_1 _))))
    show wpAny _ _ (field (.ref e) 2 >>= _) _ _ _
    refine wpAny_bind (wpAny_field he rfl (x := .ref it) rfl ?_)
    refine wpAny_bind (wpAny_nextOf_list_end (I.ok.hd hc) h1 p.isList (by simp; omega) fun h' x he' hx' => ?_)
    obtain ⟨o, ho, hc⟩ := hx'
    refine wpAny_bind (wpAny_isInstance (T := "StopIteration") (b := true) ⟨o, ho, hc⟩ isSubtype_stop ?_)
    exact wpAny_pure (fin _ he')
  self := fun _ _ _ _ _ ⟨⟨_, st⟩, _⟩ h => wpAny_pyIter_enum st h
def iEnum1 (K : PySem.W.Frag) (ta : TA) (tk : TE) : TI := fun σ H R => ta σ H fun vs H1 => tk σ H1 fun k H2 => ∃ a xs, vs = [.ref a] ∧ k = .int 1 ∧ SqL K H2 a xs ∧ R (Ite1 K a) H2
section
variable {X : Cx} {elts : List Expr} {x1 : _} {tpos : Pos}
theorem pi_enum1 {a k : Expr} {ta : TA} {tk : TE} {p pos kp : Pos} (hg : Gl X "enumerate") (hm : X.mg "enumerate" = none) (ha : PA X [a] ta) (hk : PE X k tk) (hs : starEach [a] X.env = [(false, eval a X.env)] := by rfl) :
    PI X (.Tuple elts x1 tpos) (.Call (.Name "enumerate" p) [a] [⟨some "start", k, kp⟩] pos) (iEnum1 X.K ta tk) := by
  intro pins s σ H R I h
  refine wpAny_Call_Name_kw (ld_blt I hg hm PyProof.Rows.Boot.«enumerate» (callWith_tkw (thn (ha pos pins s σ H _ I h) fun us s1 ⟨vs, H1, I1, r1, q1⟩ => ?_) (by rw [hs]; rfl) (by rw [hs]; rfl)))
  refine kws_cons (thn (hk pins s1 σ H1 _ I1 q1) fun u2 s2 ⟨x2, H2, I2, r2, q2⟩ => kws_nil ?_)
  obtain ⟨l, xs, e, e2, hq, q⟩ := q2
  subst e
  subst e2
  obtain ⟨u, rfl, ru⟩ := vals1 r1
  obtain rfl : u = Value.ref l := ru
  obtain ⟨tk2, rfl⟩ := r2
  obtain ⟨its, rv, p1, hz1⟩ := I2.list hq
  refine call_enum_start p1.isList fun h' he h1 hsz hk' => ?_
  refine wpAny_pyIter_enum (s := { s2 with heap := h' }) he ?_
  have I3 : Inv X pins σ H2 { s2 with heap := h' } := I2.kept (t' := s2.toks) hk'
  refine ⟨_, [s2.heap.objs.size + 1, s2.heap.objs.size], _, _, H2, rfl, I3, turn_enum1 _ _ l (ne_num (by omega)), ⟨⟨_, he⟩, h1⟩, fun b hb => ?_, q⟩
  have hb' : s2.heap.objs.size ≤ b := by
    simp only [List.mem_cons, List.not_mem_nil, or_false] at hb
    rcases hb with rfl | rfl
    · exact Nat.le_add_right _ 1
    · exact Nat.le_refl _
  exact I2.fpOk hb' (I2.hok.fresh hb')
end
theorem for_enum1 {K : PySem.W.Frag} {a : Addr} {xs : List V} {g : TG} {tb : TS} {D : Ends} {σ : St} {H : Hp} (Pv : Nat → St → Hp → Prop) (h0 : Pv 0 σ H) (hl : ∀ i σ H, i ≤ xs.length → Pv i σ H → SqL K H a xs)
    (hs : ∀ i x p σ H, xs[i]? = some x → H p = none → Pv i σ H → g (.ref p) σ (upd H p (.tup [.int ((i : Int) + 1), x])) fun σ2 H2 => tb { D with nx := Pv (i + 1), ct := Pv (i + 1), bk := D.nx } σ2 H2) (hd : ∀ σ H, Pv xs.length σ H → D.nx σ H) :
    ∃ W : Nat → Nat → St → Hp → Prop, (∃ m, W 0 m σ H) ∧ ∀ i m σ H, W i m σ H →
      ((Ite1 K a).stop i H ∧ D.nx σ H) ∨ ((Ite1 K a).go i H ∧ ∃ N : St → Hp → Prop, (∀ σ' H', N σ' H' → ∃ m', m' < m ∧ W (i + 1) m' σ' H') ∧ ∀ x H', (Ite1 K a).yld i H x H' → g x σ H' fun σ2 H2 => tb { D with nx := N, ct := N, bk := D.nx } σ2 H2) := by
  refine ⟨fun i m σ H => m = xs.length - i ∧ i ≤ xs.length ∧ Pv i σ H, ⟨xs.length, by simp, Nat.zero_le _, h0⟩, ?_⟩
  rintro i m σ H ⟨rfl, hi, p⟩
  have q := hl i σ H hi p
  by_cases hlt : i < xs.length
  · refine .inr ⟨⟨xs, xs[i], q, by simp [hlt]⟩, Pv (i + 1), fun σ' H' p' => ⟨xs.length - (i + 1), by omega, rfl, hlt, p'⟩, fun x H' y => ?_⟩
    obtain ⟨r, x', e1, rfl, hr, rfl⟩ := y
    exact hs i x' r σ H (e1 _ q) hr p
  · have e : i = xs.length := by omega
    subst e
    exact .inl ⟨⟨xs, q, Nat.le_refl _⟩, hd σ H p⟩
end L2
set_option maxRecDepth 100000
set_option maxHeartbeats 1000000
namespace L2
open PySem PySem.Spec PyProof.Rows XL
def numT (n : Nat) : Str := Str.ofString (toString (n : Int))
def numOk (n : Nat) : Bool := (numT n).cps.toList.all (fun c => decide (48 ≤ c) && decide (c ≤ 57)) && (decide ((numT n).length = 1) || (decide ((numT n).length = 2) && !decide ((numT n).cps.toList.head? = some 48))) && decide (PySem.intText? (numT n) = some (n : Int))
theorem numOk_all : ∀ n, n < 100 → numOk n = true := by decide +kernel
theorem numT_len {n : Nat} (h : n < 100) : (numT n).length = 1 ∨ ((numT n).length = 2 ∧ (numT n).cps.toList.head? ≠ some 48) := by
  have z := numOk_all n h
  unfold numOk at z
  rw [Bool.and_eq_true, Bool.and_eq_true] at z
  have y := z.1.2
  rw [Bool.or_eq_true, Bool.and_eq_true] at y
  rcases y with y | ⟨y1, y2⟩
  · exact .inl (of_decide_eq_true y)
  · refine .inr ⟨of_decide_eq_true y1, ?_⟩
    simpa using y2
end L2
set_option maxRecDepth 100000
set_option maxHeartbeats 1000000
namespace L2
open PySem PySem.Spec PyProof.Rows XL PySem.W PySem.Builtin PySem.Builtin.Str
section
variable {J : It} {n : Nat} {g : TG} {σ : St} {fr : List Nat} {tc : TT} {te : TE} {l : Addr} {H1 : Hp} {Q : VK}
theorem comp_listL {K : PySem.W.Frag} {a : Addr} {xs : List V} (hs : SqL K H1 a xs) (hlen : xs.length < sizeLine) (hl : H1 l = none) (F : Nat → List V → Hp → Prop) (F0 : ∀ H, Same H1 H → F 0 [] H) (stab : ∀ i ys zs H H', H l = some (.lst zs) → (∀ b u, b ≠ l → H b = some u → H' b = some u) → F i ys H → F i ys H')
    (step : ∀ (i : Nat) (x : V) (ys : List V) H2, xs[i]? = some x → Same H1 H2 → H2 l = some (.lst ys) → F i ys H2 → ∀ (N : V → Hp → Prop), (∀ y H', Same H2 H' → F (i + 1) (ys ++ [y]) H' → N y H') → g x (blk0 σ fr n) H2 fun σ' H3 => te σ' H3 N)
    (fin : ∀ ys H2, Same H1 H2 → H2 l = some (.lst ys) → ys.length = xs.length → F xs.length ys H2 → Q (.ref l) H2) : CompG (Itl K a) n g σ fr tTrue te l H1 Q := by
  refine compG_by xs.length (fun i ys H2 => Same H1 H2 ∧ H2 l = some (.lst ys) ∧ ys.length = i ∧ F i ys H2) ?_ ?_ ?_ ?_
  · have s0 : Same H1 (upd H1 l (.lst [])) := fun b u e => by
      rw [upd_ne (ne_of_none e hl)]
      exact e
    exact ⟨s0, upd_same, rfl, F0 _ s0⟩
  · rintro i ys H2 lt ⟨s, _⟩
    exact ⟨xs, xs[i], Same.seqL s hs, List.getElem?_eq_getElem lt⟩
  · rintro i ys H2 v H3 lt ⟨s, el, ly, f⟩ ⟨rfl, yv⟩ N hN
    have hv := yv xs (Same.seqL s hs)
    refine cut_true (i := i) (step i v ys H3 hv s el f _ fun y H' s' f' => ?_)
    have el' := s' _ _ el
    refine ⟨el', by omega, hN _ _ ⟨fun b u e => ?_, upd_same, by simp [ly], stab _ _ _ _ _ el' (fun b u nb e => ?_) f'⟩⟩
    · rw [upd_ne (ne_of_none e hl)]
      exact s' _ _ (s _ _ e)
    · rw [upd_ne nb]
      exact e
  · rintro ys H2 ⟨s, el, ly, f⟩
    exact ⟨⟨xs, Same.seqL s hs, Nat.le_refl _⟩, fin ys H2 s el ly f⟩
end
theorem cat_toList (a b : Str) : (a ++ b).cps.toList = a.cps.toList ++ b.cps.toList := by
  show (a.cps ++ b.cps).toList = _
  simp
theorem join_one (c : Nat) (a : Str) : Str.join ⟨#[c]⟩ [a] = a := rfl
theorem str_len (a : Str) : a.length = a.cps.toList.length := by simp [Str.length]
end L2
set_option maxRecDepth 100000
set_option maxHeartbeats 1000000
namespace L2
open PySem PySem.Spec PyProof.Rows XL PySem.W PySem.Builtin PySem.Builtin.Str
section
variable {X : Cx}
end
end L2
namespace L2
open PySem PySem.Spec PyProof.Rows XL PySem.W
def gOr (g1 g2 : TG) : TG := fun v σ H Q => g1 v σ H Q ∨ g2 v σ H Q
theorem pg_or {X : Cx} {tg : Expr} {g1 g2 : TG} (h1 : PG X tg g1) (h2 : PG X tg g2) : PG X tg (gOr g1 g2) := by
  intro pins s σ H v u Q I r h
  rcases h with h | h
  · exact h1 pins s σ H v u Q I r h
  · exact h2 pins s σ H v u Q I r h
end L2
set_option maxRecDepth 100000
set_option maxHeartbeats 1000000
namespace L2
open PySem PySem.Spec PyProof.Rows XL PySem.W
section
variable {X : Cx}
end
end L2
namespace L2
open PySem PySem.Spec PyProof.Rows XL PySem.W
section
variable {X : Cx}
end
end L2
set_option maxRecDepth 100000
set_option maxHeartbeats 1000000
namespace L2
open PySem PySem.Spec PyProof.Rows XL PySem.W
section
variable {J : It} {n : Nat} {g : TG} {σ : St} {fr : List Nat} {tc : TT} {te : TE} {l : Addr} {H1 : Hp} {Q : VK} {α : Type}
theorem comp_filt {K : PySem.W.Frag} {a : Addr} {as : List α} {f gv : α → V} {q : α → Bool} (hs : SqL K H1 a (as.map f)) (hlen : as.length < sizeLine) (hl : H1 l = none)
    (step : ∀ (i : Nat) (x : α) (H2 : Hp), as[i]? = some x → Same H1 H2 → ∀ (N : V → Hp → Prop) (M : Hp → Prop), (∀ H', Same H2 H' → q x = true → N (gv x) H') → (∀ H', Same H2 H' → q x = false → M H') →
      g (f x) (blk0 σ fr n) H2 fun σ' H3 => tc σ' H3 fun b H4 => if b = true then te σ' H4 N else M H4)
    (fin : ∀ H2, Same H1 H2 → H2 l = some (.lst ((as.filter q).map gv)) → Q (.ref l) H2) : CompG (Itl K a) n g σ fr tc te l H1 Q := by
  refine comp_listF hs (by rw [List.length_map]; exact hlen) hl (fun i => ((as[i]?).map q).getD false) (fun i y _ => ∃ x, as[i]? = some x ∧ y = gv x) (fun _ _ _ _ _ z => z) (fun i z H2 hz s2 N M hN hM => ?_) (fun ys H2 s2 el ly fy => ?_)
  · rw [List.getElem?_map] at hz
    obtain ⟨x, hx, rfl⟩ := Option.map_eq_some_iff.mp hz
    refine step i x H2 hx s2 N M (fun H' s e => hN _ _ s (by rw [hx]; exact e) ⟨x, hx, rfl⟩) (fun H' s e => hM _ s (by rw [hx]; exact e))
  · rw [List.length_map] at ly fy
    obtain ⟨i1, i2⟩ := ix_filt q (as := as) (p := fun i => ((as[i]?).map q).getD false) fun i x hx => by rw [hx]; rfl
    have ey : ys = (as.filter q).map gv := by
      apply List.ext_getElem?
      intro j
      rcases Nat.lt_or_ge j ys.length with lt | ge
      · have e1 := List.getElem?_eq_getElem lt
        have lt2 : j < ((List.range as.length).filter fun i => ((as[i]?).map q).getD false).length := by rw [← ly]; exact lt
        have e2 := List.getElem?_eq_getElem lt2
        obtain ⟨x, hx, ex⟩ := fy j _ _ e1 e2
        rw [e1, ex, List.getElem?_map, ← i2 j _ e2, hx]
        rfl
      · rw [List.getElem?_eq_none ge, List.getElem?_eq_none (by rw [List.length_map, ← i1, ← ly]; exact ge)]
    rw [ey] at el
    exact fin H2 s2 el
theorem comp_mapV {K : PySem.W.Frag} {a : Addr} {as : List α} {f gv : α → V} (hs : SqL K H1 a (as.map f)) (hlen : as.length < sizeLine) (hl : H1 l = none)
    (step : ∀ (i : Nat) (x : α) (H2 : Hp), as[i]? = some x → Same H1 H2 → ∀ (N : V → Hp → Prop), (∀ H', Same H2 H' → N (gv x) H') → g (f x) (blk0 σ fr n) H2 fun σ' H3 => te σ' H3 N)
    (fin : ∀ H2, Same H1 H2 → H2 l = some (.lst (as.map gv)) → Q (.ref l) H2) : CompG (Itl K a) n g σ fr tTrue te l H1 Q := by
  refine comp_filt (q := fun _ => true) hs hlen hl (fun i x H2 hx s2 N M hN hM => cut_true (i := i) (step i x H2 hx s2 N fun H' s => hN H' s rfl)) (fun H2 s2 el => fin H2 s2 ?_)
  rw [List.filter_eq_self.mpr (fun _ _ => rfl)] at el
  exact el
end
end L2
set_option maxRecDepth 100000
set_option maxHeartbeats 1000000
namespace L2
open PySem PySem.Spec PyProof.Rows XL PySem.W PySem.Builtin PySem.Builtin.Str
def rNeId : R2 := fun x y H Q => ∃ (a b : Addr) (xs : List V), x = .ref a ∧ y = .ref b ∧ H a = some (.lst xs) ∧ H b = some (.lst xs) ∧ (∀ z ∈ xs, (∃ c, z = .ref c) ∨ flatV z = true) ∧ Q (.bl false) H
theorem flat_dv {K : PySem.W.Frag} {H : Hp} {z : V} (h : flatV z = true) : ∃ d, Dv K H 0 z d := by
  cases z with
  | non => exact ⟨_, .non⟩
  | bl b => exact ⟨_, .bl⟩
  | int i => exact ⟨_, .int⟩
  | str s => exact ⟨_, .str⟩
  | _ => cases h
section
variable {X : Cx}
theorem op_neId (hu : X.A.units + 20 < cLine) : OpR X (compareOp .NotEq) rNeId := by
  intro pins s σ H x y u v Q I rx ry h
  obtain ⟨a, b, xs, rfl, rfl, ha, hb, fl, q⟩ := h
  obtain rfl : u = Value.ref a := rx
  obtain rfl : v = Value.ref b := ry
  obtain ⟨its, r1, t1, z1⟩ := I.list (SqL.of ha)
  obtain ⟨its2, r2, t2, z2⟩ := I.list (SqL.of hb)
  have l1 := r1.length
  have l2 := r2.length
  have step : ∀ (j : Nat) (h1 : j < its.toArray.size) (h2 : j < its2.toArray.size), SeqAt.EqAt X.A.in1 s its.toArray[j] its2.toArray[j] ((fun _ => true) j) := fun j h1 h2 => by
    obtain ⟨x, hx, rx⟩ := vals_at r1 h1
    obtain ⟨y, hy, ry⟩ := vals_at r2 h2
    rw [hx] at hy
    cases hy
    rcases fl x (List.mem_of_getElem? hx) with ⟨c, rfl⟩ | f
    · have e1 : its.toArray[j] = Value.ref c := rx
      have e2 : its2.toArray[j] = Value.ref c := ry
      rw [e1, e2]
      exact SeqAt.EqAt.same _
    · obtain ⟨d, hd⟩ := flat_dv (K := X.K) (H := H) f
      have z := (dv_at I hd hd (A := X.A.in1) (by show X.A.units + 1 + 0 + 0 < cLine; omega) rx ry).1
      rw [dEq_refl] at z
      exact z
  have z := SeqAt.RcNeAt.lists (A := X.A) (e := fun _ => true) t1.isList t2.isList (by simp; omega) (by omega) step
  rw [show (List.range its.toArray.size).all (fun _ => true) = true by simp] at z
  exact PySem.W.cmp_ofNotEq (z X.prog X.w X.xe _ ⟨.bl _, H, I, rfl, q⟩)
end
def splitL (c : Nat) : List Nat → List (List Nat)
  | [] => [[]]
  | x :: r => if x = c then [] :: splitL c r else match splitL c r with
    | [] => [[x]]
    | p :: ps => (x :: p) :: ps
def ofL (l : List Nat) : Str := ⟨l.toArray⟩
theorem ofL_cps (l : List Nat) : (ofL l).cps.toList = l := by simp [ofL]
theorem ofL_of (s : Str) : ofL s.cps.toList = s := str_toList (ofL_cps _)
theorem splitL_ne (c : Nat) : ∀ l, splitL c l ≠ []
  | [] => by simp [splitL]
  | x :: r => by
    unfold splitL
    split
    · simp
    · split <;> simp
theorem splitL_free (c : Nat) : ∀ l, ∀ p ∈ splitL c l, c ∉ p
  | [], p, h => by
    rw [List.mem_singleton.mp h]
    simp
  | x :: r, p, h => by
    have ih := splitL_free c r
    unfold splitL at h
    split at h
    · rcases List.mem_cons.mp h with z | z
      · rw [z]; simp
      · exact ih p z
    · rename_i ne
      split at h
      · rename_i e
        exact absurd e (splitL_ne c r)
      · rename_i q ps e
        rw [e] at ih
        rcases List.mem_cons.mp h with z | z
        · rw [z, List.mem_cons]
          rintro (y | y)
          · exact ne y.symm
          · exact ih q List.mem_cons_self y
        · exact ih p (List.mem_cons_of_mem _ z)
theorem join_cons (c : Nat) (a : Str) : ∀ r : List Str, r ≠ [] → (Str.join ⟨#[c]⟩ (a :: r)).cps.toList = a.cps.toList ++ c :: (Str.join ⟨#[c]⟩ r).cps.toList
  | [], h => absurd rfl h
  | b :: r, _ => join_two c a b r
theorem splitL_join (c : Nat) : ∀ l, (Str.join ⟨#[c]⟩ ((splitL c l).map ofL)).cps.toList = l
  | [] => by
    show (Str.join ⟨#[c]⟩ [ofL []]).cps.toList = []
    rw [join_one, ofL_cps]
  | x :: r => by
    have ih := splitL_join c r
    unfold splitL
    split
    · rename_i e
      rw [List.map_cons, join_cons c _ _ (by simp [splitL_ne]), ofL_cps, ih, e]
      rfl
    · split
      · rename_i e
        exact absurd e (splitL_ne c r)
      · rename_i q ps e
        rw [e] at ih
        cases ps with
        | nil =>
          rw [List.map_cons, List.map_nil, join_one, ofL_cps] at ih ⊢
          rw [ih]
        | cons p2 ps =>
          rw [List.map_cons, List.map_cons, join_two, ofL_cps] at ih ⊢
          rw [List.cons_append, ih]
theorem split_is (c : Nat) (s : Str) : Txt.split s ⟨#[c]⟩ = (splitL c s.cps.toList).map ofL := by
  have e : s = Str.join ⟨#[c]⟩ ((splitL c s.cps.toList).map ofL) := str_toList (splitL_join c _).symm
  conv => lhs; rw [e]
  refine split_join (by simp [splitL_ne]) fun p hp => ?_
  obtain ⟨q, hq, rfl⟩ := List.mem_map.mp hp
  rw [ofL_cps]
  exact splitL_free c _ q hq
def dig (c : Nat) : Bool := decide (48 ≤ c) && decide (c ≤ 57)
def numL : List Nat → Option Nat
  | [c] => if dig c then some (c - 48) else none
  | [c, d] => if dig c && dig d && !decide (c = 48) then some ((c - 48) * 10 + (d - 48)) else none
  | _ => none
theorem num_1 : ∀ c, c < 10 → PySem.intText? (ofL [c + 48]) = some (c : Int) := by decide +kernel
theorem num_2 : ∀ c, c < 10 → ∀ d, d < 10 → PySem.intText? (ofL [c + 48, d + 48]) = some ((c * 10 + d : Nat) : Int) := by decide +kernel
def numsL : List (List Nat) → Option (List Nat)
  | [] => some []
  | w :: ws => match numL w, numsL ws with
    | some n, some ns => some (n :: ns)
    | _, _ => none
def spanL (w : List Nat) : List Nat := match numsL (splitL 45 w) with
  | some [a] => (List.range (a + 1 - a)).map (a + ·)
  | some [a, b] => (List.range (b + 1 - a)).map (a + ·)
  | _ => []
def leftL : List Nat := (Str.ofString "left").cps.toList
def rightL : List Nat := (Str.ofString "right").cps.toList
def pointL : List Nat := (Str.ofString "point").cps.toList
def frameL : List Nat := (Str.ofString "frame").cps.toList
def rowsL : List (List Nat) → Option (List Nat)
  | w :: v :: ws => if w = leftL ∨ w = rightL then (if ((v :: ws).map spanL).any (·.isEmpty) then none else some ((v :: ws).flatMap spanL)) else none
  | _ => none
def isPt : List (List Nat) → Bool
  | [p, _, x, y] => decide (p = pointL) && (numsL [x, y]).isSome
  | [p, _, x, y, _] => decide (p = pointL) && (numsL [x, y]).isSome
  | [p, _, x, y, _, lo, hi] => decide (p = pointL) && (numsL [x, y, lo, hi]).isSome
  | _ => false
def wordsL (s : List Nat) : List (List Nat) := if (splitL 32 s).any (·.isEmpty) then [] else splitL 32 s
def badL (s : List Nat) : Bool := (rowsL (wordsL s)).isNone && !isPt (wordsL s)
def frmL : List (List Nat) → Option (List Nat)
  | [f, w, h] => if f = frameL then numsL [w, h] else none
  | _ => none
end L2
set_option maxRecDepth 100000
set_option maxHeartbeats 1000000
namespace L2
open PySem PySem.Spec PyProof.Rows XL PySem.W PySem.Builtin PySem.Builtin.Str
def rInsN : V → List V → Hp → VK → Prop := fun x vs H Q => ∃ (l : Addr) (xs : List V) (k : Nat) (y : V), x = .ref l ∧ vs = [.int (k : Int), y] ∧ H l = some (.lst xs) ∧ k ≤ xs.length ∧ xs.length ≤ 1000 ∧ Q .non (upd H l (.lst (xs.take k ++ y :: xs.drop k)))
theorem vals_ins {y : V} {u : Value} (ru : RelV y u) : ∀ {xs : List V} {its : List Value} (k : Nat), Vals xs its → Vals (xs.take k ++ y :: xs.drop k) (its.take k ++ u :: its.drop k)
  | _, _, 0, h => .cons ru h
  | _, _, _ + 1, .nil => .cons ru .nil
  | _, _, k + 1, .cons a h => .cons a (vals_ins ru k h)
theorem ins_arr (its : List Value) (u : Value) {k : Nat} (hk : k ≤ its.length) : (let n := if (k : Int) < 0 then ((k : Int) + ↑its.toArray.size).toNat else min (k : Int).toNat its.toArray.size; (its.toArray.extract 0 n).push u ++ its.toArray.extract n) = (its.take k ++ u :: its.drop k).toArray := by
  have e : (if (k : Int) < 0 then ((k : Int) + ↑its.toArray.size).toNat else min (k : Int).toNat its.toArray.size) = k := by
    rw [if_neg (by omega), List.size_toArray, Int.toNat_natCast]
    omega
  rw [e]
  apply Array.ext'
  simp
  exact List.take_of_length_le (by simp)
theorem mt_insertN {X : Cx} : MtM X "list.insert" rInsN := by
  intro pins s σ H x vs v us Q I rx rv h
  obtain ⟨l, xs, k, y, rfl, rfl, hH, hk, hz, q⟩ := h
  cases rx
  obtain ⟨u0, u, rfl, r0, ru⟩ := vals2 rv
  obtain ⟨t, rfl⟩ := r0
  obtain ⟨z, its, n, r, hl, e⟩ := I.lstM hH
  have fit : ¬ (!PySem.Builtin.List.listFitsIndex (k : Int)) = true := by
    have : PySem.Builtin.List.listFitsIndex (k : Int) = true := by
      unfold PySem.Builtin.List.listFitsIndex
      rw [decide_eq_true (Int.le_trans (by decide : (-2 ^ 63 : Int) ≤ 0) (Int.natCast_nonneg k)), decide_eq_true (Int.lt_of_le_of_lt (show (k : Int) ≤ 1000 by omega) (by decide))]
      rfl
    rw [this]
    decide
  have ia := ins_arr its u (k := k) (by omega)
  revert ia fit
  generalize (k : Int) = kk
  intro fit ia
  refine call_meets F.slot_list_insert ⟨_, e, rfl⟩ F.entry_list_insert (F.args_list_insert_3 _ _ _) (PySem.AutoListH.list_insert_list_int_val_1 l its.toArray n kk t u fit (by rw [List.size_toArray, ← hl]; exact z)) ⟨e, ?_⟩
  refine ⟨.non, _, I.lset (its' := its.take k ++ u :: its.drop k) hH e ia (vals_ins ru k r) ?_, rfl, q⟩
  rw [List.length_append, List.length_cons, List.length_take, List.length_drop]
  exact Nat.le_trans (by omega : _ ≤ 1001) (by decide)
end L2
namespace Geo
def dn (y r : Int) : Int := if y < r then 1 else -1
def upN (y r : Int) : Nat := if y < r then (r - y).toNat else (y - r).toNat
def wayI (b : Bool) : Int := if b then -1 else 1
def lvN (w x : Int) (b : Bool) : Nat := if b then (x + 1).toNat else (w + 2 - x).toNat
def upL (x y r : Int) : List (Int × Int) := (List.range (upN y r)).map fun (i : Nat) => (x, y + (i : Int) * dn y r)
def lvL (w x : Int) (b : Bool) (r : Int) : List (Int × Int) := (List.range (lvN w x b)).map fun (i : Nat) => (x + (i : Int) * wayI b, r)
def cells (w x y : Int) (b : Bool) (r : Int) : List (Int × Int) := upL x y r ++ lvL w x b r
def btw (v a b : Int) : Prop := min a b ≤ v ∧ v ≤ max a b
instance (v a b : Int) : Decidable (btw v a b) := inferInstanceAs (Decidable (_ ∧ _))
end Geo
set_option maxRecDepth 100000
set_option maxHeartbeats 4000000
namespace S23
open PySem L2 XL
def top (i : Nat) : Stmt := PySem.Challenge.pw_rimnotes_k23_lines_refused.main.body.getD i (.Pass ⟨0, 0, 0, 0⟩)
abbrev s_NoSide_init : Stmt := inClass (top 13) 0
abbrev s_NoRow_init : Stmt := inClass (top 14) 0
abbrev s_OldSeat_init : Stmt := inClass (top 15) 0
abbrev s_BadLine_init : Stmt := inClass (top 16) 0
abbrev s_Side_init : Stmt := inClass (top 18) 0
abbrev s_side_of : Stmt := top 21
abbrev s_is_whole : Stmt := top 23
abbrev s_is_name : Stmt := top 24
abbrev s_Picture_init : Stmt := inClass (top 30) 0
abbrev s_Picture_put : Stmt := inClass (top 30) 1
abbrev s_Picture_open_seat : Stmt := inClass (top 30) 4
abbrev s_Picture_points : Stmt := inClass (top 30) 6
abbrev s_Picture_check_cell : Stmt := inClass (top 30) 16
abbrev s_Picture_check_lines : Stmt := inClass (top 30) 17
abbrev s_Picture_check_seat : Stmt := inClass (top 30) 18
abbrev s_picture_of : Stmt := top 32
abbrev s_do_line : Stmt := top 33
abbrev s_words_of : Stmt := top 34
abbrev s_frame_of : Stmt := top 35
abbrev s_rows_of : Stmt := top 36
abbrev s_span_of : Stmt := top 37
abbrev s_point_of : Stmt := top 38
abbrev s_numbers_of : Stmt := top 39
abbrev s_number_of : Stmt := top 40
abbrev s_law_cell : Stmt := top 42
abbrev s_law_mix : Stmt := top 43
abbrev s_law_digits : Stmt := top 44
abbrev s_law_whole : Stmt := top 45
abbrev s_law_bad_rims : Stmt := top 46
abbrev s_law_bad_dots : Stmt := top 47
abbrev s_law_bad : Stmt := top 48
abbrev s_law_bad_first : Stmt := top 49
abbrev s_law_thing : Stmt := top 50
abbrev s_law_no_list : Stmt := top 51
abbrev s_law_good : Stmt := top 52
abbrev s_law_read : Stmt := top 53
abbrev s_law_number : Stmt := top 54
abbrev s_law : Stmt := top 55
set_option genInjectivity false in
set_option genSizeOf false in
structure Adr where
  f_NoSide_init : Addr
  d_NoSide_init : FuncData
  f_NoRow_init : Addr
  d_NoRow_init : FuncData
  f_OldSeat_init : Addr
  d_OldSeat_init : FuncData
  f_BadLine_init : Addr
  d_BadLine_init : FuncData
  f_Side_init : Addr
  d_Side_init : FuncData
  f_side_of : Addr
  d_side_of : FuncData
  f_is_whole : Addr
  d_is_whole : FuncData
  f_is_name : Addr
  d_is_name : FuncData
  f_Picture_init : Addr
  d_Picture_init : FuncData
  f_Picture_put : Addr
  d_Picture_put : FuncData
  T_Picture_put : Addr
  f_Picture_open_seat : Addr
  d_Picture_open_seat : FuncData
  f_Picture_points : Addr
  d_Picture_points : FuncData
  f_Picture_check_cell : Addr
  d_Picture_check_cell : FuncData
  f_Picture_check_lines : Addr
  d_Picture_check_lines : FuncData
  f_Picture_check_seat : Addr
  d_Picture_check_seat : FuncData
  f_picture_of : Addr
  d_picture_of : FuncData
  f_do_line : Addr
  d_do_line : FuncData
  f_words_of : Addr
  d_words_of : FuncData
  f_frame_of : Addr
  d_frame_of : FuncData
  f_rows_of : Addr
  d_rows_of : FuncData
  f_span_of : Addr
  d_span_of : FuncData
  f_point_of : Addr
  d_point_of : FuncData
  f_numbers_of : Addr
  d_numbers_of : FuncData
  f_number_of : Addr
  d_number_of : FuncData
  f_law_cell : Addr
  d_law_cell : FuncData
  f_law_mix : Addr
  d_law_mix : FuncData
  f_law_digits : Addr
  d_law_digits : FuncData
  f_law_whole : Addr
  d_law_whole : FuncData
  f_law_bad_rims : Addr
  d_law_bad_rims : FuncData
  f_law_bad_dots : Addr
  d_law_bad_dots : FuncData
  f_law_bad : Addr
  d_law_bad : FuncData
  f_law_bad_first : Addr
  d_law_bad_first : FuncData
  f_law_thing : Addr
  d_law_thing : FuncData
  f_law_no_list : Addr
  d_law_no_list : FuncData
  f_law_good : Addr
  d_law_good : FuncData
  f_law_read : Addr
  d_law_read : FuncData
  f_law_number : Addr
  d_law_number : FuncData
  f_law : Addr
  d_law : FuncData
  C_RimError : Addr
  C_NoSide : Addr
  C_NoRow : Addr
  C_OldSeat : Addr
  C_BadLine : Addr
  C_Side : Addr
  C_LeftSide : Addr
  C_RightSide : Addr
  C_Picture : Addr
  D_MIRRORED_SIDES : Addr
structure Txt (w : World) (K : PySem.W.Frag) (mg : Str → Option Value) (t : Adr) : Prop where
  g_RimError : mg "RimError" = some (.ref t.C_RimError)
  g_NoSide : mg "NoSide" = some (.ref t.C_NoSide)
  g_NoRow : mg "NoRow" = some (.ref t.C_NoRow)
  g_OldSeat : mg "OldSeat" = some (.ref t.C_OldSeat)
  g_BadLine : mg "BadLine" = some (.ref t.C_BadLine)
  g_Side : mg "Side" = some (.ref t.C_Side)
  g_LeftSide : mg "LeftSide" = some (.ref t.C_LeftSide)
  g_RightSide : mg "RightSide" = some (.ref t.C_RightSide)
  g_Picture : mg "Picture" = some (.ref t.C_Picture)
  F_NoSide_init : Fun K "__init__" "NoSide.__init__" s_NoSide_init t.f_NoSide_init t.d_NoSide_init
  b_NoSide_init : Binds K t.d_NoSide_init ["self", "side"] []
  F_NoRow_init : Fun K "__init__" "NoRow.__init__" s_NoRow_init t.f_NoRow_init t.d_NoRow_init
  b_NoRow_init : Binds K t.d_NoRow_init ["self", "row"] []
  F_OldSeat_init : Fun K "__init__" "OldSeat.__init__" s_OldSeat_init t.f_OldSeat_init t.d_OldSeat_init
  b_OldSeat_init : Binds K t.d_OldSeat_init ["self", "side", "row"] []
  F_BadLine_init : Fun K "__init__" "BadLine.__init__" s_BadLine_init t.f_BadLine_init t.d_BadLine_init
  b_BadLine_init : Binds K t.d_BadLine_init ["self", "line"] []
  F_Side_init : Fun K "__init__" "Side.__init__" s_Side_init t.f_Side_init t.d_Side_init
  b_Side_init : Binds K t.d_Side_init ["self", "width"] []
  g_side_of : mg "side_of" = some (.ref t.f_side_of)
  F_side_of : Fun K "side_of" "side_of" s_side_of t.f_side_of t.d_side_of
  b_side_of : Binds K t.d_side_of ["word", "width"] []
  g_is_whole : mg "is_whole" = some (.ref t.f_is_whole)
  F_is_whole : Fun K "is_whole" "is_whole" s_is_whole t.f_is_whole t.d_is_whole
  b_is_whole : Binds K t.d_is_whole ["thing", "low", "high"] []
  g_is_name : mg "is_name" = some (.ref t.f_is_name)
  F_is_name : Fun K "is_name" "is_name" s_is_name t.f_is_name t.d_is_name
  b_is_name : Binds K t.d_is_name ["thing"] []
  F_Picture_init : Fun K "__init__" "Picture.__init__" s_Picture_init t.f_Picture_init t.d_Picture_init
  b_Picture_init : Binds K t.d_Picture_init ["self", "width", "height"] []
  F_Picture_put : FunD K "put" "Picture.put" s_Picture_put t.T_Picture_put t.f_Picture_put t.d_Picture_put
  b_Picture_put : Binds K t.d_Picture_put ["self", "name", "x", "y", "sides", "low", "high"] []
  F_Picture_open_seat : Fun K "open_seat" "Picture.open_seat" s_Picture_open_seat t.f_Picture_open_seat t.d_Picture_open_seat
  b_Picture_open_seat : Binds K t.d_Picture_open_seat ["self", "side", "row"] []
  F_Picture_points : Fun K "points" "Picture.points" s_Picture_points t.f_Picture_points t.d_Picture_points
  b_Picture_points : Binds K t.d_Picture_points ["self"] []
  F_Picture_check_cell : Fun K "check_cell" "Picture.check_cell" s_Picture_check_cell t.f_Picture_check_cell t.d_Picture_check_cell
  b_Picture_check_cell : Binds K t.d_Picture_check_cell ["self", "x", "y"] []
  F_Picture_check_lines : Fun K "check_lines" "Picture.check_lines" s_Picture_check_lines t.f_Picture_check_lines t.d_Picture_check_lines
  b_Picture_check_lines : Binds K t.d_Picture_check_lines ["self", "name", "x", "y"] []
  F_Picture_check_seat : Fun K "check_seat" "Picture.check_seat" s_Picture_check_seat t.f_Picture_check_seat t.d_Picture_check_seat
  b_Picture_check_seat : Binds K t.d_Picture_check_seat ["self", "side", "row"] []
  g_picture_of : mg "picture_of" = some (.ref t.f_picture_of)
  F_picture_of : Fun K "picture_of" "picture_of" s_picture_of t.f_picture_of t.d_picture_of
  b_picture_of : Binds K t.d_picture_of ["lines"] []
  g_do_line : mg "do_line" = some (.ref t.f_do_line)
  F_do_line : Fun K "do_line" "do_line" s_do_line t.f_do_line t.d_do_line
  b_do_line : Binds K t.d_do_line ["picture", "number", "words"] []
  g_words_of : mg "words_of" = some (.ref t.f_words_of)
  F_words_of : Fun K "words_of" "words_of" s_words_of t.f_words_of t.d_words_of
  b_words_of : Binds K t.d_words_of ["line"] []
  g_frame_of : mg "frame_of" = some (.ref t.f_frame_of)
  F_frame_of : Fun K "frame_of" "frame_of" s_frame_of t.f_frame_of t.d_frame_of
  b_frame_of : Binds K t.d_frame_of ["words"] []
  g_rows_of : mg "rows_of" = some (.ref t.f_rows_of)
  F_rows_of : Fun K "rows_of" "rows_of" s_rows_of t.f_rows_of t.d_rows_of
  b_rows_of : Binds K t.d_rows_of ["words"] []
  g_span_of : mg "span_of" = some (.ref t.f_span_of)
  F_span_of : Fun K "span_of" "span_of" s_span_of t.f_span_of t.d_span_of
  b_span_of : Binds K t.d_span_of ["word"] []
  g_point_of : mg "point_of" = some (.ref t.f_point_of)
  F_point_of : Fun K "point_of" "point_of" s_point_of t.f_point_of t.d_point_of
  b_point_of : Binds K t.d_point_of ["words"] []
  g_numbers_of : mg "numbers_of" = some (.ref t.f_numbers_of)
  F_numbers_of : Fun K "numbers_of" "numbers_of" s_numbers_of t.f_numbers_of t.d_numbers_of
  b_numbers_of : Binds K t.d_numbers_of ["words"] []
  g_number_of : mg "number_of" = some (.ref t.f_number_of)
  F_number_of : Fun K "number_of" "number_of" s_number_of t.f_number_of t.d_number_of
  b_number_of : Binds K t.d_number_of ["word"] []
  g_law_cell : mg "_law_cell" = some (.ref t.f_law_cell)
  F_law_cell : Fun K "_law_cell" "_law_cell" s_law_cell t.f_law_cell t.d_law_cell
  b_law_cell : Binds K t.d_law_cell ["_law_script", "_law_k"] []
  g_law_mix : mg "_law_mix" = some (.ref t.f_law_mix)
  F_law_mix : Fun K "_law_mix" "_law_mix" s_law_mix t.f_law_mix t.d_law_mix
  b_law_mix : Binds K t.d_law_mix ["_law_cell_here", "_law_k"] []
  g_law_digits : mg "_law_digits" = some (.ref t.f_law_digits)
  F_law_digits : Fun K "_law_digits" "_law_digits" s_law_digits t.f_law_digits t.d_law_digits
  b_law_digits : Binds K t.d_law_digits ["_law_cell_here", "_law_k"] []
  g_law_whole : mg "_law_whole" = some (.ref t.f_law_whole)
  F_law_whole : Fun K "_law_whole" "_law_whole" s_law_whole t.f_law_whole t.d_law_whole
  b_law_whole : Binds K t.d_law_whole ["_law_found"] []
  g_law_bad_rims : mg "_law_bad_rims" = some (.ref t.f_law_bad_rims)
  F_law_bad_rims : Fun K "_law_bad_rims" "_law_bad_rims" s_law_bad_rims t.f_law_bad_rims t.d_law_bad_rims
  b_law_bad_rims : Binds K t.d_law_bad_rims ["_law_a", "_law_b"] []
  g_law_bad_dots : mg "_law_bad_dots" = some (.ref t.f_law_bad_dots)
  F_law_bad_dots : Fun K "_law_bad_dots" "_law_bad_dots" s_law_bad_dots t.f_law_bad_dots t.d_law_bad_dots
  b_law_bad_dots : Binds K t.d_law_bad_dots ["_law_a", "_law_b"] []
  g_law_bad : mg "_law_bad" = some (.ref t.f_law_bad)
  F_law_bad : Fun K "_law_bad" "_law_bad" s_law_bad t.f_law_bad t.d_law_bad
  b_law_bad : Binds K t.d_law_bad ["_law_cell_here"] []
  g_law_bad_first : mg "_law_bad_first" = some (.ref t.f_law_bad_first)
  F_law_bad_first : Fun K "_law_bad_first" "_law_bad_first" s_law_bad_first t.f_law_bad_first t.d_law_bad_first
  b_law_bad_first : Binds K t.d_law_bad_first ["_law_cell_here"] []
  g_law_thing : mg "_law_thing" = some (.ref t.f_law_thing)
  F_law_thing : Fun K "_law_thing" "_law_thing" s_law_thing t.f_law_thing t.d_law_thing
  b_law_thing : Binds K t.d_law_thing ["_law_cell_here"] []
  g_law_no_list : mg "_law_no_list" = some (.ref t.f_law_no_list)
  F_law_no_list : Fun K "_law_no_list" "_law_no_list" s_law_no_list t.f_law_no_list t.d_law_no_list
  b_law_no_list : Binds K t.d_law_no_list ["_law_cell_here"] []
  g_law_good : mg "_law_good" = some (.ref t.f_law_good)
  F_law_good : Fun K "_law_good" "_law_good" s_law_good t.f_law_good t.d_law_good
  b_law_good : Binds K t.d_law_good ["_law_script", "_law_height"] []
  g_law_read : mg "_law_read" = some (.ref t.f_law_read)
  F_law_read : Fun K "_law_read" "_law_read" s_law_read t.f_law_read t.d_law_read
  b_law_read : Binds K t.d_law_read ["_law_lines"] []
  g_law_number : mg "_law_number" = some (.ref t.f_law_number)
  F_law_number : Fun K "_law_number" "_law_number" s_law_number t.f_law_number t.d_law_number
  b_law_number : Binds K t.d_law_number ["_law_told", "_law_due"] []
  g_law : mg "law" = some (.ref t.f_law)
  F_law : Fun K "law" "law" s_law t.f_law t.d_law
  b_law : Binds K t.d_law ["_law_script"] []
  x_RimError : XC K t.C_RimError
  mk_RimError : xmkIn K t.C_RimError = true
  x_NoSide : XC K t.C_NoSide
  mk_NoSide : xmkIn K t.C_NoSide = true
  k_NoSide : XMk K t.C_NoSide t.f_NoSide_init
  x_NoRow : XC K t.C_NoRow
  mk_NoRow : xmkIn K t.C_NoRow = true
  k_NoRow : XMk K t.C_NoRow t.f_NoRow_init
  x_OldSeat : XC K t.C_OldSeat
  mk_OldSeat : xmkIn K t.C_OldSeat = true
  k_OldSeat : XMk K t.C_OldSeat t.f_OldSeat_init
  x_BadLine : XC K t.C_BadLine
  mk_BadLine : xmkIn K t.C_BadLine = true
  k_BadLine : XMk K t.C_BadLine t.f_BadLine_init
  c_Side : Cls K t.C_Side
  ca_Side : PySem.W.findIn K (.ref t.C_Side) "__class__" = some (some (.builtin "object.__class__"))
  mo_Side : PySem.W.mroIn K t.C_Side (.type "object") = some true
  k_Side : Mk K t.C_Side t.f_Side_init
  c_LeftSide : Cls K t.C_LeftSide
  ca_LeftSide : PySem.W.findIn K (.ref t.C_LeftSide) "__class__" = some (some (.builtin "object.__class__"))
  mo_LeftSide : PySem.W.mroIn K t.C_LeftSide (.type "object") = some true
  k_LeftSide : Mk K t.C_LeftSide t.f_Side_init
  c_RightSide : Cls K t.C_RightSide
  ca_RightSide : PySem.W.findIn K (.ref t.C_RightSide) "__class__" = some (some (.builtin "object.__class__"))
  mo_RightSide : PySem.W.mroIn K t.C_RightSide (.type "object") = some true
  k_RightSide : Mk K t.C_RightSide t.f_Side_init
  c_Picture : Cls K t.C_Picture
  ca_Picture : PySem.W.findIn K (.ref t.C_Picture) "__class__" = some (some (.builtin "object.__class__"))
  mo_Picture : PySem.W.mroIn K t.C_Picture (.type "object") = some true
  k_Picture : Mk K t.C_Picture t.f_Picture_init
  m_Picture_put : Meth K t.C_Picture "put" t.f_Picture_put
  m_Picture_open_seat : Meth K t.C_Picture "open_seat" t.f_Picture_open_seat
  m_Picture_points : Meth K t.C_Picture "points" t.f_Picture_points
  m_Picture_check_cell : Meth K t.C_Picture "check_cell" t.f_Picture_check_cell
  m_Picture_check_lines : Meth K t.C_Picture "check_lines" t.f_Picture_check_lines
  m_Picture_check_seat : Meth K t.C_Picture "check_seat" t.f_Picture_check_seat
  cg : PySem.W.specialIn K (.builtin "object.__class__") "__get__" = some (some (.builtin "getset_descriptor.__get__"))
  ct : PySem.W.takesIn K (.builtin "object.__class__") = some true
  n_Picture_height : PySem.W.findIn K (.ref t.C_Picture) "height" = some none
  n_Picture_width : PySem.W.findIn K (.ref t.C_Picture) "width" = some none
  n_Picture_placed : PySem.W.findIn K (.ref t.C_Picture) "placed" = some none
  n_Picture_opened : PySem.W.findIn K (.ref t.C_Picture) "opened" = some none
  n_BadLine_line : PySem.W.findIn K (.ref t.C_BadLine) "line" = some none
  n_BadLine_row : PySem.W.findIn K (.ref t.C_BadLine) "row" = some none
  n_NoRow_line : PySem.W.findIn K (.ref t.C_NoRow) "line" = some none
  n_NoRow_row : PySem.W.findIn K (.ref t.C_NoRow) "row" = some none
  n_NoSide_side : PySem.W.findIn K (.ref t.C_NoSide) "side" = some none
  n_OldSeat_side : PySem.W.findIn K (.ref t.C_OldSeat) "side" = some none
  n_OldSeat_row : PySem.W.findIn K (.ref t.C_OldSeat) "row" = some none
  n_Side_width : PySem.W.findIn K (.ref t.C_Side) "width" = some none
  n_LeftSide_width : PySem.W.findIn K (.ref t.C_LeftSide) "width" = some none
  n_RightSide_width : PySem.W.findIn K (.ref t.C_RightSide) "width" = some none
  n_ValueError : mg "ValueError" = none
  n_bool : mg "bool" = none
  n_enumerate : mg "enumerate" = none
  n_int : mg "int" = none
  n_isinstance : mg "isinstance" = none
  n_len : mg "len" = none
  n_list : mg "list" = none
  n_max : mg "max" = none
  n_min : mg "min" = none
  n_range : mg "range" = none
  n_str : mg "str" = none
  mro_BadLine_BadLine : PySem.W.mroIn K t.C_BadLine (.ref t.C_BadLine) = some true
  mro_NoRow_BadLine : PySem.W.mroIn K t.C_NoRow (.ref t.C_BadLine) = some false
  mro_NoRow_NoRow : PySem.W.mroIn K t.C_NoRow (.ref t.C_NoRow) = some true
  kit_BadLine_RimError : PySem.W.kitOne K (.ref t.C_BadLine) (.ref t.C_RimError) = some true
  kitv_BadLine : PySem.W.kitOne K (.ref t.C_BadLine) (.type "ValueError") = some true
  v_MOST_ROWS : ∃ tk, mg "MOST_ROWS" = some (.int 16 tk)
  v_MOST_COLUMNS : ∃ tk, mg "MOST_COLUMNS" = some (.int 30 tk)
  v_MOST_POINTS : ∃ tk, mg "MOST_POINTS" = some (.int 12 tk)
  g_MIRRORED_SIDES : mg "MIRRORED_SIDES" = some (.ref t.D_MIRRORED_SIDES)
  D_MIRRORED_SIDES : GDict w K t.D_MIRRORED_SIDES [(.inr "left", .str "right"), (.inr "right", .str "left"), (.inr "both", .str "both")]
theorem txt_mk {w : World} {K : PySem.W.Frag} {h : Heap} {mg : Str → Option Value} (X : K.In h) (G : h.Ns mainGlobals mg) {C_RimError C_NoSide C_NoRow C_OldSeat C_BadLine C_Side C_LeftSide C_RightSide C_Picture f_NoSide_init f_NoRow_init f_OldSeat_init f_BadLine_init f_Side_init f_side_of f_is_whole f_is_name f_Picture_init f_Picture_put T_Picture_put f_Picture_open_seat f_Picture_points f_Picture_check_cell f_Picture_check_lines f_Picture_check_seat f_picture_of f_do_line f_words_of f_frame_of f_rows_of f_span_of f_point_of f_numbers_of f_number_of f_law_cell f_law_mix f_law_digits f_law_whole f_law_bad_rims f_law_bad_dots f_law_bad f_law_bad_first f_law_thing f_law_no_list f_law_good f_law_read f_law_number f_law : Addr} {oc_NoSide_init kv_NoSide_init dc_NoSide_init pm_NoSide_init cd_NoSide_init ct_NoSide_init : Value} {od_NoSide_init an_NoSide_init : Option Addr} {sl_NoSide_init : Array (Option Value)} {oc_NoRow_init kv_NoRow_init dc_NoRow_init pm_NoRow_init cd_NoRow_init ct_NoRow_init : Value} {od_NoRow_init an_NoRow_init : Option Addr} {sl_NoRow_init : Array (Option Value)} {oc_OldSeat_init kv_OldSeat_init dc_OldSeat_init pm_OldSeat_init cd_OldSeat_init ct_OldSeat_init : Value} {od_OldSeat_init an_OldSeat_init : Option Addr} {sl_OldSeat_init : Array (Option Value)} {oc_BadLine_init kv_BadLine_init dc_BadLine_init pm_BadLine_init cd_BadLine_init ct_BadLine_init : Value} {od_BadLine_init an_BadLine_init : Option Addr} {sl_BadLine_init : Array (Option Value)} {oc_Side_init kv_Side_init dc_Side_init pm_Side_init cd_Side_init ct_Side_init : Value} {od_Side_init an_Side_init : Option Addr} {sl_Side_init : Array (Option Value)} {oc_side_of kv_side_of dc_side_of pm_side_of cd_side_of ct_side_of : Value} {od_side_of an_side_of : Option Addr} {sl_side_of : Array (Option Value)} {oc_is_whole kv_is_whole dc_is_whole pm_is_whole cd_is_whole ct_is_whole : Value} {od_is_whole an_is_whole : Option Addr} {sl_is_whole : Array (Option Value)} {oc_is_name kv_is_name dc_is_name pm_is_name cd_is_name ct_is_name : Value} {od_is_name an_is_name : Option Addr} {sl_is_name : Array (Option Value)} {oc_Picture_init kv_Picture_init dc_Picture_init pm_Picture_init cd_Picture_init ct_Picture_init : Value} {od_Picture_init an_Picture_init : Option Addr} {sl_Picture_init : Array (Option Value)} {oc_Picture_put kv_Picture_put dc_Picture_put pm_Picture_put cd_Picture_put ct_Picture_put : Value} {od_Picture_put an_Picture_put : Option Addr} {sl_Picture_put : Array (Option Value)} {oc_Picture_open_seat kv_Picture_open_seat dc_Picture_open_seat pm_Picture_open_seat cd_Picture_open_seat ct_Picture_open_seat : Value} {od_Picture_open_seat an_Picture_open_seat : Option Addr} {sl_Picture_open_seat : Array (Option Value)} {oc_Picture_points kv_Picture_points dc_Picture_points pm_Picture_points cd_Picture_points ct_Picture_points : Value} {od_Picture_points an_Picture_points : Option Addr} {sl_Picture_points : Array (Option Value)} {oc_Picture_check_cell kv_Picture_check_cell dc_Picture_check_cell pm_Picture_check_cell cd_Picture_check_cell ct_Picture_check_cell : Value} {od_Picture_check_cell an_Picture_check_cell : Option Addr} {sl_Picture_check_cell : Array (Option Value)} {oc_Picture_check_lines kv_Picture_check_lines dc_Picture_check_lines pm_Picture_check_lines cd_Picture_check_lines ct_Picture_check_lines : Value} {od_Picture_check_lines an_Picture_check_lines : Option Addr} {sl_Picture_check_lines : Array (Option Value)} {oc_Picture_check_seat kv_Picture_check_seat dc_Picture_check_seat pm_Picture_check_seat cd_Picture_check_seat ct_Picture_check_seat : Value} {od_Picture_check_seat an_Picture_check_seat : Option Addr} {sl_Picture_check_seat : Array (Option Value)} {oc_picture_of kv_picture_of dc_picture_of pm_picture_of cd_picture_of ct_picture_of : Value} {od_picture_of an_picture_of : Option Addr} {sl_picture_of : Array (Option Value)} {oc_do_line kv_do_line dc_do_line pm_do_line cd_do_line ct_do_line : Value} {od_do_line an_do_line : Option Addr} {sl_do_line : Array (Option Value)} {oc_words_of kv_words_of dc_words_of pm_words_of cd_words_of ct_words_of : Value} {od_words_of an_words_of : Option Addr} {sl_words_of : Array (Option Value)} {oc_frame_of kv_frame_of dc_frame_of pm_frame_of cd_frame_of ct_frame_of : Value} {od_frame_of an_frame_of : Option Addr} {sl_frame_of : Array (Option Value)} {oc_rows_of kv_rows_of dc_rows_of pm_rows_of cd_rows_of ct_rows_of : Value} {od_rows_of an_rows_of : Option Addr} {sl_rows_of : Array (Option Value)} {oc_span_of kv_span_of dc_span_of pm_span_of cd_span_of ct_span_of : Value} {od_span_of an_span_of : Option Addr} {sl_span_of : Array (Option Value)} {oc_point_of kv_point_of dc_point_of pm_point_of cd_point_of ct_point_of : Value} {od_point_of an_point_of : Option Addr} {sl_point_of : Array (Option Value)} {oc_numbers_of kv_numbers_of dc_numbers_of pm_numbers_of cd_numbers_of ct_numbers_of : Value} {od_numbers_of an_numbers_of : Option Addr} {sl_numbers_of : Array (Option Value)} {oc_number_of kv_number_of dc_number_of pm_number_of cd_number_of ct_number_of : Value} {od_number_of an_number_of : Option Addr} {sl_number_of : Array (Option Value)} {oc_law_cell kv_law_cell dc_law_cell pm_law_cell cd_law_cell ct_law_cell : Value} {od_law_cell an_law_cell : Option Addr} {sl_law_cell : Array (Option Value)} {oc_law_mix kv_law_mix dc_law_mix pm_law_mix cd_law_mix ct_law_mix : Value} {od_law_mix an_law_mix : Option Addr} {sl_law_mix : Array (Option Value)} {oc_law_digits kv_law_digits dc_law_digits pm_law_digits cd_law_digits ct_law_digits : Value} {od_law_digits an_law_digits : Option Addr} {sl_law_digits : Array (Option Value)} {oc_law_whole kv_law_whole dc_law_whole pm_law_whole cd_law_whole ct_law_whole : Value} {od_law_whole an_law_whole : Option Addr} {sl_law_whole : Array (Option Value)} {oc_law_bad_rims kv_law_bad_rims dc_law_bad_rims pm_law_bad_rims cd_law_bad_rims ct_law_bad_rims : Value} {od_law_bad_rims an_law_bad_rims : Option Addr} {sl_law_bad_rims : Array (Option Value)} {oc_law_bad_dots kv_law_bad_dots dc_law_bad_dots pm_law_bad_dots cd_law_bad_dots ct_law_bad_dots : Value} {od_law_bad_dots an_law_bad_dots : Option Addr} {sl_law_bad_dots : Array (Option Value)} {oc_law_bad kv_law_bad dc_law_bad pm_law_bad cd_law_bad ct_law_bad : Value} {od_law_bad an_law_bad : Option Addr} {sl_law_bad : Array (Option Value)} {oc_law_bad_first kv_law_bad_first dc_law_bad_first pm_law_bad_first cd_law_bad_first ct_law_bad_first : Value} {od_law_bad_first an_law_bad_first : Option Addr} {sl_law_bad_first : Array (Option Value)} {oc_law_thing kv_law_thing dc_law_thing pm_law_thing cd_law_thing ct_law_thing : Value} {od_law_thing an_law_thing : Option Addr} {sl_law_thing : Array (Option Value)} {oc_law_no_list kv_law_no_list dc_law_no_list pm_law_no_list cd_law_no_list ct_law_no_list : Value} {od_law_no_list an_law_no_list : Option Addr} {sl_law_no_list : Array (Option Value)} {oc_law_good kv_law_good dc_law_good pm_law_good cd_law_good ct_law_good : Value} {od_law_good an_law_good : Option Addr} {sl_law_good : Array (Option Value)} {oc_law_read kv_law_read dc_law_read pm_law_read cd_law_read ct_law_read : Value} {od_law_read an_law_read : Option Addr} {sl_law_read : Array (Option Value)} {oc_law_number kv_law_number dc_law_number pm_law_number cd_law_number ct_law_number : Value} {od_law_number an_law_number : Option Addr} {sl_law_number : Array (Option Value)} {oc_law kv_law dc_law pm_law cd_law ct_law : Value} {od_law an_law : Option Addr} {sl_law : Array (Option Value)} {tk0_Picture_put : Tok} {tk1_Picture_put : Tok} {toc_Picture_put : Value} {tod_Picture_put : Option Addr} {tn_Picture_put : Nat} {tsl_Picture_put : Array (Option Value)} {tkc_MOST_ROWS : Tok} {tkc_MOST_COLUMNS : Tok} {tkc_MOST_POINTS : Tok} {D_MIRRORED_SIDES : Addr} {ta0_MIRRORED_SIDES tb0_MIRRORED_SIDES : Tok} {ta1_MIRRORED_SIDES tb1_MIRRORED_SIDES : Tok} {ta2_MIRRORED_SIDES tb2_MIRRORED_SIDES : Tok} {ep_MIRRORED_SIDES : Nat}
    (g_RimError : PySem.W.nsIn K mainGlobals "RimError" = some (some (.ref C_RimError)))
    (g_NoSide : PySem.W.nsIn K mainGlobals "NoSide" = some (some (.ref C_NoSide)))
    (g_NoRow : PySem.W.nsIn K mainGlobals "NoRow" = some (some (.ref C_NoRow)))
    (g_OldSeat : PySem.W.nsIn K mainGlobals "OldSeat" = some (some (.ref C_OldSeat)))
    (g_BadLine : PySem.W.nsIn K mainGlobals "BadLine" = some (some (.ref C_BadLine)))
    (g_Side : PySem.W.nsIn K mainGlobals "Side" = some (some (.ref C_Side)))
    (g_LeftSide : PySem.W.nsIn K mainGlobals "LeftSide" = some (some (.ref C_LeftSide)))
    (g_RightSide : PySem.W.nsIn K mainGlobals "RightSide" = some (some (.ref C_RightSide)))
    (g_Picture : PySem.W.nsIn K mainGlobals "Picture" = some (some (.ref C_Picture)))
    (a_NoSide_init : PySem.W.findIn K (.ref C_NoSide) "__init__" = some (some (.ref f_NoSide_init)))
    (l_NoSide_init : K.lookup f_NoSide_init = some ⟨oc_NoSide_init, od_NoSide_init, .func (PySem.W.fnOf "__init__" "NoSide.__init__" (defArgs s_NoSide_init) (defBody s_NoSide_init) (defScope s_NoSide_init) .none kv_NoSide_init dc_NoSide_init pm_NoSide_init an_NoSide_init cd_NoSide_init ct_NoSide_init), sl_NoSide_init⟩)
    (c_NoSide_init : PySem.W.codeIn K cd_NoSide_init "NoSide.__init__" = true)
    (k_NoSide_init : PySem.W.keepIn K (.ref f_NoSide_init) = true)
    (i_NoSide_init : PySem.W.isFn K (.ref f_NoSide_init) = true)
    (a_NoRow_init : PySem.W.findIn K (.ref C_NoRow) "__init__" = some (some (.ref f_NoRow_init)))
    (l_NoRow_init : K.lookup f_NoRow_init = some ⟨oc_NoRow_init, od_NoRow_init, .func (PySem.W.fnOf "__init__" "NoRow.__init__" (defArgs s_NoRow_init) (defBody s_NoRow_init) (defScope s_NoRow_init) .none kv_NoRow_init dc_NoRow_init pm_NoRow_init an_NoRow_init cd_NoRow_init ct_NoRow_init), sl_NoRow_init⟩)
    (c_NoRow_init : PySem.W.codeIn K cd_NoRow_init "NoRow.__init__" = true)
    (k_NoRow_init : PySem.W.keepIn K (.ref f_NoRow_init) = true)
    (i_NoRow_init : PySem.W.isFn K (.ref f_NoRow_init) = true)
    (a_OldSeat_init : PySem.W.findIn K (.ref C_OldSeat) "__init__" = some (some (.ref f_OldSeat_init)))
    (l_OldSeat_init : K.lookup f_OldSeat_init = some ⟨oc_OldSeat_init, od_OldSeat_init, .func (PySem.W.fnOf "__init__" "OldSeat.__init__" (defArgs s_OldSeat_init) (defBody s_OldSeat_init) (defScope s_OldSeat_init) .none kv_OldSeat_init dc_OldSeat_init pm_OldSeat_init an_OldSeat_init cd_OldSeat_init ct_OldSeat_init), sl_OldSeat_init⟩)
    (c_OldSeat_init : PySem.W.codeIn K cd_OldSeat_init "OldSeat.__init__" = true)
    (k_OldSeat_init : PySem.W.keepIn K (.ref f_OldSeat_init) = true)
    (i_OldSeat_init : PySem.W.isFn K (.ref f_OldSeat_init) = true)
    (a_BadLine_init : PySem.W.findIn K (.ref C_BadLine) "__init__" = some (some (.ref f_BadLine_init)))
    (l_BadLine_init : K.lookup f_BadLine_init = some ⟨oc_BadLine_init, od_BadLine_init, .func (PySem.W.fnOf "__init__" "BadLine.__init__" (defArgs s_BadLine_init) (defBody s_BadLine_init) (defScope s_BadLine_init) .none kv_BadLine_init dc_BadLine_init pm_BadLine_init an_BadLine_init cd_BadLine_init ct_BadLine_init), sl_BadLine_init⟩)
    (c_BadLine_init : PySem.W.codeIn K cd_BadLine_init "BadLine.__init__" = true)
    (k_BadLine_init : PySem.W.keepIn K (.ref f_BadLine_init) = true)
    (i_BadLine_init : PySem.W.isFn K (.ref f_BadLine_init) = true)
    (a_Side_init : PySem.W.findIn K (.ref C_Side) "__init__" = some (some (.ref f_Side_init)))
    (l_Side_init : K.lookup f_Side_init = some ⟨oc_Side_init, od_Side_init, .func (PySem.W.fnOf "__init__" "Side.__init__" (defArgs s_Side_init) (defBody s_Side_init) (defScope s_Side_init) .none kv_Side_init dc_Side_init pm_Side_init an_Side_init cd_Side_init ct_Side_init), sl_Side_init⟩)
    (c_Side_init : PySem.W.codeIn K cd_Side_init "Side.__init__" = true)
    (k_Side_init : PySem.W.keepIn K (.ref f_Side_init) = true)
    (i_Side_init : PySem.W.isFn K (.ref f_Side_init) = true)
    (a_side_of : PySem.W.nsIn K mainGlobals "side_of" = some (some (.ref f_side_of)))
    (l_side_of : K.lookup f_side_of = some ⟨oc_side_of, od_side_of, .func (PySem.W.fnOf "side_of" "side_of" (defArgs s_side_of) (defBody s_side_of) (defScope s_side_of) .none kv_side_of dc_side_of pm_side_of an_side_of cd_side_of ct_side_of), sl_side_of⟩)
    (c_side_of : PySem.W.codeIn K cd_side_of "side_of" = true)
    (k_side_of : PySem.W.keepIn K (.ref f_side_of) = true)
    (i_side_of : PySem.W.isFn K (.ref f_side_of) = true)
    (a_is_whole : PySem.W.nsIn K mainGlobals "is_whole" = some (some (.ref f_is_whole)))
    (l_is_whole : K.lookup f_is_whole = some ⟨oc_is_whole, od_is_whole, .func (PySem.W.fnOf "is_whole" "is_whole" (defArgs s_is_whole) (defBody s_is_whole) (defScope s_is_whole) .none kv_is_whole dc_is_whole pm_is_whole an_is_whole cd_is_whole ct_is_whole), sl_is_whole⟩)
    (c_is_whole : PySem.W.codeIn K cd_is_whole "is_whole" = true)
    (k_is_whole : PySem.W.keepIn K (.ref f_is_whole) = true)
    (i_is_whole : PySem.W.isFn K (.ref f_is_whole) = true)
    (a_is_name : PySem.W.nsIn K mainGlobals "is_name" = some (some (.ref f_is_name)))
    (l_is_name : K.lookup f_is_name = some ⟨oc_is_name, od_is_name, .func (PySem.W.fnOf "is_name" "is_name" (defArgs s_is_name) (defBody s_is_name) (defScope s_is_name) .none kv_is_name dc_is_name pm_is_name an_is_name cd_is_name ct_is_name), sl_is_name⟩)
    (c_is_name : PySem.W.codeIn K cd_is_name "is_name" = true)
    (k_is_name : PySem.W.keepIn K (.ref f_is_name) = true)
    (i_is_name : PySem.W.isFn K (.ref f_is_name) = true)
    (a_Picture_init : PySem.W.findIn K (.ref C_Picture) "__init__" = some (some (.ref f_Picture_init)))
    (l_Picture_init : K.lookup f_Picture_init = some ⟨oc_Picture_init, od_Picture_init, .func (PySem.W.fnOf "__init__" "Picture.__init__" (defArgs s_Picture_init) (defBody s_Picture_init) (defScope s_Picture_init) .none kv_Picture_init dc_Picture_init pm_Picture_init an_Picture_init cd_Picture_init ct_Picture_init), sl_Picture_init⟩)
    (c_Picture_init : PySem.W.codeIn K cd_Picture_init "Picture.__init__" = true)
    (k_Picture_init : PySem.W.keepIn K (.ref f_Picture_init) = true)
    (i_Picture_init : PySem.W.isFn K (.ref f_Picture_init) = true)
    (a_Picture_put : PySem.W.findIn K (.ref C_Picture) "put" = some (some (.ref f_Picture_put)))
    (l_Picture_put : K.lookup f_Picture_put = some ⟨oc_Picture_put, od_Picture_put, .func (PySem.W.fnOf "put" "Picture.put" (defArgs s_Picture_put) (defBody s_Picture_put) (defScope s_Picture_put) (.ref T_Picture_put) kv_Picture_put dc_Picture_put pm_Picture_put an_Picture_put cd_Picture_put ct_Picture_put), sl_Picture_put⟩)
    (c_Picture_put : PySem.W.codeIn K cd_Picture_put "Picture.put" = true)
    (k_Picture_put : PySem.W.keepIn K (.ref f_Picture_put) = true)
    (i_Picture_put : PySem.W.isFn K (.ref f_Picture_put) = true)
    (t_Picture_put : K.lookup T_Picture_put = some ⟨toc_Picture_put, tod_Picture_put, .seq #[.str "both" tk0_Picture_put, .int 1 tk1_Picture_put, .none] tn_Picture_put, tsl_Picture_put⟩)
    (a_Picture_open_seat : PySem.W.findIn K (.ref C_Picture) "open_seat" = some (some (.ref f_Picture_open_seat)))
    (l_Picture_open_seat : K.lookup f_Picture_open_seat = some ⟨oc_Picture_open_seat, od_Picture_open_seat, .func (PySem.W.fnOf "open_seat" "Picture.open_seat" (defArgs s_Picture_open_seat) (defBody s_Picture_open_seat) (defScope s_Picture_open_seat) .none kv_Picture_open_seat dc_Picture_open_seat pm_Picture_open_seat an_Picture_open_seat cd_Picture_open_seat ct_Picture_open_seat), sl_Picture_open_seat⟩)
    (c_Picture_open_seat : PySem.W.codeIn K cd_Picture_open_seat "Picture.open_seat" = true)
    (k_Picture_open_seat : PySem.W.keepIn K (.ref f_Picture_open_seat) = true)
    (i_Picture_open_seat : PySem.W.isFn K (.ref f_Picture_open_seat) = true)
    (a_Picture_points : PySem.W.findIn K (.ref C_Picture) "points" = some (some (.ref f_Picture_points)))
    (l_Picture_points : K.lookup f_Picture_points = some ⟨oc_Picture_points, od_Picture_points, .func (PySem.W.fnOf "points" "Picture.points" (defArgs s_Picture_points) (defBody s_Picture_points) (defScope s_Picture_points) .none kv_Picture_points dc_Picture_points pm_Picture_points an_Picture_points cd_Picture_points ct_Picture_points), sl_Picture_points⟩)
    (c_Picture_points : PySem.W.codeIn K cd_Picture_points "Picture.points" = true)
    (k_Picture_points : PySem.W.keepIn K (.ref f_Picture_points) = true)
    (i_Picture_points : PySem.W.isFn K (.ref f_Picture_points) = true)
    (a_Picture_check_cell : PySem.W.findIn K (.ref C_Picture) "check_cell" = some (some (.ref f_Picture_check_cell)))
    (l_Picture_check_cell : K.lookup f_Picture_check_cell = some ⟨oc_Picture_check_cell, od_Picture_check_cell, .func (PySem.W.fnOf "check_cell" "Picture.check_cell" (defArgs s_Picture_check_cell) (defBody s_Picture_check_cell) (defScope s_Picture_check_cell) .none kv_Picture_check_cell dc_Picture_check_cell pm_Picture_check_cell an_Picture_check_cell cd_Picture_check_cell ct_Picture_check_cell), sl_Picture_check_cell⟩)
    (c_Picture_check_cell : PySem.W.codeIn K cd_Picture_check_cell "Picture.check_cell" = true)
    (k_Picture_check_cell : PySem.W.keepIn K (.ref f_Picture_check_cell) = true)
    (i_Picture_check_cell : PySem.W.isFn K (.ref f_Picture_check_cell) = true)
    (a_Picture_check_lines : PySem.W.findIn K (.ref C_Picture) "check_lines" = some (some (.ref f_Picture_check_lines)))
    (l_Picture_check_lines : K.lookup f_Picture_check_lines = some ⟨oc_Picture_check_lines, od_Picture_check_lines, .func (PySem.W.fnOf "check_lines" "Picture.check_lines" (defArgs s_Picture_check_lines) (defBody s_Picture_check_lines) (defScope s_Picture_check_lines) .none kv_Picture_check_lines dc_Picture_check_lines pm_Picture_check_lines an_Picture_check_lines cd_Picture_check_lines ct_Picture_check_lines), sl_Picture_check_lines⟩)
    (c_Picture_check_lines : PySem.W.codeIn K cd_Picture_check_lines "Picture.check_lines" = true)
    (k_Picture_check_lines : PySem.W.keepIn K (.ref f_Picture_check_lines) = true)
    (i_Picture_check_lines : PySem.W.isFn K (.ref f_Picture_check_lines) = true)
    (a_Picture_check_seat : PySem.W.findIn K (.ref C_Picture) "check_seat" = some (some (.ref f_Picture_check_seat)))
    (l_Picture_check_seat : K.lookup f_Picture_check_seat = some ⟨oc_Picture_check_seat, od_Picture_check_seat, .func (PySem.W.fnOf "check_seat" "Picture.check_seat" (defArgs s_Picture_check_seat) (defBody s_Picture_check_seat) (defScope s_Picture_check_seat) .none kv_Picture_check_seat dc_Picture_check_seat pm_Picture_check_seat an_Picture_check_seat cd_Picture_check_seat ct_Picture_check_seat), sl_Picture_check_seat⟩)
    (c_Picture_check_seat : PySem.W.codeIn K cd_Picture_check_seat "Picture.check_seat" = true)
    (k_Picture_check_seat : PySem.W.keepIn K (.ref f_Picture_check_seat) = true)
    (i_Picture_check_seat : PySem.W.isFn K (.ref f_Picture_check_seat) = true)
    (a_picture_of : PySem.W.nsIn K mainGlobals "picture_of" = some (some (.ref f_picture_of)))
    (l_picture_of : K.lookup f_picture_of = some ⟨oc_picture_of, od_picture_of, .func (PySem.W.fnOf "picture_of" "picture_of" (defArgs s_picture_of) (defBody s_picture_of) (defScope s_picture_of) .none kv_picture_of dc_picture_of pm_picture_of an_picture_of cd_picture_of ct_picture_of), sl_picture_of⟩)
    (c_picture_of : PySem.W.codeIn K cd_picture_of "picture_of" = true)
    (k_picture_of : PySem.W.keepIn K (.ref f_picture_of) = true)
    (i_picture_of : PySem.W.isFn K (.ref f_picture_of) = true)
    (a_do_line : PySem.W.nsIn K mainGlobals "do_line" = some (some (.ref f_do_line)))
    (l_do_line : K.lookup f_do_line = some ⟨oc_do_line, od_do_line, .func (PySem.W.fnOf "do_line" "do_line" (defArgs s_do_line) (defBody s_do_line) (defScope s_do_line) .none kv_do_line dc_do_line pm_do_line an_do_line cd_do_line ct_do_line), sl_do_line⟩)
    (c_do_line : PySem.W.codeIn K cd_do_line "do_line" = true)
    (k_do_line : PySem.W.keepIn K (.ref f_do_line) = true)
    (i_do_line : PySem.W.isFn K (.ref f_do_line) = true)
    (a_words_of : PySem.W.nsIn K mainGlobals "words_of" = some (some (.ref f_words_of)))
    (l_words_of : K.lookup f_words_of = some ⟨oc_words_of, od_words_of, .func (PySem.W.fnOf "words_of" "words_of" (defArgs s_words_of) (defBody s_words_of) (defScope s_words_of) .none kv_words_of dc_words_of pm_words_of an_words_of cd_words_of ct_words_of), sl_words_of⟩)
    (c_words_of : PySem.W.codeIn K cd_words_of "words_of" = true)
    (k_words_of : PySem.W.keepIn K (.ref f_words_of) = true)
    (i_words_of : PySem.W.isFn K (.ref f_words_of) = true)
    (a_frame_of : PySem.W.nsIn K mainGlobals "frame_of" = some (some (.ref f_frame_of)))
    (l_frame_of : K.lookup f_frame_of = some ⟨oc_frame_of, od_frame_of, .func (PySem.W.fnOf "frame_of" "frame_of" (defArgs s_frame_of) (defBody s_frame_of) (defScope s_frame_of) .none kv_frame_of dc_frame_of pm_frame_of an_frame_of cd_frame_of ct_frame_of), sl_frame_of⟩)
    (c_frame_of : PySem.W.codeIn K cd_frame_of "frame_of" = true)
    (k_frame_of : PySem.W.keepIn K (.ref f_frame_of) = true)
    (i_frame_of : PySem.W.isFn K (.ref f_frame_of) = true)
    (a_rows_of : PySem.W.nsIn K mainGlobals "rows_of" = some (some (.ref f_rows_of)))
    (l_rows_of : K.lookup f_rows_of = some ⟨oc_rows_of, od_rows_of, .func (PySem.W.fnOf "rows_of" "rows_of" (defArgs s_rows_of) (defBody s_rows_of) (defScope s_rows_of) .none kv_rows_of dc_rows_of pm_rows_of an_rows_of cd_rows_of ct_rows_of), sl_rows_of⟩)
    (c_rows_of : PySem.W.codeIn K cd_rows_of "rows_of" = true)
    (k_rows_of : PySem.W.keepIn K (.ref f_rows_of) = true)
    (i_rows_of : PySem.W.isFn K (.ref f_rows_of) = true)
    (a_span_of : PySem.W.nsIn K mainGlobals "span_of" = some (some (.ref f_span_of)))
    (l_span_of : K.lookup f_span_of = some ⟨oc_span_of, od_span_of, .func (PySem.W.fnOf "span_of" "span_of" (defArgs s_span_of) (defBody s_span_of) (defScope s_span_of) .none kv_span_of dc_span_of pm_span_of an_span_of cd_span_of ct_span_of), sl_span_of⟩)
    (c_span_of : PySem.W.codeIn K cd_span_of "span_of" = true)
    (k_span_of : PySem.W.keepIn K (.ref f_span_of) = true)
    (i_span_of : PySem.W.isFn K (.ref f_span_of) = true)
    (a_point_of : PySem.W.nsIn K mainGlobals "point_of" = some (some (.ref f_point_of)))
    (l_point_of : K.lookup f_point_of = some ⟨oc_point_of, od_point_of, .func (PySem.W.fnOf "point_of" "point_of" (defArgs s_point_of) (defBody s_point_of) (defScope s_point_of) .none kv_point_of dc_point_of pm_point_of an_point_of cd_point_of ct_point_of), sl_point_of⟩)
    (c_point_of : PySem.W.codeIn K cd_point_of "point_of" = true)
    (k_point_of : PySem.W.keepIn K (.ref f_point_of) = true)
    (i_point_of : PySem.W.isFn K (.ref f_point_of) = true)
    (a_numbers_of : PySem.W.nsIn K mainGlobals "numbers_of" = some (some (.ref f_numbers_of)))
    (l_numbers_of : K.lookup f_numbers_of = some ⟨oc_numbers_of, od_numbers_of, .func (PySem.W.fnOf "numbers_of" "numbers_of" (defArgs s_numbers_of) (defBody s_numbers_of) (defScope s_numbers_of) .none kv_numbers_of dc_numbers_of pm_numbers_of an_numbers_of cd_numbers_of ct_numbers_of), sl_numbers_of⟩)
    (c_numbers_of : PySem.W.codeIn K cd_numbers_of "numbers_of" = true)
    (k_numbers_of : PySem.W.keepIn K (.ref f_numbers_of) = true)
    (i_numbers_of : PySem.W.isFn K (.ref f_numbers_of) = true)
    (a_number_of : PySem.W.nsIn K mainGlobals "number_of" = some (some (.ref f_number_of)))
    (l_number_of : K.lookup f_number_of = some ⟨oc_number_of, od_number_of, .func (PySem.W.fnOf "number_of" "number_of" (defArgs s_number_of) (defBody s_number_of) (defScope s_number_of) .none kv_number_of dc_number_of pm_number_of an_number_of cd_number_of ct_number_of), sl_number_of⟩)
    (c_number_of : PySem.W.codeIn K cd_number_of "number_of" = true)
    (k_number_of : PySem.W.keepIn K (.ref f_number_of) = true)
    (i_number_of : PySem.W.isFn K (.ref f_number_of) = true)
    (a_law_cell : PySem.W.nsIn K mainGlobals "_law_cell" = some (some (.ref f_law_cell)))
    (l_law_cell : K.lookup f_law_cell = some ⟨oc_law_cell, od_law_cell, .func (PySem.W.fnOf "_law_cell" "_law_cell" (defArgs s_law_cell) (defBody s_law_cell) (defScope s_law_cell) .none kv_law_cell dc_law_cell pm_law_cell an_law_cell cd_law_cell ct_law_cell), sl_law_cell⟩)
    (c_law_cell : PySem.W.codeIn K cd_law_cell "_law_cell" = true)
    (k_law_cell : PySem.W.keepIn K (.ref f_law_cell) = true)
    (i_law_cell : PySem.W.isFn K (.ref f_law_cell) = true)
    (a_law_mix : PySem.W.nsIn K mainGlobals "_law_mix" = some (some (.ref f_law_mix)))
    (l_law_mix : K.lookup f_law_mix = some ⟨oc_law_mix, od_law_mix, .func (PySem.W.fnOf "_law_mix" "_law_mix" (defArgs s_law_mix) (defBody s_law_mix) (defScope s_law_mix) .none kv_law_mix dc_law_mix pm_law_mix an_law_mix cd_law_mix ct_law_mix), sl_law_mix⟩)
    (c_law_mix : PySem.W.codeIn K cd_law_mix "_law_mix" = true)
    (k_law_mix : PySem.W.keepIn K (.ref f_law_mix) = true)
    (i_law_mix : PySem.W.isFn K (.ref f_law_mix) = true)
    (a_law_digits : PySem.W.nsIn K mainGlobals "_law_digits" = some (some (.ref f_law_digits)))
    (l_law_digits : K.lookup f_law_digits = some ⟨oc_law_digits, od_law_digits, .func (PySem.W.fnOf "_law_digits" "_law_digits" (defArgs s_law_digits) (defBody s_law_digits) (defScope s_law_digits) .none kv_law_digits dc_law_digits pm_law_digits an_law_digits cd_law_digits ct_law_digits), sl_law_digits⟩)
    (c_law_digits : PySem.W.codeIn K cd_law_digits "_law_digits" = true)
    (k_law_digits : PySem.W.keepIn K (.ref f_law_digits) = true)
    (i_law_digits : PySem.W.isFn K (.ref f_law_digits) = true)
    (a_law_whole : PySem.W.nsIn K mainGlobals "_law_whole" = some (some (.ref f_law_whole)))
    (l_law_whole : K.lookup f_law_whole = some ⟨oc_law_whole, od_law_whole, .func (PySem.W.fnOf "_law_whole" "_law_whole" (defArgs s_law_whole) (defBody s_law_whole) (defScope s_law_whole) .none kv_law_whole dc_law_whole pm_law_whole an_law_whole cd_law_whole ct_law_whole), sl_law_whole⟩)
    (c_law_whole : PySem.W.codeIn K cd_law_whole "_law_whole" = true)
    (k_law_whole : PySem.W.keepIn K (.ref f_law_whole) = true)
    (i_law_whole : PySem.W.isFn K (.ref f_law_whole) = true)
    (a_law_bad_rims : PySem.W.nsIn K mainGlobals "_law_bad_rims" = some (some (.ref f_law_bad_rims)))
    (l_law_bad_rims : K.lookup f_law_bad_rims = some ⟨oc_law_bad_rims, od_law_bad_rims, .func (PySem.W.fnOf "_law_bad_rims" "_law_bad_rims" (defArgs s_law_bad_rims) (defBody s_law_bad_rims) (defScope s_law_bad_rims) .none kv_law_bad_rims dc_law_bad_rims pm_law_bad_rims an_law_bad_rims cd_law_bad_rims ct_law_bad_rims), sl_law_bad_rims⟩)
    (c_law_bad_rims : PySem.W.codeIn K cd_law_bad_rims "_law_bad_rims" = true)
    (k_law_bad_rims : PySem.W.keepIn K (.ref f_law_bad_rims) = true)
    (i_law_bad_rims : PySem.W.isFn K (.ref f_law_bad_rims) = true)
    (a_law_bad_dots : PySem.W.nsIn K mainGlobals "_law_bad_dots" = some (some (.ref f_law_bad_dots)))
    (l_law_bad_dots : K.lookup f_law_bad_dots = some ⟨oc_law_bad_dots, od_law_bad_dots, .func (PySem.W.fnOf "_law_bad_dots" "_law_bad_dots" (defArgs s_law_bad_dots) (defBody s_law_bad_dots) (defScope s_law_bad_dots) .none kv_law_bad_dots dc_law_bad_dots pm_law_bad_dots an_law_bad_dots cd_law_bad_dots ct_law_bad_dots), sl_law_bad_dots⟩)
    (c_law_bad_dots : PySem.W.codeIn K cd_law_bad_dots "_law_bad_dots" = true)
    (k_law_bad_dots : PySem.W.keepIn K (.ref f_law_bad_dots) = true)
    (i_law_bad_dots : PySem.W.isFn K (.ref f_law_bad_dots) = true)
    (a_law_bad : PySem.W.nsIn K mainGlobals "_law_bad" = some (some (.ref f_law_bad)))
    (l_law_bad : K.lookup f_law_bad = some ⟨oc_law_bad, od_law_bad, .func (PySem.W.fnOf "_law_bad" "_law_bad" (defArgs s_law_bad) (defBody s_law_bad) (defScope s_law_bad) .none kv_law_bad dc_law_bad pm_law_bad an_law_bad cd_law_bad ct_law_bad), sl_law_bad⟩)
    (c_law_bad : PySem.W.codeIn K cd_law_bad "_law_bad" = true)
    (k_law_bad : PySem.W.keepIn K (.ref f_law_bad) = true)
    (i_law_bad : PySem.W.isFn K (.ref f_law_bad) = true)
    (a_law_bad_first : PySem.W.nsIn K mainGlobals "_law_bad_first" = some (some (.ref f_law_bad_first)))
    (l_law_bad_first : K.lookup f_law_bad_first = some ⟨oc_law_bad_first, od_law_bad_first, .func (PySem.W.fnOf "_law_bad_first" "_law_bad_first" (defArgs s_law_bad_first) (defBody s_law_bad_first) (defScope s_law_bad_first) .none kv_law_bad_first dc_law_bad_first pm_law_bad_first an_law_bad_first cd_law_bad_first ct_law_bad_first), sl_law_bad_first⟩)
    (c_law_bad_first : PySem.W.codeIn K cd_law_bad_first "_law_bad_first" = true)
    (k_law_bad_first : PySem.W.keepIn K (.ref f_law_bad_first) = true)
    (i_law_bad_first : PySem.W.isFn K (.ref f_law_bad_first) = true)
    (a_law_thing : PySem.W.nsIn K mainGlobals "_law_thing" = some (some (.ref f_law_thing)))
    (l_law_thing : K.lookup f_law_thing = some ⟨oc_law_thing, od_law_thing, .func (PySem.W.fnOf "_law_thing" "_law_thing" (defArgs s_law_thing) (defBody s_law_thing) (defScope s_law_thing) .none kv_law_thing dc_law_thing pm_law_thing an_law_thing cd_law_thing ct_law_thing), sl_law_thing⟩)
    (c_law_thing : PySem.W.codeIn K cd_law_thing "_law_thing" = true)
    (k_law_thing : PySem.W.keepIn K (.ref f_law_thing) = true)
    (i_law_thing : PySem.W.isFn K (.ref f_law_thing) = true)
    (a_law_no_list : PySem.W.nsIn K mainGlobals "_law_no_list" = some (some (.ref f_law_no_list)))
    (l_law_no_list : K.lookup f_law_no_list = some ⟨oc_law_no_list, od_law_no_list, .func (PySem.W.fnOf "_law_no_list" "_law_no_list" (defArgs s_law_no_list) (defBody s_law_no_list) (defScope s_law_no_list) .none kv_law_no_list dc_law_no_list pm_law_no_list an_law_no_list cd_law_no_list ct_law_no_list), sl_law_no_list⟩)
    (c_law_no_list : PySem.W.codeIn K cd_law_no_list "_law_no_list" = true)
    (k_law_no_list : PySem.W.keepIn K (.ref f_law_no_list) = true)
    (i_law_no_list : PySem.W.isFn K (.ref f_law_no_list) = true)
    (a_law_good : PySem.W.nsIn K mainGlobals "_law_good" = some (some (.ref f_law_good)))
    (l_law_good : K.lookup f_law_good = some ⟨oc_law_good, od_law_good, .func (PySem.W.fnOf "_law_good" "_law_good" (defArgs s_law_good) (defBody s_law_good) (defScope s_law_good) .none kv_law_good dc_law_good pm_law_good an_law_good cd_law_good ct_law_good), sl_law_good⟩)
    (c_law_good : PySem.W.codeIn K cd_law_good "_law_good" = true)
    (k_law_good : PySem.W.keepIn K (.ref f_law_good) = true)
    (i_law_good : PySem.W.isFn K (.ref f_law_good) = true)
    (a_law_read : PySem.W.nsIn K mainGlobals "_law_read" = some (some (.ref f_law_read)))
    (l_law_read : K.lookup f_law_read = some ⟨oc_law_read, od_law_read, .func (PySem.W.fnOf "_law_read" "_law_read" (defArgs s_law_read) (defBody s_law_read) (defScope s_law_read) .none kv_law_read dc_law_read pm_law_read an_law_read cd_law_read ct_law_read), sl_law_read⟩)
    (c_law_read : PySem.W.codeIn K cd_law_read "_law_read" = true)
    (k_law_read : PySem.W.keepIn K (.ref f_law_read) = true)
    (i_law_read : PySem.W.isFn K (.ref f_law_read) = true)
    (a_law_number : PySem.W.nsIn K mainGlobals "_law_number" = some (some (.ref f_law_number)))
    (l_law_number : K.lookup f_law_number = some ⟨oc_law_number, od_law_number, .func (PySem.W.fnOf "_law_number" "_law_number" (defArgs s_law_number) (defBody s_law_number) (defScope s_law_number) .none kv_law_number dc_law_number pm_law_number an_law_number cd_law_number ct_law_number), sl_law_number⟩)
    (c_law_number : PySem.W.codeIn K cd_law_number "_law_number" = true)
    (k_law_number : PySem.W.keepIn K (.ref f_law_number) = true)
    (i_law_number : PySem.W.isFn K (.ref f_law_number) = true)
    (a_law : PySem.W.nsIn K mainGlobals "law" = some (some (.ref f_law)))
    (l_law : K.lookup f_law = some ⟨oc_law, od_law, .func (PySem.W.fnOf "law" "law" (defArgs s_law) (defBody s_law) (defScope s_law) .none kv_law dc_law pm_law an_law cd_law ct_law), sl_law⟩)
    (c_law : PySem.W.codeIn K cd_law "law" = true)
    (k_law : PySem.W.keepIn K (.ref f_law) = true)
    (i_law : PySem.W.isFn K (.ref f_law) = true)
    (kc_RimError : PySem.W.keepIn K (.ref C_RimError) = true)
    (ov_RimError : excOver K C_RimError = true)
    (hd_RimError : PySem.W.hasDictIn K C_RimError = true)
    (sa_RimError : PySem.W.findIn K (.ref C_RimError) "__setattr__" = some (some (.builtin "object.__setattr__")))
    (ga_RimError : PySem.W.findIn K (.ref C_RimError) "__getattribute__" = some (some (.builtin "BaseException.__getattribute__")))
    (gh_RimError : PySem.W.findIn K (.ref C_RimError) "__getattr__" = some none)
    (ca_RimError : PySem.W.findIn K (.ref C_RimError) "__class__" = some (some (.builtin "object.__class__")))
    (mk_RimError : xmkIn K C_RimError = true)
    (kc_NoSide : PySem.W.keepIn K (.ref C_NoSide) = true)
    (ov_NoSide : excOver K C_NoSide = true)
    (hd_NoSide : PySem.W.hasDictIn K C_NoSide = true)
    (sa_NoSide : PySem.W.findIn K (.ref C_NoSide) "__setattr__" = some (some (.builtin "object.__setattr__")))
    (ga_NoSide : PySem.W.findIn K (.ref C_NoSide) "__getattribute__" = some (some (.builtin "BaseException.__getattribute__")))
    (gh_NoSide : PySem.W.findIn K (.ref C_NoSide) "__getattr__" = some none)
    (ca_NoSide : PySem.W.findIn K (.ref C_NoSide) "__class__" = some (some (.builtin "object.__class__")))
    (mk_NoSide : xmkIn K C_NoSide = true)
    (kc_NoRow : PySem.W.keepIn K (.ref C_NoRow) = true)
    (ov_NoRow : excOver K C_NoRow = true)
    (hd_NoRow : PySem.W.hasDictIn K C_NoRow = true)
    (sa_NoRow : PySem.W.findIn K (.ref C_NoRow) "__setattr__" = some (some (.builtin "object.__setattr__")))
    (ga_NoRow : PySem.W.findIn K (.ref C_NoRow) "__getattribute__" = some (some (.builtin "BaseException.__getattribute__")))
    (gh_NoRow : PySem.W.findIn K (.ref C_NoRow) "__getattr__" = some none)
    (ca_NoRow : PySem.W.findIn K (.ref C_NoRow) "__class__" = some (some (.builtin "object.__class__")))
    (mk_NoRow : xmkIn K C_NoRow = true)
    (kc_OldSeat : PySem.W.keepIn K (.ref C_OldSeat) = true)
    (ov_OldSeat : excOver K C_OldSeat = true)
    (hd_OldSeat : PySem.W.hasDictIn K C_OldSeat = true)
    (sa_OldSeat : PySem.W.findIn K (.ref C_OldSeat) "__setattr__" = some (some (.builtin "object.__setattr__")))
    (ga_OldSeat : PySem.W.findIn K (.ref C_OldSeat) "__getattribute__" = some (some (.builtin "BaseException.__getattribute__")))
    (gh_OldSeat : PySem.W.findIn K (.ref C_OldSeat) "__getattr__" = some none)
    (ca_OldSeat : PySem.W.findIn K (.ref C_OldSeat) "__class__" = some (some (.builtin "object.__class__")))
    (mk_OldSeat : xmkIn K C_OldSeat = true)
    (kc_BadLine : PySem.W.keepIn K (.ref C_BadLine) = true)
    (ov_BadLine : excOver K C_BadLine = true)
    (hd_BadLine : PySem.W.hasDictIn K C_BadLine = true)
    (sa_BadLine : PySem.W.findIn K (.ref C_BadLine) "__setattr__" = some (some (.builtin "object.__setattr__")))
    (ga_BadLine : PySem.W.findIn K (.ref C_BadLine) "__getattribute__" = some (some (.builtin "BaseException.__getattribute__")))
    (gh_BadLine : PySem.W.findIn K (.ref C_BadLine) "__getattr__" = some none)
    (ca_BadLine : PySem.W.findIn K (.ref C_BadLine) "__class__" = some (some (.builtin "object.__class__")))
    (mk_BadLine : xmkIn K C_BadLine = true)
    (kc_Side : PySem.W.keepIn K (.ref C_Side) = true)
    (pg_Side : PySem.W.plainGet K C_Side Str.empty = true)
    (hd_Side : PySem.W.hasDictIn K C_Side = true)
    (po_Side : PySem.W.plainOver K C_Side = true)
    (sa_Side : PySem.W.findIn K (.ref C_Side) "__setattr__" = some (some (.builtin "object.__setattr__")))
    (mk_Side : PySem.W.makesIn K C_Side = true)
    (ca_Side : PySem.W.findIn K (.ref C_Side) "__class__" = some (some (.builtin "object.__class__")))
    (mo_Side : PySem.W.mroIn K C_Side (.type "object") = some true)
    (kc_LeftSide : PySem.W.keepIn K (.ref C_LeftSide) = true)
    (pg_LeftSide : PySem.W.plainGet K C_LeftSide Str.empty = true)
    (hd_LeftSide : PySem.W.hasDictIn K C_LeftSide = true)
    (po_LeftSide : PySem.W.plainOver K C_LeftSide = true)
    (sa_LeftSide : PySem.W.findIn K (.ref C_LeftSide) "__setattr__" = some (some (.builtin "object.__setattr__")))
    (mk_LeftSide : PySem.W.makesIn K C_LeftSide = true)
    (ca_LeftSide : PySem.W.findIn K (.ref C_LeftSide) "__class__" = some (some (.builtin "object.__class__")))
    (mo_LeftSide : PySem.W.mroIn K C_LeftSide (.type "object") = some true)
    (a_LeftSide_init : PySem.W.findIn K (.ref C_LeftSide) "__init__" = some (some (.ref f_Side_init)))
    (kc_RightSide : PySem.W.keepIn K (.ref C_RightSide) = true)
    (pg_RightSide : PySem.W.plainGet K C_RightSide Str.empty = true)
    (hd_RightSide : PySem.W.hasDictIn K C_RightSide = true)
    (po_RightSide : PySem.W.plainOver K C_RightSide = true)
    (sa_RightSide : PySem.W.findIn K (.ref C_RightSide) "__setattr__" = some (some (.builtin "object.__setattr__")))
    (mk_RightSide : PySem.W.makesIn K C_RightSide = true)
    (ca_RightSide : PySem.W.findIn K (.ref C_RightSide) "__class__" = some (some (.builtin "object.__class__")))
    (mo_RightSide : PySem.W.mroIn K C_RightSide (.type "object") = some true)
    (a_RightSide_init : PySem.W.findIn K (.ref C_RightSide) "__init__" = some (some (.ref f_Side_init)))
    (kc_Picture : PySem.W.keepIn K (.ref C_Picture) = true)
    (pg_Picture : PySem.W.plainGet K C_Picture Str.empty = true)
    (hd_Picture : PySem.W.hasDictIn K C_Picture = true)
    (po_Picture : PySem.W.plainOver K C_Picture = true)
    (sa_Picture : PySem.W.findIn K (.ref C_Picture) "__setattr__" = some (some (.builtin "object.__setattr__")))
    (mk_Picture : PySem.W.makesIn K C_Picture = true)
    (ca_Picture : PySem.W.findIn K (.ref C_Picture) "__class__" = some (some (.builtin "object.__class__")))
    (mo_Picture : PySem.W.mroIn K C_Picture (.type "object") = some true)
    (cg : PySem.W.specialIn K (.builtin "object.__class__") "__get__" = some (some (.builtin "getset_descriptor.__get__")))
    (ct : PySem.W.takesIn K (.builtin "object.__class__") = some true)
    (n_Picture_height : PySem.W.findIn K (.ref C_Picture) "height" = some none)
    (n_Picture_width : PySem.W.findIn K (.ref C_Picture) "width" = some none)
    (n_Picture_placed : PySem.W.findIn K (.ref C_Picture) "placed" = some none)
    (n_Picture_opened : PySem.W.findIn K (.ref C_Picture) "opened" = some none)
    (n_BadLine_line : PySem.W.findIn K (.ref C_BadLine) "line" = some none)
    (n_BadLine_row : PySem.W.findIn K (.ref C_BadLine) "row" = some none)
    (n_NoRow_line : PySem.W.findIn K (.ref C_NoRow) "line" = some none)
    (n_NoRow_row : PySem.W.findIn K (.ref C_NoRow) "row" = some none)
    (n_NoSide_side : PySem.W.findIn K (.ref C_NoSide) "side" = some none)
    (n_OldSeat_side : PySem.W.findIn K (.ref C_OldSeat) "side" = some none)
    (n_OldSeat_row : PySem.W.findIn K (.ref C_OldSeat) "row" = some none)
    (n_Side_width : PySem.W.findIn K (.ref C_Side) "width" = some none)
    (n_LeftSide_width : PySem.W.findIn K (.ref C_LeftSide) "width" = some none)
    (n_RightSide_width : PySem.W.findIn K (.ref C_RightSide) "width" = some none)
    (n_ValueError : PySem.W.nsIn K mainGlobals "ValueError" = some none)
    (n_bool : PySem.W.nsIn K mainGlobals "bool" = some none)
    (n_enumerate : PySem.W.nsIn K mainGlobals "enumerate" = some none)
    (n_int : PySem.W.nsIn K mainGlobals "int" = some none)
    (n_isinstance : PySem.W.nsIn K mainGlobals "isinstance" = some none)
    (n_len : PySem.W.nsIn K mainGlobals "len" = some none)
    (n_list : PySem.W.nsIn K mainGlobals "list" = some none)
    (n_max : PySem.W.nsIn K mainGlobals "max" = some none)
    (n_min : PySem.W.nsIn K mainGlobals "min" = some none)
    (n_range : PySem.W.nsIn K mainGlobals "range" = some none)
    (n_str : PySem.W.nsIn K mainGlobals "str" = some none)
    (mro_BadLine_BadLine : PySem.W.mroIn K C_BadLine (.ref C_BadLine) = some true)
    (mro_NoRow_BadLine : PySem.W.mroIn K C_NoRow (.ref C_BadLine) = some false)
    (mro_NoRow_NoRow : PySem.W.mroIn K C_NoRow (.ref C_NoRow) = some true)
    (kit_BadLine_RimError : PySem.W.kitOne K (.ref C_BadLine) (.ref C_RimError) = some true)
    (kitv_BadLine : PySem.W.kitOne K (.ref C_BadLine) (.type "ValueError") = some true)
    (v_MOST_ROWS : PySem.W.nsIn K mainGlobals "MOST_ROWS" = some (some (.int 16 tkc_MOST_ROWS)))
    (v_MOST_COLUMNS : PySem.W.nsIn K mainGlobals "MOST_COLUMNS" = some (some (.int 30 tkc_MOST_COLUMNS)))
    (v_MOST_POINTS : PySem.W.nsIn K mainGlobals "MOST_POINTS" = some (some (.int 12 tkc_MOST_POINTS)))
    (g_MIRRORED_SIDES : PySem.W.nsIn K mainGlobals "MIRRORED_SIDES" = some (some (.ref D_MIRRORED_SIDES)))
    (l_MIRRORED_SIDES : K.lookup D_MIRRORED_SIDES = some ⟨.type "dict", none, .dict #[⟨hashStr w "left", .str "left" ta0_MIRRORED_SIDES, .str "right" tb0_MIRRORED_SIDES⟩, ⟨hashStr w "right", .str "right" ta1_MIRRORED_SIDES, .str "left" tb1_MIRRORED_SIDES⟩, ⟨hashStr w "both", .str "both" ta2_MIRRORED_SIDES, .str "both" tb2_MIRRORED_SIDES⟩] ep_MIRRORED_SIDES, #[]⟩)
    (ns_MIRRORED_SIDES : (D_MIRRORED_SIDES == sysModules) = false)
    : ∃ t, Txt w K mg t :=
  ⟨⟨f_NoSide_init, _, f_NoRow_init, _, f_OldSeat_init, _, f_BadLine_init, _, f_Side_init, _, f_side_of, _, f_is_whole, _, f_is_name, _, f_Picture_init, _, f_Picture_put, _, T_Picture_put, f_Picture_open_seat, _, f_Picture_points, _, f_Picture_check_cell, _, f_Picture_check_lines, _, f_Picture_check_seat, _, f_picture_of, _, f_do_line, _, f_words_of, _, f_frame_of, _, f_rows_of, _, f_span_of, _, f_point_of, _, f_numbers_of, _, f_number_of, _, f_law_cell, _, f_law_mix, _, f_law_digits, _, f_law_whole, _, f_law_bad_rims, _, f_law_bad_dots, _, f_law_bad, _, f_law_bad_first, _, f_law_thing, _, f_law_no_list, _, f_law_good, _, f_law_read, _, f_law_number, _, f_law, _, C_RimError, C_NoSide, C_NoRow, C_OldSeat, C_BadLine, C_Side, C_LeftSide, C_RightSide, C_Picture, D_MIRRORED_SIDES⟩, {
    g_RimError := PySem.W.mg_of X G g_RimError
    g_NoSide := PySem.W.mg_of X G g_NoSide
    g_NoRow := PySem.W.mg_of X G g_NoRow
    g_OldSeat := PySem.W.mg_of X G g_OldSeat
    g_BadLine := PySem.W.mg_of X G g_BadLine
    g_Side := PySem.W.mg_of X G g_Side
    g_LeftSide := PySem.W.mg_of X G g_LeftSide
    g_RightSide := PySem.W.mg_of X G g_RightSide
    g_Picture := PySem.W.mg_of X G g_Picture
    F_NoSide_init := fun_mk (st := s_NoSide_init) l_NoSide_init c_NoSide_init k_NoSide_init
    b_NoSide_init := (fun_mk (st := s_NoSide_init) l_NoSide_init c_NoSide_init k_NoSide_init).binds (ps := ["self", "side"]) fun _ _ _ _ _ _ us hl => match us, hl with | [_, _], _ => rfl
    F_NoRow_init := fun_mk (st := s_NoRow_init) l_NoRow_init c_NoRow_init k_NoRow_init
    b_NoRow_init := (fun_mk (st := s_NoRow_init) l_NoRow_init c_NoRow_init k_NoRow_init).binds (ps := ["self", "row"]) fun _ _ _ _ _ _ us hl => match us, hl with | [_, _], _ => rfl
    F_OldSeat_init := fun_mk (st := s_OldSeat_init) l_OldSeat_init c_OldSeat_init k_OldSeat_init
    b_OldSeat_init := (fun_mk (st := s_OldSeat_init) l_OldSeat_init c_OldSeat_init k_OldSeat_init).binds (ps := ["self", "side", "row"]) fun _ _ _ _ _ _ us hl => match us, hl with | [_, _, _], _ => rfl
    F_BadLine_init := fun_mk (st := s_BadLine_init) l_BadLine_init c_BadLine_init k_BadLine_init
    b_BadLine_init := (fun_mk (st := s_BadLine_init) l_BadLine_init c_BadLine_init k_BadLine_init).binds (ps := ["self", "line"]) fun _ _ _ _ _ _ us hl => match us, hl with | [_, _], _ => rfl
    F_Side_init := fun_mk (st := s_Side_init) l_Side_init c_Side_init k_Side_init
    b_Side_init := (fun_mk (st := s_Side_init) l_Side_init c_Side_init k_Side_init).binds (ps := ["self", "width"]) fun _ _ _ _ _ _ us hl => match us, hl with | [_, _], _ => rfl
    g_side_of := PySem.W.mg_of X G a_side_of
    F_side_of := fun_mk (st := s_side_of) l_side_of c_side_of k_side_of
    b_side_of := (fun_mk (st := s_side_of) l_side_of c_side_of k_side_of).binds (ps := ["word", "width"]) fun _ _ _ _ _ _ us hl => match us, hl with | [_, _], _ => rfl
    g_is_whole := PySem.W.mg_of X G a_is_whole
    F_is_whole := fun_mk (st := s_is_whole) l_is_whole c_is_whole k_is_whole
    b_is_whole := (fun_mk (st := s_is_whole) l_is_whole c_is_whole k_is_whole).binds (ps := ["thing", "low", "high"]) fun _ _ _ _ _ _ us hl => match us, hl with | [_, _, _], _ => rfl
    g_is_name := PySem.W.mg_of X G a_is_name
    F_is_name := fun_mk (st := s_is_name) l_is_name c_is_name k_is_name
    b_is_name := (fun_mk (st := s_is_name) l_is_name c_is_name k_is_name).binds (ps := ["thing"]) fun _ _ _ _ _ _ us hl => match us, hl with | [_], _ => rfl
    F_Picture_init := fun_mk (st := s_Picture_init) l_Picture_init c_Picture_init k_Picture_init
    b_Picture_init := (fun_mk (st := s_Picture_init) l_Picture_init c_Picture_init k_Picture_init).binds (ps := ["self", "width", "height"]) fun _ _ _ _ _ _ us hl => match us, hl with | [_, _, _], _ => rfl
    F_Picture_put := (fund_mk (st := s_Picture_put) l_Picture_put c_Picture_put k_Picture_put)
    b_Picture_put := (fund_mk (st := s_Picture_put) l_Picture_put c_Picture_put k_Picture_put).binds t_Picture_put rfl 7 rfl fun _ _ _ _ _ _ us hl => match us, hl with | [_, _, _, _, _, _, _], _ => ⟨_, rfl, rfl⟩
    F_Picture_open_seat := fun_mk (st := s_Picture_open_seat) l_Picture_open_seat c_Picture_open_seat k_Picture_open_seat
    b_Picture_open_seat := (fun_mk (st := s_Picture_open_seat) l_Picture_open_seat c_Picture_open_seat k_Picture_open_seat).binds (ps := ["self", "side", "row"]) fun _ _ _ _ _ _ us hl => match us, hl with | [_, _, _], _ => rfl
    F_Picture_points := fun_mk (st := s_Picture_points) l_Picture_points c_Picture_points k_Picture_points
    b_Picture_points := (fun_mk (st := s_Picture_points) l_Picture_points c_Picture_points k_Picture_points).binds (ps := ["self"]) fun _ _ _ _ _ _ us hl => match us, hl with | [_], _ => rfl
    F_Picture_check_cell := fun_mk (st := s_Picture_check_cell) l_Picture_check_cell c_Picture_check_cell k_Picture_check_cell
    b_Picture_check_cell := (fun_mk (st := s_Picture_check_cell) l_Picture_check_cell c_Picture_check_cell k_Picture_check_cell).binds (ps := ["self", "x", "y"]) fun _ _ _ _ _ _ us hl => match us, hl with | [_, _, _], _ => rfl
    F_Picture_check_lines := fun_mk (st := s_Picture_check_lines) l_Picture_check_lines c_Picture_check_lines k_Picture_check_lines
    b_Picture_check_lines := (fun_mk (st := s_Picture_check_lines) l_Picture_check_lines c_Picture_check_lines k_Picture_check_lines).binds (ps := ["self", "name", "x", "y"]) fun _ _ _ _ _ _ us hl => match us, hl with | [_, _, _, _], _ => rfl
    F_Picture_check_seat := fun_mk (st := s_Picture_check_seat) l_Picture_check_seat c_Picture_check_seat k_Picture_check_seat
    b_Picture_check_seat := (fun_mk (st := s_Picture_check_seat) l_Picture_check_seat c_Picture_check_seat k_Picture_check_seat).binds (ps := ["self", "side", "row"]) fun _ _ _ _ _ _ us hl => match us, hl with | [_, _, _], _ => rfl
    g_picture_of := PySem.W.mg_of X G a_picture_of
    F_picture_of := fun_mk (st := s_picture_of) l_picture_of c_picture_of k_picture_of
    b_picture_of := (fun_mk (st := s_picture_of) l_picture_of c_picture_of k_picture_of).binds (ps := ["lines"]) fun _ _ _ _ _ _ us hl => match us, hl with | [_], _ => rfl
    g_do_line := PySem.W.mg_of X G a_do_line
    F_do_line := fun_mk (st := s_do_line) l_do_line c_do_line k_do_line
    b_do_line := (fun_mk (st := s_do_line) l_do_line c_do_line k_do_line).binds (ps := ["picture", "number", "words"]) fun _ _ _ _ _ _ us hl => match us, hl with | [_, _, _], _ => rfl
    g_words_of := PySem.W.mg_of X G a_words_of
    F_words_of := fun_mk (st := s_words_of) l_words_of c_words_of k_words_of
    b_words_of := (fun_mk (st := s_words_of) l_words_of c_words_of k_words_of).binds (ps := ["line"]) fun _ _ _ _ _ _ us hl => match us, hl with | [_], _ => rfl
    g_frame_of := PySem.W.mg_of X G a_frame_of
    F_frame_of := fun_mk (st := s_frame_of) l_frame_of c_frame_of k_frame_of
    b_frame_of := (fun_mk (st := s_frame_of) l_frame_of c_frame_of k_frame_of).binds (ps := ["words"]) fun _ _ _ _ _ _ us hl => match us, hl with | [_], _ => rfl
    g_rows_of := PySem.W.mg_of X G a_rows_of
    F_rows_of := fun_mk (st := s_rows_of) l_rows_of c_rows_of k_rows_of
    b_rows_of := (fun_mk (st := s_rows_of) l_rows_of c_rows_of k_rows_of).binds (ps := ["words"]) fun _ _ _ _ _ _ us hl => match us, hl with | [_], _ => rfl
    g_span_of := PySem.W.mg_of X G a_span_of
    F_span_of := fun_mk (st := s_span_of) l_span_of c_span_of k_span_of
    b_span_of := (fun_mk (st := s_span_of) l_span_of c_span_of k_span_of).binds (ps := ["word"]) fun _ _ _ _ _ _ us hl => match us, hl with | [_], _ => rfl
    g_point_of := PySem.W.mg_of X G a_point_of
    F_point_of := fun_mk (st := s_point_of) l_point_of c_point_of k_point_of
    b_point_of := (fun_mk (st := s_point_of) l_point_of c_point_of k_point_of).binds (ps := ["words"]) fun _ _ _ _ _ _ us hl => match us, hl with | [_], _ => rfl
    g_numbers_of := PySem.W.mg_of X G a_numbers_of
    F_numbers_of := fun_mk (st := s_numbers_of) l_numbers_of c_numbers_of k_numbers_of
    b_numbers_of := (fun_mk (st := s_numbers_of) l_numbers_of c_numbers_of k_numbers_of).binds (ps := ["words"]) fun _ _ _ _ _ _ us hl => match us, hl with | [_], _ => rfl
    g_number_of := PySem.W.mg_of X G a_number_of
    F_number_of := fun_mk (st := s_number_of) l_number_of c_number_of k_number_of
    b_number_of := (fun_mk (st := s_number_of) l_number_of c_number_of k_number_of).binds (ps := ["word"]) fun _ _ _ _ _ _ us hl => match us, hl with | [_], _ => rfl
    g_law_cell := PySem.W.mg_of X G a_law_cell
    F_law_cell := fun_mk (st := s_law_cell) l_law_cell c_law_cell k_law_cell
    b_law_cell := (fun_mk (st := s_law_cell) l_law_cell c_law_cell k_law_cell).binds (ps := ["_law_script", "_law_k"]) fun _ _ _ _ _ _ us hl => match us, hl with | [_, _], _ => rfl
    g_law_mix := PySem.W.mg_of X G a_law_mix
    F_law_mix := fun_mk (st := s_law_mix) l_law_mix c_law_mix k_law_mix
    b_law_mix := (fun_mk (st := s_law_mix) l_law_mix c_law_mix k_law_mix).binds (ps := ["_law_cell_here", "_law_k"]) fun _ _ _ _ _ _ us hl => match us, hl with | [_, _], _ => rfl
    g_law_digits := PySem.W.mg_of X G a_law_digits
    F_law_digits := fun_mk (st := s_law_digits) l_law_digits c_law_digits k_law_digits
    b_law_digits := (fun_mk (st := s_law_digits) l_law_digits c_law_digits k_law_digits).binds (ps := ["_law_cell_here", "_law_k"]) fun _ _ _ _ _ _ us hl => match us, hl with | [_, _], _ => rfl
    g_law_whole := PySem.W.mg_of X G a_law_whole
    F_law_whole := fun_mk (st := s_law_whole) l_law_whole c_law_whole k_law_whole
    b_law_whole := (fun_mk (st := s_law_whole) l_law_whole c_law_whole k_law_whole).binds (ps := ["_law_found"]) fun _ _ _ _ _ _ us hl => match us, hl with | [_], _ => rfl
    g_law_bad_rims := PySem.W.mg_of X G a_law_bad_rims
    F_law_bad_rims := fun_mk (st := s_law_bad_rims) l_law_bad_rims c_law_bad_rims k_law_bad_rims
    b_law_bad_rims := (fun_mk (st := s_law_bad_rims) l_law_bad_rims c_law_bad_rims k_law_bad_rims).binds (ps := ["_law_a", "_law_b"]) fun _ _ _ _ _ _ us hl => match us, hl with | [_, _], _ => rfl
    g_law_bad_dots := PySem.W.mg_of X G a_law_bad_dots
    F_law_bad_dots := fun_mk (st := s_law_bad_dots) l_law_bad_dots c_law_bad_dots k_law_bad_dots
    b_law_bad_dots := (fun_mk (st := s_law_bad_dots) l_law_bad_dots c_law_bad_dots k_law_bad_dots).binds (ps := ["_law_a", "_law_b"]) fun _ _ _ _ _ _ us hl => match us, hl with | [_, _], _ => rfl
    g_law_bad := PySem.W.mg_of X G a_law_bad
    F_law_bad := fun_mk (st := s_law_bad) l_law_bad c_law_bad k_law_bad
    b_law_bad := (fun_mk (st := s_law_bad) l_law_bad c_law_bad k_law_bad).binds (ps := ["_law_cell_here"]) fun _ _ _ _ _ _ us hl => match us, hl with | [_], _ => rfl
    g_law_bad_first := PySem.W.mg_of X G a_law_bad_first
    F_law_bad_first := fun_mk (st := s_law_bad_first) l_law_bad_first c_law_bad_first k_law_bad_first
    b_law_bad_first := (fun_mk (st := s_law_bad_first) l_law_bad_first c_law_bad_first k_law_bad_first).binds (ps := ["_law_cell_here"]) fun _ _ _ _ _ _ us hl => match us, hl with | [_], _ => rfl
    g_law_thing := PySem.W.mg_of X G a_law_thing
    F_law_thing := fun_mk (st := s_law_thing) l_law_thing c_law_thing k_law_thing
    b_law_thing := (fun_mk (st := s_law_thing) l_law_thing c_law_thing k_law_thing).binds (ps := ["_law_cell_here"]) fun _ _ _ _ _ _ us hl => match us, hl with | [_], _ => rfl
    g_law_no_list := PySem.W.mg_of X G a_law_no_list
    F_law_no_list := fun_mk (st := s_law_no_list) l_law_no_list c_law_no_list k_law_no_list
    b_law_no_list := (fun_mk (st := s_law_no_list) l_law_no_list c_law_no_list k_law_no_list).binds (ps := ["_law_cell_here"]) fun _ _ _ _ _ _ us hl => match us, hl with | [_], _ => rfl
    g_law_good := PySem.W.mg_of X G a_law_good
    F_law_good := fun_mk (st := s_law_good) l_law_good c_law_good k_law_good
    b_law_good := (fun_mk (st := s_law_good) l_law_good c_law_good k_law_good).binds (ps := ["_law_script", "_law_height"]) fun _ _ _ _ _ _ us hl => match us, hl with | [_, _], _ => rfl
    g_law_read := PySem.W.mg_of X G a_law_read
    F_law_read := fun_mk (st := s_law_read) l_law_read c_law_read k_law_read
    b_law_read := (fun_mk (st := s_law_read) l_law_read c_law_read k_law_read).binds (ps := ["_law_lines"]) fun _ _ _ _ _ _ us hl => match us, hl with | [_], _ => rfl
    g_law_number := PySem.W.mg_of X G a_law_number
    F_law_number := fun_mk (st := s_law_number) l_law_number c_law_number k_law_number
    b_law_number := (fun_mk (st := s_law_number) l_law_number c_law_number k_law_number).binds (ps := ["_law_told", "_law_due"]) fun _ _ _ _ _ _ us hl => match us, hl with | [_, _], _ => rfl
    g_law := PySem.W.mg_of X G a_law
    F_law := fun_mk (st := s_law) l_law c_law k_law
    b_law := (fun_mk (st := s_law) l_law c_law k_law).binds (ps := ["_law_script"]) fun _ _ _ _ _ _ us hl => match us, hl with | [_], _ => rfl
    x_RimError := ⟨ov_RimError, hd_RimError, sa_RimError, ga_RimError, gh_RimError, ca_RimError, cg, ct⟩
    mk_RimError := mk_RimError
    x_NoSide := ⟨ov_NoSide, hd_NoSide, sa_NoSide, ga_NoSide, gh_NoSide, ca_NoSide, cg, ct⟩
    mk_NoSide := mk_NoSide
    k_NoSide := ⟨mk_NoSide, a_NoSide_init, i_NoSide_init, kc_NoSide⟩
    x_NoRow := ⟨ov_NoRow, hd_NoRow, sa_NoRow, ga_NoRow, gh_NoRow, ca_NoRow, cg, ct⟩
    mk_NoRow := mk_NoRow
    k_NoRow := ⟨mk_NoRow, a_NoRow_init, i_NoRow_init, kc_NoRow⟩
    x_OldSeat := ⟨ov_OldSeat, hd_OldSeat, sa_OldSeat, ga_OldSeat, gh_OldSeat, ca_OldSeat, cg, ct⟩
    mk_OldSeat := mk_OldSeat
    k_OldSeat := ⟨mk_OldSeat, a_OldSeat_init, i_OldSeat_init, kc_OldSeat⟩
    x_BadLine := ⟨ov_BadLine, hd_BadLine, sa_BadLine, ga_BadLine, gh_BadLine, ca_BadLine, cg, ct⟩
    mk_BadLine := mk_BadLine
    k_BadLine := ⟨mk_BadLine, a_BadLine_init, i_BadLine_init, kc_BadLine⟩
    c_Side := ⟨pg_Side, hd_Side, po_Side, sa_Side⟩
    ca_Side := ca_Side
    mo_Side := mo_Side
    k_Side := ⟨mk_Side, a_Side_init, i_Side_init, kc_Side⟩
    c_LeftSide := ⟨pg_LeftSide, hd_LeftSide, po_LeftSide, sa_LeftSide⟩
    ca_LeftSide := ca_LeftSide
    mo_LeftSide := mo_LeftSide
    k_LeftSide := ⟨mk_LeftSide, a_LeftSide_init, i_Side_init, kc_LeftSide⟩
    c_RightSide := ⟨pg_RightSide, hd_RightSide, po_RightSide, sa_RightSide⟩
    ca_RightSide := ca_RightSide
    mo_RightSide := mo_RightSide
    k_RightSide := ⟨mk_RightSide, a_RightSide_init, i_Side_init, kc_RightSide⟩
    c_Picture := ⟨pg_Picture, hd_Picture, po_Picture, sa_Picture⟩
    ca_Picture := ca_Picture
    mo_Picture := mo_Picture
    k_Picture := ⟨mk_Picture, a_Picture_init, i_Picture_init, kc_Picture⟩
    m_Picture_put := ⟨a_Picture_put, i_Picture_put, k_Picture_put⟩
    m_Picture_open_seat := ⟨a_Picture_open_seat, i_Picture_open_seat, k_Picture_open_seat⟩
    m_Picture_points := ⟨a_Picture_points, i_Picture_points, k_Picture_points⟩
    m_Picture_check_cell := ⟨a_Picture_check_cell, i_Picture_check_cell, k_Picture_check_cell⟩
    m_Picture_check_lines := ⟨a_Picture_check_lines, i_Picture_check_lines, k_Picture_check_lines⟩
    m_Picture_check_seat := ⟨a_Picture_check_seat, i_Picture_check_seat, k_Picture_check_seat⟩
    cg := cg
    ct := ct
    n_Picture_height := n_Picture_height
    n_Picture_width := n_Picture_width
    n_Picture_placed := n_Picture_placed
    n_Picture_opened := n_Picture_opened
    n_BadLine_line := n_BadLine_line
    n_BadLine_row := n_BadLine_row
    n_NoRow_line := n_NoRow_line
    n_NoRow_row := n_NoRow_row
    n_NoSide_side := n_NoSide_side
    n_OldSeat_side := n_OldSeat_side
    n_OldSeat_row := n_OldSeat_row
    n_Side_width := n_Side_width
    n_LeftSide_width := n_LeftSide_width
    n_RightSide_width := n_RightSide_width
    n_ValueError := PySem.W.mg_none_of X G n_ValueError
    n_bool := PySem.W.mg_none_of X G n_bool
    n_enumerate := PySem.W.mg_none_of X G n_enumerate
    n_int := PySem.W.mg_none_of X G n_int
    n_isinstance := PySem.W.mg_none_of X G n_isinstance
    n_len := PySem.W.mg_none_of X G n_len
    n_list := PySem.W.mg_none_of X G n_list
    n_max := PySem.W.mg_none_of X G n_max
    n_min := PySem.W.mg_none_of X G n_min
    n_range := PySem.W.mg_none_of X G n_range
    n_str := PySem.W.mg_none_of X G n_str
    mro_BadLine_BadLine := mro_BadLine_BadLine
    mro_NoRow_BadLine := mro_NoRow_BadLine
    mro_NoRow_NoRow := mro_NoRow_NoRow
    kit_BadLine_RimError := kit_BadLine_RimError
    kitv_BadLine := kitv_BadLine
    v_MOST_ROWS := ⟨_, PySem.W.mg_of X G v_MOST_ROWS⟩
    v_MOST_COLUMNS := ⟨_, PySem.W.mg_of X G v_MOST_COLUMNS⟩
    v_MOST_POINTS := ⟨_, PySem.W.mg_of X G v_MOST_POINTS⟩
    g_MIRRORED_SIDES := PySem.W.mg_of X G g_MIRRORED_SIDES
    D_MIRRORED_SIDES := ⟨ns_MIRRORED_SIDES, _, _, l_MIRRORED_SIDES, .cons rfl ⟨_, rfl⟩ ⟨_, rfl⟩ (.cons rfl ⟨_, rfl⟩ ⟨_, rfl⟩ (.cons rfl ⟨_, rfl⟩ ⟨_, rfl⟩ (.nil))), by decide⟩ }⟩
theorem sc_NoSide_init : FnScope ["self", "side"] ["self", "side"] (defScope s_NoSide_init) := ⟨rfl, rfl, rfl, by decide +kernel, rfl, by decide +kernel, by decide +kernel⟩
theorem sc_NoRow_init : FnScope ["self", "row"] ["self", "row"] (defScope s_NoRow_init) := ⟨rfl, rfl, rfl, by decide +kernel, rfl, by decide +kernel, by decide +kernel⟩
theorem sc_OldSeat_init : FnScope ["self", "side", "row"] ["self", "side", "row"] (defScope s_OldSeat_init) := ⟨rfl, rfl, rfl, by decide +kernel, rfl, by decide +kernel, by decide +kernel⟩
theorem sc_BadLine_init : FnScope ["self", "line"] ["self", "line"] (defScope s_BadLine_init) := ⟨rfl, rfl, rfl, by decide +kernel, rfl, by decide +kernel, by decide +kernel⟩
theorem sc_Side_init : FnScope ["self", "width"] ["self", "width"] (defScope s_Side_init) := ⟨rfl, rfl, rfl, by decide +kernel, rfl, by decide +kernel, by decide +kernel⟩
theorem sc_side_of : FnScope ["word", "width"] ["word", "width"] (defScope s_side_of) := ⟨rfl, rfl, rfl, by decide +kernel, rfl, by decide +kernel, by decide +kernel⟩
theorem sc_is_whole : FnScope ["thing", "low", "high"] ["thing", "low", "high"] (defScope s_is_whole) := ⟨rfl, rfl, rfl, by decide +kernel, rfl, by decide +kernel, by decide +kernel⟩
theorem sc_is_name : FnScope ["thing"] ["thing"] (defScope s_is_name) := ⟨rfl, rfl, rfl, by decide +kernel, rfl, by decide +kernel, by decide +kernel⟩
theorem sc_Picture_init : FnScope ["self", "width", "height"] ["self", "width", "height"] (defScope s_Picture_init) := ⟨rfl, rfl, rfl, by decide +kernel, rfl, by decide +kernel, by decide +kernel⟩
theorem sc_Picture_put : FnScope ["self", "name", "x", "y", "sides", "low", "high", "highest"] ["self", "name", "x", "y", "sides", "low", "high"] (defScope s_Picture_put) := ⟨rfl, rfl, rfl, by decide +kernel, rfl, by decide +kernel, by decide +kernel⟩
theorem sc_Picture_open_seat : FnScope ["self", "side", "row"] ["self", "side", "row"] (defScope s_Picture_open_seat) := ⟨rfl, rfl, rfl, by decide +kernel, rfl, by decide +kernel, by decide +kernel⟩
theorem sc_Picture_points : FnScope ["self"] ["self"] (defScope s_Picture_points) := ⟨rfl, rfl, rfl, by decide +kernel, rfl, by decide +kernel, by decide +kernel⟩
theorem sc_Picture_check_cell : FnScope ["self", "x", "y"] ["self", "x", "y"] (defScope s_Picture_check_cell) := ⟨rfl, rfl, rfl, by decide +kernel, rfl, by decide +kernel, by decide +kernel⟩
theorem sc_Picture_check_lines : FnScope ["self", "name", "x", "y", "others", "other"] ["self", "name", "x", "y"] (defScope s_Picture_check_lines) := ⟨rfl, rfl, rfl, by decide +kernel, rfl, by decide +kernel, by decide +kernel⟩
theorem sc_Picture_check_seat : FnScope ["self", "side", "row"] ["self", "side", "row"] (defScope s_Picture_check_seat) := ⟨rfl, rfl, rfl, by decide +kernel, rfl, by decide +kernel, by decide +kernel⟩
theorem sc_picture_of : FnScope ["lines", "size", "width", "height", "picture", "number", "line"] ["lines"] (defScope s_picture_of) := ⟨rfl, rfl, rfl, by decide +kernel, rfl, by decide +kernel, by decide +kernel⟩
theorem sc_do_line : FnScope ["picture", "number", "words", "rows", "point", "row", "name", "x", "y", "sides", "low", "high"] ["picture", "number", "words"] (defScope s_do_line) := ⟨rfl, rfl, rfl, by decide +kernel, rfl, by decide +kernel, by decide +kernel⟩
theorem sc_words_of : FnScope ["line", "words"] ["line"] (defScope s_words_of) := ⟨rfl, rfl, rfl, by decide +kernel, rfl, by decide +kernel, by decide +kernel⟩
theorem sc_frame_of : FnScope ["words"] ["words"] (defScope s_frame_of) := ⟨rfl, rfl, rfl, by decide +kernel, rfl, by decide +kernel, by decide +kernel⟩
theorem sc_rows_of : FnScope ["words", "spans", "rows", "span"] ["words"] (defScope s_rows_of) := ⟨rfl, rfl, rfl, by decide +kernel, rfl, by decide +kernel, by decide +kernel⟩
theorem sc_span_of : FnScope ["word", "ends"] ["word"] (defScope s_span_of) := ⟨rfl, rfl, rfl, by decide +kernel, rfl, by decide +kernel, by decide +kernel⟩
theorem sc_point_of : FnScope ["words", "numbers", "x", "y", "sides", "low", "high"] ["words"] (defScope s_point_of) := ⟨rfl, rfl, rfl, by decide +kernel, rfl, by decide +kernel, by decide +kernel⟩
theorem sc_numbers_of : FnScope ["words", "numbers"] ["words"] (defScope s_numbers_of) := ⟨rfl, rfl, rfl, by decide +kernel, rfl, by decide +kernel, by decide +kernel⟩
theorem sc_number_of : FnScope ["word", "sign"] ["word"] (defScope s_number_of) := ⟨rfl, rfl, rfl, by decide +kernel, rfl, by decide +kernel, by decide +kernel⟩
theorem sc_law_cell : FnScope ["_law_script", "_law_k"] ["_law_script", "_law_k"] (defScope s_law_cell) := ⟨rfl, rfl, rfl, by decide +kernel, rfl, by decide +kernel, by decide +kernel⟩
theorem sc_law_mix : FnScope ["_law_cell_here", "_law_k", "_law_number_here"] ["_law_cell_here", "_law_k"] (defScope s_law_mix) := ⟨rfl, rfl, rfl, by decide +kernel, rfl, by decide +kernel, by decide +kernel⟩
theorem sc_law_digits : FnScope ["_law_cell_here", "_law_k"] ["_law_cell_here", "_law_k"] (defScope s_law_digits) := ⟨rfl, rfl, rfl, by decide +kernel, rfl, by decide +kernel, by decide +kernel⟩
theorem sc_law_whole : FnScope ["_law_found"] ["_law_found"] (defScope s_law_whole) := ⟨rfl, rfl, rfl, by decide +kernel, rfl, by decide +kernel, by decide +kernel⟩
theorem sc_law_bad_rims : FnScope ["_law_a", "_law_b", "_law_low", "_law_high", "_law_some"] ["_law_a", "_law_b"] (defScope s_law_bad_rims) := ⟨rfl, rfl, rfl, by decide +kernel, rfl, by decide +kernel, by decide +kernel⟩
theorem sc_law_bad_dots : FnScope ["_law_a", "_law_b", "_law_x", "_law_y", "_law_some"] ["_law_a", "_law_b"] (defScope s_law_bad_dots) := ⟨rfl, rfl, rfl, by decide +kernel, rfl, by decide +kernel, by decide +kernel⟩
theorem sc_law_bad : FnScope ["_law_cell_here", "_law_a", "_law_b", "_law_some"] ["_law_cell_here"] (defScope s_law_bad) := ⟨rfl, rfl, rfl, by decide +kernel, rfl, by decide +kernel, by decide +kernel⟩
theorem sc_law_bad_first : FnScope ["_law_cell_here", "_law_some"] ["_law_cell_here"] (defScope s_law_bad_first) := ⟨rfl, rfl, rfl, by decide +kernel, rfl, by decide +kernel, by decide +kernel⟩
theorem sc_law_thing : FnScope ["_law_cell_here"] ["_law_cell_here"] (defScope s_law_thing) := ⟨rfl, rfl, rfl, by decide +kernel, rfl, by decide +kernel, by decide +kernel⟩
theorem sc_law_no_list : FnScope ["_law_cell_here"] ["_law_cell_here"] (defScope s_law_no_list) := ⟨rfl, rfl, rfl, by decide +kernel, rfl, by decide +kernel, by decide +kernel⟩
theorem sc_law_good : FnScope ["_law_script", "_law_height", "_law_lines", "_law_k", "_law_cell_here"] ["_law_script", "_law_height"] (defScope s_law_good) := ⟨rfl, rfl, rfl, by decide +kernel, rfl, by decide +kernel, by decide +kernel⟩
theorem sc_law_read : FnScope ["_law_lines", "_law_told", "e"] ["_law_lines"] (defScope s_law_read) := ⟨rfl, rfl, rfl, by decide +kernel, rfl, by decide +kernel, by decide +kernel⟩
theorem sc_law_number : FnScope ["_law_told", "_law_due"] ["_law_told", "_law_due"] (defScope s_law_number) := ⟨rfl, rfl, rfl, by decide +kernel, rfl, by decide +kernel, by decide +kernel⟩
theorem sc_law : FnScope ["_law_script", "_law_height", "_law_good_here", "_law_k", "_law_cell_here", "_law_at", "_law_bad_here", "_law_lines", "_law_due", "_law_handed"] ["_law_script"] (defScope s_law) := ⟨rfl, rfl, rfl, by decide +kernel, rfl, by decide +kernel, by decide +kernel⟩
end S23
set_option maxRecDepth 100000
set_option maxHeartbeats 4000000
namespace S23
open PySem L2 XL PyProof.Rows
theorem kit_same {K : PySem.W.Frag} {v : Value} : PySem.W.kitOne K v v = some true := if_pos (by simp)
theorem same_upd {H H' : Hp} {p : Addr} {o : HO} (s : Same H H') (hp : H' p = none) : Same H (L2.upd H' p o) := fun b u z => by
  have z' := s b u z
  rw [upd_ne (ne_of_none z' hp)]
  exact z'
theorem same2 {H : Hp} {x dx : Addr} {a b c : HO} (hx : H x = none) (hd : H dx = none) : Same H (upd (upd (upd H dx a) x b) x c) := fun y o e => by
  rw [upd_ne (ne_of_none e hx), upd_ne (ne_of_none e hx), upd_ne (ne_of_none e hd)]
  exact e
def sideW (b : Bool) : Str := if b then "left" else "right"
def SideAt (t : Adr) (H : Hp) (p : Addr) (b : Bool) (w : Int) : Prop := ∃ dx, H p = some (.ins (if b then t.C_LeftSide else t.C_RightSide) dx [("width", .int w)])
def spInit (K : PySem.W.Frag) : Sp := fun vs H Q _ => ∃ (p C dx : Addr) (n : Int), vs = [.ref p, .int n] ∧ H p = some (.ins C dx []) ∧ Cls K C ∧ NoAttr K C "width" ∧ Q .non (upd H p (.ins C dx [("width", .int n)]))
section
variable {P : Program} {w : World} {K : PySem.W.Frag} {mg : Str → Option Value} {base : Heap} {t : Adr}
theorem ok_Side_init (T : Txt w K mg t) : FnOk true P w K mg base (CXo P w) 1 t.f_Side_init t.d_Side_init ["self", "width"] (spInit K) := by
  refine T.F_Side_init.okn (k := 0) sc_Side_init (fun vs H Q E h => ?_) (fun cdv A outer s H vs Q E hr h => ?_)
  · obtain ⟨p, C, dx, n, rfl, _⟩ := h
    rfl
  · obtain ⟨p, C, dx, n, rfl, h⟩ := h
    refine ⟨_, pss_one (ps_fld (pv 0) (pv 1) rfl), ?_⟩
    obtain ⟨hp, c, na, q⟩ := h
    exact ⟨_, rfl, _, rfl, p, C, dx, [], rfl, hp, c, na, (by show 0 < 1000; decide), q⟩
end
def isNm (x : Str) : Bool := decide (x.length = 1) && (!decide (x.cps.toList < [97]) && !decide ([122] < x.cps.toList))
def spIsW : Sp := fun vs H Q _ => ∃ (i lo hi : Int), vs = [.int i, .int lo, .int hi] ∧ lo ≤ i ∧ i ≤ hi ∧ Q (.bl true) H
def spIsN : Sp := fun vs H Q _ => ∃ (x : Str), vs = [.str x] ∧ isNm x = true ∧ Q (.bl true) H
theorem a_cps : ("a" : Str).cps.toList = [97] := by decide +kernel
theorem z_cps : ("z" : Str).cps.toList = [122] := by decide +kernel
section
variable {P : Program} {w : World} {K : PySem.W.Frag} {mg : Str → Option Value} {base : Heap} {t : Adr}
theorem ok_is_whole (T : Txt w K mg t) : FnOk true P w K mg base (CXo P w) 1 t.f_is_whole t.d_is_whole ["thing", "low", "high"] (spIsW) := by
  refine T.F_is_whole.okn (k := 0) sc_is_whole (fun vs H Q E h => ?_) (fun cdv A outer s H vs Q E hr h => ?_)
  · obtain ⟨i, lo, hi, rfl, _⟩ := h
    rfl
  · obtain ⟨i, lo, hi, rfl, h⟩ := h
    refine ⟨_, pss_one (ps_ret (pe_and (pe_callB call_isin rfl T.n_isinstance boot_isinstance (pa_cons (pv 0) (pa_cons (pe_bltn (v := .ty "int") rfl T.n_int boot_int rfl) (pa_nil)))) (pe_and (pe_not (pe_callB call_isin rfl T.n_isinstance boot_isinstance (pa_cons (pv 0) (pa_cons (pe_bltn (v := .ty "bool") rfl T.n_bool boot_bool rfl) (pa_nil))))) (pe_one (pe_chain op_le op_le (pv 1) (pv 0) (pv 2)))))), ?_⟩
    obtain ⟨c1, c2, q⟩ := h
    refine ⟨_, rfl, _, _, rfl, .inl ⟨_, _, true, .int i, rfl, kit_same, true, rfl, iteT ?_⟩⟩
    refine ⟨_, rfl, _, _, rfl, .inl ⟨_, _, false, .int i, rfl, (by rfl), false, rfl, true, rfl, iteT ?_⟩⟩
    refine ⟨_, rfl, _, rfl, _, _, rfl, rfl, _, rfl, ite2 (fun c => ?_) (fun c => ?_)⟩
    · refine ⟨_, rfl, _, _, rfl, rfl, ?_⟩
      show Q (.bl (decide (i ≤ hi))) H
      rw [decide_eq_true c2]
      exact q
    · exact absurd (decide_eq_true c1) c
theorem ok_is_name (T : Txt w K mg t) : FnOk true P w K mg base (CXo P w) 1 t.f_is_name t.d_is_name ["thing"] (spIsN) := by
  refine T.F_is_name.okn (k := 0) sc_is_name (fun vs H Q E h => ?_) (fun cdv A outer s H vs Q E hr h => ?_)
  · obtain ⟨x, rfl, _⟩ := h
    rfl
  · obtain ⟨x, rfl, h⟩ := h
    refine ⟨_, pss_one (ps_ret (pe_and (pe_callB call_isin rfl T.n_isinstance boot_isinstance (pa_cons (pv 0) (pa_cons (pe_bltn (v := .ty "str") rfl T.n_str boot_str rfl) (pa_nil)))) (pe_and (pe_cmpR op_eq (pe_callB call_len_str rfl T.n_len boot_len (pa_cons (pv 0) (pa_nil))) (pe_int) (nomark _)) (pe_one (pe_chain op_le_str op_le_str (pe_str) (pv 0) (pe_str)))))), ?_⟩
    obtain ⟨hn, q⟩ := h
    unfold isNm at hn
    simp only [Bool.and_eq_true, decide_eq_true_eq, Bool.not_eq_true', decide_eq_false_iff_not] at hn
    obtain ⟨l1, n1, n2⟩ := hn
    refine ⟨_, rfl, _, _, rfl, .inl ⟨_, _, true, .str x, rfl, kit_same, true, rfl, iteT ?_⟩⟩
    refine ⟨_, rfl, _, rfl, (by rw [l1]; decide), rfl, _, rfl, ite2 (fun c => ?_) (fun c => ?_)⟩
    · refine ⟨_, rfl, _, _, rfl, rfl, _, rfl, ite2 (fun d => ?_) (fun d => ?_)⟩
      · refine ⟨_, _, rfl, rfl, ?_⟩
        rw [z_cps, decide_eq_false n2]
        exact q
      · rw [a_cps, decide_eq_false n1] at d
        exact absurd rfl d
    · exact absurd (decide_eq_true (by rw [l1]; rfl)) c
end
section
end
end S23
set_option maxRecDepth 100000
set_option maxHeartbeats 4000000
namespace S23
open PySem L2 XL PyProof.Rows
structure Pt where
  nm : Str
  x : Int
  y : Int
  sd : Str
  lo : Int
  hi : Int
def ptV (p : Pt) : List V := [.int p.x, .int p.y, .str p.sd, .int p.lo, .int p.hi]
inductive Pl (H : Hp) : List Pt → List (Key × V) → Prop
  | nil : Pl H [] []
  | cons {p : Pt} {q : Addr} {ps : List Pt} {kvs : List (Key × V)} (h : H q = some (.tup (ptV p))) (r : Pl H ps kvs) : Pl H (p :: ps) ((.inr p.nm, .ref q) :: kvs)
inductive PtsL (H : Hp) : List Pt → List Addr → Prop
  | nil : PtsL H [] []
  | cons {p : Pt} {q : Addr} {ps : List Pt} {qs : List Addr} (h : H q = some (.tup (.str p.nm :: ptV p))) (r : PtsL H ps qs) : PtsL H (p :: ps) (q :: qs)
theorem tT_if {σ : L2.St} {H : Hp} {A B : Hp → Prop} (h : A H) : tTrue σ H (fun b H4 => if b = true then A H4 else B H4) := by
  show if true = true then A H else B H
  rw [if_pos rfl]
  exact h
def Tups (H H' : Hp) : Prop := ∀ b xs, H b = some (.tup xs) → H' b = some (.tup xs)
theorem Pl.keep {H H' : Hp} (s : Tups H H') {ps : List Pt} {kvs : List (Key × V)} (h : Pl H ps kvs) : Pl H' ps kvs := by
  induction h with
  | nil => exact .nil
  | cons h _ ih => exact .cons (s _ _ h) ih
theorem PtsL.keep {H H' : Hp} (s : Tups H H') {ps : List Pt} {qs : List Addr} (h : PtsL H ps qs) : PtsL H' ps qs := by
  induction h with
  | nil => exact .nil
  | cons h _ ih => exact .cons (s _ _ h) ih
theorem Pl.len {H : Hp} {ps : List Pt} {kvs : List (Key × V)} (h : Pl H ps kvs) : kvs.length = ps.length := by
  induction h with
  | nil => rfl
  | cons _ _ ih => simp [ih]
theorem PtsL.len {H : Hp} {ps : List Pt} {qs : List Addr} (h : PtsL H ps qs) : qs.length = ps.length := by
  induction h with
  | nil => rfl
  | cons _ _ ih => simp [ih]
theorem Pl.no {H : Hp} {ps : List Pt} {kvs : List (Key × V)} (h : Pl H ps kvs) {nm : Str} (e : ∀ p ∈ ps, p.nm ≠ nm) : valV kvs (.inr nm) = none := by
  induction h with
  | nil => rfl
  | @cons p q ps kvs h _ ih =>
    rw [valV_neg (fun z => e p List.mem_cons_self (Sum.inr.inj z))]
    exact ih fun p' hp => e p' (List.mem_cons_of_mem _ hp)
theorem Pl.get {H : Hp} {ps : List Pt} {kvs : List (Key × V)} (h : Pl H ps kvs) {i : Nat} {k : Key} {x : V} (e : kvs[i]? = some (k, x)) : ∃ p q, ps[i]? = some p ∧ k = .inr p.nm ∧ x = .ref q ∧ H q = some (.tup (ptV p)) := by
  induction h generalizing i with
  | nil => simp at e
  | @cons p q ps kvs h _ ih =>
    cases i with
    | zero =>
      simp at e
      exact ⟨p, q, rfl, e.1.symm, e.2.symm, h⟩
    | succ j => exact ih (by simpa using e)
theorem PtsL.get {H : Hp} {ps : List Pt} {qs : List Addr} (h : PtsL H ps qs) {i : Nat} {q : Addr} (e : qs[i]? = some q) : ∃ p, ps[i]? = some p ∧ H q = some (.tup (.str p.nm :: ptV p)) := by
  induction h generalizing i with
  | nil => simp at e
  | @cons p q' ps qs h _ ih =>
    cases i with
    | zero =>
      simp at e
      subst e
      exact ⟨p, rfl, h⟩
    | succ j => exact ih (by simpa using e)
theorem Pl.snoc {H : Hp} {ps : List Pt} {kvs : List (Key × V)} (h : Pl H ps kvs) {p : Pt} {q : Addr} (e : H q = some (.tup (ptV p))) : Pl H (ps ++ [p]) (kvs ++ [(.inr p.nm, .ref q)]) := by
  induction h with
  | nil => exact .cons e .nil
  | cons h _ ih => exact .cons h ih
theorem PtsL.snoc {H : Hp} {ps : List Pt} {qs : List Addr} (h : PtsL H ps qs) {p : Pt} {q : Addr} (e : H q = some (.tup (.str p.nm :: ptV p))) : PtsL H (ps ++ [p]) (qs ++ [q]) := by
  induction h with
  | nil => exact .cons e .nil
  | cons h _ ih => exact .cons h ih
abbrev picF (w h : Int) (dp do_ : Addr) : List (Str × V) := [("width", .int w), ("height", .int h), ("placed", .ref dp), ("opened", .ref do_)]
structure Pic (t : Adr) (H : Hp) (a dp do_ : Addr) (w h : Int) (ps : List Pt) : Prop where
  ins : ∃ dx, H a = some (.ins t.C_Picture dx (picF w h dp do_))
  pl : ∃ kvs, H dp = some (.dK kvs) ∧ Pl H ps kvs
  w1 : 1 ≤ w
  w2 : w ≤ 30
  h1 : 1 ≤ h
  h2 : h ≤ 16
  len : ps.length ≤ 12
theorem Same.tups {H H' : Hp} (s : Same H H') : Tups H H' := fun b xs e => s b _ e
theorem Pic.same {t : Adr} {H H' : Hp} {a dp do_ : Addr} {w h : Int} {ps : List Pt} (s : Same H H') (p : Pic t H a dp do_ w h ps) : Pic t H' a dp do_ w h ps :=
  ⟨let ⟨dx, e⟩ := p.ins; ⟨dx, s _ _ e⟩, let ⟨kvs, e, q⟩ := p.pl; ⟨kvs, s _ _ e, q.keep (Same.tups s)⟩, p.w1, p.w2, p.h1, p.h2, p.len⟩
theorem lk_no {w h : Int} {dp do_ : Addr} {m : Str} (e : ((["width", "height", "placed", "opened"] : List Str).all fun k => !(m == k)) = true) : (picF w h dp do_).lookup m = none := by
  simp only [List.all_cons, List.all_nil, Bool.and_eq_true, Bool.not_eq_true'] at e
  obtain ⟨e1, e2, e3, e4, _⟩ := e
  unfold picF
  rw [List.lookup_cons, e1]
  show List.lookup m [("height", V.int h), ("placed", V.ref dp), ("opened", V.ref do_)] = none
  rw [List.lookup_cons, e2]
  show List.lookup m [("placed", V.ref dp), ("opened", V.ref do_)] = none
  rw [List.lookup_cons, e3]
  show List.lookup m [("opened", V.ref do_)] = none
  rw [List.lookup_cons, e4]
  rfl
theorem lkW {w h : Int} {dp do_ : Addr} : (picF w h dp do_).lookup ("width" : Str) = some (.int w) := by
  unfold picF
  rw [List.lookup_cons, show (("width" : Str) == "width") = true from by decide +kernel]
theorem lkH {w h : Int} {dp do_ : Addr} : (picF w h dp do_).lookup ("height" : Str) = some (.int h) := by
  unfold picF
  rw [List.lookup_cons, show (("height" : Str) == "width") = false from by decide +kernel]
  show List.lookup ("height" : Str) [("height", V.int h), ("placed", V.ref dp), ("opened", V.ref do_)] = _
  rw [List.lookup_cons, show (("height" : Str) == "height") = true from by decide +kernel]
theorem lkP {w h : Int} {dp do_ : Addr} : (picF w h dp do_).lookup ("placed" : Str) = some (.ref dp) := by
  unfold picF
  rw [List.lookup_cons, show (("placed" : Str) == "width") = false from by decide +kernel]
  show List.lookup ("placed" : Str) [("height", V.int h), ("placed", V.ref dp), ("opened", V.ref do_)] = _
  rw [List.lookup_cons, show (("placed" : Str) == "height") = false from by decide +kernel]
  show List.lookup ("placed" : Str) [("placed", V.ref dp), ("opened", V.ref do_)] = _
  rw [List.lookup_cons, show (("placed" : Str) == "placed") = true from by decide +kernel]
def spPInit (t : Adr) : Sp := fun vs H Q _ => ∃ (p dx : Addr) (w h : Int), vs = [.ref p, .int w, .int h] ∧ H p = some (.ins t.C_Picture dx []) ∧ 1 ≤ w ∧ w ≤ 30 ∧ 1 ≤ h ∧ h ≤ 16 ∧
  ∀ H' dp do_, H dp = none → H do_ = none → (∀ b u, b ≠ p → H b = some u → H' b = some u) → Pic t H' p dp do_ w h [] → H' do_ = some (.dT []) → Q .non H'
def spCC (t : Adr) : Sp := fun vs H Q _ => ∃ (a dp do_ : Addr) (pw ph : Int) (ps : List Pt) (x y : Int), vs = [.ref a, .int x, .int y] ∧ Pic t H a dp do_ pw ph ps ∧ 1 ≤ x ∧ x ≤ pw ∧ 1 ≤ y ∧ y ≤ ph ∧ Q .non H
def spPts (t : Adr) : Sp := fun vs H Q _ => ∃ (a dp do_ : Addr) (pw ph : Int) (ps : List Pt), vs = [.ref a] ∧ Pic t H a dp do_ pw ph ps ∧ ∀ H' l qs, Same H H' → H' l = some (.lst (qs.map V.ref)) → PtsL H' ps qs → Q (.ref l) H'
def spCL (t : Adr) : Sp := fun vs H Q _ => ∃ (a dp do_ : Addr) (pw ph : Int) (ps : List Pt) (nm : Str) (x y : Int), vs = [.ref a, .str nm, .int x, .int y] ∧ Pic t H a dp do_ pw ph ps ∧ (∀ p ∈ ps, p.nm ≠ nm → p.x ≠ x ∧ p.y ≠ y) ∧ ∀ H', Same H H' → Q .non H'
def spPut (t : Adr) : Sp := fun vs H Q _ => ∃ (a dp do_ : Addr) (pw ph : Int) (ps : List Pt) (nm : Str) (x y : Int) (sd : Str) (lo hi : Int) (hv : V), vs = [.ref a, .str nm, .int x, .int y, .str sd, .int lo, hv] ∧ Pic t H a dp do_ pw ph ps ∧
  ((hv = .non ∧ hi = ph) ∨ hv = .int hi) ∧ isNm nm = true ∧ 1 ≤ x ∧ x ≤ pw ∧ 1 ≤ y ∧ y ≤ ph ∧ (sd = "left" ∨ sd = "right" ∨ sd = "both") ∧ 1 ≤ lo ∧ lo ≤ hi ∧ hi ≤ ph ∧ (∀ p ∈ ps, p.nm ≠ nm ∧ p.x ≠ x ∧ p.y ≠ y) ∧ ps.length < 12 ∧
  ∀ H', (∀ b u, b ≠ dp → H b = some u → H' b = some u) → Pic t H' a dp do_ pw ph (ps ++ [⟨nm, x, y, sd, lo, hi⟩]) → Q .non H'
section
variable {P : Program} {w : World} {K : PySem.W.Frag} {mg : Str → Option Value} {base : Heap} {t : Adr}
theorem ok_Picture_init (T : Txt w K mg t) : FnOk true P w K mg base (CXo P w) 2 t.f_Picture_init t.d_Picture_init ["self", "width", "height"] (spPInit t) := by
  refine T.F_Picture_init.okn (k := 1) sc_Picture_init (fun vs H Q E h => ?_) (fun cdv A outer s H vs Q E hr h => ?_)
  · obtain ⟨p, dx, pw, ph, rfl, _⟩ := h
    rfl
  · obtain ⟨p, dx, pw, ph, rfl, h⟩ := h
    refine ⟨_, pss_cons (ps_if (PW.pt (pw_or (pt_not (pt_val (pe_call (ok_is_whole T) (hr.mono (by decide)) rfl T.g_is_whole T.F_is_whole.kp T.b_is_whole .nil pass_none (pa_cons (pv 1) (pa_cons (pe_int) (pa_cons (pe_glob (v := .int 30) rfl T.v_MOST_COLUMNS.choose_spec ⟨_, rfl⟩) (pa_nil))))))) (pw_or1 (pt_not (pt_val (pe_call (ok_is_whole T) (hr.mono (by decide)) rfl T.g_is_whole T.F_is_whole.kp T.b_is_whole .nil pass_none (pa_cons (pv 2) (pa_cons (pe_int) (pa_cons (pe_glob (v := .int 16) rfl T.v_MOST_ROWS.choose_spec ⟨_, rfl⟩) (pa_nil)))))))))) (pss_one (ps_never)) (pss_nil))
      (pss_cons (ps_fld (pv 0) (pv 1) rfl)
      (pss_cons (ps_fld (pv 0) (pv 2) rfl)
      (pss_cons (ps_fld (pv 0) (pe_dnewK) rfl)
      (pss_one (ps_fld (pv 0) (pe_dnewT) rfl))))), ?_⟩
    obtain ⟨hp, w1, w2, h1, h2, q⟩ := h
    refine ⟨_, rfl, pw, 1, 30, rfl, w1, w2, true, rfl, iteF ⟨_, rfl, ph, 1, 16, rfl, h1, h2, true, rfl, iteF ?_⟩⟩
    refine ⟨_, rfl, _, rfl, p, _, dx, _, rfl, hp, T.c_Picture, T.n_Picture_width, (by show 0 < 1000; decide), ?_⟩
    refine ⟨_, rfl, _, rfl, p, _, dx, _, rfl, upd_same, T.c_Picture, T.n_Picture_height, (by show 1 < 1000; decide), ?_⟩
    rw [upd_upd]
    refine fun dp hdp => ?_
    have n1 : p ≠ dp := ne_of_none upd_same hdp
    refine ⟨_, rfl, p, _, dx, _, rfl, (by rw [upd_ne n1]; exact upd_same), T.c_Picture, T.n_Picture_placed, (by show 2 < 1000; decide), fun do_ hdo => ?_⟩
    have n2 : p ≠ do_ := ne_of_none upd_same hdo
    have n3 : dp ≠ do_ := ne_of_none (by rw [upd_ne (Ne.symm n1)]; exact upd_same) hdo
    refine ⟨_, rfl, p, _, dx, _, rfl, (by rw [upd_ne n2]; exact upd_same), T.c_Picture, T.n_Picture_opened, (by show 3 < 1000; decide), ?_⟩
    rw [upd_ne (Ne.symm n1)] at hdp
    have hdo' : H do_ = none := by
      have z := hdo
      rw [upd_ne (Ne.symm n2), upd_ne (Ne.symm n3), upd_ne (Ne.symm n2)] at z
      exact z
    refine q _ dp do_ hdp hdo' (fun b u nb e => ?_) ⟨⟨dx, upd_same⟩, ⟨[], ?_, .nil⟩, w1, w2, h1, h2, Nat.zero_le _⟩ ?_
    · have c1 : b ≠ dp := ne_of_none e hdp
      have c2 : b ≠ do_ := fun z => by
        subst z
        rw [upd_ne nb, upd_ne c1, upd_ne nb] at hdo
        rw [e] at hdo
        cases hdo
      rw [upd_ne nb, upd_ne c2, upd_ne nb, upd_ne c1, upd_ne nb]
      exact e
    · rw [upd_ne (Ne.symm n1), upd_ne n3, upd_ne (Ne.symm n1)]
      exact upd_same
    · rw [upd_ne (Ne.symm n2)]
      exact upd_same
theorem ok_Picture_check_cell (T : Txt w K mg t) : FnOk true P w K mg base (CXo P w) 2 t.f_Picture_check_cell t.d_Picture_check_cell ["self", "x", "y"] (spCC t) := by
  refine T.F_Picture_check_cell.okn (k := 1) sc_Picture_check_cell (fun vs H Q E h => ?_) (fun cdv A outer s H vs Q E hr h => ?_)
  · obtain ⟨a, dp, do_, pw, ph, ps, x, y, rfl, _⟩ := h
    rfl
  · obtain ⟨a, dp, do_, pw, ph, ps, x, y, rfl, h⟩ := h
    refine ⟨_, pss_one (ps_if (PW.pt (pw_or (pt_not (pt_val (pe_call (ok_is_whole T) (hr.mono (by decide)) rfl T.g_is_whole T.F_is_whole.kp T.b_is_whole .nil pass_none (pa_cons (pv 1) (pa_cons (pe_int) (pa_cons (pe_fld (pv 0) rfl) (pa_nil))))))) (pw_or1 (pt_not (pt_val (pe_call (ok_is_whole T) (hr.mono (by decide)) rfl T.g_is_whole T.F_is_whole.kp T.b_is_whole .nil pass_none (pa_cons (pv 2) (pa_cons (pe_int) (pa_cons (pe_fld (pv 0) rfl) (pa_nil)))))))))) (pss_one (ps_never)) (pss_nil)), ?_⟩
    obtain ⟨pic, x1, x2, y1, y2, q⟩ := h
    obtain ⟨⟨dx, hp⟩, _, _⟩ := id pic
    exact ⟨_, rfl, _, rfl, a, _, dx, _, _, rfl, hp, T.c_Picture, T.n_Picture_width, lkW, x, 1, pw, rfl, x1, x2, true, rfl, iteF ⟨_, rfl, _, rfl, a, _, dx, _, _, rfl, hp, T.c_Picture, T.n_Picture_height, lkH, y, 1, ph, rfl, y1, y2, true, rfl, iteF q⟩⟩
theorem ok_Picture_points (T : Txt w K mg t) : FnOk true P w K mg base (CXo P w) 1 t.f_Picture_points t.d_Picture_points ["self"] (spPts t) := by
  refine T.F_Picture_points.okn (k := 0) sc_Picture_points (fun vs H Q E h => ?_) (fun cdv A outer s H vs Q E hr h => ?_)
  · obtain ⟨a, dp, do_, pw, ph, ps, rfl, _⟩ := h
    rfl
  · obtain ⟨a, dp, do_, pw, ph, ps, rfl, h⟩ := h
    refine ⟨_, pss_one (ps_ret (pe_thaw (pe_compG rfl (blkG_of (zs := ["name", "rest"]) (ys := []) (fr := []) (N0 := ["self"]) (sc0 := defScope s_Picture_points) (by decide +kernel) rfl rfl rfl) (pi_items (pe_fld (pv 0) rfl)) (fun _ _ _ _ _ ow nd => (pg_tup rfl (pgs_cons (pg_name (i := 0) nd rfl (Or.inl (ow _ (by simp))) (Or.inr (ow _ (by simp)))) (pgs_cons (pg_name (i := 1) nd rfl (Or.inl (ow _ (by simp))) (Or.inr (ow _ (by simp)))) (pgs_nil))) : PG _ _ (gTup K 2 _))) (gok_tup (goks_cons (by decide) (goks_cons (by decide) (goks_nil)))) (fun _ _ _ _ _ => pif_nil) (fun _ _ _ _ _ => pe_op (r := rCatT K) op_catT (pe_tup (pa_cons (pv 0) (pa_nil))) (pv 1))))), ?_⟩
    obtain ⟨pic, q⟩ := h
    obtain ⟨⟨dx, hp⟩, ⟨kvs, hk, pl⟩, _⟩ := id pic
    refine ⟨_, rfl, a, _, dx, _, _, rfl, hp, T.c_Picture, T.n_Picture_placed, lkP, dp, kvs, rfl, hk, fun ob nf l hl => ?_⟩
    have nl : l ≠ dp := fun z => by
      rw [z, upd_same] at hl
      cases hl
    have hl0 : H l = none := by rwa [upd_ne nl] at hl
    refine compG_by kvs.length (fun i xs H2 => ∃ qs : List Addr, xs = qs.map V.ref ∧ qs.length ≤ i ∧ H2 dp = some (.frz ob (.dK kvs)) ∧ (∀ b u, b ≠ dp → H b = some u → H2 b = some u) ∧ H2 l = some (.lst xs) ∧ PtsL H2 (ps.take i) qs) ?_ ?_ ?_ ?_
    · refine ⟨[], rfl, Nat.le_refl _, ?_, fun b u nb e => ?_, upd_same, by simpa using PtsL.nil⟩
      · rw [upd_ne (Ne.symm nl)]
        exact upd_same
      · rw [upd_ne (ne_of_none e hl0), upd_ne nb]
        exact e
    · rintro i xs H2 lt ⟨qs, _, _, hd, _⟩
      exact ⟨hd, lt⟩
    · rintro i xs H2 v H3 lt ⟨qs, rfl, ql, hd, sm, hl2, pts⟩ ⟨p, k, x, hx, rfl, hpn, rfl⟩ N hN
      obtain ⟨pt, q0, hpt, rfl, rfl, hq0⟩ := pl.get hx
      have e0 : H2 q0 = some (.tup (ptV pt)) := sm _ _ (ne_of hq0 hk (fun z => nomatch z)) hq0
      refine ⟨p, _, rfl, SqT.of upd_same, rfl, _, _, rfl, _, _, rfl, rfl, ?_⟩
      refine tT_if ?_
      have n0 : q0 ≠ p := ne_of_none e0 hpn
      refine ⟨_, rfl, (by show 1 ≤ sizeLine; decide), fun p1 h1 => ⟨_, rfl, p1, q0, _, ptV pt, rfl, rfl, SqT.of upd_same, SqT.of ?_, (by simp), (by show 1 + 5 ≤ sizeLine; decide), (fun z => nomatch z), fun _ p2 h2 => ?_⟩⟩
      · rw [upd_ne (ne_of_none (by rw [upd_ne n0]; exact e0) h1), upd_ne n0]
        exact e0
      have up : ∀ b u, H2 b = some u → (upd (upd (upd H2 p (.tup [.str pt.nm, .ref q0])) p1 (.tup [.str pt.nm])) p2 (.tup ([.str pt.nm] ++ ptV pt))) b = some u := fun b u e => by
        have c1 : b ≠ p := ne_of_none e hpn
        have e1 : upd H2 p (.tup [.str pt.nm, .ref q0]) b = some u := by rw [upd_ne c1]; exact e
        have c2 : b ≠ p1 := ne_of_none e1 h1
        have e2 : upd (upd H2 p (.tup [.str pt.nm, .ref q0])) p1 (.tup [.str pt.nm]) b = some u := by rw [upd_ne c2]; exact e1
        rw [upd_ne (ne_of_none e2 h2)]
        exact e2
      have c3 : l ≠ p2 := ne_of_none (show upd (upd H2 p (.tup [.str pt.nm, .ref q0])) p1 (.tup [.str pt.nm]) l = some (.lst (qs.map V.ref)) from by
        have c1 : l ≠ p := ne_of_none hl2 hpn
        have e1 : upd H2 p (.tup [.str pt.nm, .ref q0]) l = some (.lst (qs.map V.ref)) := by rw [upd_ne c1]; exact hl2
        rw [upd_ne (ne_of_none e1 h1)]
        exact e1) h2
      have tk : ps.take (i + 1) = ps.take i ++ [pt] := by
        rw [List.take_add_one, hpt]
        rfl
      have ll : qs.length < sizeLine := Nat.lt_trans (by have := pl.len; have := pic.len; omega : qs.length < 13) (by decide)
      refine ⟨up _ _ hl2, by rw [List.length_map]; exact ll, hN _ _ ⟨qs ++ [p2], by simp, by simp; omega, ?_, fun b u nb e => ?_, upd_same, ?_⟩⟩
      · rw [upd_ne (Ne.symm nl)]
        exact up _ _ hd
      · have e2 := up _ _ (sm b u nb e)
        rw [upd_ne (ne_of_none e hl0)]
        exact e2
      · rw [tk]
        refine PtsL.snoc (PtsL.keep (fun b xs e => ?_) pts) ?_
        · have e2 := up _ _ e
          rw [upd_ne (ne_of e2 (up _ _ hl2) (fun z => nomatch z))]
          exact e2
        · rw [upd_ne (Ne.symm c3)]
          exact upd_same
    · rintro xs H2 ⟨qs, rfl, _, hd, sm, hl2, pts⟩
      refine ⟨⟨hd, Nat.le_refl _⟩, dp, ob, _, hd, nf, q _ l qs (fun b u e => ?_) ?_ (PtsL.keep (fun b xs e => ?_) (by rw [pl.len, List.take_length] at pts; exact pts))⟩
      · by_cases c : b = dp
        · subst c
          rw [hk] at e
          cases e
          exact upd_same
        · rw [upd_ne c]
          exact sm b u c e
      · rw [upd_ne nl]
        exact hl2
      · rw [upd_ne (ne_of e hd (fun z => nomatch z))]
        exact e
theorem ok_Picture_check_lines (T : Txt w K mg t) : FnOk true P w K mg base (CXo P w) 2 t.f_Picture_check_lines t.d_Picture_check_lines ["self", "name", "x", "y"] (spCL t) := by
  refine T.F_Picture_check_lines.okn (k := 1) sc_Picture_check_lines (fun vs H Q E h => ?_) (fun cdv A outer s H vs Q E hr h => ?_)
  · obtain ⟨a, dp, do_, pw, ph, ps, nm, x, y, rfl, _⟩ := h
    rfl
  · obtain ⟨a, dp, do_, pw, ph, ps, nm, x, y, rfl, h⟩ := h
    refine ⟨_, pss_cons (ps_setcG rfl (blkG_of (zs := ["other"]) (ys := ["name"]) (fr := [1]) (N0 := ["self", "name", "x", "y", "others", "other"]) (sc0 := defScope s_Picture_check_lines) (by decide +kernel) rfl rfl rfl) (pi_list (pe_meth0 (pv 0) T.c_Picture T.m_Picture_points (ok_Picture_points T) (hr.mono (by decide)) T.b_Picture_points .nil pass_none)) (fun _ _ _ _ _ ow nd => pg_name (i := 0) nd rfl (Or.inl (ow _ (by simp))) (Or.inr (ow _ (by simp)))) (gok_name (by decide)) (fun _ _ _ _ _ => pif_one (pt_cmpR op_ne (pe_ix (r := rIxT K) ix_tup (pv 0) (pe_int) (fun _ _ => rfl)) (pv 1) (nomark _))) (fun _ _ _ _ _ => pv 0) (j := 4) rfl (Or.inl rfl))
      (pss_cons (ps_for PassesOwn.never rfl (pi_list (pv 4)) (pg_name (i := 5) sc_Picture_check_lines.nd rfl (Or.inl rfl)) (pss_one (ps_if (pt_cmpR op_eq (pe_ix ix_tup (pv 5) (pe_int) (fun _ _ => rfl)) (pv 2) (nomark _)) (pss_one (ps_never)) (pss_nil))))
      (pss_one (ps_for PassesOwn.never rfl (pi_list (pv 4)) (pg_name (i := 5) sc_Picture_check_lines.nd rfl (Or.inl rfl)) (pss_one (ps_if (pt_cmpR op_eq (pe_ix ix_tup (pv 5) (pe_int) (fun _ _ => rfl)) (pv 3) (nomark _)) (pss_one (ps_never)) (pss_nil)))))), ?_⟩
    obtain ⟨pic, no, q⟩ := h
    obtain ⟨⟨dx, hp⟩, ⟨kvs, hk, pl⟩, _⟩ := id pic
    refine ⟨_, rfl, a, dx, _, rfl, hp, lk_no (by decide +kernel), a, dp, do_, pw, ph, ps, rfl, pic, fun H1 l1 qs s1 hl1 pt1 => ⟨l1, rfl, ⟨_, SqL.of hl1⟩, fun l hl => ?_⟩⟩
    refine compG_by qs.length (fun i xs H2 => ∃ os : List Addr, xs = os.map V.ref ∧ os.length ≤ i ∧ Same H1 H2 ∧ H2 l = some (.lst xs) ∧ ∀ o ∈ os, ∃ p ∈ ps, p.nm ≠ nm ∧ H1 o = some (.tup (.str p.nm :: ptV p))) ?_ ?_ ?_ ?_
    · exact ⟨[], rfl, Nat.le_refl _, same_upd (Same.refl _) hl, upd_same, fun o z => nomatch z⟩
    · rintro i xs H2 lt ⟨os, _, _, s2, _⟩
      exact ⟨_, .ref qs[i], SqL.of (s2 _ _ hl1), by simp [lt]⟩
    · rintro i xs H2 v H3 lt ⟨os, rfl, ol, s2, hl2, hos⟩ ⟨rfl, hv⟩ N hN
      have hv' := hv _ (SqL.of (s2 _ _ hl1))
      rw [List.getElem?_map] at hv'
      obtain ⟨o, ho, rfl⟩ := Option.map_eq_some_iff.mp hv'
      obtain ⟨p, hpp, ep⟩ := pt1.get ho
      refine ⟨_, rfl, o, _, 0, _, rfl, rfl, SqT.of (s2 _ _ ep), rfl, _, rfl, rfl, _, rfl, ite2 (fun c => ?_) (fun c => ?_)⟩
      · have cn : p.nm ≠ nm := fun z => by
          rw [z] at c
          simp at c
        refine ⟨_, rfl, hl2, (by rw [List.length_map]; exact Nat.lt_trans (by have := pt1.len; have := pic.len; omega : os.length < 13) (by decide)), hN _ _ ⟨os ++ [o], by simp, by simp; omega, ?_, upd_same, ?_⟩⟩
        · intro b u e
          by_cases cb : b = l
          · subst cb
            rw [e] at hl
            cases hl
          · rw [upd_ne cb]
            exact s2 b u e
        · intro o' ho'
          rcases List.mem_append.mp ho' with z | z
          · exact hos o' z
          · have := List.mem_singleton.mp z
            subst this
            exact ⟨p, List.mem_of_getElem? hpp, cn, ep⟩
      · exact hN _ _ ⟨os, rfl, by omega, s2, hl2, hos⟩
    · rintro xs H2 ⟨os, rfl, ol, s2, hl2, hos⟩
      refine ⟨⟨_, SqL.of (s2 _ _ hl1), by simp⟩, ?_⟩
      have loop : ∀ (o : Addr), o ∈ os → ∃ p ∈ ps, p.nm ≠ nm ∧ H2 o = some (.tup (.str p.nm :: ptV p)) := fun o ho => by
        obtain ⟨p, h1, h2, h3⟩ := hos o ho
        exact ⟨p, h1, h2, s2 _ _ h3⟩
      refine ⟨_, rfl, l, rfl, ⟨_, SqL.of hl2⟩, for_list (xs := os.map V.ref) (Pv := fun i σ H3 => ∃ v5 : Option V, σ = [some (.ref a), some (.str nm), some (.int x), some (.int y), some (.ref l), v5] ∧ H2 = H3) ⟨_, rfl, rfl⟩ (fun _ _ _ _ ⟨_, _, z⟩ => by rw [← z]; exact SqL.of hl2) ?_ ?_⟩
      · rintro i v σ _ hv ⟨v5, rfl, rfl⟩
        rw [List.getElem?_map] at hv
        obtain ⟨o, ho, rfl⟩ := Option.map_eq_some_iff.mp hv
        obtain ⟨p, m1, m2, m3⟩ := loop o (List.mem_of_getElem? ho)
        refine ⟨_, rfl, o, _, 1, _, rfl, rfl, SqT.of m3, rfl, _, rfl, rfl, _, rfl, ifN (decide_eq_false fun z => (no p m1 m2).1 (V.int.inj z)) ⟨_, rfl, rfl⟩⟩
      · rintro σ _ ⟨v5, rfl, rfl⟩
        refine ⟨_, rfl, l, rfl, ⟨_, SqL.of hl2⟩, for_list (xs := os.map V.ref) (Pv := fun i σ H3 => ∃ v5 : Option V, σ = [some (.ref a), some (.str nm), some (.int x), some (.int y), some (.ref l), v5] ∧ H2 = H3) ⟨_, rfl, rfl⟩ (fun _ _ _ _ ⟨_, _, z⟩ => by rw [← z]; exact SqL.of hl2) ?_ ?_⟩
        · rintro i v σ _ hv ⟨v5, rfl, rfl⟩
          rw [List.getElem?_map] at hv
          obtain ⟨o, ho, rfl⟩ := Option.map_eq_some_iff.mp hv
          obtain ⟨p, m1, m2, m3⟩ := loop o (List.mem_of_getElem? ho)
          refine ⟨_, rfl, o, _, 2, _, rfl, rfl, SqT.of m3, rfl, _, rfl, rfl, _, rfl, ifN (decide_eq_false fun z => (no p m1 m2).2 (V.int.inj z)) ⟨_, rfl, rfl⟩⟩
        · rintro σ _ ⟨v5, rfl, rfl⟩
          exact q _ (s1.trans s2)
theorem ok_Picture_put (T : Txt w K mg t) : FnOk true P w K mg base (CXo P w) 3 t.f_Picture_put t.d_Picture_put ["self", "name", "x", "y", "sides", "low", "high"] (spPut t) := by
  refine T.F_Picture_put.okn (k := 2) sc_Picture_put (fun vs H Q E h => ?_) (fun cdv A outer s H vs Q E hr h => ?_)
  · obtain ⟨a, dp, do_, pw, ph, ps, nm, x, y, sd, lo, hi, hv, rfl, _⟩ := h
    rfl
  · obtain ⟨a, dp, do_, pw, ph, ps, nm, x, y, sd, lo, hi, hv, rfl, h⟩ := h
    refine ⟨_, pss_cons (ps_set (i := 7) sc_Picture_put.nd rfl (Or.inl rfl) (pe_ifExp (pt_cmpR op_isN (pv 6) (pe_non) (nomark _)) (pe_fld (pv 0) rfl) (pv 6)))
      (pss_cons (ps_if (pt_not (pt_val (pe_call (ok_is_name T) (hr.mono (by decide)) rfl T.g_is_name T.F_is_name.kp T.b_is_name .nil pass_none (pa_cons (pv 1) (pa_nil))))) (pss_one (ps_never)) (pss_nil))
      (pss_cons (ps_expr (pe_meth (pv 0) T.c_Picture T.m_Picture_check_cell (ok_Picture_check_cell T) (hr.mono (by decide)) T.b_Picture_check_cell .nil pass_none (pa_cons (pv 2) (pa_cons (pv 3) (pa_nil)))))
      (pss_cons (ps_if (PW.pt (pw_or (pt_not (pt_val (pe_callB call_isin rfl T.n_isinstance boot_isinstance (pa_cons (pv 4) (pa_cons (pe_bltn (v := .ty "str") rfl T.n_str boot_str rfl) (pa_nil)))))) (pw_or1 (pt_cmp (pc_gnotin (pv 4) rfl T.g_MIRRORED_SIDES T.D_MIRRORED_SIDES))))) (pss_one (ps_never)) (pss_nil))
      (pss_cons (ps_if (PW.pt (pw_or (pt_not (pt_val (pe_call (ok_is_whole T) (hr.mono (by decide)) rfl T.g_is_whole T.F_is_whole.kp T.b_is_whole .nil pass_none (pa_cons (pv 5) (pa_cons (pe_int) (pa_cons (pe_fld (pv 0) rfl) (pa_nil))))))) (pw_or1 (pt_not (pt_val (pe_call (ok_is_whole T) (hr.mono (by decide)) rfl T.g_is_whole T.F_is_whole.kp T.b_is_whole .nil pass_none (pa_cons (pv 7) (pa_cons (pv 5) (pa_cons (pe_fld (pv 0) rfl) (pa_nil)))))))))) (pss_one (ps_never)) (pss_nil))
      (pss_cons (ps_if (pt_cmp (pc_din (hu_of hr) (pv 1) (pe_fld (pv 0) rfl))) (pss_one (ps_never)) (pss_nil))
      (pss_cons (ps_if (pt_cmpR op_ge (pe_callB call_lenD rfl T.n_len boot_len (pa_cons (pe_fld (pv 0) rfl) (pa_nil))) (pe_glob (v := .int 12) rfl T.v_MOST_POINTS.choose_spec ⟨_, rfl⟩) (nomark _)) (pss_one (ps_never)) (pss_nil))
      (pss_cons (ps_expr (pe_meth (pv 0) T.c_Picture T.m_Picture_check_lines (ok_Picture_check_lines T) (hr.mono (by decide)) T.b_Picture_check_lines .nil pass_none (pa_cons (pv 1) (pa_cons (pv 2) (pa_cons (pv 3) (pa_nil))))))
      (pss_one (ps_dput (hu_of hr) (pe_fld (pv 0) rfl) (pv 1) (pe_tup (pa_cons (pv 2) (pa_cons (pv 3) (pa_cons (pv 4) (pa_cons (pv 5) (pa_cons (pv 7) (pa_nil))))))) rfl))))))))), ?_⟩
    obtain ⟨pic, hhv, hn, x1, x2, y1, y2, hsd, l1, l2, l3, no, len, q⟩ := h
    obtain ⟨⟨dx, hp⟩, ⟨kvs, hk, pl⟩, _⟩ := id pic
    have hsd' : (valV ([(Sum.inr "left", V.str "right"), (Sum.inr "right", V.str "left"), (Sum.inr "both", V.str "both")] : List (Key × V)) (Sum.inr sd)).isSome = true := by
      rcases hsd with rfl | rfl | rfl <;> decide +kernel
    rcases hhv with ⟨rfl, e⟩ | rfl
    · obtain rfl := e.symm
      refine ⟨_, rfl, rfl, _, rfl, ifP (by rfl) ⟨_, rfl, a, _, dx, _, _, rfl, hp, T.c_Picture, T.n_Picture_height, lkH, ?_⟩⟩
      refine ⟨_, rfl, nm, rfl, hn, true, rfl, iteF ?_⟩
      refine ⟨_, rfl, a, dx, _, rfl, hp, lk_no (by decide +kernel), _, rfl, _, rfl, a, dp, do_, pw, ph, ps, x, y, rfl, pic, x1, x2, y1, y2, ?_⟩
      refine ⟨_, rfl, _, _, rfl, .inl ⟨_, _, true, .str _, rfl, kit_same, true, rfl, iteF ⟨_, rfl, .inr sd, rfl, false, (by rw [hsd']; rfl), iteF ?_⟩⟩⟩
      refine ⟨_, rfl, _, rfl, a, _, dx, _, _, rfl, hp, T.c_Picture, T.n_Picture_height, lkH, lo, 1, ph, rfl, l1, (by omega), true, rfl, iteF ⟨_, rfl, _, rfl, _, rfl, a, _, dx, _, _, rfl, hp, T.c_Picture, T.n_Picture_height, lkH, ph, lo, ph, rfl, (by omega), (by omega), true, rfl, iteF ?_⟩⟩
      refine ⟨_, rfl, _, rfl, a, _, dx, _, _, rfl, hp, T.c_Picture, T.n_Picture_placed, lkP, dp, none, rfl, (by rw [← pl.no (nm := nm) (fun p hp => (no p hp).1)]; exact DGet.k (k := .inr nm) hk), false, rfl, iteF ?_⟩
      refine ⟨_, rfl, a, _, dx, _, _, rfl, hp, T.c_Picture, T.n_Picture_placed, lkP, dp, kvs, rfl, hk, _, _, rfl, rfl, _, rfl, ifN (decide_eq_false (by have := pl.len; omega)) ?_⟩
      refine ⟨_, rfl, a, dx, _, rfl, hp, lk_no (by decide +kernel), _, rfl, _, rfl, _, rfl, a, dp, do_, pw, ph, ps, nm, x, y, rfl, pic, fun p hp _ => (no p hp).2, fun H1 s1 => ?_⟩
      refine ⟨_, rfl, _, rfl, _, rfl, _, rfl, _, rfl, (by show 5 ≤ sizeLine; decide), fun q1 hq1 => ?_⟩
      have hp1 : upd H1 q1 (.tup [.int x, .int y, .str sd, .int lo, .int ph]) a = some (.ins t.C_Picture dx (picF pw ph dp do_)) := by rw [upd_ne (ne_of_none (s1 _ _ hp) hq1)]; exact s1 _ _ hp
      have hk1 : upd H1 q1 (.tup [.int x, .int y, .str sd, .int lo, .int ph]) dp = some (.dK kvs) := by rw [upd_ne (ne_of_none (s1 _ _ hk) hq1)]; exact s1 _ _ hk
      refine ⟨_, rfl, a, _, dx, _, _, rfl, hp1, T.c_Picture, T.n_Picture_placed, lkP, _, rfl, dp, _, rfl, DPut.k (k := .inr nm) hk1 (Nat.lt_trans (by have := pl.len; omega : kvs.length < 12) (by decide)), ?_⟩
      rw [putK_new (.ref q1) (pl.no (nm := nm) (fun p hp => (no p hp).1))]
      have nq : q1 ≠ dp := fun z => by
        subst z
        rw [s1 _ _ hk] at hq1
        cases hq1
      refine q _ (fun b u nb e => ?_) ⟨⟨dx, ?_⟩, ⟨_, upd_same, Pl.snoc (p := ⟨nm, x, y, sd, lo, ph⟩) (pl.keep (fun b xs e => ?_)) ?_⟩, pic.w1, pic.w2, pic.h1, pic.h2, (by rw [List.length_append]; exact len)⟩
      · rw [upd_ne nb, upd_ne (ne_of_none (s1 _ _ e) hq1)]
        exact s1 _ _ e
      · rw [upd_ne (ne_of hp1 hk1 (fun z => nomatch z))]
        exact hp1
      · have e' := s1 _ _ e
        rw [upd_ne (ne_of e' (s1 _ _ hk) (fun z => nomatch z)), upd_ne (ne_of_none e' hq1)]
        exact e'
      · rw [upd_ne nq]
        exact upd_same
    · refine ⟨_, rfl, rfl, _, rfl, ifN (by rfl) ⟨_, rfl, ?_⟩⟩
      refine ⟨_, rfl, nm, rfl, hn, true, rfl, iteF ?_⟩
      refine ⟨_, rfl, a, dx, _, rfl, hp, lk_no (by decide +kernel), _, rfl, _, rfl, a, dp, do_, pw, ph, ps, x, y, rfl, pic, x1, x2, y1, y2, ?_⟩
      refine ⟨_, rfl, _, _, rfl, .inl ⟨_, _, true, .str _, rfl, kit_same, true, rfl, iteF ⟨_, rfl, .inr sd, rfl, false, (by rw [hsd']; rfl), iteF ?_⟩⟩⟩
      refine ⟨_, rfl, _, rfl, a, _, dx, _, _, rfl, hp, T.c_Picture, T.n_Picture_height, lkH, lo, 1, ph, rfl, l1, (by omega), true, rfl, iteF ⟨_, rfl, _, rfl, _, rfl, a, _, dx, _, _, rfl, hp, T.c_Picture, T.n_Picture_height, lkH, hi, lo, ph, rfl, (by omega), (by omega), true, rfl, iteF ?_⟩⟩
      refine ⟨_, rfl, _, rfl, a, _, dx, _, _, rfl, hp, T.c_Picture, T.n_Picture_placed, lkP, dp, none, rfl, (by rw [← pl.no (nm := nm) (fun p hp => (no p hp).1)]; exact DGet.k (k := .inr nm) hk), false, rfl, iteF ?_⟩
      refine ⟨_, rfl, a, _, dx, _, _, rfl, hp, T.c_Picture, T.n_Picture_placed, lkP, dp, kvs, rfl, hk, _, _, rfl, rfl, _, rfl, ifN (decide_eq_false (by have := pl.len; omega)) ?_⟩
      refine ⟨_, rfl, a, dx, _, rfl, hp, lk_no (by decide +kernel), _, rfl, _, rfl, _, rfl, a, dp, do_, pw, ph, ps, nm, x, y, rfl, pic, fun p hp _ => (no p hp).2, fun H1 s1 => ?_⟩
      refine ⟨_, rfl, _, rfl, _, rfl, _, rfl, _, rfl, (by show 5 ≤ sizeLine; decide), fun q1 hq1 => ?_⟩
      have hp1 : upd H1 q1 (.tup [.int x, .int y, .str sd, .int lo, .int hi]) a = some (.ins t.C_Picture dx (picF pw ph dp do_)) := by rw [upd_ne (ne_of_none (s1 _ _ hp) hq1)]; exact s1 _ _ hp
      have hk1 : upd H1 q1 (.tup [.int x, .int y, .str sd, .int lo, .int hi]) dp = some (.dK kvs) := by rw [upd_ne (ne_of_none (s1 _ _ hk) hq1)]; exact s1 _ _ hk
      refine ⟨_, rfl, a, _, dx, _, _, rfl, hp1, T.c_Picture, T.n_Picture_placed, lkP, _, rfl, dp, _, rfl, DPut.k (k := .inr nm) hk1 (Nat.lt_trans (by have := pl.len; omega : kvs.length < 12) (by decide)), ?_⟩
      rw [putK_new (.ref q1) (pl.no (nm := nm) (fun p hp => (no p hp).1))]
      have nq : q1 ≠ dp := fun z => by
        subst z
        rw [s1 _ _ hk] at hq1
        cases hq1
      refine q _ (fun b u nb e => ?_) ⟨⟨dx, ?_⟩, ⟨_, upd_same, Pl.snoc (p := ⟨nm, x, y, sd, lo, hi⟩) (pl.keep (fun b xs e => ?_)) ?_⟩, pic.w1, pic.w2, pic.h1, pic.h2, (by rw [List.length_append]; exact len)⟩
      · rw [upd_ne nb, upd_ne (ne_of_none (s1 _ _ e) hq1)]
        exact s1 _ _ e
      · rw [upd_ne (ne_of hp1 hk1 (fun z => nomatch z))]
        exact hp1
      · have e' := s1 _ _ e
        rw [upd_ne (ne_of e' (s1 _ _ hk) (fun z => nomatch z)), upd_ne (ne_of_none e' hq1)]
        exact e'
      · rw [upd_ne nq]
        exact upd_same
end
end S23
set_option maxRecDepth 100000
set_option maxHeartbeats 4000000
namespace S23
open PySem L2 XL PyProof.Rows
theorem lkO {w h : Int} {dp do_ : Addr} : (picF w h dp do_).lookup ("opened" : Str) = some (.ref do_) := by
  unfold picF
  rw [List.lookup_cons, show (("opened" : Str) == "width") = false from by decide +kernel]
  show List.lookup ("opened" : Str) [("height", V.int h), ("placed", V.ref dp), ("opened", V.ref do_)] = _
  rw [List.lookup_cons, show (("opened" : Str) == "height") = false from by decide +kernel]
  show List.lookup ("opened" : Str) [("placed", V.ref dp), ("opened", V.ref do_)] = _
  rw [List.lookup_cons, show (("opened" : Str) == "placed") = false from by decide +kernel]
  show List.lookup ("opened" : Str) [("opened", V.ref do_)] = _
  rw [List.lookup_cons, show (("opened" : Str) == "opened") = true from by decide +kernel]
abbrev Seat := Bool × Int
def seatK (s : Seat) : List Key := [.inr (sideW s.1), .inl s.2]
theorem sideW_inj {a b : Bool} (h : sideW a = sideW b) : a = b := by
  cases a <;> cases b <;> first | rfl | exact absurd h (by decide +kernel)
theorem seatK_inj {s t : Seat} (h : seatK s = seatK t) : s = t := by
  simp only [seatK, List.cons.injEq, Sum.inr.injEq, Sum.inl.injEq] at h
  exact Prod.ext (sideW_inj h.1) h.2.1
def Sts (H : Hp) (do_ : Addr) (ss : List Seat) : Prop := ∃ kvs : List (List Key × V), H do_ = some (.dT kvs) ∧ kvs.map (·.1) = ss.map seatK ∧ ss.Nodup ∧ ss.length ≤ 32
theorem Sts.same {H H' : Hp} {do_ : Addr} {ss : List Seat} (s : Same H H') (h : Sts H do_ ss) : Sts H' do_ ss := let ⟨k, e, r⟩ := h; ⟨k, s _ _ e, r⟩
theorem val_no {kvs : List (List Key × V)} {ss : List Seat} (e : kvs.map (·.1) = ss.map seatK) {s : Seat} (h : s ∉ ss) : valV kvs (seatK s) = none := by
  cases z : valV kvs (seatK s) with
  | none => rfl
  | some v =>
    obtain ⟨i, hi⟩ := valV_ix z
    have m : seatK s ∈ kvs.map (·.1) := List.mem_map.mpr ⟨_, List.mem_of_getElem? hi, rfl⟩
    rw [e] at m
    obtain ⟨t, ht, et⟩ := List.mem_map.mp m
    exact absurd ht (by rw [seatK_inj et]; exact h)
theorem val_yes {kvs : List (List Key × V)} {ss : List Seat} (e : kvs.map (·.1) = ss.map seatK) {s : Seat} (h : s ∈ ss) : ∃ v, valV kvs (seatK s) = some v := by
  cases z : valV kvs (seatK s) with
  | some v => exact ⟨v, rfl⟩
  | none =>
    have m : seatK s ∈ kvs.map (·.1) := by rw [e]; exact List.mem_map.mpr ⟨s, h, rfl⟩
    obtain ⟨p, hp, ep⟩ := List.mem_map.mp m
    have a := valV_any (seatK s) kvs
    rw [z] at a
    have : (kvs.any fun kv => decide (kv.1 = seatK s)) = true := List.any_eq_true.mpr ⟨p, hp, by simpa using ep⟩
    rw [this] at a
    cases a
theorem Pic.but {t : Adr} {H H' : Hp} {a dp do_ : Addr} {w h : Int} {ps : List Pt} {kvs : List (List Key × V)} (e : H do_ = some (.dT kvs)) (s : ∀ c u, c ≠ do_ → H c = some u → H' c = some u) (p : Pic t H a dp do_ w h ps) : Pic t H' a dp do_ w h ps :=
  ⟨let ⟨dx, x⟩ := p.ins; ⟨dx, s _ _ (ne_of x e (fun z => nomatch z)) x⟩, let ⟨k, x, q⟩ := p.pl; ⟨k, s _ _ (ne_of x e (fun z => nomatch z)) x, q.keep fun b xs x => s _ _ (ne_of x e (fun z => nomatch z)) x⟩, p.w1, p.w2, p.h1, p.h2, p.len⟩
section
variable {P : Program} {w : World} {K : PySem.W.Frag} {mg : Str → Option Value} {base : Heap} {t : Adr}
end
end S23
set_option maxRecDepth 100000
set_option maxHeartbeats 4000000
namespace S23
open PySem L2 XL PyProof.Rows
def scD : V → DV
  | .int i => .int i
  | .bl b => .bl b
  | .str s => .str s
  | _ => .non
def scV : V → Bool
  | .int _ => true
  | .bl _ => true
  | .str _ => true
  | .non => true
  | _ => false
inductive Thg (H : Hp) : V → DV → Prop
  | non : Thg H .non .non
  | bl (b : Bool) : Thg H (.bl b) (.bl b)
  | int (i : Int) : Thg H (.int i) (.int i)
  | str (s : Str) (h : s.length ≤ 1000) : Thg H (.str s) (.str s)
  | lst {q : Addr} {xs : List V} (h : H q = some (.lst xs)) (f : xs.all scV = true) : Thg H (.ref q) (.lst (xs.map scD))
  | tup {q : Addr} {xs : List V} (h : H q = some (.tup xs)) (f : xs.all scV = true) : Thg H (.ref q) (.tup (xs.map scD))
theorem Thg.same {H H' : Hp} (s : Same H H') {v : V} {d : DV} (h : Thg H v d) : Thg H' v d := by
  cases h with
  | non => exact .non
  | bl b => exact .bl b
  | int i => exact .int i
  | str s h => exact .str s h
  | lst h f => exact .lst (s _ _ h) f
  | tup h f => exact .tup (s _ _ h) f
theorem sc_dv {K : PySem.W.Frag} {H : Hp} {v : V} (h : scV v = true) : Dv K H 0 v (scD v) := by
  cases v with
  | int i => exact .int
  | bl b => exact .bl
  | str s => exact .str
  | non => exact .non
  | _ => cases h
theorem scs_dv {K : PySem.W.Frag} {H : Hp} {xs : List V} (f : xs.all scV = true) (j : Nat) (x : V) (d : DV) (h1 : xs[j]? = some x) (h2 : (xs.map scD)[j]? = some d) : Dv K H 0 x d := by
  rw [List.getElem?_map, h1] at h2
  cases h2
  exact sc_dv (List.all_eq_true.mp f x (List.mem_of_getElem? h1))
def wholeD : DV → Int → Int → Bool
  | .int i, lo, hi => decide (lo ≤ i) && decide (i ≤ hi)
  | _, _, _ => false
theorem wholeD_of {d : DV} {lo hi : Int} (h : wholeD d lo hi = true) : ∃ i, d = .int i ∧ lo ≤ i ∧ i ≤ hi := by
  cases d with
  | int i =>
    simp only [wholeD, Bool.and_eq_true, decide_eq_true_eq] at h
    exact ⟨i, rfl, h.1, h.2⟩
  | _ => cases h
def intD : DV → Int
  | .int i => i
  | _ => 0
theorem wholeD_int {i lo hi : Int} (h1 : lo ≤ i) (h2 : i ≤ hi) : wholeD (.int i) lo hi = true := by
  simp [wholeD, h1, h2]
theorem Thg.int_of {H : Hp} {v : V} {i : Int} (h : Thg H v (.int i)) : v = .int i := by cases h; rfl
theorem Thg.str_of {H : Hp} {v : V} {s : Str} (h : Thg H v (.str s)) : v = .str s := by cases h; rfl
def sideD : DV → Option Bool
  | .str s => if s = "left" then some true else if s = "right" then some false else none
  | _ => none
theorem sideD_of {d : DV} {b : Bool} (h : sideD d = some b) : d = .str (sideW b) := by
  cases d with
  | str s =>
    change (if s = "left" then some true else if s = "right" then some false else none) = some b at h
    by_cases c : s = "left"
    · rw [if_pos c] at h
      cases h
      rw [c]
      rfl
    · rw [if_neg c] at h
      by_cases c2 : s = "right"
      · rw [if_pos c2] at h
        cases h
        rw [c2]
        rfl
      · rw [if_neg c2] at h
        cases h
  | _ => cases h
theorem sideD_str (b : Bool) : sideD (.str (sideW b)) = some b := by
  cases b <;> decide +kernel
inductive Er where
  | noSide (v0 : V)
  | noRow (v0 : V)
  | oldSeat (v0 : V) (v1 : V)
  | badLine (v0 : V)
def Er.cls (t : Adr) : Er → Addr
  | .noSide _ => t.C_NoSide
  | .noRow _ => t.C_NoRow
  | .oldSeat _ _ => t.C_OldSeat
  | .badLine _ => t.C_BadLine
def Er.fs : Er → List (Str × V)
  | .noSide v0 => [("side", v0)]
  | .noRow v0 => [("row", v0)]
  | .oldSeat v0 v1 => [("side", v0), ("row", v1)]
  | .badLine v0 => [("line", v0)]
def ErAt (t : Adr) (H : Hp) (e : Addr) (er : Er) : Prop := (er.fs = [] ∧ H e = some (XO e (er.cls t) none)) ∨ (er.fs ≠ [] ∧ ∃ dx, H e = some (XO e (er.cls t) (some dx)) ∧ H dx = some (XD dx er.fs))
def RaisedE (t : Adr) (H H' : Hp) (e : Addr) (er : Er) : Prop := Same H H' ∧ ErAt t H' e er
theorem RaisedE.pre {t : Adr} {H H1 H' : Hp} {e : Addr} {er : Er} (s : Same H H1) (h : RaisedE t H1 H' e er) : RaisedE t H H' e er := ⟨s.trans h.1, h.2⟩
def Outs (t : Adr) (H : Hp) (out : Option Er) (E : XK) (D : Prop) : Prop := (∀ er, out = some er → ∀ e H', RaisedE t H H' e er → E e (er.cls t) H') ∧ (out = none → D)
def spX1 (C : Addr) (f : Str) : Sp := fun vs H Q _ => ∃ (e : Addr) (v : V), vs = [.ref e, v] ∧ H e = some (XN e C none) ∧ ∀ dx, H dx = none → Q .non (upd (upd H dx (XD dx [(f, v)])) e (XN e C (some dx)))
def spX2 (C : Addr) (f g : Str) : Sp := fun vs H Q _ => ∃ (e : Addr) (v w : V), vs = [.ref e, v, w] ∧ H e = some (XN e C none) ∧ ∀ dx, H dx = none → Q .non (upd (upd (upd H dx (XD dx [(f, v)])) e (XN e C (some dx))) dx (XD dx (putF g w [(f, v)])))
theorem lk_1 {f : Str} {v : V} {r : List (Str × V)} : ((f, v) :: r).lookup f = some v := by simp
theorem raised1 {t : Adr} {H : Hp} {e dx C : Addr} {er : Er} {fs : List (Str × V)} (hc : er.cls t = C) (hf : er.fs = fs) (he : H e = none) (hdx : upd H e (XN e C none) dx = none) (hn : fs ≠ [] := by (intro z; cases z)) : RaisedE t H (upd (upd (upd (upd H e (XN e C none)) dx (XD dx fs)) e (XN e C (some dx))) e (XO e C (some dx))) e er := by
  have ne : dx ≠ e := fun z => by rw [z, upd_same] at hdx; cases hdx
  rw [upd_ne ne] at hdx
  subst hc hf
  refine ⟨fun y o q => ?_, .inr ⟨hn, dx, upd_same, ?_⟩⟩
  · rw [upd_ne (ne_of_none q he), upd_ne (ne_of_none q he), upd_ne (ne_of_none q hdx), upd_ne (ne_of_none q he)]
    exact q
  · rw [upd_ne ne, upd_ne ne, upd_same]
theorem raised2 {t : Adr} {H : Hp} {e dx C : Addr} {er : Er} {fs fs0 : List (Str × V)} (hc : er.cls t = C) (hf : er.fs = fs) (he : H e = none) (hdx : upd H e (XN e C none) dx = none) (hn : fs ≠ [] := by (intro z; cases z)) : RaisedE t H (upd (upd (upd (upd (upd H e (XN e C none)) dx (XD dx fs0)) e (XN e C (some dx))) dx (XD dx fs)) e (XO e C (some dx))) e er := by
  have ne : dx ≠ e := fun z => by rw [z, upd_same] at hdx; cases hdx
  rw [upd_ne ne] at hdx
  subst hc hf
  refine ⟨fun y o q => ?_, .inr ⟨hn, dx, upd_same, ?_⟩⟩
  · rw [upd_ne (ne_of_none q he), upd_ne (ne_of_none q hdx), upd_ne (ne_of_none q he), upd_ne (ne_of_none q hdx), upd_ne (ne_of_none q he)]
    exact q
  · rw [upd_ne ne, upd_same]
theorem xn2_at' {H : Hp} {e dx C : Addr} {a b c : HO} (hdx : upd H e a dx = none) : upd (upd (upd (upd H e a) dx b) e (XN e C (some dx))) dx c e = some (XN e C (some dx)) := by
  have ne : dx ≠ e := fun z => by rw [z, upd_same] at hdx; cases hdx
  rw [upd_ne (Ne.symm ne), upd_same]
section
variable {P : Program} {w : World} {K : PySem.W.Frag} {mg : Str → Option Value} {base : Heap} {t : Adr}
theorem ok_NoSide_init (T : Txt w K mg t) : FnOk true P w K mg base (CXo P w) 1 t.f_NoSide_init t.d_NoSide_init ["self", "side"] (spX1 t.C_NoSide "side") := by
  refine T.F_NoSide_init.okn (k := 0) sc_NoSide_init (fun vs H Q E h => ?_) (fun cdv A outer s H vs Q E hr h => ?_)
  · obtain ⟨e, v, rfl, _⟩ := h
    rfl
  · obtain ⟨e, v, rfl, h⟩ := h
    refine ⟨_, pss_one (ps_xfld (pv 0) (pv 1) rfl), ?_⟩
    obtain ⟨he, q⟩ := h
    exact ⟨_, rfl, _, rfl, e, t.C_NoSide, rfl, T.x_NoSide, T.n_NoSide_side, .inl ⟨he, q⟩⟩
theorem ok_NoRow_init (T : Txt w K mg t) : FnOk true P w K mg base (CXo P w) 1 t.f_NoRow_init t.d_NoRow_init ["self", "row"] (spX1 t.C_NoRow "row") := by
  refine T.F_NoRow_init.okn (k := 0) sc_NoRow_init (fun vs H Q E h => ?_) (fun cdv A outer s H vs Q E hr h => ?_)
  · obtain ⟨e, v, rfl, _⟩ := h
    rfl
  · obtain ⟨e, v, rfl, h⟩ := h
    refine ⟨_, pss_one (ps_xfld (pv 0) (pv 1) rfl), ?_⟩
    obtain ⟨he, q⟩ := h
    exact ⟨_, rfl, _, rfl, e, t.C_NoRow, rfl, T.x_NoRow, T.n_NoRow_row, .inl ⟨he, q⟩⟩
theorem ok_OldSeat_init (T : Txt w K mg t) : FnOk true P w K mg base (CXo P w) 1 t.f_OldSeat_init t.d_OldSeat_init ["self", "side", "row"] (spX2 t.C_OldSeat "side" "row") := by
  refine T.F_OldSeat_init.okn (k := 0) sc_OldSeat_init (fun vs H Q E h => ?_) (fun cdv A outer s H vs Q E hr h => ?_)
  · obtain ⟨e, v, w2, rfl, _⟩ := h
    rfl
  · obtain ⟨e, v, w2, rfl, h⟩ := h
    refine ⟨_, pss_cons (ps_xfld (pv 0) (pv 1) rfl)
      (pss_one (ps_xfld (pv 0) (pv 2) rfl)), ?_⟩
    obtain ⟨he, q⟩ := h
    refine ⟨_, rfl, _, rfl, e, t.C_OldSeat, rfl, T.x_OldSeat, T.n_OldSeat_side, .inl ⟨he, fun dx hdx => ?_⟩⟩
    have ne : dx ≠ e := fun z => by rw [z, he] at hdx; cases hdx
    exact ⟨_, rfl, _, rfl, e, t.C_OldSeat, rfl, T.x_OldSeat, T.n_OldSeat_row, .inr ⟨dx, _, upd_same, (by rw [upd_ne ne]; exact upd_same), (by show 1 < 1000; decide), q dx hdx⟩⟩
theorem ok_BadLine_init (T : Txt w K mg t) : FnOk true P w K mg base (CXo P w) 1 t.f_BadLine_init t.d_BadLine_init ["self", "line"] (spX1 t.C_BadLine "line") := by
  refine T.F_BadLine_init.okn (k := 0) sc_BadLine_init (fun vs H Q E h => ?_) (fun cdv A outer s H vs Q E hr h => ?_)
  · obtain ⟨e, v, rfl, _⟩ := h
    rfl
  · obtain ⟨e, v, rfl, h⟩ := h
    refine ⟨_, pss_one (ps_xfld (pv 0) (pv 1) rfl), ?_⟩
    obtain ⟨he, q⟩ := h
    exact ⟨_, rfl, _, rfl, e, t.C_BadLine, rfl, T.x_BadLine, T.n_BadLine_line, .inl ⟨he, q⟩⟩
end
end S23
set_option maxRecDepth 100000
set_option maxHeartbeats 4000000
namespace S23
open PySem L2 XL PyProof.Rows
def spWT : Sp := fun vs H Q _ => ∃ (x : V) (d : DV) (lo hi : Int), vs = [x, .int lo, .int hi] ∧ Thg H x d ∧ Q (.bl (wholeD d lo hi)) H
def outSide (d : DV) (x : V) : Option Er := match sideD d with | some _ => none | none => some (.noSide x)
theorem outSide_some {d : DV} {x : V} {b : Bool} (h : sideD d = some b) : outSide d x = none := by unfold outSide; rw [h]
theorem outSide_none {d : DV} {x : V} (h : sideD d = none) : outSide d x = some (.noSide x) := by unfold outSide; rw [h]
def spSideT (t : Adr) : Sp := fun vs H Q E => ∃ (x : V) (d : DV) (n : Int), vs = [x, .int n] ∧ Thg H x d ∧ Outs t H (outSide d x) E (∀ b p H', sideD d = some b → H p = none → SideAt t H' p b n → Same H H' → Q (.ref p) H')
section
variable {P : Program} {w : World} {K : PySem.W.Frag} {mg : Str → Option Value} {base : Heap} {t : Adr}
theorem okT_is_whole (T : Txt w K mg t) : FnOk true P w K mg base (CXo P w) 1 t.f_is_whole t.d_is_whole ["thing", "low", "high"] (spWT) := by
  refine T.F_is_whole.okn (k := 0) sc_is_whole (fun vs H Q E h => ?_) (fun cdv A outer s H vs Q E hr h => ?_)
  · obtain ⟨x, d, lo, hi, rfl, _⟩ := h
    rfl
  · obtain ⟨x, d, lo, hi, rfl, h⟩ := h
    refine ⟨_, pss_one (ps_ret (pe_and (pe_callB call_isin rfl T.n_isinstance boot_isinstance (pa_cons (pv 0) (pa_cons (pe_bltn (v := .ty "int") rfl T.n_int boot_int rfl) (pa_nil)))) (pe_and (pe_not (pe_callB call_isin rfl T.n_isinstance boot_isinstance (pa_cons (pv 0) (pa_cons (pe_bltn (v := .ty "bool") rfl T.n_bool boot_bool rfl) (pa_nil))))) (pe_one (pe_chain op_le op_le (pv 1) (pv 0) (pv 2)))))), ?_⟩
    obtain ⟨tx, q⟩ := h
    cases tx with
    | int i =>
      refine ⟨_, rfl, _, _, rfl, .inl ⟨_, _, true, .int i, rfl, kit_same, true, rfl, iteT ?_⟩⟩
      refine ⟨_, rfl, _, _, rfl, .inl ⟨_, _, false, .int i, rfl, (by rfl), false, rfl, true, rfl, iteT ?_⟩⟩
      refine ⟨_, rfl, _, rfl, _, _, rfl, rfl, _, rfl, ite2 (fun c => ?_) (fun c => ?_)⟩
      · refine ⟨_, rfl, _, _, rfl, rfl, ?_⟩
        change Q (.bl (decide (lo ≤ i) && decide (i ≤ hi))) H at q
        rw [c, Bool.true_and] at q
        exact q
      · change Q (.bl (decide (lo ≤ i) && decide (i ≤ hi))) H at q
        rw [Bool.eq_false_iff.mpr c, Bool.false_and] at q
        exact q
    | bl b =>
      refine ⟨_, rfl, _, _, rfl, .inl ⟨_, _, true, .bl b, rfl, (by rfl), true, rfl, iteT ?_⟩⟩
      exact ⟨_, rfl, _, _, rfl, .inl ⟨_, _, true, .bl b, rfl, kit_same, true, rfl, false, rfl, iteF q⟩⟩
    | str y => exact ⟨_, rfl, _, _, rfl, .inl ⟨_, _, false, .str y, rfl, (by rfl), false, rfl, iteF q⟩⟩
    | non => exact ⟨_, rfl, _, _, rfl, .inl ⟨_, _, false, .non, rfl, (by rfl), false, rfl, iteF q⟩⟩
    | lst hq => exact ⟨_, rfl, _, _, rfl, .inl ⟨_, _, false, .lst hq, rfl, (by rfl), false, rfl, iteF q⟩⟩
    | tup hq => exact ⟨_, rfl, _, _, rfl, .inl ⟨_, _, false, .tup hq, rfl, (by rfl), false, rfl, iteF q⟩⟩
theorem okT_side_of (T : Txt w K mg t) : FnOk true P w K mg base (CXo P w) 3 t.f_side_of t.d_side_of ["word", "width"] (spSideT t) := by
  refine T.F_side_of.okx (k := 2) sc_side_of (fun vs H Q E h => ?_) (fun cdv A outer s H vs Q E hr h => ?_)
  · obtain ⟨x, d, n, rfl, _⟩ := h
    rfl
  · obtain ⟨x, d, n, rfl, h⟩ := h
    refine ⟨_, pss_cons (ps_if (pt_val (pe_callB call_isin rfl T.n_isinstance boot_isinstance (pa_cons (pv 0) (pa_cons (pe_bltn (v := .ty "str") rfl T.n_str boot_str rfl) (pa_nil))))) (pss_cons (ps_if (pt_cmpR op_eq (pv 0) (pe_str) (nomark _)) (pss_one (ps_ret (pe_make T.k_LeftSide (ok_Side_init T) (hr.mono (by decide)) rfl T.g_LeftSide T.b_Side_init .nil takes_def.pass (pa_cons (pv 1) (pa_nil))))) (pss_nil))
      (pss_one (ps_if (pt_cmpR op_eq (pv 0) (pe_str) (nomark _)) (pss_one (ps_ret (pe_make T.k_RightSide (ok_Side_init T) (hr.mono (by decide)) rfl T.g_RightSide T.b_Side_init .nil takes_def.pass (pa_cons (pv 1) (pa_nil))))) (pss_nil)))) (pss_nil))
      (pss_one (ps_raise (hr.hd rfl) takes_def (pe_xmake T.k_NoSide (ok_NoSide_init T) (hr.mono (by decide)) rfl T.g_NoSide T.b_NoSide_init .nil (pa_cons (pv 0) (pa_nil))))), ?_⟩
    obtain ⟨tx, hE, q⟩ := h
    cases tx with
    | str y =>
      refine ⟨_, rfl, _, _, rfl, .inl ⟨_, _, true, .str _, rfl, kit_same, true, rfl, iteT ?_⟩⟩
      refine ⟨_, rfl, rfl, _, rfl, ite2 (fun c => ?_) (fun c => ?_)⟩
      · have e : y = "left" := V.str.inj (of_decide_eq_true c)
        have sd : sideD (.str y) = some true := by rw [e]; exact sideD_str true
        exact ⟨_, rfl, fun x dx hx hdx ne => ⟨x, t.C_LeftSide, dx, n, rfl, upd_same, T.c_LeftSide, T.n_LeftSide_width, rfl, q (outSide_some sd) true x _ sd hx ⟨dx, upd_same⟩ (same2 hx hdx)⟩⟩
      · have n1 : ¬ y = "left" := fun z => c (by rw [z]; exact decide_eq_true rfl)
        refine ⟨_, rfl, rfl, _, rfl, ite2 (fun c2 => ?_) (fun c2 => ?_)⟩
        · have e : y = "right" := V.str.inj (of_decide_eq_true c2)
          have sd : sideD (.str y) = some false := by rw [e]; exact sideD_str false
          exact ⟨_, rfl, fun x dx hx hdx ne => ⟨x, t.C_RightSide, dx, n, rfl, upd_same, T.c_RightSide, T.n_RightSide_width, rfl, q (outSide_some sd) false x _ sd hx ⟨dx, upd_same⟩ (same2 hx hdx)⟩⟩
        · have n2 : ¬ y = "right" := fun z => c2 (by rw [z]; exact decide_eq_true rfl)
          have sd : sideD (.str y) = none := by show (if y = "left" then some true else if y = "right" then some false else none) = none; rw [if_neg n1, if_neg n2]
          exact ⟨_, rfl, (by show 1 ≤ 1000; decide), fun e he => ⟨e, _, rfl, upd_same, fun dx hdx => ⟨rfl, e, t.C_NoSide, some dx, rfl, upd_same, T.mk_NoSide, hE (.noSide _) (outSide_none sd) e _ (raised1 rfl rfl he hdx)⟩⟩⟩
    | int i => exact ⟨_, rfl, _, _, rfl, .inl ⟨_, _, false, .int i, rfl, (by rfl), false, rfl, iteF ⟨_, rfl, (by show 1 ≤ 1000; decide), fun e he => ⟨e, _, rfl, upd_same, fun dx hdx => ⟨rfl, e, t.C_NoSide, some dx, rfl, upd_same, T.mk_NoSide, hE (.noSide _) (outSide_none rfl) e _ (raised1 rfl rfl he hdx)⟩⟩⟩⟩⟩
    | bl b => exact ⟨_, rfl, _, _, rfl, .inl ⟨_, _, false, .bl b, rfl, (by rfl), false, rfl, iteF ⟨_, rfl, (by show 1 ≤ 1000; decide), fun e he => ⟨e, _, rfl, upd_same, fun dx hdx => ⟨rfl, e, t.C_NoSide, some dx, rfl, upd_same, T.mk_NoSide, hE (.noSide _) (outSide_none rfl) e _ (raised1 rfl rfl he hdx)⟩⟩⟩⟩⟩
    | non => exact ⟨_, rfl, _, _, rfl, .inl ⟨_, _, false, .non, rfl, (by rfl), false, rfl, iteF ⟨_, rfl, (by show 1 ≤ 1000; decide), fun e he => ⟨e, _, rfl, upd_same, fun dx hdx => ⟨rfl, e, t.C_NoSide, some dx, rfl, upd_same, T.mk_NoSide, hE (.noSide _) (outSide_none rfl) e _ (raised1 rfl rfl he hdx)⟩⟩⟩⟩⟩
    | lst hq => exact ⟨_, rfl, _, _, rfl, .inl ⟨_, _, false, .lst hq, rfl, (by rfl), false, rfl, iteF ⟨_, rfl, (by show 1 ≤ 1000; decide), fun e he => ⟨e, _, rfl, upd_same, fun dx hdx => ⟨rfl, e, t.C_NoSide, some dx, rfl, upd_same, T.mk_NoSide, hE (.noSide _) (outSide_none rfl) e _ (raised1 rfl rfl he hdx)⟩⟩⟩⟩⟩
    | tup hq => exact ⟨_, rfl, _, _, rfl, .inl ⟨_, _, false, .tup hq, rfl, (by rfl), false, rfl, iteF ⟨_, rfl, (by show 1 ≤ 1000; decide), fun e he => ⟨e, _, rfl, upd_same, fun dx hdx => ⟨rfl, e, t.C_NoSide, some dx, rfl, upd_same, T.mk_NoSide, hE (.noSide _) (outSide_none rfl) e _ (raised1 rfl rfl he hdx)⟩⟩⟩⟩⟩
end
end S23
set_option maxRecDepth 100000
set_option maxHeartbeats 4000000
namespace S23
open PySem L2 XL PyProof.Rows
def outCS (ph : Int) (dx dr : DV) (x r : V) : Option Er := match sideD dx with
  | none => some (.noSide x)
  | some _ => if wholeD dr 1 ph then none else some (.noRow r)
theorem outCS_1 {ph : Int} {dx dr : DV} {x r : V} (h : sideD dx = none) : outCS ph dx dr x r = some (.noSide x) := by unfold outCS; rw [h]
theorem outCS_2 {ph : Int} {dx dr : DV} {x r : V} {b : Bool} (h : sideD dx = some b) (h2 : wholeD dr 1 ph = false) : outCS ph dx dr x r = some (.noRow r) := by unfold outCS; rw [h]; simp [h2]
theorem outCS_3 {ph : Int} {dx dr : DV} {x r : V} {b : Bool} (h : sideD dx = some b) (h2 : wholeD dr 1 ph = true) : outCS ph dx dr x r = none := by unfold outCS; rw [h]; simp [h2]
def spCST (t : Adr) : Sp := fun vs H Q E => ∃ (a dp do_ : Addr) (pw ph : Int) (ps : List Pt) (x r : V) (dx dr : DV), vs = [.ref a, x, r] ∧ Pic t H a dp do_ pw ph ps ∧ Thg H x dx ∧ Thg H r dr ∧
  Outs t H (outCS ph dx dr x r) E (∀ b i H', dx = .str (sideW b) → dr = .int i → 1 ≤ i → i ≤ ph → Same H H' → Q .non H')
def outOpen (ph : Int) (ss : List Seat) (dx dr : DV) (x r : V) : Option Er := match sideD dx with
  | none => some (.noSide x)
  | some b => if wholeD dr 1 ph then (if (b, intD dr) ∈ ss then some (.oldSeat x r) else none) else some (.noRow r)
theorem outOpen_cs {ph : Int} {ss : List Seat} {dx dr : DV} {x r : V} {er : Er} (h : outCS ph dx dr x r = some er) : outOpen ph ss dx dr x r = some er := by
  unfold outCS at h
  unfold outOpen
  cases z : sideD dx with
  | none => rw [z] at h; exact h
  | some b =>
    rw [z] at h
    dsimp only at h ⊢
    cases y : wholeD dr 1 ph with
    | true => rw [y] at h; cases h
    | false => rw [y] at h; exact h
theorem outOpen_in {ph : Int} {ss : List Seat} {x r : V} {b : Bool} {i : Int} (h1 : 1 ≤ i) (h2 : i ≤ ph) : outOpen ph ss (.str (sideW b)) (.int i) x r = if (b, i) ∈ ss then some (.oldSeat x r) else none := by
  unfold outOpen
  rw [sideD_str, wholeD_int h1 h2]
  rfl
def spOpenT (t : Adr) : Sp := fun vs H Q E => ∃ (a dp do_ : Addr) (pw ph : Int) (ps : List Pt) (ss : List Seat) (x r : V) (dx dr : DV), vs = [.ref a, x, r] ∧ Pic t H a dp do_ pw ph ps ∧ Sts H do_ ss ∧ ss.length < 33 ∧ (ss.length = 32 → ∀ b i, 1 ≤ i → i ≤ ph → (b, i) ∈ ss) ∧ Thg H x dx ∧ Thg H r dr ∧
  Outs t H (outOpen ph ss dx dr x r) E (∀ b i H', dx = .str (sideW b) → dr = .int i → 1 ≤ i → i ≤ ph → (b, i) ∉ ss → (∀ c u, c ≠ do_ → H c = some u → H' c = some u) → Pic t H' a dp do_ pw ph ps → Sts H' do_ (ss ++ [(b, i)]) → Q .non H')
section
variable {P : Program} {w : World} {K : PySem.W.Frag} {mg : Str → Option Value} {base : Heap} {t : Adr}
theorem okT_Picture_check_seat (T : Txt w K mg t) : FnOk true P w K mg base (CXo P w) 4 t.f_Picture_check_seat t.d_Picture_check_seat ["self", "side", "row"] (spCST t) := by
  refine T.F_Picture_check_seat.okx (k := 3) sc_Picture_check_seat (fun vs H Q E h => ?_) (fun cdv A outer s H vs Q E hr h => ?_)
  · obtain ⟨a, dp, do_, pw, ph, ps, x, r, dx, dr, rfl, _⟩ := h
    rfl
  · obtain ⟨a, dp, do_, pw, ph, ps, x, r, dx, dr, rfl, h⟩ := h
    refine ⟨_, pss_cons (ps_expr (pe_call (okT_side_of T) (hr.mono (by decide)) rfl T.g_side_of T.F_side_of.kp T.b_side_of .nil takes_def.pass (pa_cons (pv 1) (pa_cons (pe_fld (pv 0) rfl) (pa_nil)))))
      (pss_one (ps_if (pt_not (pt_val (pe_call (okT_is_whole T) (hr.mono (by decide)) rfl T.g_is_whole T.F_is_whole.kp T.b_is_whole .nil takes_def.pass (pa_cons (pv 2) (pa_cons (pe_int) (pa_cons (pe_fld (pv 0) rfl) (pa_nil))))))) (pss_one (ps_raise (hr.hd rfl) takes_def (pe_xmake T.k_NoRow (ok_NoRow_init T) (hr.mono (by decide)) rfl T.g_NoRow T.b_NoRow_init .nil (pa_cons (pv 2) (pa_nil))))) (pss_nil))), ?_⟩
    obtain ⟨pic, tx, tr, hE, q⟩ := h
    obtain ⟨⟨dx0, hp⟩, _, _⟩ := id pic
    refine ⟨_, rfl, _, rfl, a, _, _, _, _, rfl, hp, T.c_Picture, T.n_Picture_width, lkW, x, dx, pw, rfl, tx, ?_, ?_⟩
    · intro er her e H' z
      unfold outSide at her
      cases sd : sideD dx with
      | none =>
        rw [sd] at her
        cases her
        exact hE _ (outCS_1 sd) e H' z
      | some b => rw [sd] at her; cases her
    · intro _ b p H1 sd hp1 sa s1
      refine ⟨_, rfl, _, rfl, a, _, _, _, _, rfl, (s1 _ _ hp), T.c_Picture, T.n_Picture_height, lkH, r, dr, 1, ph, rfl, tr.same s1, _, rfl, ?_⟩
      cases wr : wholeD dr 1 ph with
      | true =>
        obtain ⟨i, ei, i1, i2⟩ := wholeD_of wr
        exact iteF (q (outCS_3 sd wr) b i H1 (sideD_of sd) ei i1 i2 s1)
      | false => exact iteT ⟨_, rfl, (by show 1 ≤ 1000; decide), fun e he => ⟨e, _, rfl, upd_same, fun dx hdx => ⟨rfl, e, t.C_NoRow, some dx, rfl, upd_same, T.mk_NoRow, hE (.noRow _) (outCS_2 sd wr) e _ (RaisedE.pre s1 (raised1 rfl rfl he hdx))⟩⟩⟩
theorem okT_Picture_open_seat (T : Txt w K mg t) : FnOk true P w K mg base (CXo P w) 5 t.f_Picture_open_seat t.d_Picture_open_seat ["self", "side", "row"] (spOpenT t) := by
  refine T.F_Picture_open_seat.okx (k := 4) sc_Picture_open_seat (fun vs H Q E h => ?_) (fun cdv A outer s H vs Q E hr h => ?_)
  · obtain ⟨a, dp, do_, pw, ph, ps, ss, x, r, dx, dr, rfl, _⟩ := h
    rfl
  · obtain ⟨a, dp, do_, pw, ph, ps, ss, x, r, dx, dr, rfl, h⟩ := h
    refine ⟨_, pss_cons (ps_expr (pe_meth (pv 0) T.c_Picture T.m_Picture_check_seat (okT_Picture_check_seat T) (hr.mono (by decide)) T.b_Picture_check_seat .nil takes_def.pass (pa_cons (pv 1) (pa_cons (pv 2) (pa_nil)))))
      (pss_cons (ps_if (pt_cmp (pc_din (hu_of hr) (pe_tup (pa_cons (pv 1) (pa_cons (pv 2) (pa_nil)))) (pe_fld (pv 0) rfl))) (pss_one (ps_raise (hr.hd rfl) takes_def (pe_xmake T.k_OldSeat (ok_OldSeat_init T) (hr.mono (by decide)) rfl T.g_OldSeat T.b_OldSeat_init .nil (pa_cons (pv 1) (pa_cons (pv 2) (pa_nil)))))) (pss_nil))
      (pss_one (ps_dput (hu_of hr) (pe_fld (pv 0) rfl) (pe_tup (pa_cons (pv 1) (pa_cons (pv 2) (pa_nil)))) (pe_bl) rfl))), ?_⟩
    obtain ⟨pic, st, l33, full, tx, tr, hE, q⟩ := h
    obtain ⟨⟨dx0, hp⟩, _, _⟩ := id pic
    obtain ⟨kvs, hk, ek, nd, l32⟩ := id st
    refine ⟨_, rfl, a, dx0, _, rfl, hp, lk_no (by decide +kernel), _, rfl, _, rfl, a, dp, do_, pw, ph, ps, x, r, dx, dr, rfl, pic, tx, tr, fun er her e H' z => hE er (outOpen_cs her) e H' z, ?_⟩
    rintro _ b i H1 rfl rfl i1 i2 s1
    obtain rfl := tx.str_of
    obtain rfl := tr.int_of
    refine ⟨_, rfl, _, rfl, (by show 2 ≤ sizeLine; decide), fun q1 hq1 => ?_⟩
    have s2 : Same H1 (upd H1 q1 (.tup [.str (sideW b), .int i])) := same_upd (Same.refl _) hq1
    have g2 : upd H1 q1 (.tup [.str (sideW b), .int i]) q1 = some (.tup [.str (sideW b), .int i]) := upd_same
    revert s2 g2
    generalize upd H1 q1 (.tup [.str (sideW b), .int i]) = H2
    intro s2 g2
    have hk2 := s2 _ _ (s1 _ _ hk)
    have hp2 := s2 _ _ (s1 _ _ hp)
    have oo := outOpen_in (ss := ss) (x := .str (sideW b)) (r := .int i) (b := b) i1 i2
    by_cases c : (b, i) ∈ ss
    · obtain ⟨v, hv⟩ := val_yes ek c
      rw [if_pos c] at oo
      refine ⟨_, rfl, a, _, _, _, _, rfl, hp2, T.c_Picture, T.n_Picture_opened, lkO, do_, some v, rfl, (by rw [← hv]; exact DGet.t (k := seatK (b, i)) hk2 g2), true, rfl, iteT ?_⟩
      exact ⟨_, rfl, _, rfl, (by show 2 ≤ 1000; decide), fun e he => ⟨e, _, _, rfl, upd_same, fun dx hdx => ⟨rfl, e, t.C_OldSeat, some dx, rfl, xn2_at' hdx, T.mk_OldSeat, hE (.oldSeat _ _) (oo) e _ (RaisedE.pre (s1.trans s2) (raised2 rfl rfl he hdx))⟩⟩⟩
    · rw [if_neg c] at oo
      have n0 : valV kvs (seatK (b, i)) = none := val_no ek c
      refine ⟨_, rfl, a, _, _, _, _, rfl, hp2, T.c_Picture, T.n_Picture_opened, lkO, do_, none, rfl, (by rw [← n0]; exact DGet.t (k := seatK (b, i)) hk2 g2), false, rfl, iteF ?_⟩
      refine ⟨_, rfl, a, _, _, _, _, rfl, hp2, T.c_Picture, T.n_Picture_opened, lkO, _, rfl, _, rfl, (by show 2 ≤ sizeLine; decide), fun q3 hq3 => ?_⟩
      have s3 : Same H2 (upd H2 q3 (.tup [.str (sideW b), .int i])) := same_upd (Same.refl _) hq3
      have g3 : upd H2 q3 (.tup [.str (sideW b), .int i]) q3 = some (.tup [.str (sideW b), .int i]) := upd_same
      revert s3 g3
      generalize upd H2 q3 (.tup [.str (sideW b), .int i]) = H3
      intro s3 g3
      have kl : kvs.length = ss.length := by
        have := congrArg List.length ek
        simpa using this
      have lt : ss.length < 32 := by
        by_cases z : ss.length = 32
        · exact absurd (full z b i i1 i2) c
        · omega
      refine ⟨do_, _, rfl, DPut.t (k := seatK (b, i)) (s3 _ _ hk2) g3 (Nat.lt_trans (by omega : kvs.length < 33) (by decide)), ?_⟩
      have bt : ∀ c u, c ≠ do_ → H c = some u → upd H3 do_ (.dT (putK kvs (seatK (b, i)) (.bl true))) c = some u := fun c u nc e => by
        rw [upd_ne nc]
        exact s3 _ _ (s2 _ _ (s1 _ _ e))
      refine q oo b i _ rfl rfl i1 i2 c bt (Pic.but hk bt pic) ⟨_, upd_same, ?_, ?_, ?_⟩
      · rw [putK_new _ n0, List.map_append, List.map_append, ek]
        rfl
      · rw [List.nodup_append]
        exact ⟨nd, by simp, fun x hx y hy => by rw [List.mem_singleton.mp hy]; exact fun e => c (e ▸ hx)⟩
      · rw [List.length_append]
        show ss.length + 1 ≤ 32
        omega
end
end S23
set_option maxRecDepth 100000
set_option maxHeartbeats 4000000
namespace S23
open PySem L2 XL PyProof.Rows
def SsOk (h : Int) (ss : List Seat) : Prop := ss.Nodup ∧ ss.length ≤ 32 ∧ ∀ s ∈ ss, 1 ≤ s.2 ∧ s.2 ≤ h
theorem nd_len {α : Type} [DecidableEq α] : ∀ {l m : List α}, l.Nodup → (∀ x ∈ l, x ∈ m) → l.length ≤ m.length
  | [], m, _, _ => Nat.zero_le _
  | a :: l, m, nd, sub => by
    obtain ⟨h1, h2⟩ := List.nodup_cons.mp nd
    have ha := sub a List.mem_cons_self
    have z := nd_len (l := l) (m := m.erase a) h2 (fun x hx => (List.mem_erase_of_ne (fun e : x = a => h1 (e ▸ hx))).mpr (sub x (List.mem_cons_of_mem _ hx)))
    rw [List.length_erase_of_mem ha] at z
    have := List.length_pos_of_mem ha
    rw [List.length_cons]
    omega
theorem full_seats {h : Int} {ss : List Seat} (h16 : h ≤ 16) (o : SsOk h ss) (l : 32 ≤ ss.length) (s : Seat) (r1 : 1 ≤ s.2) (r2 : s.2 ≤ h) : s ∈ ss := by
  by_cases c : s ∈ ss
  · exact c
  have all : ∀ x ∈ s :: ss, x ∈ ((List.range 16).map fun i : Nat => (true, (i : Int) + 1)) ++ (List.range 16).map fun i : Nat => (false, (i : Int) + 1) := fun x hx => by
    have b : 1 ≤ x.2 ∧ x.2 ≤ h := by
      rcases List.mem_cons.mp hx with z | z
      · rw [z]; exact ⟨r1, r2⟩
      · exact o.2.2 x z
    obtain ⟨xb, xr⟩ := x
    have i1 : (xr - 1).toNat ∈ List.range 16 := List.mem_range.mpr (by dsimp only at b; omega)
    have i2 : ((xr - 1).toNat : Int) + 1 = xr := by dsimp only at b; omega
    rw [List.mem_append]
    cases xb
    · exact .inr (List.mem_map.mpr ⟨_, i1, by rw [i2]⟩)
    · exact .inl (List.mem_map.mpr ⟨_, i1, by rw [i2]⟩)
  have z := nd_len (List.nodup_cons.mpr ⟨c, o.1⟩) all
  simp at z
  omega
section
variable {P : Program} {w : World} {K : PySem.W.Frag} {mg : Str → Option Value} {base : Heap} {t : Adr}
end
structure PtOk (w h : Int) (p : Pt) : Prop where
  nm : isNm p.nm = true
  x1 : 1 ≤ p.x
  x2 : p.x ≤ w
  y1 : 1 ≤ p.y
  y2 : p.y ≤ h
  sd : p.sd = "left" ∨ p.sd = "right" ∨ p.sd = "both"
  l1 : 1 ≤ p.lo
  l2 : p.lo ≤ p.hi
  l3 : p.hi ≤ h
structure PtsOk (w h : Int) (ps : List Pt) : Prop where
  ok : ∀ p ∈ ps, PtOk w h p
  nn : (ps.map (·.nm)).Nodup
  nx : (ps.map (·.x)).Nodup
  ny : (ps.map (·.y)).Nodup
  le : ps.length ≤ 12
section
variable {P : Program} {w : World} {K : PySem.W.Frag} {mg : Str → Option Value} {base : Heap} {t : Adr}
end
end S23
set_option maxRecDepth 100000
set_option maxHeartbeats 4000000
namespace S23
open PySem L2 XL PyProof.Rows
def numV : Option Nat → V
  | some n => .int (n : Int)
  | none => .non
def spNumG : Sp := fun vs H Q _ => ∃ s : Str, vs = [.str s] ∧ s.length ≤ 100 ∧ (∀ c ∈ s.cps.toList, c < 128) ∧ ∀ H', Same H H' → Q (numV (numL s.cps.toList)) H'
def strsV (ws : List (List Nat)) : List V := ws.map fun w => V.str (ofL w)
def spNumsG : Sp := fun vs H Q _ => ∃ (l : Addr) (ws : List (List Nat)), vs = [.ref l] ∧ H l = some (.lst (strsV ws)) ∧ ws.length ≤ 100 ∧ (∀ w ∈ ws, w.length ≤ 100 ∧ ∀ c ∈ w, c < 128) ∧
  (numsL ws = none → ∀ H', Same H H' → Q .non H') ∧ (∀ ns, numsL ws = some ns → ∀ H' l', Same H H' → H l' = none → H' l' = some (.lst (ns.map fun (n : Nat) => V.int (n : Int))) → Q (.ref l') H')
theorem dig_lo {c : Nat} : (decide ([c] < [48])) = !decide (48 ≤ c) := by
  rw [Bool.eq_iff_iff, decide_eq_true_iff, Bool.not_eq_true', decide_eq_false_iff_not, List.cons_lt_cons_iff]
  constructor
  · rintro (z | ⟨_, z⟩)
    · omega
    · cases z
  · intro z
    exact .inl (by omega)
theorem dig_hi {c : Nat} : (decide ([57] < [c])) = !decide (c ≤ 57) := by
  rw [Bool.eq_iff_iff, decide_eq_true_iff, Bool.not_eq_true', decide_eq_false_iff_not, List.cons_lt_cons_iff]
  constructor
  · rintro (z | ⟨_, z⟩)
    · omega
    · cases z
  · intro z
    exact .inl (by omega)
theorem numL_bad {l : List Nat} {c : Nat} (h : c ∈ l) (d : dig c = false) : numL l = none := by
  match l, h with
  | [a], h =>
    rw [List.mem_singleton.mp h] at d
    show (if dig a then _ else _) = none
    rw [if_neg (by rw [d]; decide)]
  | [a, b], h =>
    show (if dig a && dig b && !decide (a = 48) then _ else _) = none
    rw [if_neg]
    intro z
    rw [Bool.and_eq_true, Bool.and_eq_true] at z
    rcases List.mem_cons.mp h with y | y
    · rw [y, z.1.1] at d; cases d
    · rw [List.mem_singleton.mp y, z.1.2] at d; cases d
  | a :: b :: e :: r, _ => rfl
theorem numL_len {l : List Nat} (h : l.length ≠ 1) (h2 : l.length ≠ 2) : numL l = none := by
  match l with
  | [] => rfl
  | [_] => exact absurd rfl h
  | [_, _] => exact absurd rfl h2
  | _ :: _ :: _ :: _ => rfl
theorem nums_bad {ws : List (List Nat)} {w : List Nat} (h : w ∈ ws) (b : numL w = none) : numsL ws = none := by
  induction ws with
  | nil => cases h
  | cons v ws ih =>
    unfold numsL
    rcases List.mem_cons.mp h with z | z
    · rw [← z, b]
    · rw [ih z]
      cases numL v <;> rfl
theorem nums_all : ∀ {ws : List (List Nat)}, (∀ w ∈ ws, numL w ≠ none) → ∃ ns, numsL ws = some ns ∧ ws.map (fun w => numV (numL w)) = ns.map fun (n : Nat) => V.int (n : Int)
  | [], _ => ⟨[], rfl, rfl⟩
  | w :: ws, h => by
    obtain ⟨ns, e1, e2⟩ := nums_all (ws := ws) fun v hv => h v (List.mem_cons_of_mem _ hv)
    cases z : numL w with
    | none => exact absurd z (h w List.mem_cons_self)
    | some n => exact ⟨n :: ns, by unfold numsL; rw [z, e1], by rw [List.map_cons, List.map_cons, z, e2]; rfl⟩
section
variable {P : Program} {w : World} {K : PySem.W.Frag} {mg : Str → Option Value} {base : Heap} {t : Adr}
theorem ok_number_of (T : Txt w K mg t) : FnOk true P w K mg base (CXo P w) 1 t.f_number_of t.d_number_of ["word"] (spNumG) := by
  refine T.F_number_of.okn (k := 0) sc_number_of (fun vs H Q E h => ?_) (fun cdv A outer s H vs Q E hr h => ?_)
  · obtain ⟨w', rfl, _⟩ := h
    rfl
  · obtain ⟨w', rfl, h⟩ := h
    refine ⟨_, pss_cons (ps_for PassesOwn.never rfl (pi_str (pv 0)) (pg_name (i := 1) sc_number_of.nd rfl (Or.inl rfl)) (pss_one (ps_if (pt_not (pt_chain op_le_str op_le_str (pe_str) (pv 1) (pe_str))) (pss_one (ps_ret (pe_non))) (pss_nil))))
      (pss_cons (ps_if (PW.pt (pw_or (pt_cmpR op_notIn_seq (pe_callB call_len_str rfl T.n_len boot_len (pa_cons (pv 0) (pa_nil))) (pe_tup (pa_cons (pe_int) (pa_cons (pe_int) (pa_nil)))) (by rfl)) (pw_or1 (PW.pt (pw_and (pt_cmpR op_eq (pe_callB call_len_str rfl T.n_len boot_len (pa_cons (pv 0) (pa_nil))) (pe_int) (nomark _)) (pw_and1 (pt_cmpR op_eq (pe_ix ix_str (pv 0) (pe_int) (fun _ _ => rfl)) (pe_str) (nomark _)))))))) (pss_one (ps_ret (pe_non))) (pss_nil))
      (pss_one (ps_ret (pe_callTy call_int_text rfl T.n_int boot_int (pa_cons (pv 0) (pa_nil)))))), ?_⟩
    obtain ⟨len, asc, q⟩ := h
    have sl := str_len w'
    refine ⟨_, rfl, w', rfl, ?_, ?_⟩
    · rw [← Array.all_toList, List.all_eq_true]
      intro c hc
      have := asc c hc
      simp
      omega
    refine for_str (Pv := fun i σ H5 => ∃ v1 : Option V, σ = [some (.str w'), v1] ∧ H = H5 ∧ ∀ (j c : Nat), j < i → w'.cps.toList[j]? = some c → dig c = true) ⟨_, rfl, rfl, fun j c hj => absurd hj (Nat.not_lt_zero _)⟩ ?_ ?_
    · rintro i c σ _ hc ⟨v1, rfl, rfl, all⟩
      refine ⟨_, rfl, _, _, rfl, rfl, _, rfl, ite2 (fun c1 => ?_) (fun c1 => ?_)⟩
      · refine ⟨_, _, rfl, rfl, _, rfl, ite2 (fun c2 => ?_) (fun c2 => ?_)⟩
        · have z := q H (Same.refl _)
          rw [numL_bad (List.mem_of_getElem? hc) (by
            unfold dig
            rw [show (Str.ofString "9").cps.toList = [57] from by decide +kernel, dig_hi] at c2
            cases y : decide (c ≤ 57) with
            | true => rw [y] at c2; cases c2
            | false => rw [Bool.and_false])] at z
          exact z
        · refine ⟨_, rfl, rfl, fun j c' hj hc' => ?_⟩
          rcases Nat.lt_or_ge j i with y | y
          · exact all j c' y hc'
          · obtain rfl : j = i := by omega
            rw [hc] at hc'
            cases hc'
            rw [show (Str.ofString "0").cps.toList = [48] from by decide +kernel, dig_lo] at c1
            rw [show (Str.ofString "9").cps.toList = [57] from by decide +kernel, dig_hi] at c2
            unfold dig
            cases y1 : decide (48 ≤ c) with
            | false => rw [y1] at c1; cases c1
            | true =>
              cases y2 : decide (c ≤ 57) with
              | false => rw [y2] at c2; exact absurd rfl c2
              | true => rfl
      · have z := q H (Same.refl _)
        rw [numL_bad (List.mem_of_getElem? hc) (by
          unfold dig
          rw [show (Str.ofString "0").cps.toList = [48] from by decide +kernel, dig_lo] at c1
          cases y : decide (48 ≤ c) with
          | true => rw [y] at c1; exact absurd rfl c1
          | false => rw [Bool.false_and])] at z
        exact ⟨_, rfl, z⟩
    · rintro σ _ ⟨v1, rfl, rfl, all⟩
      have dall : ∀ c ∈ w'.cps.toList, dig c = true := fun c hc => by
        obtain ⟨j, hj⟩ := List.getElem?_of_mem hc
        exact all j c (by rw [← sl] at *; have := (List.getElem?_eq_some_iff.mp hj).1; first | exact this | omega) hj
      refine ⟨_, rfl, _, rfl, Nat.le_trans len (by decide), (by show 2 ≤ sizeLine; decide), fun q1 hq1 => ?_⟩
      have s1 : Same H (upd H q1 (.tup [.int 1, .int 2])) := same_upd (Same.refl _) hq1
      have g1 : upd H q1 (.tup [.int 1, .int 2]) q1 = some (.tup [.int 1, .int 2]) := upd_same
      revert s1 g1
      generalize upd H q1 (.tup [.int 1, .int 2]) = H1
      intro s1 g1
      refine ⟨q1, _, rfl, .inr (SqT.of g1), rfl, rfl, _, rfl, ite2 (fun c1 => ?_) (fun c1 => ?_)⟩
      · have z := q H1 s1
        rw [if_pos rfl] at c1
        rw [numL_len (fun y => by rw [sl, y] at c1; cases c1) (fun y => by rw [sl, y] at c1; cases c1)] at z
        exact z
      rw [if_pos rfl] at c1
      have l12 : w'.length = 1 ∨ w'.length = 2 := by
        by_cases y1 : w'.length = 1
        · exact .inl y1
        by_cases y2 : w'.length = 2
        · exact .inr y2
        refine absurd ?_ c1
        have : inV (.int (w'.length : Int)) [.int 1, .int 2] = false := by
          unfold inV
          rw [List.any_eq_false]
          intro z hz
          simp only [List.mem_cons, List.not_mem_nil, or_false] at hz
          rcases hz with rfl | rfl <;> intro e
          · have : (1 : Int) = w'.length := by simpa [eqV] using e
            omega
          · have : (2 : Int) = w'.length := by simpa [eqV] using e
            omega
        rw [this]
        rfl
      refine ⟨_, rfl, _, rfl, Nat.le_trans len (by decide), rfl, _, rfl, ite2 (fun c2 => ?_) (fun c2 => ?_)⟩
      · have l2 : w'.length = 2 := by
          have : (w'.length : Int) = 2 := by simpa using c2
          omega
        obtain ⟨c, d, ecd⟩ : ∃ c d, w'.cps.toList = [c, d] := by
          rw [sl] at l2
          match w'.cps.toList, l2 with
          | [c, d], _ => exact ⟨c, d, rfl⟩
        have dc := dall c (by rw [ecd]; simp)
        have dd := dall d (by rw [ecd]; simp)
        have hc0 : w'.cps.toList[0]? = some c := by rw [ecd]; rfl
        refine ⟨_, rfl, w', 0, c, rfl, rfl, Nat.le_trans len (by decide), atI_nat (j := 0) hc0, rfl, _, rfl, ite2 (fun c3 => ?_) (fun c3 => ?_)⟩
        · have e48 : c = 48 := by
            have e := congrArg (fun s : Str => s.cps.toList) (V.str.inj (of_decide_eq_true c3))
            have e2 : [c] = [48] := e.trans (by decide +kernel)
            exact List.head_eq_of_cons_eq e2
          have z := q H1 s1
          rw [ecd] at z
          rw [show numL [c, d] = none by show (if dig c && dig d && !decide (c = 48) then _ else _) = none; rw [e48]; simp] at z
          exact z
        · have n48 : ¬ c = 48 := fun y => c3 (decide_eq_true (by rw [y]; decide +kernel))
          have z := q H1 s1
          unfold dig at dc dd
          rw [Bool.and_eq_true, decide_eq_true_iff, decide_eq_true_iff] at dc dd
          have en : numL w'.cps.toList = some ((c - 48) * 10 + (d - 48)) := by
            rw [ecd]
            show (if dig c && dig d && !decide (c = 48) then _ else _) = _
            rw [if_pos]
            unfold dig
            simp [dc.1, dc.2, dd.1, dd.2, n48]
          rw [en] at z
          have ei : PySem.intText? w' = some ((((c - 48) * 10 + (d - 48) : Nat)) : Int) := by
            have y := num_2 (c - 48) (by omega) (d - 48) (by omega)
            rw [show c - 48 + 48 = c by omega, show d - 48 + 48 = d by omega, ← ecd, ofL_of] at y
            exact y
          exact ⟨_, rfl, w', _, rfl, ei, by omega, z⟩
      · have l1 : w'.length = 1 := by
          rcases l12 with y | y
          · exact y
          · refine absurd ?_ c2
            rw [y]
            rfl
        obtain ⟨c, ec⟩ : ∃ c, w'.cps.toList = [c] := by
          rw [sl] at l1
          exact List.length_eq_one_iff.mp l1
        have dc := dall c (by rw [ec]; simp)
        have z := q H1 s1
        have en : numL w'.cps.toList = some (c - 48) := by
          rw [ec]
          show (if dig c then _ else _) = _
          rw [if_pos dc]
        unfold dig at dc
        rw [Bool.and_eq_true, decide_eq_true_iff, decide_eq_true_iff] at dc
        rw [en] at z
        have ei : PySem.intText? w' = some ((c - 48 : Nat) : Int) := by
          have y := num_1 (c - 48) (by omega)
          rw [show c - 48 + 48 = c by omega, ← ec, ofL_of] at y
          exact y
        exact ifN rfl ⟨_, rfl, w', _, rfl, ei, by omega, z⟩
theorem ok_numbers_of (T : Txt w K mg t) : FnOk true P w K mg base (CXo P w) 2 t.f_numbers_of t.d_numbers_of ["words"] (spNumsG) := by
  refine T.F_numbers_of.okn (k := 1) sc_numbers_of (fun vs H Q E h => ?_) (fun cdv A outer s H vs Q E hr h => ?_)
  · obtain ⟨l, ws, rfl, _⟩ := h
    rfl
  · obtain ⟨l, ws, rfl, h⟩ := h
    refine ⟨_, pss_cons (ps_setcG rfl (blkG_of (zs := ["word"]) (ys := []) (fr := []) (N0 := ["words", "numbers"]) (sc0 := defScope s_numbers_of) (by decide +kernel) rfl rfl rfl) (pi_list (pv 0)) (fun _ _ _ _ _ ow nd => pg_name (i := 0) nd rfl (Or.inl (ow _ (by simp))) (Or.inr (ow _ (by simp)))) (gok_name (by decide)) (fun _ _ _ _ _ => pif_nil) (fun _ _ _ _ _ => pe_call (ok_number_of T) (hr.mono (by decide)) rfl T.g_number_of T.F_number_of.kp T.b_number_of .nil pass_none (pa_cons (pv 0) (pa_nil))) (j := 1) rfl (Or.inl rfl))
      (pss_one (ps_ret (pe_ifExp (pt_cmpR op_in_seq (pe_non) (pv 1) (by rfl)) (pe_non) (pv 1)))), ?_⟩
    obtain ⟨hl, len, wok, qn, qs⟩ := h
    refine ⟨_, rfl, l, rfl, ⟨_, SqL.of hl⟩, fun l1 hl1 => ?_⟩
    refine comp_mapV (as := ws) (f := fun w => V.str (ofL w)) (gv := fun w => numV (numL w)) (SqL.of hl) (Nat.lt_of_le_of_lt len (by decide)) hl1 (fun i w H2 hw s2 N hN => ?_) (fun H1 s1 el1 => ?_)
    · have o := wok w (List.mem_of_getElem? hw)
      refine ⟨_, rfl, ofL w, rfl, by rw [str_len, ofL_cps]; exact o.1, by rw [ofL_cps]; exact o.2, fun H3 s3 => ?_⟩
      rw [ofL_cps]
      exact hN H3 s3
    have fl : (ws.map fun w => numV (numL w)).all flatV = true := by
      rw [List.all_eq_true]
      intro z hz
      obtain ⟨w, _, rfl⟩ := List.mem_map.mp hz
      cases numL w <;> rfl
    refine ⟨_, rfl, l1, _, rfl, .inl (SqL.of el1), rfl, fl, _, rfl, ite2 (fun c => ?_) (fun c => ?_)⟩
    · refine qn ?_ H1 s1
      rw [if_neg (by decide)] at c
      unfold inV at c
      obtain ⟨z, hz, ez⟩ := List.any_eq_true.mp c
      obtain ⟨w, hw, rfl⟩ := List.mem_map.mp hz
      refine nums_bad hw ?_
      cases y : numL w with
      | none => rfl
      | some n =>
        rw [y] at ez
        cases ez
    · rw [if_neg (by decide)] at c
      obtain ⟨ns, e1, e2⟩ := nums_all (ws := ws) fun w hw y => c (by
        unfold inV
        exact List.any_eq_true.mpr ⟨_, List.mem_map.mpr ⟨w, hw, rfl⟩, by rw [y]; rfl⟩)
      exact ⟨_, rfl, qs ns e1 H1 l1 s1 hl1 (by rw [el1, e2])⟩
end
end S23
set_option maxRecDepth 100000
set_option maxHeartbeats 4000000
namespace S23
open PySem L2 XL PyProof.Rows
def Asc (w : List Nat) : Prop := w.length ≤ 100 ∧ ∀ c ∈ w, c < 128
def AscS (ws : List (List Nat)) : Prop := ws.length ≤ 100 ∧ ∀ w ∈ ws, Asc w
theorem split_sub (c : Nat) : ∀ l, ∀ p ∈ splitL c l, ∀ x ∈ p, x ∈ l
  | [], p, h, x, hx => by
    rw [List.mem_singleton.mp h] at hx
    cases hx
  | y :: r, p, h, x, hx => by
    have ih := split_sub c r
    unfold splitL at h
    split at h
    · rcases List.mem_cons.mp h with z | z
      · rw [z] at hx; cases hx
      · exact List.mem_cons_of_mem _ (ih p z x hx)
    · split at h
      · rename_i e
        exact absurd e (splitL_ne c r)
      · rename_i q ps e
        rw [e] at ih
        rcases List.mem_cons.mp h with z | z
        · rw [z] at hx
          rcases List.mem_cons.mp hx with y1 | y1
          · rw [y1]; exact List.mem_cons_self
          · exact List.mem_cons_of_mem _ (ih q List.mem_cons_self x y1)
        · exact List.mem_cons_of_mem _ (ih p (List.mem_cons_of_mem _ z) x hx)
theorem split_size (c : Nat) : ∀ l, (splitL c l).length ≤ l.length + 1 ∧ ∀ p ∈ splitL c l, p.length ≤ l.length
  | [] => ⟨Nat.le_refl _, fun p h => by rw [List.mem_singleton.mp h]; exact Nat.le_refl _⟩
  | y :: r => by
    have ih := split_size c r
    unfold splitL
    split
    · refine ⟨by rw [List.length_cons, List.length_cons]; omega, fun p h => ?_⟩
      rcases List.mem_cons.mp h with z | z
      · rw [z]; exact Nat.zero_le _
      · exact Nat.le_trans (ih.2 p z) (by rw [List.length_cons]; omega)
    · split
      · rename_i e
        exact absurd e (splitL_ne c r)
      · rename_i q ps e
        rw [e] at ih
        refine ⟨by have := ih.1; rw [List.length_cons] at this ⊢; rw [List.length_cons]; omega, fun p h => ?_⟩
        rcases List.mem_cons.mp h with z | z
        · have := ih.2 q List.mem_cons_self
          rw [z, List.length_cons, List.length_cons]
          omega
        · exact Nat.le_trans (ih.2 p (List.mem_cons_of_mem _ z)) (by rw [List.length_cons]; omega)
theorem split_asc {c : Nat} {l : List Nat} (h : l.length ≤ 99 ∧ ∀ c ∈ l, c < 128) : AscS (splitL c l) := by
  have z := split_size c l
  exact ⟨by omega, fun p hp => ⟨by have := z.2 p hp; omega, fun x hx => h.2 x (split_sub c l p hp x hx)⟩⟩
def NoTxt (H : Hp) (v : V) : Prop := v = .non ∨ (∃ i, v = .int i) ∨ (∃ b, v = .bl b) ∨ ∃ a, v = .ref a ∧ ((∃ xs, H a = some (.lst xs)) ∨ (∃ xs, H a = some (.tup xs)) ∨ ∃ kvs, H a = some (.dK kvs))
def wordsV : V → List (List Nat)
  | .str s => wordsL s.cps.toList
  | _ => []
def LinOk (H : Hp) (v : V) : Prop := (∃ s : Str, v = .str s ∧ s.length ≤ 99 ∧ ∀ c ∈ s.cps.toList, c < 128) ∨ NoTxt H v
def spWordsG : Sp := fun vs H Q _ => ∃ v : V, vs = [v] ∧ LinOk H v ∧ ∀ H' l, Same H H' → H l = none → H' l = some (.lst (strsV (wordsV v))) → Q (.ref l) H'
def spSpanG : Sp := fun vs H Q _ => ∃ w : List Nat, vs = [.str (ofL w)] ∧ w.length ≤ 99 ∧ (∀ c ∈ w, c < 128) ∧ ∀ H' l, Same H H' → H l = none → H' l = some (.lst ((spanL w).map fun (n : Nat) => V.int (n : Int))) → Q (.ref l) H'
theorem strs_flat (ws : List (List Nat)) : (strsV ws).all flatV = true := by
  rw [List.all_eq_true]
  intro z hz
  obtain ⟨i, _, rfl⟩ := List.mem_map.mp hz
  rfl
theorem in_empty (ws : List (List Nat)) : inV (.str (Str.ofString "")) (strsV ws) = ws.any (·.isEmpty) := by
  unfold inV strsV
  rw [List.any_map]
  congr 1
  funext w
  show eqV (.str (ofL w)) (.str (Str.ofString "")) = w.isEmpty
  cases w with
  | nil => decide +kernel
  | cons c r =>
    have : ofL (c :: r) ≠ Str.ofString "" := fun e => by
      have z := congrArg (fun s : Str => s.cps.toList) e
      have z2 : c :: r = [] := (ofL_cps (c :: r)).symm.trans (z.trans (by decide +kernel))
      cases z2
    simpa [eqV] using this
theorem nums_len : ∀ {ws : List (List Nat)} {ns : List Nat}, numsL ws = some ns → ns.length = ws.length
  | [], ns, h => by cases h; rfl
  | w :: ws, ns, h => by
    unfold numsL at h
    split at h
    · rename_i n ms e1 e2
      cases h
      rw [List.length_cons, List.length_cons, nums_len e2]
    · cases h
theorem numL_lt {w : List Nat} {n : Nat} (h : numL w = some n) : n < 100 := by
  match w, h with
  | [c], h =>
    change (if dig c then some (c - 48) else none) = some n at h
    split at h
    · rename_i d
      unfold dig at d
      rw [Bool.and_eq_true, decide_eq_true_iff, decide_eq_true_iff] at d
      cases h
      omega
    · cases h
  | [c, d], h =>
    change (if dig c && dig d && !decide (c = 48) then some ((c - 48) * 10 + (d - 48)) else none) = some n at h
    split at h
    · rename_i z
      unfold dig at z
      rw [Bool.and_eq_true, Bool.and_eq_true, Bool.and_eq_true, Bool.and_eq_true, decide_eq_true_iff, decide_eq_true_iff, decide_eq_true_iff, decide_eq_true_iff] at z
      cases h
      omega
    · cases h
theorem nums_lt : ∀ {ws : List (List Nat)} {ns : List Nat}, numsL ws = some ns → ∀ n ∈ ns, n < 100
  | [], ns, h, n, hn => by cases h; cases hn
  | w :: ws, ns, h, n, hn => by
    unfold numsL at h
    split at h
    · rename_i m ms e1 e2
      cases h
      rcases List.mem_cons.mp hn with z | z
      · rw [z]; exact numL_lt e1
      · exact nums_lt e2 n z
    · cases h
theorem rng_V (a b : Nat) : rngL (a : Int) ((b : Int) + 1) = ((List.range (b + 1 - a)).map (a + ·)).map fun (n : Nat) => V.int (n : Int) := by
  unfold rngL
  rw [List.map_map, show ((b : Int) + 1 - (a : Int)).toNat = b + 1 - a by omega]
  rfl
section
variable {P : Program} {w : World} {K : PySem.W.Frag} {mg : Str → Option Value} {base : Heap} {t : Adr}
theorem ok_words_of (T : Txt w K mg t) : FnOk true P w K mg base (CXo P w) 1 t.f_words_of t.d_words_of ["line"] (spWordsG) := by
  refine T.F_words_of.okn (k := 0) sc_words_of (fun vs H Q E h => ?_) (fun cdv A outer s H vs Q E hr h => ?_)
  · obtain ⟨v, rfl, _⟩ := h
    rfl
  · obtain ⟨v, rfl, h⟩ := h
    refine ⟨_, pss_cons (ps_if (pt_not (pt_val (pe_callB call_isin rfl T.n_isinstance boot_isinstance (pa_cons (pv 0) (pa_cons (pe_bltn (v := .ty "str") rfl T.n_str boot_str rfl) (pa_nil)))))) (pss_one (ps_ret (pe_lst (pa_nil)))) (pss_nil))
      (pss_cons (ps_set (i := 1) sc_words_of.nd rfl (Or.inl rfl) (pe_bm PySem.F.plainAttrs_str PySem.F.slot_str_split PySem.F.type_str_split mt_split (pv 0) (pa_cons (pe_str) (pa_nil))))
      (pss_one (ps_ret (pe_ifExp (pt_cmpR op_in_seq (pe_str) (pv 1) (by rfl)) (pe_lst (pa_nil)) (pv 1))))), ?_⟩
    obtain ⟨ok, q⟩ := h
    rcases ok with ⟨s', rfl, len, asc⟩ | nt
    · refine ⟨_, rfl, _, _, rfl, .inl ⟨_, _, true, .str _, rfl, kit_same, true, rfl, ifN (by decide) ?_⟩⟩
      have sl := str_len s'
      refine ⟨_, rfl, rfl, _, _, rfl, rfl, by decide +kernel, Nat.le_trans (Nat.add_le_add_right len 2) (by decide), fun l hl => ?_⟩
      rw [show Str.ofString " " = (⟨#[32]⟩ : Str) from by decide +kernel, split_is, List.map_map]
      have s1 : Same H (upd H l (.lst ((splitL 32 s'.cps.toList).map (V.str ∘ ofL)))) := same_upd (Same.refl _) hl
      have g1 : upd H l (.lst ((splitL 32 s'.cps.toList).map (V.str ∘ ofL))) l = some (.lst ((splitL 32 s'.cps.toList).map (V.str ∘ ofL))) := upd_same
      revert s1 g1
      generalize upd H l (.lst ((splitL 32 s'.cps.toList).map (V.str ∘ ofL))) = H1
      intro s1 g1
      have g1' : H1 l = some (.lst (strsV (splitL 32 s'.cps.toList))) := g1
      refine ⟨_, rfl, l, _, rfl, .inl (SqL.of g1'), rfl, strs_flat _, _, rfl, ite2 (fun c => ?_) (fun c => ?_)⟩
      · rw [if_neg (by decide), in_empty] at c
        refine ⟨(by show 0 ≤ sizeLine; exact Nat.zero_le _), fun l2 hl2 => q _ l2 (same_upd s1 hl2) (s1.free hl2) ?_⟩
        show _ = some (HO.lst (strsV (wordsL s'.cps.toList)))
        unfold wordsL
        rw [if_pos c]
        exact upd_same
      · rw [if_neg (by decide), in_empty] at c
        refine ⟨_, rfl, q H1 l s1 hl ?_⟩
        show _ = some (HO.lst (strsV (wordsL s'.cps.toList)))
        unfold wordsL
        rw [if_neg c]
        exact g1'
    · have fin : ∀ l, H l = none → Q (.ref l) (upd H l (.lst [])) := fun l hl => q _ l (same_upd (Same.refl _) hl) hl (by
        rcases nt with rfl | ⟨i, rfl⟩ | ⟨b, rfl⟩ | ⟨a, rfl, _⟩ <;> exact upd_same)
      rcases nt with rfl | ⟨i, rfl⟩ | ⟨b, rfl⟩ | ⟨a, rfl, ⟨xs, e⟩ | ⟨xs, e⟩ | ⟨kvs, e⟩⟩
      · exact ⟨_, rfl, _, _, rfl, .inl ⟨_, _, false, .non, rfl, (by rfl), false, rfl, ifP (by decide) ⟨(by show 0 ≤ sizeLine; exact Nat.zero_le _), fin⟩⟩⟩
      · exact ⟨_, rfl, _, _, rfl, .inl ⟨_, _, false, .int i, rfl, (by rfl), false, rfl, ifP (by decide) ⟨(by show 0 ≤ sizeLine; exact Nat.zero_le _), fin⟩⟩⟩
      · exact ⟨_, rfl, _, _, rfl, .inl ⟨_, _, false, .bl b, rfl, (by rfl), false, rfl, ifP (by decide) ⟨(by show 0 ≤ sizeLine; exact Nat.zero_le _), fin⟩⟩⟩
      · exact ⟨_, rfl, _, _, rfl, .inl ⟨_, _, false, .lst e, rfl, (by rfl), false, rfl, ifP (by decide) ⟨(by show 0 ≤ sizeLine; exact Nat.zero_le _), fin⟩⟩⟩
      · exact ⟨_, rfl, _, _, rfl, .inl ⟨_, _, false, .tup e, rfl, (by rfl), false, rfl, ifP (by decide) ⟨(by show 0 ≤ sizeLine; exact Nat.zero_le _), fin⟩⟩⟩
      · exact ⟨_, rfl, _, _, rfl, .inl ⟨_, _, false, .dK e, rfl, (by rfl), false, rfl, ifP (by decide) ⟨(by show 0 ≤ sizeLine; exact Nat.zero_le _), fin⟩⟩⟩
theorem ok_span_of (T : Txt w K mg t) : FnOk true P w K mg base (CXo P w) 3 t.f_span_of t.d_span_of ["word"] (spSpanG) := by
  refine T.F_span_of.okn (k := 2) sc_span_of (fun vs H Q E h => ?_) (fun cdv A outer s H vs Q E hr h => ?_)
  · obtain ⟨w', rfl, _⟩ := h
    rfl
  · obtain ⟨w', rfl, h⟩ := h
    refine ⟨_, pss_cons (ps_set (i := 1) sc_span_of.nd rfl (Or.inl rfl) (pe_call (ok_numbers_of T) (hr.mono (by decide)) rfl T.g_numbers_of T.F_numbers_of.kp T.b_numbers_of .nil pass_none (pa_cons (pe_bm PySem.F.plainAttrs_str PySem.F.slot_str_split PySem.F.type_str_split mt_split (pv 0) (pa_cons (pe_str) (pa_nil))) (pa_nil))))
      (pss_cons (ps_if (PW.pt (pw_or (pt_cmpR op_isN (pv 1) (pe_non) (nomark _)) (pw_or1 (pt_cmpR op_gt (pe_callB call_len_seq rfl T.n_len boot_len (pa_cons (pv 1) (pa_nil))) (pe_int) (nomark _))))) (pss_one (ps_ret (pe_lst (pa_nil)))) (pss_nil))
      (pss_one (ps_ret (pe_callTy (call_list_rng rfl) rfl T.n_list boot_list (pa_cons (pe_callTy call_range2 rfl T.n_range boot_range (pa_cons (pe_ix ix_list (pv 1) (pe_int) (fun _ _ => rfl)) (pa_cons (pe_op op_add (pe_ix ix_list (pv 1) (pe_un un_neg (pe_int)) (fun _ _ => rfl)) (pe_int)) (pa_nil)))) (pa_nil)))))), ?_⟩
    obtain ⟨len, asc, q⟩ := h
    have sl : (ofL w').length = w'.length := by rw [str_len, ofL_cps]
    refine ⟨_, rfl, rfl, _, _, rfl, rfl, by decide +kernel, by rw [sl]; exact Nat.le_trans (Nat.add_le_add_right len 2) (by decide), fun l0 hl0 => ?_⟩
    rw [show Str.ofString "-" = (⟨#[45]⟩ : Str) from by decide +kernel, split_is, ofL_cps, List.map_map]
    have s1 : Same H (upd H l0 (.lst ((splitL 45 w').map (V.str ∘ ofL)))) := same_upd (Same.refl _) hl0
    have g1 : upd H l0 (.lst ((splitL 45 w').map (V.str ∘ ofL))) l0 = some (.lst ((splitL 45 w').map (V.str ∘ ofL))) := upd_same
    revert s1 g1
    generalize upd H l0 (.lst ((splitL 45 w').map (V.str ∘ ofL))) = H1
    intro s1 g1
    have as := split_asc (c := 45) ⟨len, asc⟩
    refine ⟨l0, splitL 45 w', rfl, g1, as.1, as.2, fun en H2 s2 => ?_, fun ns en H2 l1 s2 fl1 hl1 => ?_⟩
    · refine ⟨_, rfl, rfl, _, rfl, ifP (by rfl) ⟨(by show 0 ≤ sizeLine; exact Nat.zero_le _), fun l3 hl3 => ?_⟩⟩
      refine q _ l3 ((s1.trans s2).trans (same_upd (Same.refl _) hl3)) ((s1.trans s2).free hl3) ?_
      unfold spanL
      rw [en]
      exact upd_same
    refine ⟨_, rfl, rfl, _, rfl, ifN (by simp) ⟨_, rfl, l1, _, rfl, .inl (SqL.of hl1), _, _, rfl, rfl, _, rfl, ite2 (fun c => ?_) (fun c => ?_)⟩⟩
    · refine ⟨(by show 0 ≤ sizeLine; exact Nat.zero_le _), fun l3 hl3 => ?_⟩
      refine q _ l3 ((s1.trans s2).trans (same_upd (Same.refl _) hl3)) ((s1.trans s2).free hl3) ?_
      have c' : 2 < ns.length := by
        have := of_decide_eq_true c
        rw [List.length_map] at this
        omega
      unfold spanL
      rw [en]
      match ns, c' with
      | a :: b :: d :: r, _ => exact upd_same
    · have c' : ns.length ≤ 2 := by
        have : ¬ (2 : Int) < ((ns.map fun (n : Nat) => V.int (n : Int)).length : Int) := fun y => c (decide_eq_true y)
        rw [List.length_map] at this
        omega
      have n1 : 1 ≤ ns.length := by
        rw [nums_len en]
        cases e : splitL 45 w' with
        | nil => exact absurd e (splitL_ne _ _)
        | cons _ _ => simp
      have lts := nums_lt en
      obtain ⟨a, b, a0, a1, es, ha, hb⟩ : ∃ a b : Nat, atI (ns.map fun (n : Nat) => V.int (n : Int)) 0 = some (.int (a : Int)) ∧ atI (ns.map fun (n : Nat) => V.int (n : Int)) (-1) = some (.int (b : Int)) ∧ spanL w' = (List.range (b + 1 - a)).map (a + ·) ∧ a < 100 ∧ b < 100 := by
        match ns, n1, c', en, lts with
        | [a], _, _, en, lts => exact ⟨a, a, rfl, rfl, by unfold spanL; rw [en], lts a (by simp), lts a (by simp)⟩
        | [a, b], _, _, en, lts => exact ⟨a, b, rfl, rfl, by unfold spanL; rw [en], lts a (by simp), lts b (by simp)⟩
      refine ⟨_, rfl, l1, _, 0, _, rfl, rfl, SqL.of hl1, a0, _, rfl, 1, rfl, l1, _, _, _, rfl, rfl, SqL.of hl1, a1, _, _, rfl, rfl, _, _, rfl, fun pr hpr => ?_⟩
      have s3 := same_upd (o := .rng (a : Int) ((b : Int) + 1)) (Same.refl _) hpr
      refine ⟨pr, _, _, rfl, upd_same, ⟨by omega, by omega, by omega, by omega⟩, by omega, fun l hl => ?_⟩
      have s4 := same_upd (o := .lst (rngL (a : Int) ((b : Int) + 1))) (Same.refl _) hl
      refine q _ l (((s1.trans s2).trans s3).trans s4) (((s1.trans s2).trans s3).free hl) ?_
      rw [es, ← rng_V]
      exact upd_same
end
end S23
set_option maxRecDepth 100000
set_option maxHeartbeats 4000000
namespace S23
open PySem L2 XL PyProof.Rows
def WOk (ws : List (List Nat)) : Prop := ws.length ≤ 100 ∧ ∀ w ∈ ws, w.length ≤ 99 ∧ ∀ c ∈ w, c < 128
theorem words_ok {l : List Nat} (h : l.length ≤ 99 ∧ ∀ c ∈ l, c < 128) : WOk (wordsL l) := by
  unfold wordsL
  split
  · exact ⟨Nat.zero_le _, fun w hw => (nomatch hw)⟩
  · have z := split_size 32 l
    exact ⟨by omega, fun p hp => ⟨by have := z.2 p hp; omega, fun x hx => h.2 x (split_sub 32 l p hp x hx)⟩⟩
def spRowsG : Sp := fun vs H Q _ => ∃ (l : Addr) (ws : List (List Nat)), vs = [.ref l] ∧ H l = some (.lst (strsV ws)) ∧ WOk ws ∧ (rowsL ws = none → ∀ H', Same H H' → Q .non H') ∧
  (∀ rs, rowsL ws = some rs → ∀ H' l', Same H H' → H l' = none → H' l' = some (.lst (rs.map fun (n : Nat) => V.int (n : Int))) → Q (.ref l') H')
def nV (ns : List Nat) : List V := ns.map fun (n : Nat) => V.int (n : Int)
def FSpG (l1 : Addr) (ws : List (List Nat)) (i : Nat) (ys : List V) (H : Hp) : Prop := ∃ rs : List Addr, ys = rs.map V.ref ∧ rs.length = i ∧ ∀ (j : Nat) (q : Addr) (w : List Nat), rs[j]? = some q → ws[j]? = some w → q ≠ l1 ∧ H q = some (.lst (nV (spanL w)))
theorem ne_nil {ds : List DV} : dEq (.lst ds) (.lst []) = ds.isEmpty := by
  cases ds with
  | nil => rfl
  | cons a r => exact dEqs_len (by simp)
theorem dv_spG {K : PySem.W.Frag} {H : Hp} {l1 : Addr} {ws : List (List Nat)} {rs : List Addr} (h : H l1 = some (.lst (rs.map V.ref))) (el : rs.length = ws.length) (f : ∀ (j : Nat) (q : Addr) (w : List Nat), rs[j]? = some q → ws[j]? = some w → H q = some (.lst (nV (spanL w)))) : Dv K H 2 (.ref l1) (.lst (ws.map fun w => .lst ((spanL w).map fun (n : Nat) => DV.int (n : Int)))) := by
  refine .lst (SqL.of h) (by rw [List.length_map, List.length_map, el]) fun j x d h1 h2 => ?_
  rw [List.getElem?_map] at h1 h2
  obtain ⟨q, hq, rfl⟩ := Option.map_eq_some_iff.mp h1
  obtain ⟨w, hw, rfl⟩ := Option.map_eq_some_iff.mp h2
  refine .lst (SqL.of (f j q w hq hw)) (by unfold nV; rw [List.length_map, List.length_map]) fun k x d h1 h2 => ?_
  unfold nV at h1
  rw [List.getElem?_map] at h1 h2
  obtain ⟨i, hi, rfl⟩ := Option.map_eq_some_iff.mp h1
  rw [hi] at h2
  cases h2
  exact .int
theorem any_spG (ws : List (List Nat)) : (ws.map fun w => DV.lst ((spanL w).map fun (n : Nat) => DV.int (n : Int))).any (fun z => dEq z (.lst [])) = (ws.map spanL).any (·.isEmpty) := by
  rw [List.any_map, List.any_map]
  congr 1
  funext w
  show dEq (.lst _) (.lst []) = (spanL w).isEmpty
  rw [ne_nil]
  cases spanL w <;> rfl
theorem span_len (w : List Nat) : (spanL w).length ≤ 101 := by
  unfold spanL
  split
  · rename_i a e
    have := nums_lt e a (by simp)
    rw [List.length_map, List.length_range]
    omega
  · rename_i a b e
    have := nums_lt e b (by simp)
    rw [List.length_map, List.length_range]
    omega
  · exact Nat.zero_le _
theorem flatG_len : ∀ ws : List (List Nat), (ws.flatMap spanL).length ≤ ws.length * 101
  | [] => Nat.le_refl _
  | w :: ws => by
    have h1 := span_len w
    have h2 := flatG_len ws
    rw [List.flatMap_cons, List.length_append, List.length_cons]
    omega
theorem cut_1 {α : V} {xs : List V} : cutV (α :: xs) (some 1) none = xs := by
  unfold cutV
  simp [HT.sIx]
theorem in_sides (w : List Nat) : inV (.str (ofL w)) [.str "left", .str "right"] = decide (w = leftL ∨ w = rightL) := by
  have e : ∀ s : Str, eqV (.str s) (.str (ofL w)) = decide (w = s.cps.toList) := fun s => by
    rw [Bool.eq_iff_iff, decide_eq_true_iff]
    constructor
    · intro h
      have : s = ofL w := by simpa [eqV] using h
      rw [this, ofL_cps]
    · intro h
      rw [h, ofL_of]
      simp [eqV]
  show (eqV (.str "left") (.str (ofL w)) || (eqV (.str "right") (.str (ofL w)) || false)) = _
  rw [e, e, Bool.or_false, Bool.eq_iff_iff, Bool.or_eq_true, decide_eq_true_iff, decide_eq_true_iff, decide_eq_true_iff]
  rfl
def ptO : List (List Nat) → Option (List V)
  | [p, n, x, y] => if p = pointL then (match numsL [x, y] with | some [a, b] => some [.str (ofL n), .int (a : Int), .int (b : Int), .str "both", .int 1, .non] | _ => none) else none
  | [p, n, x, y, s] => if p = pointL then (match numsL [x, y] with | some [a, b] => some [.str (ofL n), .int (a : Int), .int (b : Int), .str (ofL s), .int 1, .non] | _ => none) else none
  | [p, n, x, y, s, lo, hi] => if p = pointL then (match numsL [x, y, lo, hi] with | some [a, b, c, d] => some [.str (ofL n), .int (a : Int), .int (b : Int), .str (ofL s), .int (c : Int), .int (d : Int)] | _ => none) else none
  | _ => none
def spPtG : Sp := fun vs H Q _ => ∃ (l : Addr) (ws : List (List Nat)), vs = [.ref l] ∧ H l = some (.lst (strsV ws)) ∧ WOk ws ∧ (ptO ws = none → ∀ H', Same H H' → Q .non H') ∧ (∀ res, ptO ws = some res → ∀ H' q, Same H H' → H' q = some (.tup res) → Q (.ref q) H')
def spFrG : Sp := fun vs H Q _ => ∃ (l : Addr) (ws : List (List Nat)), vs = [.ref l] ∧ H l = some (.lst (strsV ws)) ∧ WOk ws ∧ (frmL ws = none → ∀ H', Same H H' → Q .non H') ∧ (∀ ns, frmL ws = some ns → ∀ H' l', Same H H' → H l' = none → H' l' = some (.lst (nV ns)) → Q (.ref l') H')
theorem ofL_eq {w : List Nat} {s : Str} : (V.str (ofL w) = V.str s) ↔ w = s.cps.toList := by
  constructor
  · intro h
    rw [← V.str.inj h, ofL_cps]
  · intro h
    rw [h, ofL_of]
section
variable {P : Program} {w : World} {K : PySem.W.Frag} {mg : Str → Option Value} {base : Heap} {t : Adr}
theorem ok_rows_of (T : Txt w K mg t) : FnOk true P w K mg base (CXo P w) 4 t.f_rows_of t.d_rows_of ["words"] (spRowsG) := by
  refine T.F_rows_of.okn (k := 3) sc_rows_of (fun vs H Q E h => ?_) (fun cdv A outer s H vs Q E hr h => ?_)
  · obtain ⟨l, ws, rfl, _⟩ := h
    rfl
  · obtain ⟨l, ws, rfl, h⟩ := h
    refine ⟨_, pss_cons (ps_if (PW.pt (pw_or (pt_cmpR op_lt (pe_callB call_len_seq rfl T.n_len boot_len (pa_cons (pv 0) (pa_nil))) (pe_int) (nomark _)) (pw_or1 (pt_cmpR op_notIn_seq (pe_ix ix_list (pv 0) (pe_int) (fun _ _ => rfl)) (pe_tup (pa_cons (pe_str) (pa_cons (pe_str) (pa_nil)))) (by rfl))))) (pss_one (ps_ret (pe_non))) (pss_nil))
      (pss_cons (ps_setcG rfl (blkG_of (zs := ["word"]) (ys := []) (fr := []) (N0 := ["words", "spans", "rows", "span"]) (sc0 := defScope s_rows_of) (by decide +kernel) rfl rfl rfl) (pi_list (pe_slice sl_list (pv 0) (po_some (pe_int)) po_none)) (fun _ _ _ _ _ ow nd => pg_name (i := 0) nd rfl (Or.inl (ow _ (by simp))) (Or.inr (ow _ (by simp)))) (gok_name (by decide)) (fun _ _ _ _ _ => pif_nil) (fun _ _ _ _ _ => pe_call (ok_span_of T) (hr.mono (by decide)) rfl T.g_span_of T.F_span_of.kp T.b_span_of .nil pass_none (pa_cons (pv 0) (pa_nil))) (j := 1) rfl (Or.inl rfl))
      (pss_cons (ps_if (pt_cmpR (op_inV (hu20_of hr)) (pe_lst (pa_nil)) (pv 1) (by rfl)) (pss_one (ps_ret (pe_non))) (pss_nil))
      (pss_cons (ps_set (i := 2) sc_rows_of.nd rfl (Or.inl rfl) (pe_lst (pa_nil)))
      (pss_cons (ps_for PassesOwn.never rfl (pi_list (pv 1)) (pg_name (i := 3) sc_rows_of.nd rfl (Or.inl rfl)) (pss_one (ps_expr (pe_bm PySem.F.plainAttrs_list PySem.F.slot_list_extend PySem.F.type_list_extend mt_extend (pv 2) (pa_cons (pv 3) (pa_nil))))))
      (pss_one (ps_ret (pv 2))))))), ?_⟩
    obtain ⟨hl, wok, qn, qs⟩ := h
    have slen : (strsV ws).length = ws.length := by unfold strsV; rw [List.length_map]
    refine ⟨_, rfl, l, _, rfl, .inl (SqL.of hl), _, _, rfl, rfl, _, rfl, ite2 (fun c => ?_) (fun c => ?_)⟩
    · refine qn ?_ H (Same.refl _)
      have : ws.length < 2 := by
        have := of_decide_eq_true c
        rw [slen] at this
        omega
      match ws, this with
      | [], _ => rfl
      | [_], _ => rfl
    obtain ⟨w, v, r, rfl⟩ : ∃ w v r, ws = w :: v :: r := by
      have : ¬ ws.length < 2 := fun z => c (decide_eq_true (by rw [slen]; omega))
      match ws, this with
      | [], h => exact absurd (by decide) h
      | [_], h => exact absurd (by simp) h
      | w :: v :: r, _ => exact ⟨w, v, r, rfl⟩
    refine ⟨_, rfl, l, _, 0, .str (ofL w), rfl, rfl, SqL.of hl, atI_nat (j := 0) rfl, (by show 2 ≤ sizeLine; decide), fun q1 hq1 => ?_⟩
    have s1 : Same H (upd H q1 (.tup [.str "left", .str "right"])) := same_upd (Same.refl _) hq1
    have g1 : upd H q1 (.tup [.str "left", .str "right"]) q1 = some (.tup [.str "left", .str "right"]) := upd_same
    revert s1 g1
    generalize upd H q1 (.tup [.str "left", .str "right"]) = H1
    intro s1 g1
    refine ⟨q1, _, rfl, .inr (SqT.of g1), rfl, rfl, _, rfl, ite2 (fun c2 => ?_) (fun c2 => ?_)⟩
    · rw [if_pos rfl, in_sides, Bool.not_eq_true', decide_eq_false_iff_not] at c2
      refine qn ?_ H1 s1
      show (if w = leftL ∨ w = rightL then _ else _) = none
      rw [if_neg c2]
    rw [if_pos rfl, in_sides, Bool.not_eq_true, Bool.not_eq_false', decide_eq_true_iff] at c2
    have er : rowsL (w :: v :: r) = if ((v :: r).map spanL).any (·.isEmpty) then none else some ((v :: r).flatMap spanL) := by
      show (if w = leftL ∨ w = rightL then _ else _) = _
      rw [if_pos c2]
    rw [er] at qn qs
    have wl := wok.1
    have tok : ∀ u ∈ v :: r, u.length ≤ 99 ∧ ∀ c ∈ u, c < 128 := fun u hu => wok.2 u (List.mem_cons_of_mem _ hu)
    generalize v :: r = vs at *
    have hl1 := s1 _ _ hl
    refine ⟨_, rfl, 1, rfl, l, _, rfl, SqL.of hl1, fun p hp => ?_⟩
    rw [show cutV (strsV (w :: vs)) (some 1) none = strsV vs from cut_1]
    have s2 : Same H1 (upd H1 p (.lst (strsV vs))) := same_upd (Same.refl _) hp
    have g2 : upd H1 p (.lst (strsV vs)) p = some (.lst (strsV vs)) := upd_same
    revert s2 g2
    generalize upd H1 p (.lst (strsV vs)) = H2
    intro s2 g2
    have vl : vs.length ≤ 99 := by rw [List.length_cons] at wl; omega
    refine ⟨p, rfl, ⟨_, SqL.of g2⟩, fun l1 hl1 => ?_⟩
    refine comp_listL (SqL.of g2) (by unfold strsV; rw [List.length_map]; exact Nat.lt_of_le_of_lt vl (by decide)) hl1 (FSpG l1 vs) (fun _ _ => ⟨[], rfl, rfl, fun j q w h => by simp at h⟩) ?_ (fun i x ys H3 hx s3 el3 f3 N hN => ?_) (fun ys H3 s3 el3 ly3 f3 => ?_)
    · rintro i ys zs H5 H6 _ k ⟨rs, e, lr, f⟩
      exact ⟨rs, e, lr, fun j q w h1 h2 => ⟨(f j q w h1 h2).1, k _ _ (f j q w h1 h2).1 (f j q w h1 h2).2⟩⟩
    · unfold strsV at hx
      rw [List.getElem?_map] at hx
      obtain ⟨u, hu, rfl⟩ := Option.map_eq_some_iff.mp hx
      have o := tok u (List.mem_of_getElem? hu)
      refine ⟨_, rfl, u, rfl, o.1, o.2, fun H4 l4 s4 fl4 hl4 => hN _ _ s4 ?_⟩
      obtain ⟨rs, rfl, lr, f⟩ := f3
      refine ⟨rs ++ [l4], by simp, by simp [lr], fun j q v h1 h2 => ?_⟩
      rcases Nat.lt_or_ge j rs.length with z | z
      · rw [List.getElem?_append_left z] at h1
        exact ⟨(f j q v h1 h2).1, s4 _ _ (f j q v h1 h2).2⟩
      · rw [List.getElem?_append_right z] at h1
        have e0 : j - rs.length = 0 := by
          rcases Nat.eq_zero_or_pos (j - rs.length) with y | y
          · exact y
          · rw [List.getElem?_eq_none (by simp; omega)] at h1
            cases h1
        rw [e0] at h1
        cases h1
        have ej : j = i := by omega
        subst ej
        rw [hu] at h2
        cases h2
        exact ⟨Ne.symm (ne_of_none el3 fl4), hl4⟩
    obtain ⟨rs, rfl, lr, f⟩ := f3
    have lw : rs.length = vs.length := by rw [lr]; unfold strsV; rw [List.length_map]
    refine ⟨(by show 0 ≤ sizeLine; exact Nat.zero_le _), fun q0 hq0 => ?_⟩
    have s4 : Same H3 (upd H3 q0 (.lst [])) := same_upd (Same.refl _) hq0
    have g4 : upd H3 q0 (.lst []) q0 = some (.lst []) := upd_same
    revert s4 g4
    generalize upd H3 q0 (.lst []) = H4
    intro s4 g4
    have f4 : ∀ (j : Nat) (q : Addr) (w : List Nat), rs[j]? = some q → vs[j]? = some w → H4 q = some (.lst (nV (spanL w))) := fun j q w h1 h2 => s4 _ _ (f j q w h1 h2).2
    have s04 : Same H H4 := ((s1.trans s2).trans s3).trans s4
    refine ⟨_, rfl, 1, 2, .lst [], _, .lst (SqL.of g4) rfl (fun j x d h => by simp at h), dv_spG (s4 _ _ el3) lw f4, by decide, by decide, _, rfl, ite2 (fun c3 => ?_) (fun c3 => ?_)⟩
    · rw [if_neg (by decide), any_spG] at c3
      rw [if_pos c3] at qn
      exact qn rfl H4 s04
    rw [if_neg (by decide), any_spG] at c3
    rw [if_neg c3] at qs
    refine ⟨(by show 0 ≤ sizeLine; exact Nat.zero_le _), fun lr0 hlr0 => ?_⟩
    have fr0 := s04.free hlr0
    have el4 := s4 _ _ el3
    refine ⟨_, rfl, l1, rfl, ⟨_, SqL.of (by rw [upd_ne (ne_of_none el4 hlr0)]; exact el4)⟩, ?_⟩
    refine for_list (xs := rs.map V.ref) (Pv := fun i σ H5 => ∃ v3 : Option V, σ = [some (.ref l), some (.ref l1), some (.ref lr0), v3] ∧ H5 lr0 = some (.lst (nV ((vs.take i).flatMap spanL))) ∧ ∀ b u, b ≠ lr0 → H4 b = some u → H5 b = some u) ⟨_, rfl, upd_same, fun b u nb e => by rw [upd_ne nb]; exact e⟩ ?_ ?_ ?_
    · rintro i σ H5 _ ⟨v3, _, _, k⟩
      exact SqL.of (k _ _ (ne_of_none el4 hlr0) el4)
    · rintro i x σ H5 hx ⟨v3, rfl, h5, k⟩
      rw [List.getElem?_map] at hx
      obtain ⟨q2, hq2, rfl⟩ := Option.map_eq_some_iff.mp hx
      have ilt : i < vs.length := by
        rw [← lw]
        exact (List.getElem?_eq_some_iff.mp hq2).1
      have hw : vs[i]? = some vs[i] := List.getElem?_eq_getElem ilt
      have h2 := f4 i q2 _ hq2 hw
      have h3 := k _ _ (ne_of_none h2 hlr0) h2
      have b1 := flatG_len (vs.take i)
      have b2 := span_len vs[i]
      have b3 : (vs.take i).length ≤ 99 := by rw [List.length_take]; omega
      refine ⟨_, rfl, .inl ⟨rfl, _, SqL.of h5⟩, _, rfl, lr0, q2, _, _, rfl, rfl, h5, h3, ?_, _, rfl, ?_, fun b u nb e => ?_⟩
      · unfold nV
        rw [List.length_map, List.length_map]
        exact Nat.le_trans (by omega : _ ≤ 20000) (by decide)
      · have tk : vs.take (i + 1) = vs.take i ++ [vs[i]] := by rw [List.take_succ, hw]; rfl
        rw [upd_same, tk, List.flatMap_append, List.flatMap_singleton]
        unfold nV
        rw [List.map_append]
      · rw [upd_ne nb]
        exact k b u nb e
    · rintro σ H5 ⟨v3, rfl, h5, k⟩
      rw [List.length_map, lw, List.take_length] at h5
      exact ⟨_, rfl, qs _ rfl H5 lr0 (fun b u e => k b u (ne_of_none (s04 _ _ e) hlr0) (s04 _ _ e)) fr0 h5⟩
theorem ok_frame_of (T : Txt w K mg t) : FnOk true P w K mg base (CXo P w) 3 t.f_frame_of t.d_frame_of ["words"] (spFrG) := by
  refine T.F_frame_of.okn (k := 2) sc_frame_of (fun vs H Q E h => ?_) (fun cdv A outer s H vs Q E hr h => ?_)
  · obtain ⟨l, ws, rfl, _⟩ := h
    rfl
  · obtain ⟨l, ws, rfl, h⟩ := h
    refine ⟨_, pss_cons (ps_if (PW.pt (pw_or (pt_cmpR op_ne (pe_callB call_len_seq rfl T.n_len boot_len (pa_cons (pv 0) (pa_nil))) (pe_int) (nomark _)) (pw_or1 (pt_cmpR op_ne (pe_ix ix_list (pv 0) (pe_int) (fun _ _ => rfl)) (pe_str) (nomark _))))) (pss_one (ps_ret (pe_non))) (pss_nil))
      (pss_one (ps_ret (pe_call (ok_numbers_of T) (hr.mono (by decide)) rfl T.g_numbers_of T.F_numbers_of.kp T.b_numbers_of .nil pass_none (pa_cons (pe_slice sl_list (pv 0) (po_some (pe_int)) po_none) (pa_nil))))), ?_⟩
    obtain ⟨hl, wok, qn, qs⟩ := h
    have slen : (strsV ws).length = ws.length := by unfold strsV; rw [List.length_map]
    refine ⟨_, rfl, l, _, rfl, .inl (SqL.of hl), rfl, _, rfl, ite2 (fun c => ?_) (fun c => ?_)⟩
    · refine qn ?_ H (Same.refl _)
      have : ws.length ≠ 3 := fun z => by
        have : (!decide (V.int ((strsV ws).length : Int) = V.int 3)) = true := c
        rw [slen, z] at this
        cases this
      match ws, this with
      | [], _ => rfl
      | [_], _ => rfl
      | [_, _], _ => rfl
      | [_, _, _], h => exact absurd rfl h
      | _ :: _ :: _ :: _ :: _, _ => rfl
    obtain ⟨f, w, h', rfl⟩ : ∃ f w h', ws = [f, w, h'] := by
      have : ws.length = 3 := by
        by_cases z : ws.length = 3
        · exact z
        · refine absurd ?_ c
          rw [decide_eq_false]
          · rfl
          · intro y
            have := V.int.inj y
            rw [slen] at this
            omega
      match ws, this with
      | [f, w, h'], _ => exact ⟨f, w, h', rfl⟩
    refine ⟨_, rfl, l, _, 0, .str (ofL f), rfl, rfl, SqL.of hl, atI_nat (j := 0) rfl, rfl, _, rfl, ite2 (fun c2 => ?_) (fun c2 => ?_)⟩
    · refine qn ?_ H (Same.refl _)
      show (if f = frameL then _ else _) = none
      rw [if_neg]
      intro z
      rw [decide_eq_true (ofL_eq.mpr z)] at c2
      cases c2
    have ef : f = frameL := by
      by_cases z : f = frameL
      · exact z
      · refine absurd ?_ c2
        rw [decide_eq_false fun y => z (ofL_eq.mp y)]
        rfl
    have er : frmL [f, w, h'] = numsL [w, h'] := by
      show (if f = frameL then _ else _) = _
      rw [if_pos ef]
    rw [er] at qn qs
    refine ⟨_, rfl, 1, rfl, l, _, rfl, SqL.of hl, fun p hp => ?_⟩
    rw [show cutV (strsV [f, w, h']) (some 1) none = strsV [w, h'] from cut_1]
    have s1 : Same H (upd H p (.lst (strsV [w, h']))) := same_upd (Same.refl _) hp
    have g1 : upd H p (.lst (strsV [w, h'])) p = some (.lst (strsV [w, h'])) := upd_same
    revert s1 g1
    generalize upd H p (.lst (strsV [w, h'])) = H1
    intro s1 g1
    refine ⟨p, [w, h'], rfl, g1, by simp, fun u hu => ?_, fun e H2 s2 => qn e H2 (s1.trans s2), fun ns e H2 l2 s2 fl2 hl2 => qs ns e H2 l2 (s1.trans s2) (s1.free fl2) hl2⟩
    have o := wok.2 u (List.mem_cons_of_mem _ hu)
    exact ⟨by omega, o.2⟩
end
end S23
set_option maxRecDepth 100000
set_option maxHeartbeats 4000000
namespace S23
open PySem L2 XL PyProof.Rows
theorem WOk.asc {ws : List (List Nat)} (h : WOk ws) {vs : List (List Nat)} (sub : ∀ v ∈ vs, v ∈ ws) : ∀ v ∈ vs, v.length ≤ 100 ∧ ∀ c ∈ v, c < 128 := fun v hv => by
  have o := h.2 v (sub v hv)
  exact ⟨by omega, o.2⟩
theorem len_457 {n : Nat} : inV (.int (n : Int)) [.int 4, .int 5, .int 7] = decide (n = 4 ∨ n = 5 ∨ n = 7) := by
  have e : ∀ k : Nat, eqV (.int (k : Int)) (.int (n : Int)) = decide (n = k) := fun k => by
    rw [Bool.eq_iff_iff, decide_eq_true_iff]
    constructor
    · intro h
      have : (k : Int) = n := by simpa [eqV] using h
      omega
    · intro h
      rw [h]
      simp [eqV]
  show (eqV (.int ((4 : Nat) : Int)) (.int (n : Int)) || (eqV (.int ((5 : Nat) : Int)) (.int (n : Int)) || (eqV (.int ((7 : Nat) : Int)) (.int (n : Int)) || false))) = _
  rw [e, e, e, Bool.or_false, Bool.eq_iff_iff, Bool.or_eq_true, Bool.or_eq_true, decide_eq_true_iff, decide_eq_true_iff, decide_eq_true_iff, decide_eq_true_iff]
section
variable {P : Program} {w : World} {K : PySem.W.Frag} {mg : Str → Option Value} {base : Heap} {t : Adr}
theorem ok_point_of (T : Txt w K mg t) : FnOk true P w K mg base (CXo P w) 3 t.f_point_of t.d_point_of ["words"] (spPtG) := by
  refine T.F_point_of.okn (k := 2) sc_point_of (fun vs H Q E h => ?_) (fun cdv A outer s H vs Q E hr h => ?_)
  · obtain ⟨l, ws, rfl, _⟩ := h
    rfl
  · obtain ⟨l, ws, rfl, h⟩ := h
    refine ⟨_, pss_cons (ps_if (PW.pt (pw_or (pt_cmpR op_notIn_seq (pe_callB call_len_seq rfl T.n_len boot_len (pa_cons (pv 0) (pa_nil))) (pe_tup (pa_cons (pe_int) (pa_cons (pe_int) (pa_cons (pe_int) (pa_nil))))) (by rfl)) (pw_or1 (pt_cmpR op_ne (pe_ix ix_list (pv 0) (pe_int) (fun _ _ => rfl)) (pe_str) (nomark _))))) (pss_one (ps_ret (pe_non))) (pss_nil))
      (pss_cons (ps_set (i := 1) sc_point_of.nd rfl (Or.inl rfl) (pe_call (ok_numbers_of T) (hr.mono (by decide)) rfl T.g_numbers_of T.F_numbers_of.kp T.b_numbers_of .nil pass_none (pa_cons (pe_op op_cat (pe_slice sl_list (pv 0) (po_some (pe_int)) (po_some (pe_int))) (pe_slice sl_list (pv 0) (po_some (pe_int)) po_none)) (pa_nil))))
      (pss_cons (ps_if (pt_cmpR op_isN (pv 1) (pe_non) (nomark _)) (pss_one (ps_ret (pe_non))) (pss_nil))
      (pss_cons (ps_asg (pe_slice sl_list (pv 1) po_none (po_some (pe_int))) (pg_tupL rfl (pgs_cons (pg_name (i := 2) sc_point_of.nd rfl (Or.inl rfl)) (pgs_cons (pg_name (i := 3) sc_point_of.nd rfl (Or.inl rfl)) (pgs_nil)))))
      (pss_cons (ps_set (i := 4) sc_point_of.nd rfl (Or.inl rfl) (pe_ifExp (pt_cmpR op_gt (pe_callB call_len_seq rfl T.n_len boot_len (pa_cons (pv 0) (pa_nil))) (pe_int) (nomark _)) (pe_ix ix_list (pv 0) (pe_int) (fun _ _ => rfl)) (pe_str)))
      (pss_cons (ps_asg (pe_ifExp (pt_cmpR op_gt (pe_callB call_len_seq rfl T.n_len boot_len (pa_cons (pv 0) (pa_nil))) (pe_int) (nomark _)) (pe_slice sl_list (pv 1) (po_some (pe_int)) po_none) (pe_tup (pa_cons (pe_int) (pa_cons (pe_non) (pa_nil))))) (pg_or (pg_tup rfl (pgs_cons (pg_name (i := 5) sc_point_of.nd rfl (Or.inl rfl)) (pgs_cons (pg_name (i := 6) sc_point_of.nd rfl (Or.inl rfl)) (pgs_nil)))) (pg_tupL rfl (pgs_cons (pg_name (i := 5) sc_point_of.nd rfl (Or.inl rfl)) (pgs_cons (pg_name (i := 6) sc_point_of.nd rfl (Or.inl rfl)) (pgs_nil))))))
      (pss_one ((by (with_reducible refine' ps_ret ?e1); (case e1 => ((exact pe_tup (pa_consP (pe_ix ix_list (pv 0) (pe_int) (fun _ _ => rfl)) (pa_consP (pv 2) (pa_consP (pv 3) (pa_consP (pv 4) (pa_consP (pv 5) (pa_consP (pv 6) (pa_nil) rfl) rfl) rfl) rfl) rfl) rfl)))))))))))), ?_⟩
    obtain ⟨hl, wok, qn, qs⟩ := h
    have slen : (strsV ws).length = ws.length := by unfold strsV; rw [List.length_map]
    refine ⟨_, rfl, l, _, rfl, .inl (SqL.of hl), (by show 3 ≤ sizeLine; decide), fun q1 hq1 => ?_⟩
    have s1 : Same H (upd H q1 (.tup [.int 4, .int 5, .int 7])) := same_upd (Same.refl _) hq1
    have g1 : upd H q1 (.tup [.int 4, .int 5, .int 7]) q1 = some (.tup [.int 4, .int 5, .int 7]) := upd_same
    revert s1 g1
    generalize upd H q1 (.tup [.int 4, .int 5, .int 7]) = H1
    intro s1 g1
    have hl1 := s1 _ _ hl
    refine ⟨q1, _, rfl, .inr (SqT.of g1), rfl, rfl, _, rfl, ite2 (fun c => ?_) (fun c => ?_)⟩
    · rw [if_pos rfl, slen, len_457, Bool.not_eq_true', decide_eq_false_iff_not] at c
      refine qn ?_ H1 s1
      match ws, c with
      | [], _ => rfl
      | [_], _ => rfl
      | [_, _], _ => rfl
      | [_, _, _], _ => rfl
      | [_, _, _, _], h => exact absurd (.inl rfl) h
      | [_, _, _, _, _], h => exact absurd (.inr (.inl rfl)) h
      | [_, _, _, _, _, _], _ => rfl
      | [_, _, _, _, _, _, _], h => exact absurd (.inr (.inr rfl)) h
      | _ :: _ :: _ :: _ :: _ :: _ :: _ :: _ :: _, _ => rfl
    rw [if_pos rfl, slen, len_457, Bool.not_eq_true, Bool.not_eq_false', decide_eq_true_iff] at c
    have shape : (∃ p n x y, ws = [p, n, x, y]) ∨ (∃ p n x y s, ws = [p, n, x, y, s]) ∨ ∃ p n x y s lo hi, ws = [p, n, x, y, s, lo, hi] := by
      rcases c with c | c | c
      · match ws, c with
        | [p, n, x, y], _ => exact .inl ⟨p, n, x, y, rfl⟩
      · match ws, c with
        | [p, n, x, y, s], _ => exact .inr (.inl ⟨p, n, x, y, s, rfl⟩)
      · match ws, c with
        | [p, n, x, y, s, lo, hi], _ => exact .inr (.inr ⟨p, n, x, y, s, lo, hi, rfl⟩)
    clear c slen
    rcases shape with ⟨p, n, x, y, rfl⟩ | ⟨p, n, x, y, s', rfl⟩ | ⟨p, n, x, y, s', lo, hi, rfl⟩
    · have sv : strsV [p, n, x, y] = [V.str (ofL p), V.str (ofL n), V.str (ofL x), V.str (ofL y)] := rfl
      refine ⟨_, rfl, l, _, 0, .str (ofL p), rfl, rfl, SqL.of hl1, rfl, rfl, _, rfl, ite2 (fun c2 => ?_) (fun c2 => ?_)⟩
      · refine qn ?_ H1 s1
        show (if p = pointL then _ else _) = none
        rw [if_neg]
        intro z
        rw [decide_eq_true (ofL_eq.mpr z)] at c2
        cases c2
      have ep : p = pointL := by
        by_cases z : p = pointL
        · exact z
        · refine absurd ?_ c2
          rw [decide_eq_false fun y => z (ofL_eq.mp y)]
          rfl
      refine ⟨_, rfl, 2, rfl, 4, rfl, l, _, rfl, SqL.of hl1, fun p1 hp1 => ?_⟩
      rw [show cutV (strsV [p, n, x, y]) (some 2) (some 4) = strsV [x, y] from rfl]
      have s2 : Same H1 (upd H1 p1 (.lst (strsV [x, y]))) := same_upd (Same.refl _) hp1
      have g2 : upd H1 p1 (.lst (strsV [x, y])) p1 = some (.lst (strsV [x, y])) := upd_same
      revert s2 g2
      generalize upd H1 p1 (.lst (strsV [x, y])) = H2
      intro s2 g2
      refine ⟨_, rfl, 5, rfl, l, _, rfl, SqL.of (s2 _ _ hl1), fun p2 hp2 => ?_⟩
      rw [show cutV (strsV [p, n, x, y]) (some 5) none = strsV [] from rfl]
      have s3 : Same H2 (upd H2 p2 (.lst (strsV []))) := same_upd (Same.refl _) hp2
      have g3 : upd H2 p2 (.lst (strsV [])) p2 = some (.lst (strsV [])) := upd_same
      revert s3 g3
      generalize upd H2 p2 (.lst (strsV [])) = H3
      intro s3 g3
      refine ⟨p1, p2, _, _, rfl, rfl, s3 _ _ g2, g3, (by show 2 + 0 ≤ sizeLine; decide), fun p3 hp3 => ?_⟩
      rw [show (strsV [x, y] ++ strsV []) = strsV [x, y] from rfl]
      have s4 : Same H3 (upd H3 p3 (.lst (strsV [x, y]))) := same_upd (Same.refl _) hp3
      have g4 : upd H3 p3 (.lst (strsV [x, y])) p3 = some (.lst (strsV [x, y])) := upd_same
      revert s4 g4
      generalize upd H3 p3 (.lst (strsV [x, y])) = H4
      intro s4 g4
      have s14 := (s1.trans s2).trans (s3.trans s4)
      refine ⟨p3, [x, y], rfl, g4, by simp, wok.asc (by simp), fun en H5 s5 => ?_, fun ns en H5 l5 s5 fl5 hl5 => ?_⟩
      · refine ⟨_, rfl, rfl, _, rfl, ifP (by rfl) (qn ?_ H5 (s14.trans s5))⟩
        show (if p = pointL then _ else _) = none
        rw [if_pos ep, en]
      obtain ⟨a, b, rfl⟩ : ∃ a b, ns = [a, b] := by
        have := nums_len en
        match ns, this with
        | [a, b], _ => exact ⟨a, b, rfl⟩
      have eo : ptO [p, n, x, y] = some [.str (ofL n), .int (a : Int), .int (b : Int), .str "both", .int 1, .non] := by
        show (if p = pointL then _ else _) = _
        rw [if_pos ep, en]
      have s05 := s14.trans s5
      refine ⟨_, rfl, rfl, _, rfl, ifN (by simp) ?_⟩
      refine ⟨_, rfl, 2, rfl, l5, _, rfl, SqL.of hl5, fun p6 hp6 => ?_⟩
      have hl5 : H5 l5 = some (.lst [.int (a : Int), .int (b : Int)]) := hl5
      rw [show cutV (List.map (fun (n : Nat) => V.int (n : Int)) [a, b]) none (some 2) = [.int (a : Int), .int (b : Int)] from rfl]
      have s6 : Same H5 (upd H5 p6 (.lst [.int (a : Int), .int (b : Int)])) := same_upd (Same.refl _) hp6
      have g6 : upd H5 p6 (.lst [.int (a : Int), .int (b : Int)]) p6 = some (.lst [.int (a : Int), .int (b : Int)]) := upd_same
      revert s6 g6
      generalize upd H5 p6 (.lst [.int (a : Int), .int (b : Int)]) = H6
      intro s6 g6
      refine ⟨p6, _, rfl, SqL.of g6, rfl, _, _, rfl, _, _, rfl, rfl, ?_⟩
      have hl6 := s6 _ _ (s05 _ _ hl)
      refine ⟨_, rfl, l, _, rfl, .inl (SqL.of hl6), _, _, rfl, rfl, _, rfl, ifN (by rfl) ?_⟩
      refine ⟨_, rfl, l, _, rfl, .inl (SqL.of hl6), _, _, rfl, rfl, _, rfl, ifN (by rfl) ?_⟩
      refine ⟨(by show 2 ≤ sizeLine; decide), fun p7 hp7 => ?_⟩
      have s7 : Same H6 (upd H6 p7 (.tup [.int 1, .non])) := same_upd (Same.refl _) hp7
      have g7 : upd H6 p7 (.tup [.int 1, .non]) p7 = some (.tup [.int 1, .non]) := upd_same
      revert s7 g7
      generalize upd H6 p7 (.tup [.int 1, .non]) = H7
      intro s7 g7
      refine .inl ⟨p7, _, rfl, SqT.of g7, rfl, _, _, rfl, _, _, rfl, rfl, ?_⟩
      refine ⟨_, rfl, l, _, 1, .str (ofL n), rfl, rfl, SqL.of (s7 _ _ hl6), rfl, _, rfl, _, rfl, _, rfl, _, rfl, _, rfl, (by show 6 ≤ sizeLine; decide), fun p8 hp8 => ?_⟩
      exact qs _ eo _ p8 ((s05.trans s6).trans (s7.trans (same_upd (Same.refl _) hp8))) upd_same
    · have sv : strsV [p, n, x, y, s'] = [V.str (ofL p), V.str (ofL n), V.str (ofL x), V.str (ofL y), V.str (ofL s')] := rfl
      refine ⟨_, rfl, l, _, 0, .str (ofL p), rfl, rfl, SqL.of hl1, rfl, rfl, _, rfl, ite2 (fun c2 => ?_) (fun c2 => ?_)⟩
      · refine qn ?_ H1 s1
        show (if p = pointL then _ else _) = none
        rw [if_neg]
        intro z
        rw [decide_eq_true (ofL_eq.mpr z)] at c2
        cases c2
      have ep : p = pointL := by
        by_cases z : p = pointL
        · exact z
        · refine absurd ?_ c2
          rw [decide_eq_false fun y => z (ofL_eq.mp y)]
          rfl
      refine ⟨_, rfl, 2, rfl, 4, rfl, l, _, rfl, SqL.of hl1, fun p1 hp1 => ?_⟩
      rw [show cutV (strsV [p, n, x, y, s']) (some 2) (some 4) = strsV [x, y] from rfl]
      have s2 : Same H1 (upd H1 p1 (.lst (strsV [x, y]))) := same_upd (Same.refl _) hp1
      have g2 : upd H1 p1 (.lst (strsV [x, y])) p1 = some (.lst (strsV [x, y])) := upd_same
      revert s2 g2
      generalize upd H1 p1 (.lst (strsV [x, y])) = H2
      intro s2 g2
      refine ⟨_, rfl, 5, rfl, l, _, rfl, SqL.of (s2 _ _ hl1), fun p2 hp2 => ?_⟩
      rw [show cutV (strsV [p, n, x, y, s']) (some 5) none = strsV [] from rfl]
      have s3 : Same H2 (upd H2 p2 (.lst (strsV []))) := same_upd (Same.refl _) hp2
      have g3 : upd H2 p2 (.lst (strsV [])) p2 = some (.lst (strsV [])) := upd_same
      revert s3 g3
      generalize upd H2 p2 (.lst (strsV [])) = H3
      intro s3 g3
      refine ⟨p1, p2, _, _, rfl, rfl, s3 _ _ g2, g3, (by show 2 + 0 ≤ sizeLine; decide), fun p3 hp3 => ?_⟩
      rw [show (strsV [x, y] ++ strsV []) = strsV [x, y] from rfl]
      have s4 : Same H3 (upd H3 p3 (.lst (strsV [x, y]))) := same_upd (Same.refl _) hp3
      have g4 : upd H3 p3 (.lst (strsV [x, y])) p3 = some (.lst (strsV [x, y])) := upd_same
      revert s4 g4
      generalize upd H3 p3 (.lst (strsV [x, y])) = H4
      intro s4 g4
      have s14 := (s1.trans s2).trans (s3.trans s4)
      refine ⟨p3, [x, y], rfl, g4, by simp, wok.asc (by simp), fun en H5 s5 => ?_, fun ns en H5 l5 s5 fl5 hl5 => ?_⟩
      · refine ⟨_, rfl, rfl, _, rfl, ifP (by rfl) (qn ?_ H5 (s14.trans s5))⟩
        show (if p = pointL then _ else _) = none
        rw [if_pos ep, en]
      obtain ⟨a, b, rfl⟩ : ∃ a b, ns = [a, b] := by
        have := nums_len en
        match ns, this with
        | [a, b], _ => exact ⟨a, b, rfl⟩
      have eo : ptO [p, n, x, y, s'] = some [.str (ofL n), .int (a : Int), .int (b : Int), .str (ofL s'), .int 1, .non] := by
        show (if p = pointL then _ else _) = _
        rw [if_pos ep, en]
      have s05 := s14.trans s5
      refine ⟨_, rfl, rfl, _, rfl, ifN (by simp) ?_⟩
      refine ⟨_, rfl, 2, rfl, l5, _, rfl, SqL.of hl5, fun p6 hp6 => ?_⟩
      have hl5 : H5 l5 = some (.lst [.int (a : Int), .int (b : Int)]) := hl5
      rw [show cutV (List.map (fun (n : Nat) => V.int (n : Int)) [a, b]) none (some 2) = [.int (a : Int), .int (b : Int)] from rfl]
      have s6 : Same H5 (upd H5 p6 (.lst [.int (a : Int), .int (b : Int)])) := same_upd (Same.refl _) hp6
      have g6 : upd H5 p6 (.lst [.int (a : Int), .int (b : Int)]) p6 = some (.lst [.int (a : Int), .int (b : Int)]) := upd_same
      revert s6 g6
      generalize upd H5 p6 (.lst [.int (a : Int), .int (b : Int)]) = H6
      intro s6 g6
      refine ⟨p6, _, rfl, SqL.of g6, rfl, _, _, rfl, _, _, rfl, rfl, ?_⟩
      have hl6 := s6 _ _ (s05 _ _ hl)
      refine ⟨_, rfl, l, _, rfl, .inl (SqL.of hl6), _, _, rfl, rfl, _, rfl, ifP (by rfl) ⟨_, rfl, l, _, 4, .str (ofL s'), rfl, rfl, SqL.of hl6, rfl, ?_⟩⟩
      refine ⟨_, rfl, l, _, rfl, .inl (SqL.of hl6), _, _, rfl, rfl, _, rfl, ifN (by rfl) ?_⟩
      refine ⟨(by show 2 ≤ sizeLine; decide), fun p7 hp7 => ?_⟩
      have s7 : Same H6 (upd H6 p7 (.tup [.int 1, .non])) := same_upd (Same.refl _) hp7
      have g7 : upd H6 p7 (.tup [.int 1, .non]) p7 = some (.tup [.int 1, .non]) := upd_same
      revert s7 g7
      generalize upd H6 p7 (.tup [.int 1, .non]) = H7
      intro s7 g7
      refine .inl ⟨p7, _, rfl, SqT.of g7, rfl, _, _, rfl, _, _, rfl, rfl, ?_⟩
      refine ⟨_, rfl, l, _, 1, .str (ofL n), rfl, rfl, SqL.of (s7 _ _ hl6), rfl, _, rfl, _, rfl, _, rfl, _, rfl, _, rfl, (by show 6 ≤ sizeLine; decide), fun p8 hp8 => ?_⟩
      exact qs _ eo _ p8 ((s05.trans s6).trans (s7.trans (same_upd (Same.refl _) hp8))) upd_same
    · have sv : strsV [p, n, x, y, s', lo, hi] = [V.str (ofL p), V.str (ofL n), V.str (ofL x), V.str (ofL y), V.str (ofL s'), V.str (ofL lo), V.str (ofL hi)] := rfl
      refine ⟨_, rfl, l, _, 0, .str (ofL p), rfl, rfl, SqL.of hl1, rfl, rfl, _, rfl, ite2 (fun c2 => ?_) (fun c2 => ?_)⟩
      · refine qn ?_ H1 s1
        show (if p = pointL then _ else _) = none
        rw [if_neg]
        intro z
        rw [decide_eq_true (ofL_eq.mpr z)] at c2
        cases c2
      have ep : p = pointL := by
        by_cases z : p = pointL
        · exact z
        · refine absurd ?_ c2
          rw [decide_eq_false fun y => z (ofL_eq.mp y)]
          rfl
      refine ⟨_, rfl, 2, rfl, 4, rfl, l, _, rfl, SqL.of hl1, fun p1 hp1 => ?_⟩
      rw [show cutV (strsV [p, n, x, y, s', lo, hi]) (some 2) (some 4) = strsV [x, y] from rfl]
      have s2 : Same H1 (upd H1 p1 (.lst (strsV [x, y]))) := same_upd (Same.refl _) hp1
      have g2 : upd H1 p1 (.lst (strsV [x, y])) p1 = some (.lst (strsV [x, y])) := upd_same
      revert s2 g2
      generalize upd H1 p1 (.lst (strsV [x, y])) = H2
      intro s2 g2
      refine ⟨_, rfl, 5, rfl, l, _, rfl, SqL.of (s2 _ _ hl1), fun p2 hp2 => ?_⟩
      rw [show cutV (strsV [p, n, x, y, s', lo, hi]) (some 5) none = strsV [lo, hi] from rfl]
      have s3 : Same H2 (upd H2 p2 (.lst (strsV [lo, hi]))) := same_upd (Same.refl _) hp2
      have g3 : upd H2 p2 (.lst (strsV [lo, hi])) p2 = some (.lst (strsV [lo, hi])) := upd_same
      revert s3 g3
      generalize upd H2 p2 (.lst (strsV [lo, hi])) = H3
      intro s3 g3
      refine ⟨p1, p2, _, _, rfl, rfl, s3 _ _ g2, g3, (by show 2 + 2 ≤ sizeLine; decide), fun p3 hp3 => ?_⟩
      rw [show (strsV [x, y] ++ strsV [lo, hi]) = strsV [x, y, lo, hi] from rfl]
      have s4 : Same H3 (upd H3 p3 (.lst (strsV [x, y, lo, hi]))) := same_upd (Same.refl _) hp3
      have g4 : upd H3 p3 (.lst (strsV [x, y, lo, hi])) p3 = some (.lst (strsV [x, y, lo, hi])) := upd_same
      revert s4 g4
      generalize upd H3 p3 (.lst (strsV [x, y, lo, hi])) = H4
      intro s4 g4
      have s14 := (s1.trans s2).trans (s3.trans s4)
      refine ⟨p3, [x, y, lo, hi], rfl, g4, by simp, wok.asc (by simp), fun en H5 s5 => ?_, fun ns en H5 l5 s5 fl5 hl5 => ?_⟩
      · refine ⟨_, rfl, rfl, _, rfl, ifP (by rfl) (qn ?_ H5 (s14.trans s5))⟩
        show (if p = pointL then _ else _) = none
        rw [if_pos ep, en]
      obtain ⟨a, b, c, d, rfl⟩ : ∃ a b c d, ns = [a, b, c, d] := by
        have := nums_len en
        match ns, this with
        | [a, b, c, d], _ => exact ⟨a, b, c, d, rfl⟩
      have eo : ptO [p, n, x, y, s', lo, hi] = some [.str (ofL n), .int (a : Int), .int (b : Int), .str (ofL s'), .int (c : Int), .int (d : Int)] := by
        show (if p = pointL then _ else _) = _
        rw [if_pos ep, en]
      have s05 := s14.trans s5
      refine ⟨_, rfl, rfl, _, rfl, ifN (by simp) ?_⟩
      refine ⟨_, rfl, 2, rfl, l5, _, rfl, SqL.of hl5, fun p6 hp6 => ?_⟩
      have hl5 : H5 l5 = some (.lst [.int (a : Int), .int (b : Int), .int (c : Int), .int (d : Int)]) := hl5
      rw [show cutV (List.map (fun (n : Nat) => V.int (n : Int)) [a, b, c, d]) none (some 2) = [.int (a : Int), .int (b : Int)] from rfl]
      have s6 : Same H5 (upd H5 p6 (.lst [.int (a : Int), .int (b : Int)])) := same_upd (Same.refl _) hp6
      have g6 : upd H5 p6 (.lst [.int (a : Int), .int (b : Int)]) p6 = some (.lst [.int (a : Int), .int (b : Int)]) := upd_same
      revert s6 g6
      generalize upd H5 p6 (.lst [.int (a : Int), .int (b : Int)]) = H6
      intro s6 g6
      refine ⟨p6, _, rfl, SqL.of g6, rfl, _, _, rfl, _, _, rfl, rfl, ?_⟩
      have hl6 := s6 _ _ (s05 _ _ hl)
      refine ⟨_, rfl, l, _, rfl, .inl (SqL.of hl6), _, _, rfl, rfl, _, rfl, ifP (by rfl) ⟨_, rfl, l, _, 4, .str (ofL s'), rfl, rfl, SqL.of hl6, rfl, ?_⟩⟩
      refine ⟨_, rfl, l, _, rfl, .inl (SqL.of hl6), _, _, rfl, rfl, _, rfl, ifP (by rfl) ?_⟩
      refine ⟨_, rfl, 2, rfl, l5, _, rfl, SqL.of (s6 _ _ hl5), fun p7 hp7 => ?_⟩
      rw [show cutV [V.int (a : Int), .int (b : Int), .int (c : Int), .int (d : Int)] (some 2) none = [.int (c : Int), .int (d : Int)] from rfl]
      have s7 : Same H6 (upd H6 p7 (.lst [.int (c : Int), .int (d : Int)])) := same_upd (Same.refl _) hp7
      have g7 : upd H6 p7 (.lst [.int (c : Int), .int (d : Int)]) p7 = some (.lst [.int (c : Int), .int (d : Int)]) := upd_same
      revert s7 g7
      generalize upd H6 p7 (.lst [.int (c : Int), .int (d : Int)]) = H7
      intro s7 g7
      refine .inr ⟨p7, _, rfl, SqL.of g7, rfl, _, _, rfl, _, _, rfl, rfl, ?_⟩
      refine ⟨_, rfl, l, _, 1, .str (ofL n), rfl, rfl, SqL.of (s7 _ _ hl6), rfl, _, rfl, _, rfl, _, rfl, _, rfl, _, rfl, (by show 6 ≤ sizeLine; decide), fun p8 hp8 => ?_⟩
      exact qs _ eo _ p8 ((s05.trans s6).trans (s7.trans (same_upd (Same.refl _) hp8))) upd_same
end
end S23
set_option maxRecDepth 100000
set_option maxHeartbeats 4000000
namespace S23
open PySem L2 XL PyProof.Rows
def frT (w h : Nat) : Str := Str.ofString "frame " ++ numT w ++ Str.ofString " " ++ numT h
def ltrK (k : Nat) : Str := ⟨#[98 + k]⟩
inductive I23 where
  | rim (b : Bool) (r : Nat)
  | pt (k : Nat)
  | r17
  | bad (v : V)
def sideS (b : Bool) : Str := if b then Str.ofString "left " else Str.ofString "right "
def I23.v : I23 → V
  | .rim b r => .str (sideS b ++ numT r)
  | .pt k => .str (Str.ofString "point " ++ ltrK k ++ Str.ofString " " ++ numT (1 + k) ++ Str.ofString " " ++ numT (1 + k))
  | .r17 => .str (Str.ofString "right 17")
  | .bad v => v
def I23.Ok (H : Hp) : I23 → Prop
  | .rim _ r => 1 ≤ r ∧ r ≤ 16
  | .pt k => k < 3
  | .r17 => True
  | .bad v => LinOk H v ∧ rowsL (wordsV v) = none ∧ ptO (wordsV v) = none
def I23.ss : I23 → List Seat
  | .rim b r => [(b, (r : Int))]
  | _ => []
def I23.ps (h : Int) : I23 → List Pt
  | .pt k => [⟨ltrK k, ((1 + k : Nat) : Int), ((1 + k : Nat) : Int), "both", 1, h⟩]
  | _ => []
def run : Nat → List I23 → Option Er
  | _, [] => none
  | n, .bad _ :: _ => some (.badLine (.int (n : Int)))
  | _, .r17 :: _ => some (.noRow (.int 17))
  | n, .rim _ _ :: r => run (n + 1) r
  | n, .pt _ :: r => run (n + 1) r
def NoL (H : Hp) (v : V) : Prop := v = .non ∨ (∃ i, v = .int i) ∨ (∃ b, v = .bl b) ∨ (∃ s, v = .str s) ∨ ∃ a, v = .ref a ∧ (H a = some (.lst []) ∨ (∃ xs, H a = some (.tup xs)) ∨ ∃ kvs, H a = some (.dK kvs))
structure Good (H : Hp) (w h : Nat) (its : List I23) : Prop where
  w1 : 1 ≤ w
  w2 : w ≤ 30
  h1 : 1 ≤ h
  h2 : h ≤ 16
  ok : ∀ i ∈ its, i.Ok H
  len : its.length ≤ 100
  ss : SsOk h (its.flatMap I23.ss)
  ps : PtsOk w h (its.flatMap (I23.ps h))
def itsV (its : List I23) : List V := its.map I23.v
def PicOut (H : Hp) (v : V) (out : Option Er) : Prop := (out = some (.badLine (.int 0)) ∧ (NoL H v ∨ ∃ l v0 r, v = .ref l ∧ H l = some (.lst (v0 :: r)) ∧ LinOk H v0 ∧ frmL (wordsV v0) = none)) ∨
  ∃ l w h its, v = .ref l ∧ H l = some (.lst (.str (frT w h) :: itsV its)) ∧ Good H w h its ∧ out = run 1 its
theorem NoTxt.same {H H' : Hp} (s : Same H H') {v : V} (h : NoTxt H v) : NoTxt H' v := by
  rcases h with h | h | h | ⟨a, e, h⟩
  · exact .inl h
  · exact .inr (.inl h)
  · exact .inr (.inr (.inl h))
  · refine .inr (.inr (.inr ⟨a, e, ?_⟩))
    rcases h with ⟨xs, h⟩ | ⟨xs, h⟩ | ⟨xs, h⟩
    · exact .inl ⟨xs, s _ _ h⟩
    · exact .inr (.inl ⟨xs, s _ _ h⟩)
    · exact .inr (.inr ⟨xs, s _ _ h⟩)
theorem LinOk.same {H H' : Hp} (s : Same H H') {v : V} (h : LinOk H v) : LinOk H' v := by
  rcases h with h | h
  · exact .inl h
  · exact .inr (h.same s)
theorem I23.Ok.same {H H' : Hp} (s : Same H H') {i : I23} (h : i.Ok H) : i.Ok H' := by
  cases i with
  | rim b r => exact h
  | pt k => exact h
  | r17 => exact trivial
  | bad v => exact ⟨LinOk.same s h.1, h.2⟩
theorem Good.same {H H' : Hp} (s : Same H H') {w h : Nat} {its : List I23} (g : Good H w h its) : Good H' w h its := ⟨g.w1, g.w2, g.h1, g.h2, fun i hi => (g.ok i hi).same s, g.len, g.ss, g.ps⟩
def DoB (t : Adr) (H : Hp) (E : XK) (nv : V) (ws : List (List Nat)) : Prop := rowsL ws = none ∧ ptO ws = none ∧ ∀ e H', RaisedE t H H' e (.badLine nv) → E e t.C_BadLine H'
def DoR1 (t : Adr) (H : Hp) (Q : VK) (E : XK) (a : Addr) (ws : List (List Nat)) : Prop := ∃ (dp do_ : Addr) (pw ph : Int) (ps : List Pt) (ss : List Seat) (b : Bool) (r : Nat) (w1 : List Nat), Pic t H a dp do_ pw ph ps ∧ Sts H do_ ss ∧ SsOk ph ss ∧ ws = [(sideW b).cps.toList, w1] ∧ rowsL ws = some [r] ∧ ptO ws = none ∧
  (∀ er, outOpen ph ss (.str (sideW b)) (.int (r : Int)) (.str (sideW b)) (.int (r : Int)) = some er → ∀ e H', RaisedE t H H' e er → E e (er.cls t) H') ∧
  (outOpen ph ss (.str (sideW b)) (.int (r : Int)) (.str (sideW b)) (.int (r : Int)) = none → ∀ H', (∀ c u, c ≠ do_ → H c = some u → H' c = some u) → Pic t H' a dp do_ pw ph ps → Sts H' do_ (ss ++ [(b, (r : Int))]) → Q .non H')
def DoP1 (t : Adr) (H : Hp) (Q : VK) (a : Addr) (ws : List (List Nat)) : Prop := ∃ (dp do_ : Addr) (pw ph : Int) (ps : List Pt) (nm : Str) (x y : Int), Pic t H a dp do_ pw ph ps ∧ rowsL ws = none ∧ ptO ws = some [.str nm, .int x, .int y, .str "both", .int 1, .non] ∧ PtOk pw ph ⟨nm, x, y, "both", 1, ph⟩ ∧ (∀ q ∈ ps, q.nm ≠ nm ∧ q.x ≠ x ∧ q.y ≠ y) ∧ ps.length < 12 ∧
  ∀ H', (∀ c u, c ≠ dp → H c = some u → H' c = some u) → Pic t H' a dp do_ pw ph (ps ++ [⟨nm, x, y, "both", 1, ph⟩]) → Q .non H'
def spDo23 (t : Adr) : Sp := fun vs H Q E => ∃ (a l : Addr) (nv : V) (ws : List (List Nat)), vs = [.ref a, nv, .ref l] ∧ H l = some (.lst (strsV ws)) ∧ WOk ws ∧ (DoB t H E nv ws ∨ DoR1 t H Q E a ws ∨ DoP1 t H Q a ws)
section
variable {P : Program} {w : World} {K : PySem.W.Frag} {mg : Str → Option Value} {base : Heap} {t : Adr}
theorem okT_do_line (T : Txt w K mg t) : FnOk true P w K mg base (CXo P w) 6 t.f_do_line t.d_do_line ["picture", "number", "words"] (spDo23 t) := by
  refine T.F_do_line.okx (k := 5) sc_do_line (fun vs H Q E h => ?_) (fun cdv A outer s H vs Q E hr h => ?_)
  · obtain ⟨a, l, nv, ws, rfl, _⟩ := h
    rfl
  · obtain ⟨a, l, nv, ws, rfl, h⟩ := h
    refine ⟨_, pss_cons (ps_set (i := 3) sc_do_line.nd rfl (Or.inl rfl) (pe_call (ok_rows_of T) (hr.mono (by decide)) rfl T.g_rows_of T.F_rows_of.kp T.b_rows_of .nil takes_def.pass (pa_cons (pv 2) (pa_nil))))
      (pss_cons (ps_set (i := 4) sc_do_line.nd rfl (Or.inl rfl) (pe_call (ok_point_of T) (hr.mono (by decide)) rfl T.g_point_of T.F_point_of.kp T.b_point_of .nil takes_def.pass (pa_cons (pv 2) (pa_nil))))
      (pss_one (ps_if (pt_cmpR op_notN (pv 3) (pe_non) (nomark _)) (pss_one (ps_for PassesOwn.leaving rfl (pi_list (pv 3)) (pg_name (i := 5) sc_do_line.nd rfl (Or.inl rfl)) (pss_one (ps_expr (pe_meth (pv 0) T.c_Picture T.m_Picture_open_seat (okT_Picture_open_seat T) (hr.mono (by decide)) T.b_Picture_open_seat .nil takes_def.pass (pa_cons (pe_ix ix_list (pv 2) (pe_int) (fun _ _ => rfl)) (pa_cons (pv 5) (pa_nil)))))))) (pss_one (ps_if (pt_cmpR op_notN (pv 4) (pe_non) (nomark _)) (pss_cons (ps_asg (pv 4) (pg_tup rfl (pgs_cons (pg_name (i := 6) sc_do_line.nd rfl (Or.inl rfl)) (pgs_cons (pg_name (i := 7) sc_do_line.nd rfl (Or.inl rfl)) (pgs_cons (pg_name (i := 8) sc_do_line.nd rfl (Or.inl rfl)) (pgs_cons (pg_name (i := 9) sc_do_line.nd rfl (Or.inl rfl)) (pgs_cons (pg_name (i := 10) sc_do_line.nd rfl (Or.inl rfl)) (pgs_cons (pg_name (i := 11) sc_do_line.nd rfl (Or.inl rfl)) (pgs_nil)))))))))
      (pss_one (ps_expr (pe_meth (pv 0) T.c_Picture T.m_Picture_put (ok_Picture_put T) (hr.mono (by decide)) T.b_Picture_put .nil takes_def.pass (pa_consP (pv 6) (pa_consP (pv 7) (pa_consP (pv 8) (pa_consP (pv 9) (pa_consP (pv 10) (pa_consP (pv 11) (pa_nil) rfl) rfl) rfl) rfl) rfl) rfl))))) (pss_one (ps_raise (hr.hd rfl) takes_def (pe_xmake T.k_BadLine (ok_BadLine_init T) (hr.mono (by decide)) rfl T.g_BadLine T.b_BadLine_init .nil (pa_cons (pv 1) (pa_nil)))))))))), ?_⟩
    obtain ⟨hl, wok, h⟩ := h
    rcases h with ⟨rn, pn, hE⟩ | ⟨dp, do_, pw, ph, ps, ss, b, r, w1, pic, sts, sok, rfl, er, pn, hE, q⟩ | ⟨dp, do_, pw, ph, ps, nm, x, y, pic, rn, ep, pok, unl, l12, q⟩
    · refine ⟨_, rfl, l, ws, rfl, hl, wok, fun _ H1 s1 => ?_, fun rs e => absurd (rn.symm.trans e) (fun z => nomatch z)⟩
      refine ⟨_, rfl, l, ws, rfl, s1 _ _ hl, wok, fun _ H2 s2 => ?_, fun rs e => absurd (pn.symm.trans e) (fun z => nomatch z)⟩
      have s02 := s1.trans s2
      refine ⟨_, rfl, rfl, _, rfl, ifN (by rfl) ⟨_, rfl, rfl, _, rfl, ifN (by rfl) ?_⟩⟩
      exact ⟨_, rfl, (by show 1 ≤ 1000; decide), fun e he => ⟨e, _, rfl, upd_same, fun dx hdx => ⟨rfl, e, t.C_BadLine, some dx, rfl, upd_same, T.mk_BadLine, hE e _ (RaisedE.pre s02 (raised1 (er := .badLine nv) rfl rfl he hdx))⟩⟩⟩
    · refine ⟨_, rfl, l, _, rfl, hl, wok, fun e => absurd (er.symm.trans e) (fun z => nomatch z), fun rs e H1 l1 s1 fl1 hl1 => ?_⟩
      obtain rfl : rs = [r] := Option.some.inj (e.symm.trans er)
      refine ⟨_, rfl, l, _, rfl, s1 _ _ hl, wok, fun _ H2 s2 => ?_, fun rs e => absurd (pn.symm.trans e) (fun z => nomatch z)⟩
      refine ⟨_, rfl, rfl, _, rfl, ifP (by rfl) ?_⟩
      have s02 := s1.trans s2
      have hl1 : H1 l1 = some (.lst [.int (r : Int)]) := hl1
      have hl2 := s2 _ _ hl1
      have pic2 := Pic.same s02 pic
      have sts2 := sts.same s02
      obtain ⟨ko, hko, _⟩ := id sts2
      obtain ⟨⟨dx2, hp2⟩, _⟩ := id pic2
      have h16 := pic.h2
      refine ⟨_, rfl, l1, rfl, ⟨_, SqL.of hl2⟩, ?_⟩
      refine for_list (xs := [.int (r : Int)]) (Pv := fun i σ H5 => (i = 0 ∧ H2 = H5 ∧ ∃ (v5 v6 v7 v8 v9 v10 v11 : Option V), σ = [some (.ref a), some nv, some (.ref l), some (.ref l1), some .non, v5, v6, v7, v8, v9, v10, v11]) ∨ (i = 1 ∧ H5 l1 = some (.lst [.int (r : Int)]) ∧ Q .non H5)) (.inl ⟨rfl, rfl, _, _, _, _, _, _, _, rfl⟩) ?_ ?_ ?_
      · rintro i σ H5 _ (⟨_, rfl, _⟩ | ⟨_, z, _⟩)
        · exact SqL.of hl2
        · exact SqL.of z
      · rintro i x σ H5 hx (⟨rfl, rfl, v5, v6, v7, v8, v9, v10, v11, rfl⟩ | ⟨rfl, _⟩)
        · cases hx
          have ts : Thg H2 (.str (sideW b)) (.str (sideW b)) := .str _ (by cases b <;> decide +kernel)
          refine ⟨_, rfl, a, dx2, _, rfl, hp2, lk_no (by decide +kernel), _, rfl, l, _, 0, .str (sideW b), rfl, rfl, SqL.of (s02 _ _ hl), ?_, _, rfl, a, dp, do_, pw, ph, ps, ss, .str (sideW b), .int (r : Int), .str (sideW b), .int (r : Int), rfl, pic2, sts2, by have := sok.2.1; omega, fun e b i i1 i2 => full_seats h16 sok (by omega) (b, i) i1 i2, ts, .int _, ?_, ?_⟩
          · refine atI_nat (j := 0) ?_
            show some (V.str (ofL (sideW b).cps.toList)) = _
            rw [ofL_of]
          · rintro er' her e H' z
            exact hE er' her e H' (RaisedE.pre s02 z)
          · rintro out b' i' H' eb ei i1 i2 nin k' pc st'
            obtain rfl : b = b' := sideW_inj (DV.str.inj eb)
            obtain rfl : (r : Int) = i' := DV.int.inj ei
            exact .inr ⟨rfl, k' _ _ (ne_of hl2 hko (fun z => nomatch z)) hl2, q out H' (fun c u nc e => k' c u nc (s02 _ _ e)) pc st'⟩
        · cases hx
      · rintro σ H5 (⟨z, _⟩ | ⟨_, _, z⟩)
        · cases z
        · exact z
    · refine ⟨_, rfl, l, ws, rfl, hl, wok, fun _ H1 s1 => ?_, fun rs e => absurd (rn.symm.trans e) (fun z => nomatch z)⟩
      refine ⟨_, rfl, l, ws, rfl, s1 _ _ hl, wok, fun e => absurd (ep.symm.trans e) (fun z => nomatch z), fun res e H2 q2 s2 hq2 => ?_⟩
      obtain rfl := Option.some.inj (e.symm.trans ep)
      refine ⟨_, rfl, rfl, _, rfl, ifN (by rfl) ⟨_, rfl, rfl, _, rfl, ifP (by rfl) ?_⟩⟩
      refine ⟨_, rfl, q2, _, rfl, SqT.of hq2, rfl, _, _, rfl, _, _, rfl, _, _, rfl, _, _, rfl, _, _, rfl, _, _, rfl, rfl, ?_⟩
      have s02 := s1.trans s2
      have pic2 := Pic.same s02 pic
      obtain ⟨⟨dx2, hp2⟩, _⟩ := id pic2
      refine ⟨_, rfl, a, dx2, _, rfl, hp2, lk_no (by decide +kernel), _, rfl, _, rfl, _, rfl, _, rfl, _, rfl, _, rfl, ?_⟩
      exact ⟨a, dp, do_, pw, ph, ps, nm, x, y, "both", 1, ph, .non, rfl, pic2, .inl ⟨rfl, rfl⟩, pok.nm, pok.x1, pok.x2, pok.y1, pok.y2, pok.sd, pok.l1, pok.l2, pok.l3, unl, l12, fun H' k pc => q H' (fun c u nc e => k c u nc (s02 _ _ e)) pc⟩
end
end S23
set_option maxRecDepth 100000
set_option maxHeartbeats 4000000
namespace S23
open PySem L2 XL PyProof.Rows
def ascB (s : Str) : Bool := decide (s.length ≤ 99) && s.cps.toList.all fun c => decide (c < 128)
theorem ascB_lin {H : Hp} {s : Str} (h : ascB s = true) : LinOk H (.str s) := by
  unfold ascB at h
  rw [Bool.and_eq_true, decide_eq_true_iff, List.all_eq_true] at h
  exact .inl ⟨s, rfl, h.1, fun c hc => of_decide_eq_true (h.2 c hc)⟩
theorem rimB : ∀ b : Bool, ∀ r, r < 18 → (ascB (sideS b ++ numT r) && decide (wordsL (sideS b ++ numT r).cps.toList = [(sideW b).cps.toList, (numT r).cps.toList]) && decide (rowsL [(sideW b).cps.toList, (numT r).cps.toList] = some [r])) = true := by decide +kernel
theorem rimN (b : Bool) (r : Nat) : ptO [(sideW b).cps.toList, (numT r).cps.toList] = none := rfl
theorem rim_is {b : Bool} {r : Nat} (h : r < 18) : ascB (sideS b ++ numT r) = true ∧ wordsL (sideS b ++ numT r).cps.toList = [(sideW b).cps.toList, (numT r).cps.toList] ∧ rowsL [(sideW b).cps.toList, (numT r).cps.toList] = some [r] := by
  have z := rimB b r h
  rw [Bool.and_eq_true, Bool.and_eq_true, decide_eq_true_iff, decide_eq_true_iff] at z
  exact ⟨z.1.1, z.1.2, z.2⟩
def ptS (k : Nat) : Str := Str.ofString "point " ++ ltrK k ++ Str.ofString " " ++ numT (1 + k) ++ Str.ofString " " ++ numT (1 + k)
theorem ptB : ∀ k, k < 3 → (ascB (ptS k) && decide (wordsL (ptS k).cps.toList = [pointL, (ltrK k).cps.toList, (numT (1 + k)).cps.toList, (numT (1 + k)).cps.toList]) && decide (numsL [(numT (1 + k)).cps.toList, (numT (1 + k)).cps.toList] = some [1 + k, 1 + k]) && !decide (pointL = leftL ∨ pointL = rightL)) = true := by decide +kernel
theorem rows_no {w v : List Nat} {r : List (List Nat)} (h : ¬ (w = leftL ∨ w = rightL)) : rowsL (w :: v :: r) = none := by
  unfold rowsL
  dsimp only
  rw [if_neg h]
theorem pt4 {p n x y : List Nat} {a b : Nat} (h : p = pointL) (e : numsL [x, y] = some [a, b]) : ptO [p, n, x, y] = some [.str (ofL n), .int (a : Int), .int (b : Int), .str "both", .int 1, .non] := by
  unfold ptO
  dsimp only
  rw [if_pos h, e]
theorem pt_is {k : Nat} (h : k < 3) : ascB (ptS k) = true ∧ rowsL (wordsL (ptS k).cps.toList) = none ∧ ptO (wordsL (ptS k).cps.toList) = some [.str (ltrK k), .int ((1 + k : Nat) : Int), .int ((1 + k : Nat) : Int), .str "both", .int 1, .non] := by
  have z := ptB k h
  rw [Bool.and_eq_true, Bool.and_eq_true, Bool.and_eq_true, decide_eq_true_iff, decide_eq_true_iff, Bool.not_eq_true', decide_eq_false_iff_not] at z
  obtain ⟨⟨⟨z1, z2⟩, z3⟩, z4⟩ := z
  refine ⟨z1, ?_, ?_⟩
  · rw [z2]
    exact rows_no z4
  · rw [z2, pt4 rfl z3, ofL_of]
theorem frB : ∀ w, w < 31 → ∀ h, h < 17 → (ascB (frT w h) && decide (frmL (wordsL (frT w h).cps.toList) = some [w, h])) = true := by decide +kernel
theorem fr_is {w h : Nat} (hw : w < 31) (hh : h < 17) : ascB (frT w h) = true ∧ frmL (wordsL (frT w h).cps.toList) = some [w, h] := by
  have z := frB w hw h hh
  rw [Bool.and_eq_true, decide_eq_true_iff] at z
  exact z
theorem lin_words {H : Hp} {v : V} (h : LinOk H v) : WOk (wordsV v) := by
  rcases h with ⟨s, rfl, h⟩ | h
  · exact words_ok ⟨by rw [← str_len]; exact h.1, h.2⟩
  · have e : wordsV v = [] := by rcases h with rfl | ⟨i, rfl⟩ | ⟨b, rfl⟩ | ⟨a, rfl, _⟩ <;> rfl
    rw [e]
    exact ⟨Nat.zero_le _, fun w hw => (nomatch hw)⟩
theorem it_lin {H : Hp} {i : I23} (o : i.Ok H) : LinOk H i.v := by
  cases i with
  | rim b r => exact ascB_lin (rim_is (show r < 18 by have := o.2; omega)).1
  | pt k => exact ascB_lin (pt_is o).1
  | r17 => exact ascB_lin (by decide +kernel)
  | bad v => exact o.1
def spPic23 (t : Adr) : Sp := fun vs H Q E => ∃ (v : V) (out : Option Er), vs = [v] ∧ PicOut H v out ∧ Outs t H out E (∀ w H', Same H H' → Q w H')
def IP23 (t : Adr) (H6 : Hp) (ll l2 a dp do_ : Addr) (w h : Nat) (its : List I23) (i : Nat) (σ : L2.St) (H7 : Hp) : Prop := ∃ (v5 v6 : Option V), σ = [some (.ref ll), some (.ref l2), some (.int w), some (.int h), some (.ref a), v5, v6] ∧ (∀ c u, c ≠ do_ → c ≠ dp → H6 c = some u → H7 c = some u) ∧ Pic t H7 a dp do_ w h ((its.take i).flatMap (I23.ps h)) ∧ Sts H7 do_ ((its.take i).flatMap I23.ss) ∧ run 1 its = run (i + 1) (its.drop i)
theorem PtsOk.pre {w h : Int} {r s : List Pt} {p : Pt} (o : PtsOk w h (r ++ p :: s)) : PtOk w h p ∧ (∀ q ∈ r, q.nm ≠ p.nm ∧ q.x ≠ p.x ∧ q.y ≠ p.y) ∧ r.length < 12 := by
  refine ⟨o.ok p (by simp), fun q hq => ⟨?_, ?_, ?_⟩, by have := o.le; simp at this; omega⟩
  · have z := o.nn
    rw [List.map_append, List.nodup_append] at z
    exact z.2.2 _ (List.mem_map.mpr ⟨q, hq, rfl⟩) _ (by simp)
  · have z := o.nx
    rw [List.map_append, List.nodup_append] at z
    exact z.2.2 _ (List.mem_map.mpr ⟨q, hq, rfl⟩) _ (by simp)
  · have z := o.ny
    rw [List.map_append, List.nodup_append] at z
    exact z.2.2 _ (List.mem_map.mpr ⟨q, hq, rfl⟩) _ (by simp)
theorem SsOk.part {h : Int} {ss r : List Seat} (o : SsOk h (ss ++ r)) : SsOk h ss := ⟨(List.nodup_append.mp o.1).1, by have := o.2.1; rw [List.length_append] at this; omega, fun s hs => o.2.2 s (List.mem_append_left _ hs)⟩
theorem op_row {ph i : Int} {ss : List Seat} {b : Bool} {x r : V} (h : ¬ (1 ≤ i ∧ i ≤ ph)) : outOpen ph ss (.str (sideW b)) (.int i) x r = some (.noRow r) := by
  unfold outOpen
  rw [sideD_str]
  dsimp only
  rw [if_neg]
  intro z
  obtain ⟨j, e, j1, j2⟩ := wholeD_of z
  cases e
  exact h ⟨j1, j2⟩
section
variable {P : Program} {w : World} {K : PySem.W.Frag} {mg : Str → Option Value} {base : Heap} {t : Adr}
theorem okT_picture_of (T : Txt w K mg t) : FnOk true P w K mg base (CXo P w) 7 t.f_picture_of t.d_picture_of ["lines"] (spPic23 t) := by
  refine T.F_picture_of.okx (k := 6) sc_picture_of (fun vs H Q E h => ?_) (fun cdv A outer s H vs Q E hr h => ?_)
  · obtain ⟨v, out, rfl, _⟩ := h
    rfl
  · obtain ⟨v, out, rfl, h⟩ := h
    refine ⟨_, pss_cons (ps_if (PW.pt (pw_or (pt_not (pt_val (pe_callB call_isin rfl T.n_isinstance boot_isinstance (pa_cons (pv 0) (pa_cons (pe_bltn (v := .ty "list") rfl T.n_list boot_list rfl) (pa_nil)))))) (pw_or1 (pt_cmpR op_eq (pe_callB call_len_seq rfl T.n_len boot_len (pa_cons (pv 0) (pa_nil))) (pe_int) (nomark _))))) (pss_one (ps_raise (hr.hd rfl) takes_def (pe_xmake T.k_BadLine (ok_BadLine_init T) (hr.mono (by decide)) rfl T.g_BadLine T.b_BadLine_init .nil (pa_cons (pe_int) (pa_nil))))) (pss_nil))
      (pss_cons (ps_set (i := 1) sc_picture_of.nd rfl (Or.inl rfl) (pe_call (ok_frame_of T) (hr.mono (by decide)) rfl T.g_frame_of T.F_frame_of.kp T.b_frame_of .nil takes_def.pass (pa_cons (pe_call (ok_words_of T) (hr.mono (by decide)) rfl T.g_words_of T.F_words_of.kp T.b_words_of .nil takes_def.pass (pa_cons (pe_ix ix_list (pv 0) (pe_int) (fun _ _ => rfl)) (pa_nil))) (pa_nil))))
      (pss_cons (ps_if (pt_cmpR op_isN (pv 1) (pe_non) (nomark _)) (pss_one (ps_raise (hr.hd rfl) takes_def (pe_xmake T.k_BadLine (ok_BadLine_init T) (hr.mono (by decide)) rfl T.g_BadLine T.b_BadLine_init .nil (pa_cons (pe_int) (pa_nil))))) (pss_nil))
      (pss_cons (ps_asg (pv 1) (pg_tupL rfl (pgs_cons (pg_name (i := 2) sc_picture_of.nd rfl (Or.inl rfl)) (pgs_cons (pg_name (i := 3) sc_picture_of.nd rfl (Or.inl rfl)) (pgs_nil)))))
      (pss_cons (ps_set (i := 4) sc_picture_of.nd rfl (Or.inl rfl) (pe_make T.k_Picture (ok_Picture_init T) (hr.mono (by decide)) rfl T.g_Picture T.b_Picture_init .nil takes_def.pass (pa_cons (pv 2) (pa_cons (pv 3) (pa_nil)))))
      (pss_cons (ps_for PassesOwn.leaving rfl (pi_enum1 rfl T.n_enumerate (pa_cons (pe_slice sl_list (pv 0) (po_some (pe_int)) po_none) (pa_nil)) (pe_int)) (pg_tup rfl (pgs_cons (pg_name (i := 5) sc_picture_of.nd rfl (Or.inl rfl)) (pgs_cons (pg_name (i := 6) sc_picture_of.nd rfl (Or.inl rfl)) (pgs_nil)))) (pss_one (ps_expr (pe_call (okT_do_line T) (hr.mono (by decide)) rfl T.g_do_line T.F_do_line.kp T.b_do_line .nil takes_def.pass (pa_cons (pv 4) (pa_cons (pv 5) (pa_cons (pe_call (ok_words_of T) (hr.mono (by decide)) rfl T.g_words_of T.F_words_of.kp T.b_words_of .nil takes_def.pass (pa_cons (pv 6) (pa_nil))) (pa_nil))))))))
      (pss_one (ps_ret (pv 4)))))))), ?_⟩
    obtain ⟨po, hE, q⟩ := h
    have badL0 : out = some (.badLine (.int 0)) → ∀ H1, Same H H1 → ∀ e H', RaisedE t H1 H' e (.badLine (.int 0)) → E e t.C_BadLine H' := fun eo H1 s1 e H' z => hE _ eo e H' (RaisedE.pre s1 z)
    rcases po with ⟨eo, nl | ⟨l, v0, r, rfl, hl, lin, fn⟩⟩ | ⟨ll, w', h', its, rfl, hl, good, eo⟩
    · have b0 := badL0 eo H (Same.refl _)
      rcases nl with rfl | ⟨i, rfl⟩ | ⟨b, rfl⟩ | ⟨s', rfl⟩ | ⟨a, rfl, e | ⟨xs, e⟩ | ⟨kvs, e⟩⟩
      · exact ⟨_, rfl, _, _, rfl, .inl ⟨_, _, false, .non, rfl, (by rfl), false, rfl, ifP (by decide) ⟨(by show 1 ≤ 1000; decide), fun e he => ⟨e, _, rfl, upd_same, fun dx hdx => ⟨rfl, e, t.C_BadLine, some dx, rfl, upd_same, T.mk_BadLine, b0 e _ (raised1 (er := .badLine (.int 0)) rfl rfl he hdx)⟩⟩⟩⟩⟩
      · exact ⟨_, rfl, _, _, rfl, .inl ⟨_, _, false, .int i, rfl, (by rfl), false, rfl, ifP (by decide) ⟨(by show 1 ≤ 1000; decide), fun e he => ⟨e, _, rfl, upd_same, fun dx hdx => ⟨rfl, e, t.C_BadLine, some dx, rfl, upd_same, T.mk_BadLine, b0 e _ (raised1 (er := .badLine (.int 0)) rfl rfl he hdx)⟩⟩⟩⟩⟩
      · exact ⟨_, rfl, _, _, rfl, .inl ⟨_, _, false, .bl b, rfl, (by rfl), false, rfl, ifP (by decide) ⟨(by show 1 ≤ 1000; decide), fun e he => ⟨e, _, rfl, upd_same, fun dx hdx => ⟨rfl, e, t.C_BadLine, some dx, rfl, upd_same, T.mk_BadLine, b0 e _ (raised1 (er := .badLine (.int 0)) rfl rfl he hdx)⟩⟩⟩⟩⟩
      · exact ⟨_, rfl, _, _, rfl, .inl ⟨_, _, false, .str s', rfl, (by rfl), false, rfl, ifP (by decide) ⟨(by show 1 ≤ 1000; decide), fun e he => ⟨e, _, rfl, upd_same, fun dx hdx => ⟨rfl, e, t.C_BadLine, some dx, rfl, upd_same, T.mk_BadLine, b0 e _ (raised1 (er := .badLine (.int 0)) rfl rfl he hdx)⟩⟩⟩⟩⟩
      · exact ⟨_, rfl, _, _, rfl, .inl ⟨_, _, true, .lst e, rfl, kit_same, true, rfl, ifN (by decide) ⟨_, rfl, a, _, rfl, .inl (SqL.of e), rfl, _, rfl, ifP (by decide) ⟨(by show 1 ≤ 1000; decide), fun e he => ⟨e, _, rfl, upd_same, fun dx hdx => ⟨rfl, e, t.C_BadLine, some dx, rfl, upd_same, T.mk_BadLine, b0 e _ (raised1 (er := .badLine (.int 0)) rfl rfl he hdx)⟩⟩⟩⟩⟩⟩
      · exact ⟨_, rfl, _, _, rfl, .inl ⟨_, _, false, .tup e, rfl, (by rfl), false, rfl, ifP (by decide) ⟨(by show 1 ≤ 1000; decide), fun e he => ⟨e, _, rfl, upd_same, fun dx hdx => ⟨rfl, e, t.C_BadLine, some dx, rfl, upd_same, T.mk_BadLine, b0 e _ (raised1 (er := .badLine (.int 0)) rfl rfl he hdx)⟩⟩⟩⟩⟩
      · exact ⟨_, rfl, _, _, rfl, .inl ⟨_, _, false, .dK e, rfl, (by rfl), false, rfl, ifP (by decide) ⟨(by show 1 ≤ 1000; decide), fun e he => ⟨e, _, rfl, upd_same, fun dx hdx => ⟨rfl, e, t.C_BadLine, some dx, rfl, upd_same, T.mk_BadLine, b0 e _ (raised1 (er := .badLine (.int 0)) rfl rfl he hdx)⟩⟩⟩⟩⟩
    · refine ⟨_, rfl, _, _, rfl, .inl ⟨_, _, true, .lst hl, rfl, kit_same, true, rfl, ifN (by decide) ⟨_, rfl, l, _, rfl, .inl (SqL.of hl), rfl, _, rfl, ifN (by simp; omega) ?_⟩⟩⟩
      refine ⟨_, rfl, l, _, 0, v0, rfl, rfl, SqL.of hl, atI_nat (j := 0) rfl, v0, rfl, lin, fun H1 l1 s1 fl1 hl1 => ?_⟩
      refine ⟨l1, _, rfl, hl1, lin_words lin, fun _ H2 s2 => ?_, fun ns e => absurd (fn.symm.trans e) (fun z => nomatch z)⟩
      have b0 := badL0 eo H2 (s1.trans s2)
      exact ⟨_, rfl, rfl, _, rfl, ifP (by rfl) ⟨(by show 1 ≤ 1000; decide), fun e he => ⟨e, _, rfl, upd_same, fun dx hdx => ⟨rfl, e, t.C_BadLine, some dx, rfl, upd_same, T.mk_BadLine, b0 e _ (raised1 (er := .badLine (.int 0)) rfl rfl he hdx)⟩⟩⟩⟩
    have w1 := good.w1
    have w2 := good.w2
    have h1 := good.h1
    have h2 := good.h2
    have fi := fr_is (show w' < 31 by omega) (show h' < 17 by omega)
    refine ⟨_, rfl, _, _, rfl, .inl ⟨_, _, true, .lst hl, rfl, kit_same, true, rfl, ifN (by decide) ⟨_, rfl, ll, _, rfl, .inl (SqL.of hl), rfl, _, rfl, ifN (by simp; omega) ?_⟩⟩⟩
    refine ⟨_, rfl, ll, _, 0, .str (frT w' h'), rfl, rfl, SqL.of hl, atI_nat (j := 0) rfl, .str (frT w' h'), rfl, ascB_lin fi.1, fun H1 l1 s1 fl1 hl1 => ?_⟩
    refine ⟨l1, _, rfl, hl1, lin_words (H := H) (ascB_lin fi.1), fun e => absurd (fi.2.symm.trans e) (fun z => nomatch z), fun ns e H2 l2 s2 fl2 hl2 => ?_⟩
    obtain rfl : ns = [w', h'] := Option.some.inj (e.symm.trans fi.2)
    refine ⟨_, rfl, rfl, _, rfl, ifN (by simp) ?_⟩
    refine ⟨_, rfl, l2, _, rfl, SqL.of hl2, rfl, _, _, rfl, _, _, rfl, rfl, ?_⟩
    have s02 := s1.trans s2
    refine ⟨_, rfl, _, rfl, fun a dx ha hdx ne => ?_⟩
    refine ⟨a, dx, w', h', rfl, upd_same, by omega, by omega, by omega, by omega, fun H5 dp do_ hdp hdo k5 pic5 hdt => ⟨rfl, ?_⟩⟩
    have s5 : Same H H5 := fun b u e => k5 b u (ne_of_none (s02 _ _ e) ha) (by rw [upd_ne (ne_of_none (s02 _ _ e) ha), upd_ne (ne_of_none (s02 _ _ e) hdx)]; exact s02 _ _ e)
    have up : ∀ b, upd (upd H2 dx (.own a)) a (.ins t.C_Picture dx []) b = none → H2 b = none := fun b z => by
      cases e : H2 b with
      | none => rfl
      | some u => rw [upd_ne (ne_of_none e ha), upd_ne (ne_of_none e hdx), e] at z; cases z
    have fdo : H do_ = none := s02.free (up _ hdo)
    have fdp : H dp = none := s02.free (up _ hdp)
    refine ⟨_, rfl, 1, rfl, ll, _, rfl, SqL.of (s5 _ _ hl), fun p hp => ?_⟩
    rw [cut_1]
    have s6 : Same H5 (upd H5 p (.lst (itsV its))) := same_upd (Same.refl _) hp
    have g6 : upd H5 p (.lst (itsV its)) p = some (.lst (itsV its)) := upd_same
    revert s6 g6
    generalize upd H5 p (.lst (itsV its)) = H6
    intro s6 g6
    have s06 := s5.trans s6
    obtain ⟨kd, hkd, _⟩ := id pic5.pl
    have np : p ≠ do_ := Ne.symm (ne_of_none hdt hp)
    have np2 : p ≠ dp := Ne.symm (ne_of_none hkd hp)
    refine ⟨p, _, rfl, rfl, SqL.of g6, ?_⟩
    refine for_enum1 (xs := itsV its) (Pv := IP23 t H6 ll l2 a dp do_ w' h' its) ⟨_, _, rfl, fun _ _ _ _ e => e, Pic.same s6 pic5, ⟨[], s6 _ _ hdt, rfl, List.nodup_nil, Nat.zero_le _⟩, rfl⟩ ?_ ?_ ?_
    · rintro i σ H7 _ ⟨_, _, _, k, _⟩
      exact SqL.of (k _ _ np np2 g6)
    · rintro i x p2 σ H7 hx hp2 ⟨v5, v6, rfl, k, pic7, st7, er⟩
      unfold itsV at hx
      rw [List.getElem?_map] at hx
      obtain ⟨d, hd, rfl⟩ := Option.map_eq_some_iff.mp hx
      have s07 : Same H H7 := fun b u eb => k b u (ne_of_none eb fdo) (ne_of_none eb fdp) (s06 _ _ eb)
      have o := (good.ok d (List.mem_of_getElem? hd)).same s07
      have tk : its.take (i + 1) = its.take i ++ [d] := by rw [List.take_succ, hd]; rfl
      have dc : its.drop i = d :: its.drop (i + 1) := by
        obtain ⟨y1, y2⟩ := List.getElem?_eq_some_iff.mp hd
        rw [List.drop_eq_getElem_cons y1, y2]
      have cut : its = its.take i ++ d :: its.drop (i + 1) := by rw [← dc, List.take_append_drop]
      rw [dc] at er
      have s8 : Same H7 (upd H7 p2 (.tup [.int ((i : Int) + 1), d.v])) := same_upd (Same.refl _) hp2
      have g8 : upd H7 p2 (.tup [.int ((i : Int) + 1), d.v]) p2 = some (.tup [.int ((i : Int) + 1), d.v]) := upd_same
      revert s8 g8
      generalize upd H7 p2 (.tup [.int ((i : Int) + 1), d.v]) = H8
      intro s8 g8
      have lin := it_lin o
      refine ⟨p2, _, rfl, SqT.of g8, rfl, _, _, rfl, _, _, rfl, rfl, ?_⟩
      refine ⟨_, rfl, _, rfl, _, rfl, d.v, rfl, LinOk.same s8 lin, fun H9 l9 s9 fl9 hl9 => ?_⟩
      have s79 := s8.trans s9
      have pic9 := Pic.same s79 pic7
      have st9 := st7.same s79
      have sokA := good.ss
      rw [cut, List.flatMap_append, List.flatMap_cons, ← List.append_assoc] at sokA
      have sokB := sokA.part
      have sokC := sokB.part
      refine ⟨a, l9, .int ((i : Int) + 1), wordsV d.v, rfl, hl9, lin_words lin, ?_⟩
      have raise : ∀ er', out = some er' → ∀ e H', RaisedE t H9 H' e er' → E e (er'.cls t) H' := fun er' he e H' z => hE er' he e H' (RaisedE.pre (s07.trans s79) z)
      cases d with
      | bad v =>
        refine .inl ⟨o.2.1, o.2.2, fun e H' z => raise _ ?_ e H' z⟩
        rw [eo, er]
        show some (Er.badLine (.int ((i + 1 : Nat) : Int))) = _
        rw [Int.natCast_add]
        rfl
      | r17 =>
        have ri := rim_is (b := false) (show 17 < 18 by decide)
        have ew : wordsV (I23.v .r17) = [(sideW false).cps.toList, (numT 17).cps.toList] := by decide +kernel
        have oo := op_row (ss := (its.take i).flatMap I23.ss) (b := false) (x := .str (sideW false)) (r := .int ((17 : Nat) : Int)) (ph := (h' : Int)) (i := ((17 : Nat) : Int)) (by omega)
        rw [ew]
        refine .inr (.inl ⟨dp, do_, w', h', _, _, false, 17, _, pic9, st9, sokC, rfl, ri.2.2, rimN _ _, fun er' he e H' z => ?_, fun he => absurd (oo.symm.trans he) (fun z => nomatch z)⟩)
        have := Option.some.inj (oo.symm.trans he)
        subst this
        refine raise _ ?_ e H' z
        rw [eo, er]
        rfl
      | rim b r =>
        have ri := rim_is (b := b) (show r < 18 by have := o.2; omega)
        have ew : wordsV (I23.v (.rim b r)) = [(sideW b).cps.toList, (numT r).cps.toList] := ri.2.1
        rw [ew]
        have rr := sokB.2.2 (b, (r : Int)) (List.mem_append_right _ List.mem_cons_self)
        have nin : (b, (r : Int)) ∉ (its.take i).flatMap I23.ss := fun z => (List.nodup_append.mp sokB.1).2.2 _ z _ List.mem_cons_self rfl
        have oo := outOpen_in (ss := (its.take i).flatMap I23.ss) (x := .str (sideW b)) (r := .int (r : Int)) (b := b) rr.1 rr.2
        rw [if_neg nin] at oo
        refine .inr (.inl ⟨dp, do_, w', h', _, _, b, r, _, pic9, st9, sokC, rfl, ri.2.2, rimN _ _, fun er' he => absurd (oo.symm.trans he) (fun z => nomatch z), fun _ H' kz pc st' => ?_⟩)
        refine ⟨_, _, rfl, fun c u nc nd e => kz c u nc (s79 _ _ (k c u nc nd e)), ?_, ?_, er⟩
        · rw [tk, List.flatMap_append, List.flatMap_singleton]
          show Pic t H' a dp do_ w' h' (_ ++ [])
          rw [List.append_nil]
          exact pc
        · rw [tk, List.flatMap_append, List.flatMap_singleton]
          exact st'
      | pt kk =>
        have pi := pt_is o
        have z := good.ps
        rw [cut, List.flatMap_append, List.flatMap_cons] at z
        obtain ⟨z1, z2, z3⟩ := PtsOk.pre (p := ⟨ltrK kk, ((1 + kk : Nat) : Int), ((1 + kk : Nat) : Int), "both", 1, h'⟩) (s := (its.drop (i + 1)).flatMap (I23.ps h')) z
        refine .inr (.inr ⟨dp, do_, w', h', _, ltrK kk, ((1 + kk : Nat) : Int), ((1 + kk : Nat) : Int), pic9, pi.2.1, pi.2.2, z1, z2, z3, fun H' kz pc => ?_⟩)
        obtain ⟨ko, hko, hk2⟩ := id st9
        obtain ⟨kp, hkp, _⟩ := pic9.pl
        refine ⟨_, _, rfl, fun c u nc nd e => kz c u nd (s79 _ _ (k c u nc nd e)), ?_, ?_, er⟩
        · rw [tk, List.flatMap_append, List.flatMap_singleton]
          exact pc
        · rw [tk, List.flatMap_append, List.flatMap_singleton]
          show Sts H' do_ (_ ++ [])
          rw [List.append_nil]
          exact ⟨ko, kz _ _ (ne_of hko hkp (fun z => nomatch z)) hko, hk2⟩
    · rintro σ H7 ⟨v5, v6, rfl, k, pic7, st7, er⟩
      rw [show (itsV its).length = its.length from List.length_map _, List.drop_length] at er
      exact ⟨_, rfl, q (by rw [eo, er]; rfl) _ H7 (fun b u eb => k b u (ne_of_none eb fdo) (ne_of_none eb fdp) (s06 _ _ eb))⟩
end
end S23
set_option maxRecDepth 100000
set_option maxHeartbeats 4000000
namespace S23
open PySem L2 XL PyProof.Rows
def badR0 (a b : Nat) : List Str := [Str.ofString "left", Str.ofString "right ", Str.ofString "left " ++ numT a ++ Str.ofString " ", Str.ofString " left " ++ numT a, Str.ofString "left  " ++ numT a, Str.ofString "left 0" ++ numT a, Str.ofString "right " ++ numT a ++ Str.ofString "-"]
def badR1 (a b : Nat) : List Str := [Str.ofString "right -" ++ numT a, Str.ofString "left " ++ numT (a + 1 + b) ++ Str.ofString "-" ++ numT a, Str.ofString "left " ++ numT a ++ Str.ofString "-" ++ numT (a + 1 + b) ++ Str.ofString "-" ++ numT (a + 1 + b), Str.ofString "left 100"]
def badR2 (a b : Nat) : List Str := [Str.ofString "left x", Str.ofString "right " ++ numT a ++ Str.ofString " x", Str.ofString "Left " ++ numT a, Str.ofString "lefts " ++ numT a, Str.ofString "right 17 x", Str.ofString "left +" ++ numT a]
def badR3 (a b : Nat) : List Str := [Str.ofString "left " ++ numT a ++ Str.ofString "," ++ numT (a + 1 + b), Str.ofString "right " ++ numT a ++ Str.ofString "--" ++ numT (a + 1 + b), Str.ofString "left 0" ++ numT a ++ Str.ofString "-" ++ numT (a + 1 + b), Str.ofString "both " ++ numT a]
def badR (a b : Nat) : List Str := (((badR0 a b) ++ badR1 a b) ++ badR2 a b) ++ badR3 a b
def badD0 (a b : Nat) : List Str := [Str.ofString "point", Str.ofString "point a " ++ numT a, Str.ofString "point a " ++ numT a ++ Str.ofString " " ++ numT b ++ Str.ofString " left 1", Str.ofString "point a " ++ numT a ++ Str.ofString " " ++ numT b ++ Str.ofString " both 1 2 3"]
def badD1 (a b : Nat) : List Str := [Str.ofString "point a 0" ++ numT a ++ Str.ofString " " ++ numT b, Str.ofString "point a " ++ numT a ++ Str.ofString " +" ++ numT b, Str.ofString "point a " ++ numT a ++ Str.ofString " " ++ numT b ++ Str.ofString " "]
def badD2 (a b : Nat) : List Str := [Str.ofString "point  a " ++ numT a ++ Str.ofString " " ++ numT b, Str.ofString "point a x " ++ numT b, Str.ofString "point a " ++ numT a ++ Str.ofString " " ++ numT b ++ Str.ofString " both 1 x", Str.ofString "points a 1 2"]
def badD3 (a b : Nat) : List Str := [Str.ofString "point a " ++ numT a ++ Str.ofString " " ++ numT b ++ Str.ofString " both x 1", Str.ofString "point A 100 " ++ numT b, Str.ofString "Point a " ++ numT a ++ Str.ofString " " ++ numT b, Str.ofString "point A 1 y"]
def badD4 (a b : Nat) : List Str := [Str.ofString "point a " ++ numT a ++ Str.ofString " " ++ numT b ++ Str.ofString " up 01 1", Str.ofString "point a " ++ numT a ++ Str.ofString "-" ++ numT b ++ Str.ofString " 1", Str.ofString "shut left " ++ numT a]
def badD (a b : Nat) : List Str := ((((badD0 a b) ++ badD1 a b) ++ badD2 a b) ++ badD3 a b) ++ badD4 a b
def badX : List Str := [Str.ofString "frame 3 3", Str.ofString "frame", Str.ofString "", Str.ofString " ", Str.ofString "take a", Str.ofString "-"]
def badF0 : List Str := [Str.ofString "frame", Str.ofString "frame 9", Str.ofString "frame 9 9 9", Str.ofString "frame 09 9", Str.ofString "left 1", Str.ofString "point a 1 1", Str.ofString "Frame 9 9", Str.ofString "frame 9  9", Str.ofString ""]
def badF1 : List Str := [Str.ofString "frame 100 9", Str.ofString "frame 9 x", Str.ofString " frame 9 9", Str.ofString "frame 9 9 ", Str.ofString "frames 9 9", Str.ofString "frame 0 x", Str.ofString "frame 99 09"]
def badAll (a b : Nat) : List Str := (badR a b ++ badD a b) ++ badX
def badOk (s : Str) : Bool := ascB s && badL s.cps.toList
theorem bad_all : ∀ a, a < 9 → ∀ b, b < 9 → (badAll (1 + a) b).all badOk = true := by decide +kernel
theorem bad_first : (badF0 ++ badF1).all (fun s => ascB s && (frmL (wordsL s.cps.toList)).isNone) = true := by decide +kernel
theorem bad_len : ∀ a b, (badAll a b).length = 45 := fun _ _ => rfl
theorem isPt_no {ws : List (List Nat)} (h : isPt ws = false) : ptO ws = none := by
  match ws, h with
  | [], _ => rfl
  | [_], _ => rfl
  | [_, _], _ => rfl
  | [_, _, _], _ => rfl
  | [p, n, x, y], h =>
    change (decide (p = pointL) && (numsL [x, y]).isSome) = false at h
    unfold ptO
    dsimp only
    by_cases e : p = pointL
    · rw [decide_eq_true e, Bool.true_and] at h
      rw [if_pos e]
      cases z : numsL [x, y] with
      | none => rfl
      | some ns => rw [z] at h; cases h
    · rw [if_neg e]
  | [p, n, x, y, s], h =>
    change (decide (p = pointL) && (numsL [x, y]).isSome) = false at h
    unfold ptO
    dsimp only
    by_cases e : p = pointL
    · rw [decide_eq_true e, Bool.true_and] at h
      rw [if_pos e]
      cases z : numsL [x, y] with
      | none => rfl
      | some ns => rw [z] at h; cases h
    · rw [if_neg e]
  | [_, _, _, _, _, _], _ => rfl
  | [p, n, x, y, s, lo, hi], h =>
    change (decide (p = pointL) && (numsL [x, y, lo, hi]).isSome) = false at h
    unfold ptO
    dsimp only
    by_cases e : p = pointL
    · rw [decide_eq_true e, Bool.true_and] at h
      rw [if_pos e]
      cases z : numsL [x, y, lo, hi] with
      | none => rfl
      | some ns => rw [z] at h; cases h
    · rw [if_neg e]
  | _ :: _ :: _ :: _ :: _ :: _ :: _ :: _ :: _, _ => rfl
theorem badOk_it {H : Hp} {s : Str} (h : badOk s = true) : I23.Ok H (.bad (.str s)) := by
  unfold badOk badL at h
  rw [Bool.and_eq_true, Bool.and_eq_true, Bool.not_eq_true'] at h
  refine ⟨ascB_lin h.1, ?_, isPt_no h.2.2⟩
  show rowsL (wordsL s.cps.toList) = none
  cases z : rowsL (wordsL s.cps.toList) with
  | none => rfl
  | some r => rw [z] at h; cases h.2.1
section
variable {P : Program} {w : World} {K : PySem.W.Frag} {mg : Str → Option Value} {base : Heap} {t : Adr}
end
end S23
set_option maxRecDepth 100000
set_option maxHeartbeats 4000000
namespace S23
open PySem L2 XL PyProof.Rows
theorem cm_mod {x d : Int} (h : 0 < d) (h2 : d ≤ 4294967296) : -(2 ^ 64) < x % d ∧ x % d < 2 ^ 64 := by
  have a := Int.emod_nonneg x (show d ≠ 0 by omega)
  have b := Int.emod_lt_of_pos x h
  exact ⟨by omega, by omega⟩
theorem mod_in (x : Int) {d : Int} (h : 0 < d) : 0 ≤ x % d ∧ x % d < d := ⟨Int.emod_nonneg _ (by omega), Int.emod_lt_of_pos _ h⟩
def spCell (K : PySem.W.Frag) : Sp := fun vs H Q _ => ∃ (a : Addr) (ns : List Int) (k : Int), vs = [.ref a, .int k] ∧ SqL K H a (ns.map V.int) ∧ 0 ≤ k ∧ k < 2 ^ 62 ∧ ∀ c : Int, Q (.int c) H
def spMixA : Sp := fun vs H Q _ => ∃ c k : Int, vs = [.int c, .int k] ∧ 0 ≤ k ∧ ∀ m : Int, Q (.int m) H
def spWhole : Sp := fun vs H Q _ => ∃ i : Int, vs = [.int i] ∧ Q (.bl true) H
theorem log_le {n : Nat} (h : n < 100) : ((n : Int)).natAbs.log2 < 1920 := by
  have := Nat.log2_le_self n
  show n.log2 < 1920
  omega
section
variable {P : Program} {w : World} {K : PySem.W.Frag} {mg : Str → Option Value} {base : Heap} {t : Adr}
theorem ok_law_cell (T : Txt w K mg t) : FnOk true P w K mg base (CXo P w) 1 t.f_law_cell t.d_law_cell ["_law_script", "_law_k"] (spCell K) := by
  refine T.F_law_cell.okn (k := 0) sc_law_cell (fun vs H Q E h => ?_) (fun cdv A outer s H vs Q E hr h => ?_)
  · obtain ⟨a, ns, k, rfl, _⟩ := h
    rfl
  · obtain ⟨a, ns, k, rfl, h⟩ := h
    refine ⟨_, pss_cons (ps_if (pt_cmpR op_lt (pv 1) (pe_callB call_len_seq rfl T.n_len boot_len (pa_cons (pv 0) (pa_nil))) (nomark _)) (pss_one (ps_ret (pe_ix ix_list (pv 0) (pv 1) (fun _ _ => rfl)))) (pss_nil))
      (pss_one (ps_ret (pe_op op_add (pe_op op_mul (pe_int) (pv 1)) (pe_int)))), ?_⟩
    obtain ⟨hs, k0, k1, q⟩ := h
    refine ⟨_, rfl, _, rfl, a, _, rfl, .inl hs, _, _, rfl, rfl, _, rfl, ?_⟩
    refine ite2 (fun c => ?_) (fun c => ?_)
    · have c' : k < (ns.length : Int) := by simpa using c
      obtain ⟨j, rfl⟩ := Int.eq_ofNat_of_zero_le k0
      have lt : j < ns.length := by omega
      exact ⟨_, rfl, _, rfl, a, _, _, _, rfl, rfl, hs, atI_nat (by rw [List.getElem?_map, List.getElem?_eq_getElem lt]; rfl), q _⟩
    · exact ⟨_, rfl, _, _, rfl, rfl, .inl ⟨by decide, by decide⟩, _, _, rfl, rfl, q _⟩
theorem ok_law_mix (T : Txt w K mg t) : FnOk true P w K mg base (CXo P w) 1 t.f_law_mix t.d_law_mix ["_law_cell_here", "_law_k"] (spMixA) := by
  refine T.F_law_mix.okn (k := 0) sc_law_mix (fun vs H Q E h => ?_) (fun cdv A outer s H vs Q E hr h => ?_)
  · obtain ⟨c, k, rfl, _⟩ := h
    rfl
  · obtain ⟨c, k, rfl, h⟩ := h
    refine ⟨_, pss_cons (ps_if (pt_cmpR op_eq (pe_op op_mod (pv 0) (pe_int)) (pe_int) (nomark _)) (pss_one (ps_ret (pe_op op_mod (pe_op op_shr (pv 0) (pe_op op_add (pe_int) (pe_op op_mul (pe_int) (pv 1)))) (pe_op op_pow (pe_int) (pe_int))))) (pss_nil))
      (pss_cons (ps_set (i := 2) sc_law_mix.nd rfl (Or.inl rfl) (pe_op op_mod (pe_op op_mul (pe_op op_add (pe_op op_add (pe_op op_mod (pv 0) (pe_int)) (pe_op op_mul (pe_int) (pv 1))) (pe_int)) (pe_int)) (pe_int)))
      (pss_cons (ps_set (i := 2) sc_law_mix.nd rfl (Or.inl rfl) (pe_op op_mod (pe_op op_add (pe_op op_mul (pv 2) (pv 2)) (pe_op op_mul (pe_int) (pv 1))) (pe_int)))
      (pss_one (ps_ret (pe_op op_fdiv (pe_op op_mod (pe_op op_mul (pv 2) (pe_op op_add (pv 2) (pe_int))) (pe_int)) (pe_int)))))), ?_⟩
    obtain ⟨k0, q⟩ := h
    refine ⟨_, rfl, _, _, rfl, rfl, (by show (0 : Int) < 4; decide), rfl, _, rfl, ite2 (fun z => ?_) (fun z => ?_)⟩
    · exact ⟨_, rfl, _, rfl, _, _, rfl, rfl, .inl ⟨by decide, by decide⟩, _, _, rfl, rfl, _, _, rfl, rfl, (by omega), _, _, rfl, rfl, ⟨by decide, by decide, by decide⟩, _, _, rfl, rfl, (by show (0 : Int) < 2 ^ (40 : Int).toNat; decide), q _⟩
    refine ⟨_, rfl, _, _, rfl, rfl, (by show (0 : Int) < 2147483629; decide), _, rfl, _, _, rfl, rfl, .inl ⟨by decide, by decide⟩, _, _, rfl, rfl, _, _, rfl, rfl, _, _, rfl, rfl, .inr ⟨by decide, by decide⟩, _, _, rfl, rfl, (by show (0 : Int) < 2147483647; decide), ?_⟩
    refine ⟨_, rfl, _, rfl, _, _, rfl, rfl, .inl (cm_mod (by decide) (by decide)), _, rfl, _, _, rfl, rfl, .inl ⟨by decide, by decide⟩, _, _, rfl, rfl, _, _, rfl, rfl, (by show (0 : Int) < 2147483629; decide), ?_⟩
    exact ⟨_, rfl, _, rfl, _, _, rfl, rfl, _, _, rfl, rfl, .inl (cm_mod (by decide) (by decide)), _, _, rfl, rfl, (by show (0 : Int) < 2147483587; decide), _, _, rfl, rfl, ⟨by decide, by decide⟩, q _⟩
theorem ok_law_digits (T : Txt w K mg t) : FnOk true P w K mg base (CXo P w) 2 t.f_law_digits t.d_law_digits ["_law_cell_here", "_law_k"] (spMixA) := by
  refine T.F_law_digits.okn (k := 1) sc_law_digits (fun vs H Q E h => ?_) (fun cdv A outer s H vs Q E hr h => ?_)
  · obtain ⟨c, k, rfl, _⟩ := h
    rfl
  · obtain ⟨c, k, rfl, h⟩ := h
    refine ⟨_, pss_cons (ps_if (pt_cmpR op_eq (pe_op op_mod (pv 0) (pe_int)) (pe_int) (nomark _)) (pss_one (ps_ret (pe_op op_fdiv (pv 0) (pe_int)))) (pss_nil))
      (pss_one (ps_ret (pe_call (ok_law_mix T) (hr.mono (by decide)) rfl T.g_law_mix T.F_law_mix.kp T.b_law_mix .nil pass_none (pa_cons (pv 0) (pa_cons (pv 1) (pa_nil)))))), ?_⟩
    obtain ⟨k0, q⟩ := h
    exact ⟨_, rfl, _, _, rfl, rfl, (by show (0 : Int) < 2; decide), rfl, _, rfl, ite2 (fun z => ⟨_, rfl, _, _, rfl, rfl, ⟨by decide, by decide⟩, q _⟩) (fun z => ⟨_, rfl, _, rfl, _, _, rfl, k0, q⟩)⟩
theorem ok_law_whole (T : Txt w K mg t) : FnOk true P w K mg base (CXo P w) 1 t.f_law_whole t.d_law_whole ["_law_found"] (spWhole) := by
  refine T.F_law_whole.okn (k := 0) sc_law_whole (fun vs H Q E h => ?_) (fun cdv A outer s H vs Q E hr h => ?_)
  · obtain ⟨i, rfl, _⟩ := h
    rfl
  · obtain ⟨i, rfl, h⟩ := h
    refine ⟨_, pss_one (ps_ret (pe_and (pe_callB call_isin rfl T.n_isinstance boot_isinstance (pa_cons (pv 0) (pa_cons (pe_bltn (v := .ty "int") rfl T.n_int boot_int rfl) (pa_nil)))) (pe_one (pe_not (pe_callB call_isin rfl T.n_isinstance boot_isinstance (pa_cons (pv 0) (pa_cons (pe_bltn (v := .ty "bool") rfl T.n_bool boot_bool rfl) (pa_nil)))))))), ?_⟩
    refine ⟨_, rfl, _, _, rfl, .inl ⟨_, _, true, .int i, rfl, kit_same, true, rfl, iteT ?_⟩⟩
    exact ⟨_, rfl, _, _, rfl, .inl ⟨_, _, false, .int i, rfl, (by rfl), false, rfl, h⟩⟩
end
end S23
set_option maxRecDepth 100000
set_option maxHeartbeats 4000000
namespace S23
open PySem L2 XL PyProof.Rows
theorem num_len {n : Nat} (h : n < 100) : (numT n).length ≤ 5 := by rcases numT_len h with z | ⟨z, _⟩ <;> omega
theorem cat_len (a b : Str) : (a ++ b).length = a.length + b.length := by rw [str_len, cat_toList, List.length_append, ← str_len, ← str_len]
def spBadR : Sp := fun vs H Q _ => ∃ a b : Nat, vs = [.int (a : Int), .int (b : Int)] ∧ a < 10 ∧ b < 10 ∧ ∀ H' l, Same H H' → H l = none → H' l = some (.lst ((badR a b).map V.str)) → Q (.ref l) H'
def spBadD : Sp := fun vs H Q _ => ∃ a b : Nat, vs = [.int (a : Int), .int (b : Int)] ∧ a < 10 ∧ b < 10 ∧ ∀ H' l, Same H H' → H l = none → H' l = some (.lst ((badD a b).map V.str)) → Q (.ref l) H'
section
variable {P : Program} {w : World} {K : PySem.W.Frag} {mg : Str → Option Value} {base : Heap} {t : Adr}
theorem ok_law_bad_rims (T : Txt w K mg t) : FnOk true P w K mg base (CXo P w) 1 t.f_law_bad_rims t.d_law_bad_rims ["_law_a", "_law_b"] (spBadR) := by
  refine T.F_law_bad_rims.okn (k := 0) sc_law_bad_rims (fun vs H Q E h => ?_) (fun cdv A outer s H vs Q E hr h => ?_)
  · obtain ⟨a, b, rfl, _⟩ := h
    rfl
  · obtain ⟨a, b, rfl, h⟩ := h
    refine ⟨_, pss_cons (ps_set (i := 2) sc_law_bad_rims.nd rfl (Or.inl rfl) (pe_callTy call_str_int rfl T.n_str boot_str (pa_cons (pv 0) (pa_nil))))
      (pss_cons (ps_set (i := 3) sc_law_bad_rims.nd rfl (Or.inl rfl) (pe_callTy call_str_int rfl T.n_str boot_str (pa_cons (pe_op op_add (pe_op op_add (pv 0) (pe_int)) (pv 1)) (pa_nil))))
      (pss_cons ((by (with_reducible refine' ps_set (i := 4) ?n24 ?i25 ?x26 ?e27 ?s28 ?f29); (case n24 => exact sc_law_bad_rims.nd); (case i25 => rfl); (case x26 => exact Or.inl rfl); (case f29 => exact Or.inl rfl); (case e27 => ((with_reducible refine' pe_lst ?p30); (case p30 => ((with_reducible refine' pa_cons ?e31 ?q32 rfl); (case e31 => exact pe_str); (case q32 => ((with_reducible refine' pa_cons ?e33 ?q34 rfl); (case e33 => exact pe_str); (case q34 => ((with_reducible refine' pa_cons ?e35 ?q36 rfl); (case e35 => exact pe_op op_add_str (pe_op op_add_str (pe_str) (pv 2)) (pe_str)); (case q36 => ((with_reducible refine' pa_cons ?e37 ?q38 rfl); (case e37 => exact pe_op op_add_str (pe_str) (pv 2)); (case q38 => ((with_reducible refine' pa_cons ?e39 ?q40 rfl); (case e39 => exact pe_op op_add_str (pe_str) (pv 2)); (case q40 => ((with_reducible refine' pa_cons ?e41 ?q42 rfl); (case e41 => exact pe_op op_add_str (pe_str) (pv 2)); (case q42 => ((with_reducible refine' pa_cons ?e43 ?q44 rfl); (case e43 => exact pe_op op_add_str (pe_op op_add_str (pe_str) (pv 2)) (pe_str)); (case q44 => ((exact pa_nil))))))))))))))))))); (case s28 => rfl)))
      (pss_cons (ps_set (i := 4) sc_law_bad_rims.nd rfl (Or.inl rfl) (pe_op op_cat (pv 4) (pe_lst (pa_cons (pe_op op_add_str (pe_str) (pv 2)) (pa_cons (pe_op op_add_str (pe_op op_add_str (pe_op op_add_str (pe_str) (pv 3)) (pe_str)) (pv 2)) (pa_cons (pe_op op_add_str (pe_op op_add_str (pe_op op_add_str (pe_op op_add_str (pe_op op_add_str (pe_str) (pv 2)) (pe_str)) (pv 3)) (pe_str)) (pv 3)) (pa_cons (pe_str) (pa_nil))))))))
      (pss_cons ((by (with_reducible refine' ps_set (i := 4) ?n2 ?i3 ?x4 ?e5 ?s6 ?f7); (case n2 => exact sc_law_bad_rims.nd); (case i3 => rfl); (case x4 => exact Or.inl rfl); (case f7 => exact Or.inl rfl); (case e5 => ((with_reducible refine' pe_op ?o8 ?l9 ?r10); (case o8 => exact op_cat); (case l9 => ((exact pv 4))); (case r10 => ((with_reducible refine' pe_lst ?p11); (case p11 => ((with_reducible refine' pa_cons ?e12 ?q13 rfl); (case e12 => exact pe_str); (case q13 => ((with_reducible refine' pa_cons ?e14 ?q15 rfl); (case e14 => exact pe_op op_add_str (pe_op op_add_str (pe_str) (pv 2)) (pe_str)); (case q15 => ((with_reducible refine' pa_cons ?e16 ?q17 rfl); (case e16 => exact pe_op op_add_str (pe_str) (pv 2)); (case q17 => ((with_reducible refine' pa_cons ?e18 ?q19 rfl); (case e18 => exact pe_op op_add_str (pe_str) (pv 2)); (case q19 => ((with_reducible refine' pa_cons ?e20 ?q21 rfl); (case e20 => exact pe_str); (case q21 => ((with_reducible refine' pa_cons ?e22 ?q23 rfl); (case e22 => exact pe_op op_add_str (pe_str) (pv 2)); (case q23 => ((exact pa_nil))))))))))))))))))); (case s6 => rfl)))
      (pss_one (ps_ret (pe_op op_cat (pv 4) (pe_lst (pa_cons (pe_op op_add_str (pe_op op_add_str (pe_op op_add_str (pe_str) (pv 2)) (pe_str)) (pv 3)) (pa_cons (pe_op op_add_str (pe_op op_add_str (pe_op op_add_str (pe_str) (pv 2)) (pe_str)) (pv 3)) (pa_cons (pe_op op_add_str (pe_op op_add_str (pe_op op_add_str (pe_str) (pv 2)) (pe_str)) (pv 3)) (pa_cons (pe_op op_add_str (pe_str) (pv 2)) (pa_nil))))))))))))), ?_⟩
    obtain ⟨ha, hb, q⟩ := h
    have la := num_len (show a < 100 by omega)
    have lb := num_len (show a + 1 + b < 100 by omega)
    refine ⟨_, rfl, (a : Int), rfl, log_le (by omega), ?_⟩
    refine ⟨_, rfl, _, _, rfl, rfl, _, rfl, _, _, rfl, rfl, ((a + 1 + b : Nat) : Int), by rw [Int.natCast_add, Int.natCast_add]; rfl, log_le (by omega), ?_⟩
    rw [show Str.ofString (toString (a : Int)) = numT a from rfl, show Str.ofString (toString ((a + 1 + b : Nat) : Int)) = numT (a + 1 + b) from rfl]
    have z0 : (Str.ofString " ").length = 1 := by decide +kernel
    have z1 : (Str.ofString " +").length = 2 := by decide +kernel
    have z2 : (Str.ofString " 1").length = 2 := by decide +kernel
    have z3 : (Str.ofString " both 1 2 3").length = 11 := by decide +kernel
    have z4 : (Str.ofString " both 1 x").length = 9 := by decide +kernel
    have z5 : (Str.ofString " both x 1").length = 9 := by decide +kernel
    have z6 : (Str.ofString " left ").length = 6 := by decide +kernel
    have z7 : (Str.ofString " left 1").length = 7 := by decide +kernel
    have z8 : (Str.ofString " up 01 1").length = 8 := by decide +kernel
    have z9 : (Str.ofString " x").length = 2 := by decide +kernel
    have z10 : (Str.ofString ",").length = 1 := by decide +kernel
    have z11 : (Str.ofString "-").length = 1 := by decide +kernel
    have z12 : (Str.ofString "--").length = 2 := by decide +kernel
    have z13 : (Str.ofString "Left ").length = 5 := by decide +kernel
    have z14 : (Str.ofString "Point a ").length = 8 := by decide +kernel
    have z15 : (Str.ofString "both ").length = 5 := by decide +kernel
    have z16 : (Str.ofString "left").length = 4 := by decide +kernel
    have z17 : (Str.ofString "left ").length = 5 := by decide +kernel
    have z18 : (Str.ofString "left  ").length = 6 := by decide +kernel
    have z19 : (Str.ofString "left +").length = 6 := by decide +kernel
    have z20 : (Str.ofString "left 0").length = 6 := by decide +kernel
    have z21 : (Str.ofString "left 100").length = 8 := by decide +kernel
    have z22 : (Str.ofString "left x").length = 6 := by decide +kernel
    have z23 : (Str.ofString "lefts ").length = 6 := by decide +kernel
    have z24 : (Str.ofString "point").length = 5 := by decide +kernel
    have z25 : (Str.ofString "point  a ").length = 9 := by decide +kernel
    have z26 : (Str.ofString "point A 1 y").length = 11 := by decide +kernel
    have z27 : (Str.ofString "point A 100 ").length = 12 := by decide +kernel
    have z28 : (Str.ofString "point a ").length = 8 := by decide +kernel
    have z29 : (Str.ofString "point a 0").length = 9 := by decide +kernel
    have z30 : (Str.ofString "point a x ").length = 10 := by decide +kernel
    have z31 : (Str.ofString "points a 1 2").length = 12 := by decide +kernel
    have z32 : (Str.ofString "right ").length = 6 := by decide +kernel
    have z33 : (Str.ofString "right -").length = 7 := by decide +kernel
    have z34 : (Str.ofString "right 17 x").length = 10 := by decide +kernel
    have z35 : (Str.ofString "shut left ").length = 10 := by decide +kernel
    refine ⟨_, rfl, _, _, rfl, rfl, ?_, _, _, rfl, rfl, ?_, _, rfl, _, _, rfl, rfl, ?_, _, rfl, _, _, rfl, rfl, ?_, _, rfl, _, _, rfl, rfl, ?_, _, rfl, _, _, rfl, rfl, ?_, _, _, rfl, rfl, ?_, (by show 7 ≤ sizeLine; decide), fun q0 hq0 => ?_⟩
    all_goals first
      | (refine Nat.le_trans (?_ : _ ≤ 1000) (by decide); simp only [cat_len, z0, z1, z2, z3, z4, z5, z6, z7, z8, z9, z10, z11, z12, z13, z14, z15, z16, z17, z18, z19, z20, z21, z22, z23, z24, z25, z26, z27, z28, z29, z30, z31, z32, z33, z34, z35]; omega)
      | skip
    rw [show ([V.str (Str.ofString "left"), V.str (Str.ofString "right "), V.str (Str.ofString "left " ++ numT a ++ Str.ofString " "), V.str (Str.ofString " left " ++ numT a), V.str (Str.ofString "left  " ++ numT a), V.str (Str.ofString "left 0" ++ numT a), V.str (Str.ofString "right " ++ numT a ++ Str.ofString "-")] : List V) = (badR0 a b).map V.str from rfl]
    have sa0 : Same H (upd H q0 (.lst ((badR0 a b).map V.str))) := same_upd (Same.refl _) hq0
    have ga0 : upd H q0 (.lst ((badR0 a b).map V.str)) q0 = some (.lst ((badR0 a b).map V.str)) := upd_same
    revert sa0 ga0
    generalize upd H q0 (.lst ((badR0 a b).map V.str)) = Ha0
    intro sa0 ga0
    refine ⟨_, rfl, _, rfl, _, _, rfl, rfl, ?_, _, rfl, _, _, rfl, rfl, ?_, _, _, rfl, rfl, ?_, _, rfl, _, _, rfl, rfl, ?_, _, rfl, _, _, rfl, rfl, ?_, _, _, rfl, rfl, ?_, _, rfl, _, _, rfl, rfl, ?_, _, _, rfl, rfl, ?_, _, rfl, _, _, rfl, rfl, ?_, (by show 4 ≤ sizeLine; decide), fun q1 hq1 => ?_⟩
    all_goals first
      | (refine Nat.le_trans (?_ : _ ≤ 1000) (by decide); simp only [cat_len, z0, z1, z2, z3, z4, z5, z6, z7, z8, z9, z10, z11, z12, z13, z14, z15, z16, z17, z18, z19, z20, z21, z22, z23, z24, z25, z26, z27, z28, z29, z30, z31, z32, z33, z34, z35]; omega)
      | skip
    rw [show ([V.str (Str.ofString "right -" ++ numT a), V.str (Str.ofString "left " ++ numT (a + 1 + b) ++ Str.ofString "-" ++ numT a), V.str (Str.ofString "left " ++ numT a ++ Str.ofString "-" ++ numT (a + 1 + b) ++ Str.ofString "-" ++ numT (a + 1 + b)), V.str (Str.ofString "left 100")] : List V) = (badR1 a b).map V.str from rfl]
    have sa1 : Same Ha0 (upd Ha0 q1 (.lst ((badR1 a b).map V.str))) := same_upd (Same.refl _) hq1
    have ga1 : upd Ha0 q1 (.lst ((badR1 a b).map V.str)) q1 = some (.lst ((badR1 a b).map V.str)) := upd_same
    revert sa1 ga1
    generalize upd Ha0 q1 (.lst ((badR1 a b).map V.str)) = Ha1
    intro sa1 ga1
    refine ⟨q0, q1, _, _, rfl, rfl, sa1 _ _ ga0, ga1, (by show 7 + 4 ≤ sizeLine; decide), fun r1 hr1 => ?_⟩
    rw [← List.map_append]
    have sb1 : Same Ha1 (upd Ha1 r1 (.lst (((badR0 a b) ++ badR1 a b).map V.str))) := same_upd (Same.refl _) hr1
    have gb1 : upd Ha1 r1 (.lst (((badR0 a b) ++ badR1 a b).map V.str)) r1 = some (.lst (((badR0 a b) ++ badR1 a b).map V.str)) := upd_same
    revert sb1 gb1
    generalize upd Ha1 r1 (.lst (((badR0 a b) ++ badR1 a b).map V.str)) = Hb1
    intro sb1 gb1
    have t1 := (sa0.trans sa1).trans sb1
    refine ⟨_, rfl, _, rfl, _, _, rfl, rfl, ?_, _, _, rfl, rfl, ?_, _, rfl, _, _, rfl, rfl, ?_, _, rfl, _, _, rfl, rfl, ?_, _, rfl, _, _, rfl, rfl, ?_, (by show 6 ≤ sizeLine; decide), fun q2 hq2 => ?_⟩
    all_goals first
      | (refine Nat.le_trans (?_ : _ ≤ 1000) (by decide); simp only [cat_len, z0, z1, z2, z3, z4, z5, z6, z7, z8, z9, z10, z11, z12, z13, z14, z15, z16, z17, z18, z19, z20, z21, z22, z23, z24, z25, z26, z27, z28, z29, z30, z31, z32, z33, z34, z35]; omega)
      | skip
    rw [show ([V.str (Str.ofString "left x"), V.str (Str.ofString "right " ++ numT a ++ Str.ofString " x"), V.str (Str.ofString "Left " ++ numT a), V.str (Str.ofString "lefts " ++ numT a), V.str (Str.ofString "right 17 x"), V.str (Str.ofString "left +" ++ numT a)] : List V) = (badR2 a b).map V.str from rfl]
    have sa2 : Same Hb1 (upd Hb1 q2 (.lst ((badR2 a b).map V.str))) := same_upd (Same.refl _) hq2
    have ga2 : upd Hb1 q2 (.lst ((badR2 a b).map V.str)) q2 = some (.lst ((badR2 a b).map V.str)) := upd_same
    revert sa2 ga2
    generalize upd Hb1 q2 (.lst ((badR2 a b).map V.str)) = Ha2
    intro sa2 ga2
    refine ⟨r1, q2, _, _, rfl, rfl, sa2 _ _ gb1, ga2, (by show 11 + 6 ≤ sizeLine; decide), fun r2 hr2 => ?_⟩
    rw [← List.map_append]
    have sb2 : Same Ha2 (upd Ha2 r2 (.lst ((((badR0 a b) ++ badR1 a b) ++ badR2 a b).map V.str))) := same_upd (Same.refl _) hr2
    have gb2 : upd Ha2 r2 (.lst ((((badR0 a b) ++ badR1 a b) ++ badR2 a b).map V.str)) r2 = some (.lst ((((badR0 a b) ++ badR1 a b) ++ badR2 a b).map V.str)) := upd_same
    revert sb2 gb2
    generalize upd Ha2 r2 (.lst ((((badR0 a b) ++ badR1 a b) ++ badR2 a b).map V.str)) = Hb2
    intro sb2 gb2
    have t2 := (t1.trans sa2).trans sb2
    refine ⟨_, rfl, _, rfl, _, _, rfl, rfl, ?_, _, _, rfl, rfl, ?_, _, rfl, _, _, rfl, rfl, ?_, _, rfl, _, _, rfl, rfl, ?_, _, _, rfl, rfl, ?_, _, rfl, _, _, rfl, rfl, ?_, _, rfl, _, _, rfl, rfl, ?_, _, _, rfl, rfl, ?_, _, rfl, _, _, rfl, rfl, ?_, _, rfl, _, _, rfl, rfl, ?_, (by show 4 ≤ sizeLine; decide), fun q3 hq3 => ?_⟩
    all_goals first
      | (refine Nat.le_trans (?_ : _ ≤ 1000) (by decide); simp only [cat_len, z0, z1, z2, z3, z4, z5, z6, z7, z8, z9, z10, z11, z12, z13, z14, z15, z16, z17, z18, z19, z20, z21, z22, z23, z24, z25, z26, z27, z28, z29, z30, z31, z32, z33, z34, z35]; omega)
      | skip
    rw [show ([V.str (Str.ofString "left " ++ numT a ++ Str.ofString "," ++ numT (a + 1 + b)), V.str (Str.ofString "right " ++ numT a ++ Str.ofString "--" ++ numT (a + 1 + b)), V.str (Str.ofString "left 0" ++ numT a ++ Str.ofString "-" ++ numT (a + 1 + b)), V.str (Str.ofString "both " ++ numT a)] : List V) = (badR3 a b).map V.str from rfl]
    have sa3 : Same Hb2 (upd Hb2 q3 (.lst ((badR3 a b).map V.str))) := same_upd (Same.refl _) hq3
    have ga3 : upd Hb2 q3 (.lst ((badR3 a b).map V.str)) q3 = some (.lst ((badR3 a b).map V.str)) := upd_same
    revert sa3 ga3
    generalize upd Hb2 q3 (.lst ((badR3 a b).map V.str)) = Ha3
    intro sa3 ga3
    refine ⟨r2, q3, _, _, rfl, rfl, sa3 _ _ gb2, ga3, (by show 17 + 4 ≤ sizeLine; decide), fun r3 hr3 => ?_⟩
    rw [← List.map_append]
    have t3 := t2.trans sa3
    exact q _ r3 (same_upd t3 hr3) (t3.free hr3) upd_same
theorem ok_law_bad_dots (T : Txt w K mg t) : FnOk true P w K mg base (CXo P w) 1 t.f_law_bad_dots t.d_law_bad_dots ["_law_a", "_law_b"] (spBadD) := by
  refine T.F_law_bad_dots.okn (k := 0) sc_law_bad_dots (fun vs H Q E h => ?_) (fun cdv A outer s H vs Q E hr h => ?_)
  · obtain ⟨a, b, rfl, _⟩ := h
    rfl
  · obtain ⟨a, b, rfl, h⟩ := h
    refine ⟨_, pss_cons (ps_set (i := 2) sc_law_bad_dots.nd rfl (Or.inl rfl) (pe_callTy call_str_int rfl T.n_str boot_str (pa_cons (pv 0) (pa_nil))))
      (pss_cons (ps_set (i := 3) sc_law_bad_dots.nd rfl (Or.inl rfl) (pe_callTy call_str_int rfl T.n_str boot_str (pa_cons (pv 1) (pa_nil))))
      (pss_cons (ps_set (i := 4) sc_law_bad_dots.nd rfl (Or.inl rfl) (pe_lst (pa_cons (pe_str) (pa_cons (pe_op op_add_str (pe_str) (pv 2)) (pa_cons (pe_op op_add_str (pe_op op_add_str (pe_op op_add_str (pe_op op_add_str (pe_str) (pv 2)) (pe_str)) (pv 3)) (pe_str)) (pa_cons (pe_op op_add_str (pe_op op_add_str (pe_op op_add_str (pe_op op_add_str (pe_str) (pv 2)) (pe_str)) (pv 3)) (pe_str)) (pa_nil)))))))
      (pss_cons (ps_set (i := 4) sc_law_bad_dots.nd rfl (Or.inl rfl) (pe_op op_cat (pv 4) (pe_lst (pa_cons (pe_op op_add_str (pe_op op_add_str (pe_op op_add_str (pe_str) (pv 2)) (pe_str)) (pv 3)) (pa_cons (pe_op op_add_str (pe_op op_add_str (pe_op op_add_str (pe_str) (pv 2)) (pe_str)) (pv 3)) (pa_cons (pe_op op_add_str (pe_op op_add_str (pe_op op_add_str (pe_op op_add_str (pe_str) (pv 2)) (pe_str)) (pv 3)) (pe_str)) (pa_nil)))))))
      (pss_cons (ps_set (i := 4) sc_law_bad_dots.nd rfl (Or.inl rfl) (pe_op op_cat (pv 4) (pe_lst (pa_cons (pe_op op_add_str (pe_op op_add_str (pe_op op_add_str (pe_str) (pv 2)) (pe_str)) (pv 3)) (pa_cons (pe_op op_add_str (pe_str) (pv 3)) (pa_cons (pe_op op_add_str (pe_op op_add_str (pe_op op_add_str (pe_op op_add_str (pe_str) (pv 2)) (pe_str)) (pv 3)) (pe_str)) (pa_cons (pe_str) (pa_nil))))))))
      (pss_cons (ps_set (i := 4) sc_law_bad_dots.nd rfl (Or.inl rfl) (pe_op op_cat (pv 4) (pe_lst (pa_cons (pe_op op_add_str (pe_op op_add_str (pe_op op_add_str (pe_op op_add_str (pe_str) (pv 2)) (pe_str)) (pv 3)) (pe_str)) (pa_cons (pe_op op_add_str (pe_str) (pv 3)) (pa_cons (pe_op op_add_str (pe_op op_add_str (pe_op op_add_str (pe_str) (pv 2)) (pe_str)) (pv 3)) (pa_cons (pe_str) (pa_nil))))))))
      (pss_one (ps_ret (pe_op op_cat (pv 4) (pe_lst (pa_cons (pe_op op_add_str (pe_op op_add_str (pe_op op_add_str (pe_op op_add_str (pe_str) (pv 2)) (pe_str)) (pv 3)) (pe_str)) (pa_cons (pe_op op_add_str (pe_op op_add_str (pe_op op_add_str (pe_op op_add_str (pe_str) (pv 2)) (pe_str)) (pv 3)) (pe_str)) (pa_cons (pe_op op_add_str (pe_str) (pv 2)) (pa_nil))))))))))))), ?_⟩
    obtain ⟨ha, hb, q⟩ := h
    have la := num_len (show a < 100 by omega)
    have lb := num_len (show b < 100 by omega)
    refine ⟨_, rfl, (a : Int), rfl, log_le (by omega), ?_⟩
    refine ⟨_, rfl, (b : Int), rfl, log_le (by omega), ?_⟩
    rw [show Str.ofString (toString (a : Int)) = numT a from rfl, show Str.ofString (toString (b : Int)) = numT b from rfl]
    have z0 : (Str.ofString " ").length = 1 := by decide +kernel
    have z1 : (Str.ofString " +").length = 2 := by decide +kernel
    have z2 : (Str.ofString " 1").length = 2 := by decide +kernel
    have z3 : (Str.ofString " both 1 2 3").length = 11 := by decide +kernel
    have z4 : (Str.ofString " both 1 x").length = 9 := by decide +kernel
    have z5 : (Str.ofString " both x 1").length = 9 := by decide +kernel
    have z6 : (Str.ofString " left ").length = 6 := by decide +kernel
    have z7 : (Str.ofString " left 1").length = 7 := by decide +kernel
    have z8 : (Str.ofString " up 01 1").length = 8 := by decide +kernel
    have z9 : (Str.ofString " x").length = 2 := by decide +kernel
    have z10 : (Str.ofString ",").length = 1 := by decide +kernel
    have z11 : (Str.ofString "-").length = 1 := by decide +kernel
    have z12 : (Str.ofString "--").length = 2 := by decide +kernel
    have z13 : (Str.ofString "Left ").length = 5 := by decide +kernel
    have z14 : (Str.ofString "Point a ").length = 8 := by decide +kernel
    have z15 : (Str.ofString "both ").length = 5 := by decide +kernel
    have z16 : (Str.ofString "left").length = 4 := by decide +kernel
    have z17 : (Str.ofString "left ").length = 5 := by decide +kernel
    have z18 : (Str.ofString "left  ").length = 6 := by decide +kernel
    have z19 : (Str.ofString "left +").length = 6 := by decide +kernel
    have z20 : (Str.ofString "left 0").length = 6 := by decide +kernel
    have z21 : (Str.ofString "left 100").length = 8 := by decide +kernel
    have z22 : (Str.ofString "left x").length = 6 := by decide +kernel
    have z23 : (Str.ofString "lefts ").length = 6 := by decide +kernel
    have z24 : (Str.ofString "point").length = 5 := by decide +kernel
    have z25 : (Str.ofString "point  a ").length = 9 := by decide +kernel
    have z26 : (Str.ofString "point A 1 y").length = 11 := by decide +kernel
    have z27 : (Str.ofString "point A 100 ").length = 12 := by decide +kernel
    have z28 : (Str.ofString "point a ").length = 8 := by decide +kernel
    have z29 : (Str.ofString "point a 0").length = 9 := by decide +kernel
    have z30 : (Str.ofString "point a x ").length = 10 := by decide +kernel
    have z31 : (Str.ofString "points a 1 2").length = 12 := by decide +kernel
    have z32 : (Str.ofString "right ").length = 6 := by decide +kernel
    have z33 : (Str.ofString "right -").length = 7 := by decide +kernel
    have z34 : (Str.ofString "right 17 x").length = 10 := by decide +kernel
    have z35 : (Str.ofString "shut left ").length = 10 := by decide +kernel
    refine ⟨_, rfl, _, _, rfl, rfl, ?_, _, rfl, _, _, rfl, rfl, ?_, _, _, rfl, rfl, ?_, _, rfl, _, _, rfl, rfl, ?_, _, _, rfl, rfl, ?_, _, rfl, _, _, rfl, rfl, ?_, _, _, rfl, rfl, ?_, _, rfl, _, _, rfl, rfl, ?_, _, _, rfl, rfl, ?_, (by show 4 ≤ sizeLine; decide), fun q0 hq0 => ?_⟩
    all_goals first
      | (refine Nat.le_trans (?_ : _ ≤ 1000) (by decide); simp only [cat_len, z0, z1, z2, z3, z4, z5, z6, z7, z8, z9, z10, z11, z12, z13, z14, z15, z16, z17, z18, z19, z20, z21, z22, z23, z24, z25, z26, z27, z28, z29, z30, z31, z32, z33, z34, z35]; omega)
      | skip
    rw [show ([V.str (Str.ofString "point"), V.str (Str.ofString "point a " ++ numT a), V.str (Str.ofString "point a " ++ numT a ++ Str.ofString " " ++ numT b ++ Str.ofString " left 1"), V.str (Str.ofString "point a " ++ numT a ++ Str.ofString " " ++ numT b ++ Str.ofString " both 1 2 3")] : List V) = (badD0 a b).map V.str from rfl]
    have sa0 : Same H (upd H q0 (.lst ((badD0 a b).map V.str))) := same_upd (Same.refl _) hq0
    have ga0 : upd H q0 (.lst ((badD0 a b).map V.str)) q0 = some (.lst ((badD0 a b).map V.str)) := upd_same
    revert sa0 ga0
    generalize upd H q0 (.lst ((badD0 a b).map V.str)) = Ha0
    intro sa0 ga0
    refine ⟨_, rfl, _, rfl, _, _, rfl, rfl, ?_, _, _, rfl, rfl, ?_, _, rfl, _, _, rfl, rfl, ?_, _, rfl, _, _, rfl, rfl, ?_, _, _, rfl, rfl, ?_, _, rfl, _, _, rfl, rfl, ?_, _, rfl, _, _, rfl, rfl, ?_, _, _, rfl, rfl, ?_, _, rfl, _, _, rfl, rfl, ?_, _, _, rfl, rfl, ?_, (by show 3 ≤ sizeLine; decide), fun q1 hq1 => ?_⟩
    all_goals first
      | (refine Nat.le_trans (?_ : _ ≤ 1000) (by decide); simp only [cat_len, z0, z1, z2, z3, z4, z5, z6, z7, z8, z9, z10, z11, z12, z13, z14, z15, z16, z17, z18, z19, z20, z21, z22, z23, z24, z25, z26, z27, z28, z29, z30, z31, z32, z33, z34, z35]; omega)
      | skip
    rw [show ([V.str (Str.ofString "point a 0" ++ numT a ++ Str.ofString " " ++ numT b), V.str (Str.ofString "point a " ++ numT a ++ Str.ofString " +" ++ numT b), V.str (Str.ofString "point a " ++ numT a ++ Str.ofString " " ++ numT b ++ Str.ofString " ")] : List V) = (badD1 a b).map V.str from rfl]
    have sa1 : Same Ha0 (upd Ha0 q1 (.lst ((badD1 a b).map V.str))) := same_upd (Same.refl _) hq1
    have ga1 : upd Ha0 q1 (.lst ((badD1 a b).map V.str)) q1 = some (.lst ((badD1 a b).map V.str)) := upd_same
    revert sa1 ga1
    generalize upd Ha0 q1 (.lst ((badD1 a b).map V.str)) = Ha1
    intro sa1 ga1
    refine ⟨q0, q1, _, _, rfl, rfl, sa1 _ _ ga0, ga1, (by show 4 + 3 ≤ sizeLine; decide), fun r1 hr1 => ?_⟩
    rw [← List.map_append]
    have sb1 : Same Ha1 (upd Ha1 r1 (.lst (((badD0 a b) ++ badD1 a b).map V.str))) := same_upd (Same.refl _) hr1
    have gb1 : upd Ha1 r1 (.lst (((badD0 a b) ++ badD1 a b).map V.str)) r1 = some (.lst (((badD0 a b) ++ badD1 a b).map V.str)) := upd_same
    revert sb1 gb1
    generalize upd Ha1 r1 (.lst (((badD0 a b) ++ badD1 a b).map V.str)) = Hb1
    intro sb1 gb1
    have t1 := (sa0.trans sa1).trans sb1
    refine ⟨_, rfl, _, rfl, _, _, rfl, rfl, ?_, _, _, rfl, rfl, ?_, _, rfl, _, _, rfl, rfl, ?_, _, rfl, _, _, rfl, rfl, ?_, _, rfl, _, _, rfl, rfl, ?_, _, _, rfl, rfl, ?_, _, rfl, _, _, rfl, rfl, ?_, _, _, rfl, rfl, ?_, (by show 4 ≤ sizeLine; decide), fun q2 hq2 => ?_⟩
    all_goals first
      | (refine Nat.le_trans (?_ : _ ≤ 1000) (by decide); simp only [cat_len, z0, z1, z2, z3, z4, z5, z6, z7, z8, z9, z10, z11, z12, z13, z14, z15, z16, z17, z18, z19, z20, z21, z22, z23, z24, z25, z26, z27, z28, z29, z30, z31, z32, z33, z34, z35]; omega)
      | skip
    rw [show ([V.str (Str.ofString "point  a " ++ numT a ++ Str.ofString " " ++ numT b), V.str (Str.ofString "point a x " ++ numT b), V.str (Str.ofString "point a " ++ numT a ++ Str.ofString " " ++ numT b ++ Str.ofString " both 1 x"), V.str (Str.ofString "points a 1 2")] : List V) = (badD2 a b).map V.str from rfl]
    have sa2 : Same Hb1 (upd Hb1 q2 (.lst ((badD2 a b).map V.str))) := same_upd (Same.refl _) hq2
    have ga2 : upd Hb1 q2 (.lst ((badD2 a b).map V.str)) q2 = some (.lst ((badD2 a b).map V.str)) := upd_same
    revert sa2 ga2
    generalize upd Hb1 q2 (.lst ((badD2 a b).map V.str)) = Ha2
    intro sa2 ga2
    refine ⟨r1, q2, _, _, rfl, rfl, sa2 _ _ gb1, ga2, (by show 7 + 4 ≤ sizeLine; decide), fun r2 hr2 => ?_⟩
    rw [← List.map_append]
    have sb2 : Same Ha2 (upd Ha2 r2 (.lst ((((badD0 a b) ++ badD1 a b) ++ badD2 a b).map V.str))) := same_upd (Same.refl _) hr2
    have gb2 : upd Ha2 r2 (.lst ((((badD0 a b) ++ badD1 a b) ++ badD2 a b).map V.str)) r2 = some (.lst ((((badD0 a b) ++ badD1 a b) ++ badD2 a b).map V.str)) := upd_same
    revert sb2 gb2
    generalize upd Ha2 r2 (.lst ((((badD0 a b) ++ badD1 a b) ++ badD2 a b).map V.str)) = Hb2
    intro sb2 gb2
    have t2 := (t1.trans sa2).trans sb2
    refine ⟨_, rfl, _, rfl, _, _, rfl, rfl, ?_, _, _, rfl, rfl, ?_, _, rfl, _, _, rfl, rfl, ?_, _, _, rfl, rfl, ?_, _, rfl, _, _, rfl, rfl, ?_, _, rfl, _, _, rfl, rfl, ?_, _, _, rfl, rfl, ?_, _, rfl, _, _, rfl, rfl, ?_, (by show 4 ≤ sizeLine; decide), fun q3 hq3 => ?_⟩
    all_goals first
      | (refine Nat.le_trans (?_ : _ ≤ 1000) (by decide); simp only [cat_len, z0, z1, z2, z3, z4, z5, z6, z7, z8, z9, z10, z11, z12, z13, z14, z15, z16, z17, z18, z19, z20, z21, z22, z23, z24, z25, z26, z27, z28, z29, z30, z31, z32, z33, z34, z35]; omega)
      | skip
    rw [show ([V.str (Str.ofString "point a " ++ numT a ++ Str.ofString " " ++ numT b ++ Str.ofString " both x 1"), V.str (Str.ofString "point A 100 " ++ numT b), V.str (Str.ofString "Point a " ++ numT a ++ Str.ofString " " ++ numT b), V.str (Str.ofString "point A 1 y")] : List V) = (badD3 a b).map V.str from rfl]
    have sa3 : Same Hb2 (upd Hb2 q3 (.lst ((badD3 a b).map V.str))) := same_upd (Same.refl _) hq3
    have ga3 : upd Hb2 q3 (.lst ((badD3 a b).map V.str)) q3 = some (.lst ((badD3 a b).map V.str)) := upd_same
    revert sa3 ga3
    generalize upd Hb2 q3 (.lst ((badD3 a b).map V.str)) = Ha3
    intro sa3 ga3
    refine ⟨r2, q3, _, _, rfl, rfl, sa3 _ _ gb2, ga3, (by show 11 + 4 ≤ sizeLine; decide), fun r3 hr3 => ?_⟩
    rw [← List.map_append]
    have sb3 : Same Ha3 (upd Ha3 r3 (.lst (((((badD0 a b) ++ badD1 a b) ++ badD2 a b) ++ badD3 a b).map V.str))) := same_upd (Same.refl _) hr3
    have gb3 : upd Ha3 r3 (.lst (((((badD0 a b) ++ badD1 a b) ++ badD2 a b) ++ badD3 a b).map V.str)) r3 = some (.lst (((((badD0 a b) ++ badD1 a b) ++ badD2 a b) ++ badD3 a b).map V.str)) := upd_same
    revert sb3 gb3
    generalize upd Ha3 r3 (.lst (((((badD0 a b) ++ badD1 a b) ++ badD2 a b) ++ badD3 a b).map V.str)) = Hb3
    intro sb3 gb3
    have t3 := (t2.trans sa3).trans sb3
    refine ⟨_, rfl, _, rfl, _, _, rfl, rfl, ?_, _, _, rfl, rfl, ?_, _, rfl, _, _, rfl, rfl, ?_, _, _, rfl, rfl, ?_, _, rfl, _, _, rfl, rfl, ?_, _, _, rfl, rfl, ?_, _, rfl, _, _, rfl, rfl, ?_, _, _, rfl, rfl, ?_, _, rfl, _, _, rfl, rfl, ?_, (by show 3 ≤ sizeLine; decide), fun q4 hq4 => ?_⟩
    all_goals first
      | (refine Nat.le_trans (?_ : _ ≤ 1000) (by decide); simp only [cat_len, z0, z1, z2, z3, z4, z5, z6, z7, z8, z9, z10, z11, z12, z13, z14, z15, z16, z17, z18, z19, z20, z21, z22, z23, z24, z25, z26, z27, z28, z29, z30, z31, z32, z33, z34, z35]; omega)
      | skip
    rw [show ([V.str (Str.ofString "point a " ++ numT a ++ Str.ofString " " ++ numT b ++ Str.ofString " up 01 1"), V.str (Str.ofString "point a " ++ numT a ++ Str.ofString "-" ++ numT b ++ Str.ofString " 1"), V.str (Str.ofString "shut left " ++ numT a)] : List V) = (badD4 a b).map V.str from rfl]
    have sa4 : Same Hb3 (upd Hb3 q4 (.lst ((badD4 a b).map V.str))) := same_upd (Same.refl _) hq4
    have ga4 : upd Hb3 q4 (.lst ((badD4 a b).map V.str)) q4 = some (.lst ((badD4 a b).map V.str)) := upd_same
    revert sa4 ga4
    generalize upd Hb3 q4 (.lst ((badD4 a b).map V.str)) = Ha4
    intro sa4 ga4
    refine ⟨r3, q4, _, _, rfl, rfl, sa4 _ _ gb3, ga4, (by show 15 + 3 ≤ sizeLine; decide), fun r4 hr4 => ?_⟩
    rw [← List.map_append]
    have t4 := t3.trans sa4
    exact q _ r4 (same_upd t4 hr4) (t4.free hr4) upd_same
end
end S23
set_option maxRecDepth 100000
set_option maxHeartbeats 4000000
namespace S23
open PySem L2 XL PyProof.Rows
def spBad : Sp := fun vs H Q _ => ∃ c : Int, vs = [.int c] ∧ ∀ s H', badOk s = true → Same H H' → Q (.str s) H'
def frmNo (s : Str) : Prop := ascB s = true ∧ frmL (wordsL s.cps.toList) = none
def spBadF : Sp := fun vs H Q _ => ∃ c : Int, vs = [.int c] ∧ ∀ s H', frmNo s → Same H H' → Q (.str s) H'
def spThing : Sp := fun vs H Q _ => ∃ c : Int, vs = [.int c] ∧ ∀ v H', NoTxt H' v → Same H H' → Q v H'
def spNoL : Sp := fun vs H Q _ => ∃ c : Int, vs = [.int c] ∧ ∀ v H', NoL H' v → Same H H' → Q v H'
theorem mod_nat (c : Int) (d : Nat) (h : 0 < d) : ∃ j : Nat, c % (d : Int) = (j : Int) ∧ j < d := by
  have b := mod_in c (show (0 : Int) < d by omega)
  obtain ⟨j, e⟩ := Int.eq_ofNat_of_zero_le b.1
  exact ⟨j, e, by omega⟩
theorem bad_at {a b j : Nat} (ha : a < 9) (hb : b < 9) (hj : j < 45) : ∃ s, (badAll (1 + a) b)[j]? = some s ∧ badOk s = true := by
  have l : j < (badAll (1 + a) b).length := by rw [bad_len]; exact hj
  exact ⟨_, List.getElem?_eq_getElem l, List.all_eq_true.mp (bad_all a ha b hb) _ (List.getElem_mem l)⟩
theorem badF_at {j : Nat} (hj : j < 16) : ∃ s, (badF0 ++ badF1)[j]? = some s ∧ frmNo s := by
  have l : j < (badF0 ++ badF1).length := hj
  have z := List.all_eq_true.mp bad_first _ (List.getElem_mem l)
  rw [Bool.and_eq_true] at z
  refine ⟨_, List.getElem?_eq_getElem l, z.1, ?_⟩
  have z2 := z.2
  revert z2
  generalize frmL (wordsL (badF0 ++ badF1)[j].cps.toList) = y
  intro z2
  cases y with
  | none => rfl
  | some _ => cases z2
section
variable {P : Program} {w : World} {K : PySem.W.Frag} {mg : Str → Option Value} {base : Heap} {t : Adr}
theorem ok_law_bad (T : Txt w K mg t) : FnOk true P w K mg base (CXo P w) 2 t.f_law_bad t.d_law_bad ["_law_cell_here"] (spBad) := by
  refine T.F_law_bad.okn (k := 1) sc_law_bad (fun vs H Q E h => ?_) (fun cdv A outer s H vs Q E hr h => ?_)
  · obtain ⟨c, rfl, _⟩ := h
    rfl
  · obtain ⟨c, rfl, h⟩ := h
    refine ⟨_, pss_cons (ps_set (i := 1) sc_law_bad.nd rfl (Or.inl rfl) (pe_op op_add (pe_int) (pe_op op_mod (pe_op op_fdiv (pv 0) (pe_int)) (pe_int))))
      (pss_cons (ps_set (i := 2) sc_law_bad.nd rfl (Or.inl rfl) (pe_op op_mod (pe_op op_fdiv (pv 0) (pe_int)) (pe_int)))
      (pss_cons (ps_set (i := 3) sc_law_bad.nd rfl (Or.inl rfl) (pe_op op_cat (pe_call (ok_law_bad_rims T) (hr.mono (by decide)) rfl T.g_law_bad_rims T.F_law_bad_rims.kp T.b_law_bad_rims .nil pass_none (pa_cons (pv 1) (pa_cons (pv 2) (pa_nil)))) (pe_call (ok_law_bad_dots T) (hr.mono (by decide)) rfl T.g_law_bad_dots T.F_law_bad_dots.kp T.b_law_bad_dots .nil pass_none (pa_cons (pv 1) (pa_cons (pv 2) (pa_nil))))))
      (pss_cons ((by (with_reducible refine' ps_set (i := 3) ?n45 ?i46 ?x47 ?e48 ?s49 ?f50); (case n45 => exact sc_law_bad.nd); (case i46 => rfl); (case x47 => exact Or.inl rfl); (case f50 => exact Or.inl rfl); (case e48 => ((with_reducible refine' pe_op ?o51 ?l52 ?r53); (case o51 => exact op_cat); (case l52 => ((exact pv 3))); (case r53 => ((with_reducible refine' pe_lst ?p54); (case p54 => ((with_reducible refine' pa_cons ?e55 ?q56 rfl); (case e55 => exact pe_str); (case q56 => ((with_reducible refine' pa_cons ?e57 ?q58 rfl); (case e57 => exact pe_str); (case q58 => ((with_reducible refine' pa_cons ?e59 ?q60 rfl); (case e59 => exact pe_str); (case q60 => ((with_reducible refine' pa_cons ?e61 ?q62 rfl); (case e61 => exact pe_str); (case q62 => ((with_reducible refine' pa_cons ?e63 ?q64 rfl); (case e63 => exact pe_str); (case q64 => ((with_reducible refine' pa_cons ?e65 ?q66 rfl); (case e65 => exact pe_str); (case q66 => ((exact pa_nil))))))))))))))))))); (case s49 => rfl)))
      (pss_one (ps_ret (pe_ix ix_list (pv 3) (pe_op op_mod (pv 0) (pe_callB call_len_seq rfl T.n_len boot_len (pa_cons (pv 3) (pa_nil)))) (fun _ _ => rfl))))))), ?_⟩
    refine ⟨_, rfl, _, _, rfl, rfl, ⟨by decide, by decide⟩, _, _, rfl, rfl, (by show (0 : Int) < 9; decide), _, _, rfl, rfl, ?_⟩
    refine ⟨_, rfl, _, _, rfl, rfl, ⟨by decide, by decide⟩, _, _, rfl, rfl, (by show (0 : Int) < 9; decide), ?_⟩
    obtain ⟨a, ea, a9⟩ := mod_nat (c / 45) 9 (by decide)
    obtain ⟨b, eb, b9⟩ := mod_nat (c / 405) 9 (by decide)
    have ea : c / 45 % 9 = (a : Int) := ea
    have eb : c / 405 % 9 = (b : Int) := eb
    simp only [ea, eb]
    have e1 : (1 : Int) + (a : Int) = ((1 + a : Nat) : Int) := by omega
    simp only [e1]
    refine ⟨_, rfl, _, rfl, 1 + a, b, rfl, by omega, by omega, fun H1 l1 s1 f1 g1 => ?_⟩
    refine ⟨_, rfl, _, rfl, 1 + a, b, rfl, by omega, by omega, fun H2 l2 s2 f2 g2 => ?_⟩
    refine ⟨l1, l2, _, _, rfl, rfl, s2 _ _ g1, g2, (by show 21 + 18 ≤ sizeLine; decide), fun l3 hl3 => ?_⟩
    rw [← List.map_append]
    have s3 : Same H2 (upd H2 l3 (.lst ((badR (1 + a) b ++ badD (1 + a) b).map V.str))) := same_upd (Same.refl _) hl3
    have g3 : upd H2 l3 (.lst ((badR (1 + a) b ++ badD (1 + a) b).map V.str)) l3 = some (.lst ((badR (1 + a) b ++ badD (1 + a) b).map V.str)) := upd_same
    revert s3 g3
    generalize upd H2 l3 (.lst ((badR (1 + a) b ++ badD (1 + a) b).map V.str)) = H3
    intro s3 g3
    refine ⟨_, rfl, (by show 6 ≤ sizeLine; decide), fun l4 hl4 => ?_⟩
    rw [show ([V.str (Str.ofString "frame 3 3"), V.str (Str.ofString "frame"), V.str (Str.ofString ""), V.str (Str.ofString " "), V.str (Str.ofString "take a"), V.str (Str.ofString "-")] : List V) = badX.map V.str from rfl]
    have s4 : Same H3 (upd H3 l4 (.lst (badX.map V.str))) := same_upd (Same.refl _) hl4
    have g4 : upd H3 l4 (.lst (badX.map V.str)) l4 = some (.lst (badX.map V.str)) := upd_same
    revert s4 g4
    generalize upd H3 l4 (.lst (badX.map V.str)) = H4
    intro s4 g4
    refine ⟨l3, l4, _, _, rfl, rfl, s4 _ _ g3, g4, (by show 39 + 6 ≤ sizeLine; decide), fun l5 hl5 => ?_⟩
    rw [← List.map_append, show badR (1 + a) b ++ badD (1 + a) b ++ badX = badAll (1 + a) b from rfl]
    have s5 : Same H4 (upd H4 l5 (.lst ((badAll (1 + a) b).map V.str))) := same_upd (Same.refl _) hl5
    have g5 : upd H4 l5 (.lst ((badAll (1 + a) b).map V.str)) l5 = some (.lst ((badAll (1 + a) b).map V.str)) := upd_same
    revert s5 g5
    generalize upd H4 l5 (.lst ((badAll (1 + a) b).map V.str)) = H5
    intro s5 g5
    obtain ⟨j, ej, j45⟩ := mod_nat c 45 (by decide)
    obtain ⟨x, ex, ox⟩ := bad_at a9 b9 j45
    have e45 : ((badAll (1 + a) b).map V.str).length = 45 := by rw [List.length_map, bad_len]
    refine ⟨_, rfl, _, rfl, _, rfl, l5, _, rfl, .inl (SqL.of g5), _, _, rfl, rfl, (by show (0 : Int) < _; rw [e45]; decide), l5, _, _, .str x, rfl, rfl, SqL.of g5, ?_, h x _ ox (((s1.trans s2).trans (s3.trans s4)).trans s5)⟩
    rw [e45, show c % ((45 : Nat) : Int) = (j : Int) from ej]
    exact atI_nat (by rw [List.getElem?_map, ex]; rfl)
theorem ok_law_bad_first (T : Txt w K mg t) : FnOk true P w K mg base (CXo P w) 1 t.f_law_bad_first t.d_law_bad_first ["_law_cell_here"] (spBadF) := by
  refine T.F_law_bad_first.okn (k := 0) sc_law_bad_first (fun vs H Q E h => ?_) (fun cdv A outer s H vs Q E hr h => ?_)
  · obtain ⟨c, rfl, _⟩ := h
    rfl
  · obtain ⟨c, rfl, h⟩ := h
    refine ⟨_, pss_cons ((by (with_reducible refine' ps_set (i := 1) ?n91 ?i92 ?x93 ?e94 ?s95 ?f96); (case n91 => exact sc_law_bad_first.nd); (case i92 => rfl); (case x93 => exact Or.inl rfl); (case f96 => exact Or.inl rfl); (case e94 => ((with_reducible refine' pe_lst ?p97); (case p97 => ((with_reducible refine' pa_cons ?e98 ?q99 rfl); (case e98 => exact pe_str); (case q99 => ((with_reducible refine' pa_cons ?e100 ?q101 rfl); (case e100 => exact pe_str); (case q101 => ((with_reducible refine' pa_cons ?e102 ?q103 rfl); (case e102 => exact pe_str); (case q103 => ((with_reducible refine' pa_cons ?e104 ?q105 rfl); (case e104 => exact pe_str); (case q105 => ((with_reducible refine' pa_cons ?e106 ?q107 rfl); (case e106 => exact pe_str); (case q107 => ((with_reducible refine' pa_cons ?e108 ?q109 rfl); (case e108 => exact pe_str); (case q109 => ((with_reducible refine' pa_cons ?e110 ?q111 rfl); (case e110 => exact pe_str); (case q111 => ((with_reducible refine' pa_cons ?e112 ?q113 rfl); (case e112 => exact pe_str); (case q113 => ((with_reducible refine' pa_cons ?e114 ?q115 rfl); (case e114 => exact pe_str); (case q115 => ((exact pa_nil))))))))))))))))))))))); (case s95 => rfl)))
      (pss_cons ((by (with_reducible refine' ps_set (i := 1) ?n67 ?i68 ?x69 ?e70 ?s71 ?f72); (case n67 => exact sc_law_bad_first.nd); (case i68 => rfl); (case x69 => exact Or.inl rfl); (case f72 => exact Or.inl rfl); (case e70 => ((with_reducible refine' pe_op ?o73 ?l74 ?r75); (case o73 => exact op_cat); (case l74 => ((exact pv 1))); (case r75 => ((with_reducible refine' pe_lst ?p76); (case p76 => ((with_reducible refine' pa_cons ?e77 ?q78 rfl); (case e77 => exact pe_str); (case q78 => ((with_reducible refine' pa_cons ?e79 ?q80 rfl); (case e79 => exact pe_str); (case q80 => ((with_reducible refine' pa_cons ?e81 ?q82 rfl); (case e81 => exact pe_str); (case q82 => ((with_reducible refine' pa_cons ?e83 ?q84 rfl); (case e83 => exact pe_str); (case q84 => ((with_reducible refine' pa_cons ?e85 ?q86 rfl); (case e85 => exact pe_str); (case q86 => ((with_reducible refine' pa_cons ?e87 ?q88 rfl); (case e87 => exact pe_str); (case q88 => ((with_reducible refine' pa_cons ?e89 ?q90 rfl); (case e89 => exact pe_str); (case q90 => ((exact pa_nil))))))))))))))))))))); (case s71 => rfl)))
      (pss_one (ps_ret (pe_ix ix_list (pv 1) (pe_op op_mod (pv 0) (pe_int)) (fun _ _ => rfl))))), ?_⟩
    refine ⟨(by show 9 ≤ sizeLine; decide), fun l1 hl1 => ?_⟩
    rw [show ([V.str (Str.ofString "frame"), V.str (Str.ofString "frame 9"), V.str (Str.ofString "frame 9 9 9"), V.str (Str.ofString "frame 09 9"), V.str (Str.ofString "left 1"), V.str (Str.ofString "point a 1 1"), V.str (Str.ofString "Frame 9 9"), V.str (Str.ofString "frame 9  9"), V.str (Str.ofString "")] : List V) = badF0.map V.str from rfl] at *
    have s1 : Same H (upd H l1 (.lst (badF0.map V.str))) := same_upd (Same.refl _) hl1
    have g1 : upd H l1 (.lst (badF0.map V.str)) l1 = some (.lst (badF0.map V.str)) := upd_same
    revert s1 g1
    generalize upd H l1 (.lst (badF0.map V.str)) = H1
    intro s1 g1
    refine ⟨_, rfl, (by show 7 ≤ sizeLine; decide), fun l2 hl2 => ?_⟩
    rw [show ([V.str (Str.ofString "frame 100 9"), V.str (Str.ofString "frame 9 x"), V.str (Str.ofString " frame 9 9"), V.str (Str.ofString "frame 9 9 "), V.str (Str.ofString "frames 9 9"), V.str (Str.ofString "frame 0 x"), V.str (Str.ofString "frame 99 09")] : List V) = badF1.map V.str from rfl] at *
    have s2 : Same H1 (upd H1 l2 (.lst (badF1.map V.str))) := same_upd (Same.refl _) hl2
    have g2 : upd H1 l2 (.lst (badF1.map V.str)) l2 = some (.lst (badF1.map V.str)) := upd_same
    revert s2 g2
    generalize upd H1 l2 (.lst (badF1.map V.str)) = H2
    intro s2 g2
    refine ⟨l1, l2, _, _, rfl, rfl, s2 _ _ g1, g2, (by show 9 + 7 ≤ sizeLine; decide), fun l3 hl3 => ?_⟩
    rw [← List.map_append]
    have s3 : Same H2 (upd H2 l3 (.lst ((badF0 ++ badF1).map V.str))) := same_upd (Same.refl _) hl3
    have g3 : upd H2 l3 (.lst ((badF0 ++ badF1).map V.str)) l3 = some (.lst ((badF0 ++ badF1).map V.str)) := upd_same
    revert s3 g3
    generalize upd H2 l3 (.lst ((badF0 ++ badF1).map V.str)) = H3
    intro s3 g3
    obtain ⟨j, ej, j16⟩ := mod_nat c 16 (by decide)
    obtain ⟨x, ex, ox⟩ := badF_at j16
    refine ⟨_, rfl, _, rfl, _, _, rfl, rfl, (by show (0 : Int) < 16; decide), l3, _, c % 16, .str x, rfl, rfl, SqL.of g3, ?_, h x _ ox ((s1.trans s2).trans s3)⟩
    rw [show c % 16 = (j : Int) from ej]
    exact atI_nat (by rw [List.getElem?_map, ex]; rfl)
theorem ok_law_thing (T : Txt w K mg t) : FnOk true P w K mg base (CXo P w) 1 t.f_law_thing t.d_law_thing ["_law_cell_here"] (spThing) := by
  refine T.F_law_thing.okn (k := 0) sc_law_thing (fun vs H Q E h => ?_) (fun cdv A outer s H vs Q E hr h => ?_)
  · obtain ⟨c, rfl, _⟩ := h
    rfl
  · obtain ⟨c, rfl, h⟩ := h
    refine' ⟨_, ?taa, ?tbb⟩
    case taa => (refine' pss_one ?tcc; case tcc => (with_reducible refine' ps_ret ?e116); (case e116 => ((with_reducible refine' pe_ix (r := rIxL K) ?r117 ?l118 ?j119 ?p120); (case r117 => exact ix_list); (case p120 => exact fun _ _ => rfl); (case j119 => exact pe_op op_mod (pv 0) (pe_int)); (case l118 => ((with_reducible refine' pe_lst ?p121); (case p121 => ((with_reducible refine' pa_cons ?e122 ?q123 rfl); (case e122 => exact pe_non); (case q123 => ((with_reducible refine' pa_cons ?e124 ?q125 rfl); (case e124 => exact pe_int); (case q125 => ((with_reducible refine' pa_cons ?e126 ?q127 rfl); (case e126 => exact pe_bl); (case q127 => ((with_reducible refine' pa_cons ?e128 ?q129 rfl); (case e128 => exact pe_lst (pa_cons (pe_str) (pa_cons (pe_str) (pa_nil)))); (case q129 => ((with_reducible refine' pa_cons ?e130 ?q131 rfl); (case e130 => exact pe_tup (pa_cons (pe_str) (pa_nil))); (case q131 => ((with_reducible refine' pa_cons ?e132 ?q133 rfl); (case e132 => exact pe_dnewK); (case q133 => ((with_reducible refine' pa_cons ?e134 ?q135 rfl); (case e134 => exact pe_lst (pa_nil)); (case q135 => ((with_reducible refine' pa_cons ?e136 ?q137 rfl); (case e136 => exact pe_tup (pa_nil)); (case q137 => ((with_reducible refine' pa_cons ?e138 ?q139 rfl); (case e138 => exact pe_int); (case q139 => ((exact pa_nil))))))))))))))))))))))))))
    refine ⟨(by show 2 ≤ sizeLine; decide), fun l1 hl1 => ?_⟩
    have s1 : Same H (upd H l1 (.lst [V.str (Str.ofString "left"), V.str (Str.ofString "1")])) := same_upd (Same.refl _) hl1
    have g1 : upd H l1 (.lst [V.str (Str.ofString "left"), V.str (Str.ofString "1")]) l1 = some (.lst [V.str (Str.ofString "left"), V.str (Str.ofString "1")]) := upd_same
    revert s1 g1
    generalize upd H l1 (.lst [V.str (Str.ofString "left"), V.str (Str.ofString "1")]) = H1
    intro s1 g1
    refine ⟨(by show 1 ≤ sizeLine; decide), fun l2 hl2 => ?_⟩
    have s2 : Same H1 (upd H1 l2 (.tup [V.str (Str.ofString "left 1")])) := same_upd (Same.refl _) hl2
    have g2 : upd H1 l2 (.tup [V.str (Str.ofString "left 1")]) l2 = some (.tup [V.str (Str.ofString "left 1")]) := upd_same
    revert s2 g2
    generalize upd H1 l2 (.tup [V.str (Str.ofString "left 1")]) = H2
    intro s2 g2
    refine fun l3 hl3 => ?_
    have s3 : Same H2 (upd H2 l3 (.dK [])) := same_upd (Same.refl _) hl3
    have g3 : upd H2 l3 (.dK []) l3 = some (.dK []) := upd_same
    revert s3 g3
    generalize upd H2 l3 (.dK []) = H3
    intro s3 g3
    refine ⟨(by show 0 ≤ sizeLine; decide), fun l4 hl4 => ?_⟩
    have s4 : Same H3 (upd H3 l4 (.lst [])) := same_upd (Same.refl _) hl4
    have g4 : upd H3 l4 (.lst []) l4 = some (.lst []) := upd_same
    revert s4 g4
    generalize upd H3 l4 (.lst []) = H4
    intro s4 g4
    refine ⟨(by show 0 ≤ sizeLine; decide), fun l5 hl5 => ?_⟩
    have s5 : Same H4 (upd H4 l5 (.tup [])) := same_upd (Same.refl _) hl5
    have g5 : upd H4 l5 (.tup []) l5 = some (.tup []) := upd_same
    revert s5 g5
    generalize upd H4 l5 (.tup []) = H5
    intro s5 g5
    refine ⟨(by show 9 ≤ sizeLine; decide), fun l6 hl6 => ?_⟩
    have s6 : Same H5 (upd H5 l6 (.lst [.non, .int 5, .bl true, .ref l1, .ref l2, .ref l3, .ref l4, .ref l5, .int 0])) := same_upd (Same.refl _) hl6
    have g6 : upd H5 l6 (.lst [.non, .int 5, .bl true, .ref l1, .ref l2, .ref l3, .ref l4, .ref l5, .int 0]) l6 = some (.lst [.non, .int 5, .bl true, .ref l1, .ref l2, .ref l3, .ref l4, .ref l5, .int 0]) := upd_same
    revert s6 g6
    generalize upd H5 l6 (.lst [.non, .int 5, .bl true, .ref l1, .ref l2, .ref l3, .ref l4, .ref l5, .int 0]) = H6
    intro s6 g6
    obtain ⟨j, ej, j9⟩ := mod_nat c 9 (by decide)
    have all : ∀ v ∈ ([.non, .int 5, .bl true, .ref l1, .ref l2, .ref l3, .ref l4, .ref l5, .int 0] : List V), NoTxt H6 v := by
      intro v hv
      simp only [List.mem_cons, List.not_mem_nil, or_false] at hv
      rcases hv with rfl | rfl | rfl | rfl | rfl | rfl | rfl | rfl | rfl
      · exact .inl rfl
      · exact .inr (.inl ⟨_, rfl⟩)
      · exact .inr (.inr (.inl ⟨_, rfl⟩))
      · exact .inr (.inr (.inr ⟨_, rfl, .inl ⟨_, s6 _ _ (s5 _ _ (s4 _ _ (s3 _ _ (s2 _ _ g1))))⟩⟩))
      · exact .inr (.inr (.inr ⟨_, rfl, .inr (.inl ⟨_, s6 _ _ (s5 _ _ (s4 _ _ (s3 _ _ g2)))⟩)⟩))
      · exact .inr (.inr (.inr ⟨_, rfl, .inr (.inr ⟨_, s6 _ _ (s5 _ _ (s4 _ _ g3))⟩)⟩))
      · exact .inr (.inr (.inr ⟨_, rfl, .inl ⟨_, s6 _ _ (s5 _ _ g4)⟩⟩))
      · exact .inr (.inr (.inr ⟨_, rfl, .inr (.inl ⟨_, s6 _ _ g5⟩)⟩))
      · exact .inr (.inl ⟨_, rfl⟩)
    obtain ⟨v, ev⟩ : ∃ v, ([.non, .int 5, .bl true, .ref l1, .ref l2, .ref l3, .ref l4, .ref l5, .int 0] : List V)[j]? = some v := ⟨_, List.getElem?_eq_getElem (show j < 9 from j9)⟩
    refine ⟨_, rfl, _, _, rfl, rfl, (by show (0 : Int) < 9; decide), l6, _, c % 9, v, rfl, rfl, SqL.of g6, ?_, h v _ (all v (List.mem_of_getElem? ev)) (((s1.trans s2).trans (s3.trans s4)).trans (s5.trans s6))⟩
    rw [show c % 9 = (j : Int) from ej]
    exact atI_nat ev
theorem ok_law_no_list (T : Txt w K mg t) : FnOk true P w K mg base (CXo P w) 1 t.f_law_no_list t.d_law_no_list ["_law_cell_here"] (spNoL) := by
  refine T.F_law_no_list.okn (k := 0) sc_law_no_list (fun vs H Q E h => ?_) (fun cdv A outer s H vs Q E hr h => ?_)
  · obtain ⟨c, rfl, _⟩ := h
    rfl
  · obtain ⟨c, rfl, h⟩ := h
    refine' ⟨_, ?taa, ?tbb⟩
    case taa => (refine' pss_one ?tcc; case tcc => (with_reducible refine' ps_ret ?e140); (case e140 => ((with_reducible refine' pe_ix (r := rIxL K) ?r141 ?l142 ?j143 ?p144); (case r141 => exact ix_list); (case p144 => exact fun _ _ => rfl); (case j143 => exact pe_op op_mod (pv 0) (pe_int)); (case l142 => ((with_reducible refine' pe_lst ?p145); (case p145 => ((with_reducible refine' pa_cons ?e146 ?q147 rfl); (case e146 => exact pe_non); (case q147 => ((with_reducible refine' pa_cons ?e148 ?q149 rfl); (case e148 => exact pe_str); (case q149 => ((with_reducible refine' pa_cons ?e150 ?q151 rfl); (case e150 => exact pe_tup (pa_cons (pe_str) (pa_nil))); (case q151 => ((with_reducible refine' pa_cons ?e152 ?q153 rfl); (case e152 => exact pe_dnewK); (case q153 => ((with_reducible refine' pa_cons ?e154 ?q155 rfl); (case e154 => exact pe_lst (pa_nil)); (case q155 => ((with_reducible refine' pa_cons ?e156 ?q157 rfl); (case e156 => exact pe_int); (case q157 => ((with_reducible refine' pa_cons ?e158 ?q159 rfl); (case e158 => exact pe_bl); (case q159 => ((with_reducible refine' pa_cons ?e160 ?q161 rfl); (case e160 => exact pe_tup (pa_nil)); (case q161 => ((exact pa_nil))))))))))))))))))))))))
    refine ⟨(by show 1 ≤ sizeLine; decide), fun l1 hl1 => ?_⟩
    have s1 : Same H (upd H l1 (.tup [V.str (Str.ofString "frame 3 3")])) := same_upd (Same.refl _) hl1
    have g1 : upd H l1 (.tup [V.str (Str.ofString "frame 3 3")]) l1 = some (.tup [V.str (Str.ofString "frame 3 3")]) := upd_same
    revert s1 g1
    generalize upd H l1 (.tup [V.str (Str.ofString "frame 3 3")]) = H1
    intro s1 g1
    refine fun l3 hl3 => ?_
    have s3 : Same H1 (upd H1 l3 (.dK [])) := same_upd (Same.refl _) hl3
    have g3 : upd H1 l3 (.dK []) l3 = some (.dK []) := upd_same
    revert s3 g3
    generalize upd H1 l3 (.dK []) = H3
    intro s3 g3
    refine ⟨(by show 0 ≤ sizeLine; decide), fun l4 hl4 => ?_⟩
    have s4 : Same H3 (upd H3 l4 (.lst [])) := same_upd (Same.refl _) hl4
    have g4 : upd H3 l4 (.lst []) l4 = some (.lst []) := upd_same
    revert s4 g4
    generalize upd H3 l4 (.lst []) = H4
    intro s4 g4
    refine ⟨(by show 0 ≤ sizeLine; decide), fun l5 hl5 => ?_⟩
    have s5 : Same H4 (upd H4 l5 (.tup [])) := same_upd (Same.refl _) hl5
    have g5 : upd H4 l5 (.tup []) l5 = some (.tup []) := upd_same
    revert s5 g5
    generalize upd H4 l5 (.tup []) = H5
    intro s5 g5
    refine ⟨(by show 8 ≤ sizeLine; decide), fun l6 hl6 => ?_⟩
    have s6 : Same H5 (upd H5 l6 (.lst [.non, .str (Str.ofString "frame 3 3"), .ref l1, .ref l3, .ref l4, .int 7, .bl true, .ref l5])) := same_upd (Same.refl _) hl6
    have g6 : upd H5 l6 (.lst [.non, .str (Str.ofString "frame 3 3"), .ref l1, .ref l3, .ref l4, .int 7, .bl true, .ref l5]) l6 = some (.lst [.non, .str (Str.ofString "frame 3 3"), .ref l1, .ref l3, .ref l4, .int 7, .bl true, .ref l5]) := upd_same
    revert s6 g6
    generalize upd H5 l6 (.lst [.non, .str (Str.ofString "frame 3 3"), .ref l1, .ref l3, .ref l4, .int 7, .bl true, .ref l5]) = H6
    intro s6 g6
    obtain ⟨j, ej, j8⟩ := mod_nat c 8 (by decide)
    have all : ∀ v ∈ ([.non, .str (Str.ofString "frame 3 3"), .ref l1, .ref l3, .ref l4, .int 7, .bl true, .ref l5] : List V), NoL H6 v := by
      intro v hv
      simp only [List.mem_cons, List.not_mem_nil, or_false] at hv
      rcases hv with rfl | rfl | rfl | rfl | rfl | rfl | rfl | rfl
      · exact .inl rfl
      · exact .inr (.inr (.inr (.inl ⟨_, rfl⟩)))
      · exact .inr (.inr (.inr (.inr ⟨_, rfl, .inr (.inl ⟨_, s6 _ _ (s5 _ _ (s4 _ _ (s3 _ _ g1)))⟩)⟩)))
      · exact .inr (.inr (.inr (.inr ⟨_, rfl, .inr (.inr ⟨_, s6 _ _ (s5 _ _ (s4 _ _ g3))⟩)⟩)))
      · exact .inr (.inr (.inr (.inr ⟨_, rfl, .inl (s6 _ _ (s5 _ _ g4))⟩)))
      · exact .inr (.inl ⟨_, rfl⟩)
      · exact .inr (.inr (.inl ⟨_, rfl⟩))
      · exact .inr (.inr (.inr (.inr ⟨_, rfl, .inr (.inl ⟨_, s6 _ _ g5⟩)⟩)))
    obtain ⟨v, ev⟩ : ∃ v, ([.non, .str (Str.ofString "frame 3 3"), .ref l1, .ref l3, .ref l4, .int 7, .bl true, .ref l5] : List V)[j]? = some v := ⟨_, List.getElem?_eq_getElem (show j < 8 from j8)⟩
    refine ⟨_, rfl, _, _, rfl, rfl, (by show (0 : Int) < 8; decide), l6, _, c % 8, v, rfl, rfl, SqL.of g6, ?_, h v _ (all v (List.mem_of_getElem? ev)) (((s1.trans s3).trans s4).trans (s5.trans s6))⟩
    rw [show c % 8 = (j : Int) from ej]
    exact atI_nat ev
end
end S23
set_option maxRecDepth 100000
set_option maxHeartbeats 4000000
namespace S23
open PySem L2 XL PyProof.Rows
def Er.tl : Er → List V
  | .badLine v => [.str (Str.ofString "bad"), v, .bl true]
  | .noRow r => [.str (Str.ofString "no row"), r]
  | _ => []
def TV (H : Hp) (out : Option Er) (tv : V) : Prop := (out = none ∧ tv = .non) ∨ ∃ er q, out = some er ∧ tv = .ref q ∧ H q = some (.tup er.tl)
def spRead23 : Sp := fun vs H Q _ => ∃ (v : V) (out : Option Er), vs = [v] ∧ PicOut H v out ∧ ∀ H' tv, Same H H' → TV H' out tv → Q tv H'
def Plain : I23 → Bool
  | .rim _ _ => true
  | .pt _ => true
  | _ => false
theorem run_plain : ∀ {g : List I23} (n : Nat) (r : List I23), (∀ i ∈ g, Plain i = true) → run n (g ++ r) = run (n + g.length) r
  | [], n, r, _ => rfl
  | x :: g, n, r, h => by
    have ih := run_plain (n + 1) r (fun i hi => h i (List.mem_cons_of_mem _ hi))
    have hx := h x (List.mem_cons_self ..)
    rw [List.length_cons, show n + (g.length + 1) = n + 1 + g.length by omega, ← ih]
    cases x with
    | rim b r => rfl
    | pt k => rfl
    | r17 => cases hx
    | bad v => cases hx
theorem run_er : ∀ {its : List I23} {n : Nat} {er : Er}, run n its = some er → (∃ m : Nat, er = .badLine (.int (m : Int))) ∨ er = .noRow (.int 17)
  | [], _, _, e => by cases e
  | .rim _ _ :: r, n, _, e => run_er (its := r) (n := n + 1) e
  | .pt _ :: r, n, _, e => run_er (its := r) (n := n + 1) e
  | .r17 :: _, _, _, e => by cases e; exact .inr rfl
  | .bad _ :: _, n, _, e => by cases e; exact .inl ⟨n, rfl⟩
theorem po_er {H : Hp} {v : V} {er : Er} (h : PicOut H v (some er)) : (∃ m : Nat, er = .badLine (.int (m : Int))) ∨ er = .noRow (.int 17) := by
  rcases h with ⟨e, _⟩ | ⟨_, _, _, _, _, _, _, e⟩
  · cases e
    exact .inl ⟨0, rfl⟩
  · exact run_er e.symm
structure Gd (h : Nat) (i : Nat) (its : List I23) : Prop where
  pl : ∀ x ∈ its, Plain x = true
  ok : ∀ x ∈ its, ∀ H, x.Ok H
  len : its.length ≤ i
  ss : (its.flatMap I23.ss).Pairwise (fun a b => a.2 < b.2)
  sb : ∀ s ∈ its.flatMap I23.ss, 1 ≤ s.2 ∧ s.2 ≤ (h : Int) ∧ s.2 ≤ (i : Int)
  ps : (its.flatMap (I23.ps h)).Pairwise (fun a b => a.y < b.y)
  pb : ∀ p ∈ its.flatMap (I23.ps h), ∃ k : Nat, p = ⟨ltrK k, ((1 + k : Nat) : Int), ((1 + k : Nat) : Int), "both", 1, (h : Int)⟩ ∧ k < 3 ∧ k + 1 ≤ h ∧ k < i
theorem Gd.nil (h : Nat) : Gd h 0 [] := ⟨fun _ z => (nomatch z), fun _ z => (nomatch z), Nat.le_refl _, .nil, fun _ z => (nomatch z), .nil, fun _ z => (nomatch z)⟩
theorem Gd.up {h i : Nat} {its : List I23} (g : Gd h i its) : Gd h (i + 1) its := ⟨g.pl, g.ok, by have := g.len; omega, g.ss, fun s hs => by have := g.sb s hs; omega, g.ps, fun p hp => by obtain ⟨k, e, a, b, c⟩ := g.pb p hp; exact ⟨k, e, a, b, by omega⟩⟩
theorem Gd.le {h i j : Nat} {its : List I23} (g : Gd h i its) (l : i ≤ j) : Gd h j its := ⟨g.pl, g.ok, by have := g.len; omega, g.ss, fun s hs => by have := g.sb s hs; omega, g.ps, fun p hp => by obtain ⟨k, e, a, b, c⟩ := g.pb p hp; exact ⟨k, e, a, b, by omega⟩⟩
theorem bcd_at : ∀ i, i < 3 → (Str.ofString "bcd").cps.toList[i]? = some (98 + i) := by decide +kernel
theorem side_at {c : Int} : ∃ b : Bool, atI [V.str (Str.ofString "left "), V.str (Str.ofString "right ")] (c % 2) = some (.str (sideS b)) := by
  have b := mod_in c (show (0 : Int) < 2 by decide)
  have : c % 2 = 0 ∨ c % 2 = 1 := by omega
  rcases this with e | e
  · exact ⟨true, by rw [e]; rfl⟩
  · exact ⟨false, by rw [e]; rfl⟩
theorem its_snoc (its : List I23) (x : I23) : itsV its ++ [x.v] = itsV (its ++ [x]) := by
  unfold itsV
  rw [List.map_append]
  rfl
theorem pw_snoc {α : Type} {R : α → α → Prop} {l : List α} {x : α} (h : l.Pairwise R) (hx : ∀ y ∈ l, R y x) : (l ++ [x]).Pairwise R := by
  rw [List.pairwise_append]
  refine ⟨h, List.pairwise_singleton _ _, fun a ha b hb => ?_⟩
  rw [List.mem_singleton.mp hb]
  exact hx a ha
theorem Gd.rim {h i : Nat} {its : List I23} (g : Gd h i its) (b : Bool) (hi : i + 1 ≤ h) (h16 : h ≤ 16) : Gd h (i + 1) (its ++ [.rim b (1 + i)]) := by
  have e1 : (its ++ [I23.rim b (1 + i)]).flatMap I23.ss = its.flatMap I23.ss ++ [(b, ((1 + i : Nat) : Int))] := by rw [List.flatMap_append]; rfl
  have e2 : (its ++ [I23.rim b (1 + i)]).flatMap (I23.ps h) = its.flatMap (I23.ps h) := by rw [List.flatMap_append]; exact List.append_nil _
  refine ⟨fun x hx => ?_, fun x hx H => ?_, ?_, ?_, fun s hs => ?_, ?_, fun p hp => ?_⟩
  · rcases List.mem_append.mp hx with z | z
    · exact g.pl x z
    · rw [List.mem_singleton.mp z]; rfl
  · rcases List.mem_append.mp hx with z | z
    · exact g.ok x z H
    · rw [List.mem_singleton.mp z]; exact ⟨by omega, by omega⟩
  · have := g.len
    rw [List.length_append, List.length_singleton]
    omega
  · rw [e1]
    exact pw_snoc g.ss (fun y hy => by have := g.sb y hy; show y.2 < ((1 + i : Nat) : Int); omega)
  · rw [e1] at hs
    rcases List.mem_append.mp hs with z | z
    · have := g.sb s z; omega
    · rw [List.mem_singleton.mp z]; exact ⟨by show (1 : Int) ≤ ((1 + i : Nat) : Int); omega, by show ((1 + i : Nat) : Int) ≤ _; omega, by show ((1 + i : Nat) : Int) ≤ _; omega⟩
  · rw [e2]; exact g.ps
  · rw [e2] at hp
    obtain ⟨k, e, a, b, c⟩ := g.pb p hp
    exact ⟨k, e, a, b, by omega⟩
theorem Gd.pt {h i : Nat} {its : List I23} (g : Gd h i its) (hi : i + 1 ≤ h) (h3 : i < 3) : Gd h (i + 1) (its ++ [.pt i]) := by
  have e1 : (its ++ [I23.pt i]).flatMap I23.ss = its.flatMap I23.ss := by rw [List.flatMap_append]; exact List.append_nil _
  have e2 : (its ++ [I23.pt i]).flatMap (I23.ps h) = its.flatMap (I23.ps h) ++ [⟨ltrK i, ((1 + i : Nat) : Int), ((1 + i : Nat) : Int), "both", 1, (h : Int)⟩] := by rw [List.flatMap_append]; rfl
  refine ⟨fun x hx => ?_, fun x hx H => ?_, ?_, ?_, fun s hs => ?_, ?_, fun p hp => ?_⟩
  · rcases List.mem_append.mp hx with z | z
    · exact g.pl x z
    · rw [List.mem_singleton.mp z]; rfl
  · rcases List.mem_append.mp hx with z | z
    · exact g.ok x z H
    · rw [List.mem_singleton.mp z]; exact h3
  · have := g.len
    rw [List.length_append, List.length_singleton]
    omega
  · rw [e1]; exact g.ss
  · rw [e1] at hs
    have := g.sb s hs
    omega
  · rw [e2]
    refine pw_snoc g.ps (fun y hy => ?_)
    obtain ⟨k, e, a, b, c⟩ := g.pb y hy
    rw [e]
    show ((1 + k : Nat) : Int) < ((1 + i : Nat) : Int)
    omega
  · rw [e2] at hp
    rcases List.mem_append.mp hp with z | z
    · obtain ⟨k, e, a, b, c⟩ := g.pb p z
      exact ⟨k, e, a, b, by omega⟩
    · exact ⟨i, List.mem_singleton.mp z, h3, hi, by omega⟩
theorem ltr_inj {a b : Nat} (h : ltrK a = ltrK b) : a = b := by
  have z : (ltrK a).cps.toList = (ltrK b).cps.toList := by rw [h]
  have z2 : [98 + a] = [98 + b] := z
  have := List.head_eq_of_cons_eq z2
  omega
theorem ltr_ok {k : Nat} (h : k < 3) : isNm (ltrK k) = true := by
  match k, h with
  | 0, _ => decide +kernel
  | 1, _ => decide +kernel
  | 2, _ => decide +kernel
theorem fm_len {α β : Type} (f : α → List β) (h : ∀ x, (f x).length ≤ 1) : ∀ l : List α, (l.flatMap f).length ≤ l.length
  | [] => Nat.le_refl _
  | x :: l => by
    rw [List.flatMap_cons, List.length_append, List.length_cons]
    have := h x
    have := fm_len f h l
    omega
def IsP (h : Nat) (p : Pt) : Prop := ∃ k : Nat, p = ⟨ltrK k, ((1 + k : Nat) : Int), ((1 + k : Nat) : Int), "both", 1, (h : Int)⟩
theorem nd_pb {h i : Nat} {its : List I23} (g : Gd h i its) {R : Pt → Pt → Prop} (z : ∀ {p q : Pt}, IsP h p → IsP h q → p.y < q.y → R p q) : (its.flatMap (I23.ps h)).Pairwise R := by
  have y := g.ps
  have b := g.pb
  generalize its.flatMap (I23.ps h) = l at y b
  refine List.Pairwise.imp_of_mem ?_ y
  intro p q hp hq lt
  obtain ⟨k, e, _⟩ := b p hp
  obtain ⟨j, e2, _⟩ := b q hq
  exact z ⟨k, e⟩ ⟨j, e2⟩ lt
theorem Gd.good {H : Hp} {w h i : Nat} {its js : List I23} (g : Gd h i its) (w1 : 3 ≤ w) (w2 : w ≤ 30) (h1 : 3 ≤ h) (h2 : h ≤ 16) (i9 : i ≤ 9) (ok : ∀ x ∈ js, x.Ok H) (len : js.length ≤ 100) (es : js.flatMap I23.ss = its.flatMap I23.ss) (ep : js.flatMap (I23.ps h) = its.flatMap (I23.ps h)) : Good H w h js := by
  refine ⟨by omega, w2, by omega, h2, ok, len, ?_, ?_⟩
  · rw [es]
    refine ⟨g.ss.imp (fun z e => by rw [e] at z; omega), ?_, fun s hs => ⟨(g.sb s hs).1, (g.sb s hs).2.1⟩⟩
    have := fm_len I23.ss (fun x => by cases x <;> simp [I23.ss, I23.ps]) its
    have := g.len
    omega
  · rw [ep]
    refine ⟨fun p hp => ?_, ?_, ?_, ?_, ?_⟩
    · obtain ⟨k, rfl, k3, kh, _⟩ := g.pb p hp
      exact ⟨ltr_ok k3, by show (1 : Int) ≤ ((1 + k : Nat) : Int); omega, by show ((1 + k : Nat) : Int) ≤ w; omega, by show (1 : Int) ≤ ((1 + k : Nat) : Int); omega, by show ((1 + k : Nat) : Int) ≤ h; omega, .inr (.inr rfl), Int.le_refl _, by show (1 : Int) ≤ h; omega, Int.le_refl _⟩
    · refine List.pairwise_map.mpr (nd_pb g fun a b z e => ?_)
      obtain ⟨k, rfl⟩ := a
      obtain ⟨j, rfl⟩ := b
      have := ltr_inj e
      subst this
      exact absurd z (Int.lt_irrefl _)
    · refine List.pairwise_map.mpr (nd_pb g fun a b z e => ?_)
      obtain ⟨k, rfl⟩ := a
      obtain ⟨j, rfl⟩ := b
      have e : ((1 + k : Nat) : Int) = ((1 + j : Nat) : Int) := e
      have z : ((1 + k : Nat) : Int) < ((1 + j : Nat) : Int) := z
      omega
    · refine List.pairwise_map.mpr (g.ps.imp fun z e => ?_)
      rw [e] at z
      omega
    · have := fm_len (I23.ps h) (fun x => by cases x <;> simp [I23.ss, I23.ps]) its
      have := g.len
      omega
def spGood (K : PySem.W.Frag) : Sp := fun vs H Q _ => ∃ (a : Addr) (ns : List Int) (h : Nat), vs = [.ref a, .int (h : Int)] ∧ SqL K H a (ns.map V.int) ∧ 3 ≤ h ∧ h ≤ 16 ∧ ∀ H' l its, Gd h 9 its → Same H H' → H l = none → H' l = some (.lst (itsV its)) → Q (.ref l) H'
def IG (H : Hp) (sc l : Addr) (h : Nat) (i : Nat) (σ : L2.St) (H5 : Hp) : Prop := ∃ (its : List I23) (v3 v4 : Option V), σ = [some (.ref sc), some (.int (h : Int)), some (.ref l), v3, v4] ∧ Same H H5 ∧ H5 l = some (.lst (itsV its)) ∧ Gd h i its
def spNum23 : Sp := fun vs H Q _ => ∃ (p q : Addr) (er : Er), vs = [.ref p, .ref q] ∧ H p = some (.tup er.tl) ∧ H q = some (.tup er.tl) ∧ ((∃ m : Nat, er = .badLine (.int (m : Int))) ∨ er = .noRow (.int 17)) ∧ Q (.bl true) H
section
variable {P : Program} {w : World} {K : PySem.W.Frag} {mg : Str → Option Value} {base : Heap} {t : Adr}
theorem ok_law_good (T : Txt w K mg t) : FnOk true P w K mg base (CXo P w) 2 t.f_law_good t.d_law_good ["_law_script", "_law_height"] (spGood K) := by
  refine T.F_law_good.okn (k := 1) sc_law_good (fun vs H Q E h => ?_) (fun cdv A outer s H vs Q E hr h => ?_)
  · obtain ⟨sc, ns, ph, rfl, _⟩ := h
    rfl
  · obtain ⟨sc, ns, ph, rfl, h⟩ := h
    refine ⟨_, pss_cons (ps_set (i := 2) sc_law_good.nd rfl (Or.inl rfl) (pe_lst (pa_nil)))
      (pss_cons (ps_for PassesOwn.never rfl (pi_range1 rfl T.n_range (pa_cons (pe_op op_mod (pe_call (ok_law_cell T) (hr.mono (by decide)) rfl T.g_law_cell T.F_law_cell.kp T.b_law_cell .nil pass_none (pa_cons (pv 0) (pa_cons (pe_int) (pa_nil)))) (pe_int)) (pa_nil))) (pg_name (i := 3) sc_law_good.nd rfl (Or.inl rfl)) (pss_cons (ps_set (i := 4) sc_law_good.nd rfl (Or.inl rfl) (pe_op op_fdiv (pe_call (ok_law_cell T) (hr.mono (by decide)) rfl T.g_law_cell T.F_law_cell.kp T.b_law_cell .nil pass_none (pa_cons (pv 0) (pa_cons (pe_int) (pa_nil)))) (pe_op op_add (pv 3) (pe_int))))
      (pss_one (ps_mid (ps_if (PW.pt (pw_and (pt_cmpR op_eq (pe_op op_mod (pv 4) (pe_int)) (pe_int) (nomark _)) (pw_and1 (pt_cmpR op_lt (pv 3) (pe_callB (call_min2 rfl) rfl T.n_min boot_min (pa_cons (pe_int) (pa_cons (pv 1) (pa_nil)))) (nomark _))))) (pss_one (ps_expr (pe_bm PySem.F.plainAttrs_list PySem.F.slot_list_append PySem.F.type_list_append mt_append (pv 2) (pa_cons (pe_op op_add_str (pe_op op_add_str (pe_op op_add_str (pe_op op_add_str (pe_op op_add_str (pe_str) (pe_ix ix_str (pe_str) (pv 3) (fun _ _ => rfl))) (pe_str)) (pe_callTy call_str_int rfl T.n_str boot_str (pa_cons (pe_op op_add (pe_int) (pv 3)) (pa_nil)))) (pe_str)) (pe_callTy call_str_int rfl T.n_str boot_str (pa_cons (pe_op op_add (pe_int) (pv 3)) (pa_nil)))) (pa_nil))))) (pss_one (ps_mid (ps_if (pt_cmpR op_le (pe_op op_add (pe_int) (pv 3)) (pv 1) (nomark _)) (pss_one (ps_expr (pe_bm PySem.F.plainAttrs_list PySem.F.slot_list_append PySem.F.type_list_append mt_append (pv 2) (pa_cons (pe_op op_add_str (pe_ix ix_list (pe_lst (pa_cons (pe_str) (pa_cons (pe_str) (pa_nil)))) (pe_op op_mod (pe_op op_fdiv (pv 4) (pe_int)) (pe_int)) (fun _ _ => rfl)) (pe_callTy call_str_int rfl T.n_str boot_str (pa_cons (pe_op op_add (pe_int) (pv 3)) (pa_nil)))) (pa_nil))))) (pss_nil)))))))))
      (pss_one (ps_ret (pv 2)))), ?_⟩
    obtain ⟨hs, h3, h16, q⟩ := h
    refine ⟨(by show 0 ≤ sizeLine; decide), fun l hl => ?_⟩
    have s1 : Same H (upd H l (.lst [])) := same_upd (Same.refl _) hl
    have g1 : upd H l (.lst []) l = some (.lst []) := upd_same
    revert s1 g1
    generalize upd H l (.lst []) = H1
    intro s1 g1
    refine ⟨_, rfl, sc, ns, 2, rfl, Same.seqL s1 hs, by decide, by decide, fun c2 => ⟨_, _, rfl, rfl, (by show (0 : Int) < 9; decide), ?_⟩⟩
    have cb := mod_in c2 (show (0 : Int) < 9 by decide)
    refine ⟨c2 % 9, rfl, by omega, by omega, ?_⟩
    refine for_range (n := (c2 % 9).toNat) (Pv := IG H sc l ph) ⟨[], _, _, rfl, s1, g1, .nil _⟩ ?_ ?_
    · rintro i σ H5 hi ⟨its, v3, v4, rfl, s5, h5, gd⟩
      simp only [Int.zero_add]
      refine ⟨_, rfl, sc, ns, 3, rfl, Same.seqL s5 hs, by decide, by decide, fun c3 => ⟨_, rfl, _, _, rfl, rfl, _, _, rfl, rfl, ⟨by show (0 : Int) < (i : Int) + 1; omega, by show (i : Int) + 1 < 1073741824; omega⟩, ?_⟩⟩
      have i8 : i < 8 := by omega
      have nl := num_len (show 1 + i < 100 by omega)
      have z0 : (Str.ofString "point ").length = 6 := by decide +kernel
      have z1 : (Str.ofString " ").length = 1 := by decide +kernel
      have z2 : (Str.ofString "bcd").length = 3 := by decide +kernel
      have z3 : ∀ b, (sideS b).length ≤ 6 := by decide +kernel
      have z4 : (ltrK i).length = 1 := rfl
      have len5 : (itsV its).length < sizeLine := by
        unfold itsV
        rw [List.length_map]
        exact Nat.lt_of_le_of_lt (by have := gd.len; omega : _ ≤ 1000) (by decide)
      have en : ∀ Q' : Int → Prop, Q' ((1 + i : Nat) : Int) → Q' (1 + (i : Int)) := fun Q' z => by rw [show 1 + (i : Int) = ((1 + i : Nat) : Int) by omega]; exact z
      have e1 : (1 + (i : Int)) = ((1 + i : Nat) : Int) := by omega
      refine ⟨IG H sc l ph (i + 1), ?_, fun _ _ z => z⟩
      refine ⟨_, rfl, _, _, rfl, rfl, (by show (0 : Int) < 2; decide), rfl, _, rfl, ite2 (fun y1 => ⟨_, rfl, _, rfl, _, _, rfl, _, _, rfl, rfl, _, rfl, ite2 (fun y2 => ?_) (fun y2 => ?_)⟩) (fun y1 => ?_)⟩
      · have y3 : (i : Int) < (if (ph : Int) < 3 then (ph : Int) else 3) := of_decide_eq_true y2
        have i3 : i < 3 := by split at y3 <;> omega
        refine ⟨_, rfl, .inl ⟨rfl, _, SqL.of h5⟩, _, rfl, _, _, 98 + i, rfl, rfl, ?_, atI_nat (bcd_at i i3), _, _, rfl, rfl, ?_, _, _, rfl, rfl, ?_, _, rfl, _, _, rfl, rfl, ((1 + i : Nat) : Int), (by show [V.int (1 + (i : Int))] = _; rw [e1]), log_le (by omega), _, numT (1 + i), rfl, rfl, ?_, _, _, rfl, rfl, ?_, _, rfl, _, _, rfl, rfl, ((1 + i : Nat) : Int), (by show [V.int (1 + (i : Int))] = _; rw [e1]), log_le (by omega), _, numT (1 + i), rfl, rfl, ?_, l, _, _, rfl, rfl, h5, len5, ?_⟩
        · exact Nat.le_trans (by omega : _ ≤ 1000) (by decide)
        · rw [show (⟨#[98 + i]⟩ : Str) = ltrK i from rfl]
          exact Nat.le_trans (by omega : _ ≤ 1000) (by decide)
        · rw [show (⟨#[98 + i]⟩ : Str) = ltrK i from rfl]
          refine Nat.le_trans (?_ : _ ≤ 1000) (by decide)
          simp only [cat_len]
          omega
        · rw [show (⟨#[98 + i]⟩ : Str) = ltrK i from rfl]
          refine Nat.le_trans (?_ : _ ≤ 1000) (by decide)
          simp only [cat_len]
          omega
        · rw [show (⟨#[98 + i]⟩ : Str) = ltrK i from rfl]
          refine Nat.le_trans (?_ : _ ≤ 1000) (by decide)
          simp only [cat_len]
          omega
        · rw [show (⟨#[98 + i]⟩ : Str) = ltrK i from rfl]
          refine Nat.le_trans (?_ : _ ≤ 1000) (by decide)
          simp only [cat_len]
          omega
        · refine ⟨its ++ [.pt i], _, _, rfl, fun c u e => by rw [upd_ne (ne_of_none e hl)]; exact s5 _ _ e, ?_, gd.pt (by split at y3 <;> omega) i3⟩
          rw [upd_same, ← its_snoc]
          rfl
      all_goals
        refine ⟨IG H sc l ph (i + 1), ?_, fun _ _ z => z⟩
        refine ⟨_, rfl, _, _, rfl, rfl, _, rfl, _, _, rfl, rfl, _, rfl, ite2 (fun y3 => ?_) (fun y3 => ⟨its, _, _, rfl, s5, h5, gd.up⟩)⟩
        have y4 : (1 : Int) + (i : Int) ≤ (ph : Int) := of_decide_eq_true y3
        refine ⟨_, rfl, .inl ⟨rfl, _, SqL.of h5⟩, (by show 2 ≤ sizeLine; decide), fun l2 hl2 => ?_⟩
        obtain ⟨b, eb⟩ := side_at (c := c3 / ((i : Int) + 1) / 2)
        have s6 : Same H5 (upd H5 l2 (.lst [V.str (Str.ofString "left "), V.str (Str.ofString "right ")])) := same_upd (Same.refl _) hl2
        have g6 : upd H5 l2 (.lst [V.str (Str.ofString "left "), V.str (Str.ofString "right ")]) l2 = some (.lst [V.str (Str.ofString "left "), V.str (Str.ofString "right ")]) := upd_same
        revert s6 g6
        generalize upd H5 l2 (.lst [V.str (Str.ofString "left "), V.str (Str.ofString "right ")]) = H6
        intro s6 g6
        refine ⟨_, rfl, _, _, rfl, rfl, ⟨by decide, by decide⟩, _, _, rfl, rfl, (by show (0 : Int) < 2; decide), l2, _, _, .str (sideS b), rfl, rfl, SqL.of g6, eb, _, rfl, _, _, rfl, rfl, ((1 + i : Nat) : Int), (by show [V.int (1 + (i : Int))] = _; rw [e1]), log_le (by omega), _, numT (1 + i), rfl, rfl, ?_, l, _, _, rfl, rfl, s6 _ _ h5, len5, ?_⟩
        · have := z3 b
          exact Nat.le_trans (by omega : _ ≤ 1000) (by decide)
        · refine ⟨its ++ [.rim b (1 + i)], _, _, rfl, fun c u e => by rw [upd_ne (ne_of_none e hl)]; exact s6 _ _ (s5 _ _ e), ?_, gd.rim b (by omega) h16⟩
          rw [upd_same, ← its_snoc]
          rfl
    · rintro σ H5 ⟨its, v3, v4, rfl, s5, h5, gd⟩
      exact ⟨_, rfl, q _ l its (gd.le (by omega)) s5 hl h5⟩
theorem ok_law_read (T : Txt w K mg t) : FnOk true P w K mg base (CXo P w) 8 t.f_law_read t.d_law_read ["_law_lines"] (spRead23) := by
  refine T.F_law_read.okn (k := 7) sc_law_read (fun vs H Q E h => ?_) (fun cdv A outer s H vs Q E hr h => ?_)
  · obtain ⟨v, out, rfl, _⟩ := h
    rfl
  · obtain ⟨v, out, rfl, h⟩ := h
    refine ⟨_, pss_cons (ps_set (i := 1) sc_law_read.nd rfl (Or.inl rfl) (pe_non))
      (pss_cons (ps_try2 (E := (fun σ' e C' H' => ∃ (er : Er), σ' = [some v, some .non, none] ∧ C' = er.cls t ∧ out = some er ∧ RaisedE t H H' e er)) rfl T.g_BadLine T.mk_BadLine rfl T.g_NoRow T.mk_NoRow sc_law_read.nd (j := 2) rfl rfl rfl rfl (fun _ _ tk => pss_one (ps_expr (pe_call (okT_picture_of T) (hr.mono (by decide)) rfl T.g_picture_of T.F_picture_of.kp T.b_picture_of .nil tk.pass (pa_cons (pv 0) (pa_nil))))) (fun _ => pss_one (ps_set (i := 1) sc_law_read.nd rfl (Or.inl rfl) (pe_tup (pa_cons (pe_str) (pa_cons ((pe_xfld (pv 2) rfl : PE _ _ (tXF K _ _))) (pa_cons (pe_and (pe_callB (r := rIsin K) call_isin rfl T.n_isinstance boot_isinstance (pa_cons (pv 2) (pa_cons (pe_glob (v := .ref _) rfl T.g_RimError rfl) (pa_nil)))) (pe_one (pe_callB (r := rIsin K) call_isin rfl T.n_isinstance boot_isinstance (pa_cons (pv 2) (pa_cons (pe_bltn (v := .ty "ValueError") rfl T.n_ValueError PyProof.Rows.Boot.«ValueError» rfl) (pa_nil)))))) (pa_nil))))))) (fun _ => pss_one (ps_set (i := 1) sc_law_read.nd rfl (Or.inl rfl) (pe_tup (pa_cons (pe_str) (pa_cons ((pe_xfld (pv 2) rfl : PE _ _ (tXF K _ _))) (pa_nil)))))))
      (pss_one (ps_ret (pv 1)))), ?_⟩
    obtain ⟨po, q⟩ := h
    refine ⟨?_, ?_⟩
    · refine ⟨_, rfl, v, out, rfl, po, fun er her e H' z => ⟨er, rfl, rfl, her, z⟩, fun en w H' s => ?_⟩
      exact ⟨_, rfl, q _ _ s (.inl ⟨en, rfl⟩)⟩
    · rintro σ' e C' H' ⟨er, rfl, rfl, her, ra⟩
      subst her
      obtain ⟨s1, ea⟩ := ra
      rcases po_er po with ⟨m, rfl⟩ | rfl
      · rcases ea with ⟨z, _⟩ | ⟨_, dx, he, hdx⟩
        · cases z
        have hd : ∀ d, some dx = some d → ∃ fs, H' d = some (XD d fs) := fun d z => by cases z; exact ⟨_, hdx⟩
        refine ⟨T.mk_BadLine, .inl ⟨T.mro_BadLine_BadLine, ?_⟩⟩
        refine ⟨_, rfl, e, _, dx, _, .int (m : Int), rfl, he, hdx, T.x_BadLine, T.n_BadLine_line, lk_1, ?_⟩
        refine ⟨_, rfl, _, _, rfl, .inr (.inl ⟨e, _, _, _, true, rfl, he, hd, T.x_BadLine, rfl, T.kit_BadLine_RimError, true, rfl, iteT ?_⟩)⟩
        refine ⟨_, rfl, _, _, rfl, .inr (.inl ⟨e, _, _, _, true, rfl, he, hd, T.x_BadLine, rfl, T.kitv_BadLine, ?_⟩)⟩
        refine ⟨(by show 3 ≤ sizeLine; decide), fun q2 hq2 => ?_⟩
        exact ⟨_, rfl, q _ _ (same_upd s1 hq2) (.inr ⟨_, q2, rfl, rfl, upd_same⟩)⟩
      · rcases ea with ⟨z, _⟩ | ⟨_, dx, he, hdx⟩
        · cases z
        refine ⟨T.mk_NoRow, .inr ⟨T.mro_NoRow_BadLine, T.mro_NoRow_NoRow, ?_⟩⟩
        refine ⟨_, rfl, e, _, dx, _, .int 17, rfl, he, hdx, T.x_NoRow, T.n_NoRow_row, lk_1, (by show 2 ≤ sizeLine; decide), fun q2 hq2 => ?_⟩
        exact ⟨_, rfl, q _ _ (same_upd s1 hq2) (.inr ⟨_, q2, rfl, rfl, upd_same⟩)⟩
theorem ok_law_number (T : Txt w K mg t) : FnOk true P w K mg base (CXo P w) 2 t.f_law_number t.d_law_number ["_law_told", "_law_due"] (spNum23) := by
  refine T.F_law_number.okn (k := 1) sc_law_number (fun vs H Q E h => ?_) (fun cdv A outer s H vs Q E hr h => ?_)
  · obtain ⟨p, u, er, rfl, _⟩ := h
    rfl
  · obtain ⟨p, u, er, rfl, h⟩ := h
    refine ⟨_, pss_one (ps_ret (pe_and (pe_cmpR (op_eqV (hu20_of hr)) (pv 0) (pv 1) (nomark _)) (pe_one (pe_call (ok_law_whole T) (hr.mono (by decide)) rfl T.g_law_whole T.F_law_whole.kp T.b_law_whole .nil pass_none (pa_cons (pe_ix ix_tup (pv 0) (pe_int) (fun _ _ => rfl)) (pa_nil)))))), ?_⟩
    obtain ⟨hp, hu, e, q⟩ := h
    have d1 : Dv K H 1 (.ref p) (.tup (er.tl.map scD)) := .tup (SqT.of hp) (by rw [List.length_map]) (scs_dv (by rcases e with ⟨m, rfl⟩ | rfl <;> rfl))
    have d2 : Dv K H 1 (.ref u) (.tup (er.tl.map scD)) := .tup (SqT.of hu) (by rw [List.length_map]) (scs_dv (by rcases e with ⟨m, rfl⟩ | rfl <;> rfl))
    refine ⟨_, rfl, _, rfl, 1, 1, _, _, d1, d2, by decide, by decide, true, by rw [dEq_refl], iteT ?_⟩
    rcases e with ⟨m, rfl⟩ | rfl
    · exact ⟨_, rfl, p, _, 1, .int (m : Int), rfl, rfl, SqT.of hp, rfl, (m : Int), rfl, q⟩
    · exact ⟨_, rfl, p, _, 1, .int 17, rfl, rfl, SqT.of hp, rfl, 17, rfl, q⟩
end
end S23
set_option maxRecDepth 100000
set_option maxHeartbeats 4000000
namespace S23
open PySem L2 XL PyProof.Rows
def spLaw (K : PySem.W.Frag) : Sp := fun vs H Q _ => ∃ (a : Addr) (ns : List Int), vs = [.ref a] ∧ SqL K H a (ns.map V.int) ∧ ns.length ≤ 63 ∧ ∀ H', Q (.bl true) H'
def FlR (z : V) : Prop := (∃ c, z = .ref c) ∨ flatV z = true
theorem lin_fl {H : Hp} {v : V} (h : LinOk H v) : FlR v := by
  rcases h with ⟨s, rfl, _⟩ | rfl | ⟨i, rfl⟩ | ⟨b, rfl⟩ | ⟨a, rfl, _⟩
  · exact .inr rfl
  · exact .inr rfl
  · exact .inr rfl
  · exact .inr rfl
  · exact .inl ⟨a, rfl⟩
theorem it_fl {H : Hp} {x : I23} (h : x.Ok H) : FlR x.v := by
  cases x with
  | rim b r => exact .inr rfl
  | pt k => exact .inr rfl
  | r17 => exact .inr rfl
  | bad v => exact lin_fl h.1
theorem noTxt_words {H : Hp} {v : V} (h : NoTxt H v) : wordsV v = [] := by
  rcases h with rfl | ⟨i, rfl⟩ | ⟨b, rfl⟩ | ⟨a, rfl, _⟩ <;> rfl
theorem thing_it {H : Hp} {v : V} (h : NoTxt H v) : I23.Ok H (.bad v) := ⟨.inr h, by rw [noTxt_words h]; rfl, by rw [noTxt_words h]; rfl⟩
theorem noTxt_upd {H : Hp} {v : V} {l : Addr} {xs ys : List V} (h : NoTxt H v) (hl : H l = some (.lst xs)) : NoTxt (upd H l (.lst ys)) v := by
  rcases h with h | h | h | ⟨a, e, h⟩
  · exact .inl h
  · exact .inr (.inl h)
  · exact .inr (.inr (.inl h))
  · refine .inr (.inr (.inr ⟨a, e, ?_⟩))
    by_cases ea : a = l
    · subst ea
      exact .inl ⟨ys, upd_same⟩
    · rw [upd_ne ea]
      exact h
theorem lin_upd {H : Hp} {v : V} {l : Addr} {xs ys : List V} (h : LinOk H v) (hl : H l = some (.lst xs)) : LinOk (upd H l (.lst ys)) v := by
  rcases h with h | h
  · exact .inl h
  · exact .inr (noTxt_upd h hl)
theorem it_upd {H : Hp} {x : I23} {l : Addr} {xs ys : List V} (h : x.Ok H) (hl : H l = some (.lst xs)) : x.Ok (upd H l (.lst ys)) := by
  cases x with
  | rim b r => exact h
  | pt k => exact h
  | r17 => exact h
  | bad v => exact ⟨lin_upd h.1 hl, h.2⟩
def LV (H : Hp) (w h n : Nat) (L : List V) (er : Er) : Prop := (er = .badLine (.int 0) ∧ L.length ≤ n + 1 ∧ ∃ v0 r, L = v0 :: r ∧ LinOk H v0 ∧ frmL (wordsV v0) = none ∧ ∀ z ∈ r, FlR z) ∨
  ∃ its, L = .str (frT w h) :: itsV its ∧ Good H w h its ∧ its.length ≤ n ∧ run 1 its = some er
theorem LV.out {H : Hp} {w h n : Nat} {L : List V} {er : Er} (x : LV H w h n L er) {l : Addr} (hl : H l = some (.lst L)) : PicOut H (.ref l) (some er) := by
  rcases x with ⟨rfl, _, v0, r, rfl, lin, fn, _⟩ | ⟨its, rfl, g, _, e⟩
  · exact .inl ⟨rfl, .inr ⟨l, v0, r, rfl, hl, lin, fn⟩⟩
  · exact .inr ⟨l, w, h, its, rfl, hl, g, e.symm⟩
theorem LV.fl {H : Hp} {w h n : Nat} {L : List V} {er : Er} (x : LV H w h n L er) : ∀ z ∈ L, FlR z := by
  intro z hz
  rcases x with ⟨rfl, _, v0, r, rfl, lin, fn, fr⟩ | ⟨its, rfl, g, _, e⟩
  · rcases List.mem_cons.mp hz with rfl | y
    · exact lin_fl lin
    · exact fr z y
  · rcases List.mem_cons.mp hz with rfl | y
    · exact .inr rfl
    · obtain ⟨i, hi, rfl⟩ := List.mem_map.mp y
      exact it_fl (g.ok i hi)
theorem LV.len {H : Hp} {w h n : Nat} {L : List V} {er : Er} (x : LV H w h n L er) : L.length ≤ n + 1 := by
  rcases x with ⟨_, l, _⟩ | ⟨its, rfl, _, l, _⟩
  · exact l
  · unfold itsV
    rw [List.length_cons, List.length_map]
    omega
theorem LV.same {H H' : Hp} {w h n : Nat} {L : List V} {er : Er} (s : Same H H') (x : LV H w h n L er) : LV H' w h n L er := by
  rcases x with ⟨e, l, v0, r, e2, lin, fn, fr⟩ | ⟨its, e1, g, l, e⟩
  · exact .inl ⟨e, l, v0, r, e2, lin.same s, fn, fr⟩
  · exact .inr ⟨its, e1, g.same s, l, e⟩
theorem LV.up {H : Hp} {w h n : Nat} {L : List V} {er : Er} (x : LV H w h n L er) : LV H w h (n + 1) L er := by
  rcases x with ⟨e, l, v0, r, e2, lin, fn, fr⟩ | ⟨its, e1, g, l, e⟩
  · exact .inl ⟨e, by omega, v0, r, e2, lin, fn, fr⟩
  · exact .inr ⟨its, e1, g, by omega, e⟩
theorem run_more : ∀ {its : List I23} {n : Nat} {er : Er} (r : List I23), run n its = some er → run n (its ++ r) = some er
  | [], _, _, _, e => by cases e
  | .rim _ _ :: s, n, _, r, e => run_more (its := s) (n := n + 1) r e
  | .pt _ :: s, n, _, r, e => run_more (its := s) (n := n + 1) r e
  | .r17 :: _, _, _, _, e => e
  | .bad _ :: _, _, _, _, e => e
theorem LV.snoc {H : Hp} {w h n : Nat} {L ys : List V} {er : Er} {s : Str} {l : Addr} (x : LV H w h n L er) (hn : n < 99) (hs : badOk s = true) (hl : H l = some (.lst L)) : LV (upd H l (.lst ys)) w h (n + 1) (L ++ [.str s]) er := by
  rcases x with ⟨e, len, v0, r, rfl, lin, fn, fr⟩ | ⟨its, rfl, g, len, e⟩
  · refine .inl ⟨e, by rw [List.length_append, List.length_singleton]; omega, v0, r ++ [.str s], rfl, lin_upd lin hl, fn, fun z hz => ?_⟩
    rcases List.mem_append.mp hz with y | y
    · exact fr z y
    · rw [List.mem_singleton.mp y]
      exact .inr rfl
  · refine .inr ⟨its ++ [.bad (.str s)], by rw [← its_snoc]; rfl, ⟨g.w1, g.w2, g.h1, g.h2, fun i hi => ?_, by rw [List.length_append, List.length_singleton]; omega, ?_, ?_⟩, by rw [List.length_append, List.length_singleton]; omega, run_more _ e⟩
    · rcases List.mem_append.mp hi with y | y
      · exact it_upd (g.ok i y) hl
      · rw [List.mem_singleton.mp y]
        exact badOk_it hs
    · rw [List.flatMap_append]
      exact (List.append_nil (its.flatMap I23.ss)).symm ▸ g.ss
    · rw [List.flatMap_append]
      exact (List.append_nil (its.flatMap (I23.ps h))).symm ▸ g.ps
def insI (j : Nat) (x : I23) (g : List I23) : List I23 := g.take j ++ x :: g.drop j
theorem ins_v (a : V) (j : Nat) (x : I23) (g : List I23) : (a :: itsV g).take (1 + j) ++ x.v :: (a :: itsV g).drop (1 + j) = a :: itsV (insI j x g) := by
  unfold insI itsV
  rw [Nat.add_comm 1 j, List.take_succ_cons, List.drop_succ_cons, List.map_append, List.map_cons, List.map_take, List.map_drop]
  rfl
theorem fm_ins {β : Type} {f : I23 → List β} {x : I23} (hx : f x = []) (j : Nat) (g : List I23) : (insI j x g).flatMap f = g.flatMap f := by
  unfold insI
  rw [List.flatMap_append, List.flatMap_cons, hx, List.nil_append, ← List.flatMap_append, List.take_append_drop]
theorem ins_len (j : Nat) (x : I23) (g : List I23) : (insI j x g).length = g.length + 1 := by
  unfold insI
  rw [List.length_append, List.length_cons, ← Nat.add_assoc, ← List.length_append, List.take_append_drop]
theorem ins_mem {j : Nat} {x y : I23} {g : List I23} (h : y ∈ insI j x g) : y = x ∨ y ∈ g := by
  rcases List.mem_append.mp h with z | z
  · exact .inr (List.mem_of_mem_take z)
  · rcases List.mem_cons.mp z with z | z
    · exact .inl z
    · exact .inr (List.mem_of_mem_drop z)
theorem run_ins {h i : Nat} {g : List I23} (gd : Gd h i g) {j : Nat} (jl : j ≤ g.length) (x : I23) : run 1 (insI j x g) = run (1 + j) (x :: g.drop j) := by
  unfold insI
  rw [run_plain 1 _ (fun i hi => gd.pl i (List.mem_of_mem_take hi)), List.length_take, Nat.min_eq_left jl]
theorem run_ins2 {h i : Nat} {g : List I23} (gd : Gd h i g) {j m : Nat} (jl : j ≤ g.length) (mj : m ≤ j) (x : I23) : run 1 (insI m .r17 (insI j x g)) = some (.noRow (.int 17)) := by
  unfold insI
  rw [List.take_append_of_le_length (by rw [List.length_take]; omega), List.take_take, Nat.min_eq_left mj, run_plain 1 _ (fun i hi => gd.pl i (List.mem_of_mem_take hi))]
  rfl
def P23 (H5 : Hp) (sc l3 l6 : Addr) (w h : Nat) (vk vm vj : V) (v9 : Option V) (σ : L2.St) (H9 : Hp) : Prop := ∃ (vb : V) (q9 : Addr) (L : List V) (er : Er), σ = [some (.ref sc), some (.int (h : Int)), some (.ref l3), some vk, some vm, some vj, some vb, some (.ref l6), some (.ref q9), v9] ∧ Same H5 H9 ∧ H9 l6 = some (.lst L) ∧ H9 q9 = some (.tup er.tl) ∧ LV H9 w h 12 L er
def IL (H3 : Hp) (sc l3 : Addr) (h : Nat) (i : Nat) (σ : L2.St) (H5 : Hp) : Prop := ∃ (v3 v4 v5 v6 v7 v8 v9 : Option V), σ = [some (.ref sc), some (.int (h : Int)), some (.ref l3), v3, v4, v5, v6, v7, v8, v9] ∧ Same H3 H5
theorem ix0 (a : V) (r : List V) : ixN (a :: r).length 0 = some 0 := by
  unfold ixN
  rw [if_pos (by decide)]
  exact if_pos (by rw [List.length_cons]; omega)
theorem at_3 (n : Int) {d : Nat} (hd : 0 < d) (h : d ≤ 28) : ∃ x : Nat, 3 + n % (d : Int) = x ∧ 3 ≤ x ∧ x < d + 3 := by
  have z := mod_in n (show (0 : Int) < d by omega)
  exact ⟨(3 + n % d).toNat, by omega, by omega, by omega⟩
section
variable {P : Program} {w : World} {K : PySem.W.Frag} {mg : Str → Option Value} {base : Heap} {t : Adr}
theorem ok_law (T : Txt w K mg t) : FnOk true P w K mg base (CXo P w) 9 t.f_law t.d_law ["_law_script"] (spLaw K) := by
  refine T.F_law.okn (k := 8) sc_law (fun vs H Q E h => ?_) (fun cdv A outer s H vs Q E hr h => ?_)
  · obtain ⟨sc, ns, rfl, _⟩ := h
    rfl
  · obtain ⟨sc, ns, rfl, h⟩ := h
    refine ⟨_, pss_cons (ps_set (i := 1) sc_law.nd rfl (Or.inl rfl) (pe_op op_add (pe_int) (pe_op op_mod (pe_call (ok_law_cell T) (hr.mono (by decide)) rfl T.g_law_cell T.F_law_cell.kp T.b_law_cell .nil pass_none (pa_cons (pv 0) (pa_cons (pe_int) (pa_nil)))) (pe_int))))
      (pss_cons (ps_set (i := 2) sc_law.nd rfl (Or.inl rfl) (pe_op op_cat (pe_lst (pa_cons (pe_op op_add_str (pe_op op_add_str (pe_op op_add_str (pe_str) (pe_callTy call_str_int rfl T.n_str boot_str (pa_cons (pe_op op_add (pe_int) (pe_op op_mod (pe_call (ok_law_cell T) (hr.mono (by decide)) rfl T.g_law_cell T.F_law_cell.kp T.b_law_cell .nil pass_none (pa_cons (pv 0) (pa_cons (pe_int) (pa_nil)))) (pe_int))) (pa_nil)))) (pe_str)) (pe_callTy call_str_int rfl T.n_str boot_str (pa_cons (pv 1) (pa_nil)))) (pa_nil))) (pe_call (ok_law_good T) (hr.mono (by decide)) rfl T.g_law_good T.F_law_good.kp T.b_law_good .nil pass_none (pa_cons (pv 0) (pa_cons (pv 1) (pa_nil))))))
      (pss_cons (ps_mid (ps_if (pt_cmpR op_notN (pe_call (ok_law_read T) (hr.mono (by decide)) rfl T.g_law_read T.F_law_read.kp T.b_law_read .nil pass_none (pa_cons (pe_callTy call_list_of rfl T.n_list boot_list (pa_cons (pv 2) (pa_nil))) (pa_nil))) (pe_non) (nomark _)) (pss_one (ps_ret (pe_bl))) (pss_nil)))
      (pss_cons (ps_mid (ps_if (pt_cmpR (op_neV (hu20_of hr)) (pe_call (ok_law_read T) (hr.mono (by decide)) rfl T.g_law_read T.F_law_read.kp T.b_law_read .nil pass_none (pa_cons (pe_call (ok_law_no_list T) (hr.mono (by decide)) rfl T.g_law_no_list T.F_law_no_list.kp T.b_law_no_list .nil pass_none (pa_cons (pe_call (ok_law_cell T) (hr.mono (by decide)) rfl T.g_law_cell T.F_law_cell.kp T.b_law_cell .nil pass_none (pa_cons (pv 0) (pa_cons (pe_int) (pa_nil)))) (pa_nil))) (pa_nil))) (pe_tup (pa_cons (pe_str) (pa_cons (pe_int) (pa_cons (pe_bl) (pa_nil))))) (nomark _)) (pss_one (ps_ret (pe_bl))) (pss_nil)))
      (pss_cons (ps_for PassesOwn.never rfl (pi_range2 rfl T.n_range (pa_cons (pe_int) (pa_cons (pe_callB (call_max2 rfl) rfl T.n_max boot_max (pa_cons (pe_int) (pa_cons (pe_callB (call_min2 rfl) rfl T.n_min boot_min (pa_cons (pe_callB call_len_seq rfl T.n_len boot_len (pa_cons (pv 0) (pa_nil))) (pa_cons (pe_int) (pa_nil)))) (pa_nil)))) (pa_nil)))) (pg_name (i := 3) sc_law.nd rfl (Or.inl rfl)) (pss_cons (ps_set (i := 4) sc_law.nd rfl (Or.inl rfl) (pe_call (ok_law_digits T) (hr.mono (by decide)) rfl T.g_law_digits T.F_law_digits.kp T.b_law_digits .nil pass_none (pa_cons (pe_call (ok_law_cell T) (hr.mono (by decide)) rfl T.g_law_cell T.F_law_cell.kp T.b_law_cell .nil pass_none (pa_cons (pv 0) (pa_cons (pv 3) (pa_nil)))) (pa_cons (pv 3) (pa_nil)))))
      (pss_cons (ps_set (i := 5) sc_law.nd rfl (Or.inl rfl) (pe_op op_add (pe_int) (pe_op op_mod (pe_op op_fdiv (pv 4) (pe_int)) (pe_callB call_len_seq rfl T.n_len boot_len (pa_cons (pv 2) (pa_nil))))))
      (pss_cons (ps_set (i := 6) sc_law.nd rfl (Or.inl rfl) (pe_call (ok_law_bad T) (hr.mono (by decide)) rfl T.g_law_bad T.F_law_bad.kp T.b_law_bad .nil pass_none (pa_cons (pe_call (ok_law_mix T) (hr.mono (by decide)) rfl T.g_law_mix T.F_law_mix.kp T.b_law_mix .nil pass_none (pa_cons (pv 4) (pa_cons (pe_int) (pa_nil)))) (pa_nil))))
      (pss_cons (ps_set (i := 7) sc_law.nd rfl (Or.inl rfl) (pe_callTy call_list_of rfl T.n_list boot_list (pa_cons (pv 2) (pa_nil))))
      (pss_cons (ps_set (i := 8) sc_law.nd rfl (Or.inl rfl) (pe_tup (pa_cons (pe_str) (pa_cons (pv 5) (pa_cons (pe_bl) (pa_nil))))))
      (pss_cons (ps_mid (ps_if (pt_cmpR op_eq (pe_op op_mod (pv 4) (pe_int)) (pe_int) (nomark _)) (pss_cons (ps_asg (pe_call (ok_law_bad_first T) (hr.mono (by decide)) rfl T.g_law_bad_first T.F_law_bad_first.kp T.b_law_bad_first .nil pass_none (pa_cons (pe_call (ok_law_mix T) (hr.mono (by decide)) rfl T.g_law_mix T.F_law_mix.kp T.b_law_mix .nil pass_none (pa_cons (pv 4) (pa_cons (pe_int) (pa_nil)))) (pa_nil))) (pg_sub (pv 7) (pe_int) set_list))
      (pss_cons (ps_mid (ps_if (pt_cmpR op_eq (pe_op op_mod (pe_call (ok_law_mix T) (hr.mono (by decide)) rfl T.g_law_mix T.F_law_mix.kp T.b_law_mix .nil pass_none (pa_cons (pv 4) (pa_cons (pe_int) (pa_nil)))) (pe_int)) (pe_int) (nomark _)) (pss_one (ps_asg (pe_call (ok_law_thing T) (hr.mono (by decide)) rfl T.g_law_thing T.F_law_thing.kp T.b_law_thing .nil pass_none (pa_cons (pe_call (ok_law_mix T) (hr.mono (by decide)) rfl T.g_law_mix T.F_law_mix.kp T.b_law_mix .nil pass_none (pa_cons (pv 4) (pa_cons (pe_int) (pa_nil)))) (pa_nil))) (pg_sub (pv 7) (pe_int) set_list))) (pss_nil)))
      (pss_one (ps_set (i := 8) sc_law.nd rfl (Or.inl rfl) (pe_tup (pa_cons (pe_str) (pa_cons (pe_int) (pa_cons (pe_bl) (pa_nil))))))))) (pss_cons (ps_mid (ps_if (pt_cmpR op_in_seq (pe_op op_mod (pv 4) (pe_int)) (pe_tup (pa_cons (pe_int) (pa_cons (pe_int) (pa_nil)))) (by rfl)) (pss_one (ps_set (i := 6) sc_law.nd rfl (Or.inl rfl) (pe_call (ok_law_thing T) (hr.mono (by decide)) rfl T.g_law_thing T.F_law_thing.kp T.b_law_thing .nil pass_none (pa_cons (pe_call (ok_law_mix T) (hr.mono (by decide)) rfl T.g_law_mix T.F_law_mix.kp T.b_law_mix .nil pass_none (pa_cons (pv 4) (pa_cons (pe_int) (pa_nil)))) (pa_nil))))) (pss_nil)))
      (pss_cons (ps_expr (pe_bm PySem.F.plainAttrs_list PySem.F.slot_list_insert PySem.F.type_list_insert mt_insertN (pv 7) (pa_cons (pv 5) (pa_cons (pv 6) (pa_nil)))))
      (pss_one (ps_mid (ps_if (pt_cmpR op_in_seq (pe_op op_mod (pv 4) (pe_int)) (pe_tup (pa_cons (pe_int) (pa_cons (pe_int) (pa_nil)))) (by rfl)) (pss_cons (ps_expr (pe_bm PySem.F.plainAttrs_list PySem.F.slot_list_insert PySem.F.type_list_insert mt_insertN (pv 7) (pa_cons (pe_op op_add (pe_int) (pe_op op_mod (pe_call (ok_law_mix T) (hr.mono (by decide)) rfl T.g_law_mix T.F_law_mix.kp T.b_law_mix .nil pass_none (pa_cons (pv 4) (pa_cons (pe_int) (pa_nil)))) (pv 5))) (pa_cons (pe_str) (pa_nil)))))
      (pss_one (ps_set (i := 8) sc_law.nd rfl (Or.inl rfl) (pe_tup (pa_cons (pe_str) (pa_cons (pe_int) (pa_nil))))))) (pss_nil))))))))
      (pss_cons (ps_mid (ps_if (pt_cmpR op_eq (pe_op op_mod (pe_op op_fdiv (pv 4) (pe_int)) (pe_int)) (pe_int) (nomark _)) (pss_one (ps_expr (pe_bm PySem.F.plainAttrs_list PySem.F.slot_list_append PySem.F.type_list_append mt_append (pv 7) (pa_cons (pe_call (ok_law_bad T) (hr.mono (by decide)) rfl T.g_law_bad T.F_law_bad.kp T.b_law_bad .nil pass_none (pa_cons (pe_call (ok_law_mix T) (hr.mono (by decide)) rfl T.g_law_mix T.F_law_mix.kp T.b_law_mix .nil pass_none (pa_cons (pv 4) (pa_cons (pe_int) (pa_nil)))) (pa_nil))) (pa_nil))))) (pss_nil)))
      (pss_cons (ps_set (i := 9) sc_law.nd rfl (Or.inl rfl) (pe_callTy call_list_of rfl T.n_list boot_list (pa_cons (pv 7) (pa_nil))))
      (pss_one (ps_mid (ps_if (PW.pt (pw_or (pt_not (pt_val (pe_call (ok_law_number T) (hr.mono (by decide)) rfl T.g_law_number T.F_law_number.kp T.b_law_number .nil pass_none (pa_cons (pe_call (ok_law_read T) (hr.mono (by decide)) rfl T.g_law_read T.F_law_read.kp T.b_law_read .nil pass_none (pa_cons (pv 9) (pa_nil))) (pa_cons (pv 8) (pa_nil)))))) (pw_or1 (pt_cmpR (op_neId (hu20_of hr)) (pv 9) (pv 7) (nomark _))))) (pss_one (ps_ret (pe_bl))) (pss_nil)))))))))))))
      (pss_one (ps_ret (pe_cmpR op_isN (pe_call (ok_law_read T) (hr.mono (by decide)) rfl T.g_law_read T.F_law_read.kp T.b_law_read .nil pass_none (pa_cons (pe_callTy call_list_of rfl T.n_list boot_list (pa_cons (pv 2) (pa_nil))) (pa_nil))) (pe_non) (nomark _)))))))), ?_⟩
    obtain ⟨hs, nl, q⟩ := h
    refine ⟨_, rfl, sc, ns, 1, rfl, hs, by decide, by decide, fun c1 => ⟨_, _, rfl, rfl, (by show (0 : Int) < 14; decide), _, _, rfl, rfl, ?_⟩⟩
    obtain ⟨h1, eh, h31, h32⟩ := at_3 c1 (d := 14) (by decide) (by decide)
    have eh : 3 + c1 % 14 = (h1 : Int) := eh
    simp only [eh]
    refine ⟨_, rfl, sc, ns, 0, rfl, hs, by decide, by decide, fun c0 => ?_⟩
    obtain ⟨w1, ew, w31, w32⟩ := at_3 c0 (d := 28) (by decide) (by decide)
    have ew : 3 + c0 % 28 = (w1 : Int) := ew
    have wl := num_len (show w1 < 100 by omega)
    have hl := num_len (show h1 < 100 by omega)
    have e6 : (Str.ofString "frame ").length = 6 := by decide +kernel
    have e1 : (Str.ofString " ").length = 1 := by decide +kernel
    refine ⟨_, _, rfl, rfl, (by show (0 : Int) < 28; decide), _, _, rfl, rfl, (w1 : Int), (by show [V.int (3 + c0 % 28)] = _; rw [ew]), log_le (by omega), _, numT w1, rfl, rfl, ?_, _, _, rfl, rfl, ?_, _, rfl, (h1 : Int), rfl, log_le (by omega), _, numT h1, rfl, rfl, ?_, (by show 1 ≤ sizeLine; decide), fun l0 hl0 => ?_⟩
    · rw [e6]
      exact Nat.le_trans (by omega : _ ≤ 1000) (by decide)
    · rw [cat_len, e6, e1]
      exact Nat.le_trans (by omega : _ ≤ 1000) (by decide)
    · rw [cat_len, cat_len, e6, e1]
      exact Nat.le_trans (by omega : _ ≤ 1000) (by decide)
    rw [show Str.ofString "frame " ++ numT w1 ++ Str.ofString " " ++ numT h1 = frT w1 h1 from rfl]
    have s1 : Same H (upd H l0 (.lst [.str (frT w1 h1)])) := same_upd (Same.refl _) hl0
    have g1 : upd H l0 (.lst [.str (frT w1 h1)]) l0 = some (.lst [.str (frT w1 h1)]) := upd_same
    revert s1 g1
    generalize upd H l0 (.lst [.str (frT w1 h1)]) = H1
    intro s1 g1
    refine ⟨_, rfl, _, rfl, sc, ns, h1, rfl, Same.seqL s1 hs, h31, by omega, fun H2 l2 g gd s2 fl2 hl2 => ⟨l0, l2, _, _, rfl, rfl, s2 _ _ g1, hl2, ?_, fun l3 hl3 => ?_⟩⟩
    · unfold itsV
      rw [List.length_map]
      show 1 + g.length ≤ sizeLine
      exact Nat.le_trans (by have := gd.len; omega : _ ≤ 1000) (by decide)
    rw [show [V.str (frT w1 h1)] ++ itsV g = V.str (frT w1 h1) :: itsV g from rfl]
    have s3 : Same H2 (upd H2 l3 (.lst (V.str (frT w1 h1) :: itsV g))) := same_upd (Same.refl _) hl3
    have g3 : upd H2 l3 (.lst (V.str (frT w1 h1) :: itsV g)) l3 = some (.lst (V.str (frT w1 h1) :: itsV g)) := upd_same
    revert s3 g3
    generalize upd H2 l3 (.lst (V.str (frT w1 h1) :: itsV g)) = H3
    intro s3 g3
    have s03 := (s1.trans s2).trans s3
    have glen := gd.len
    have good : ∀ (H4 : Hp) (js : List I23), (∀ x ∈ js, x.Ok H4) → js.length ≤ 100 → js.flatMap I23.ss = g.flatMap I23.ss → js.flatMap (I23.ps h1) = g.flatMap (I23.ps h1) → Good H4 w1 h1 js := fun H4 js a b c d => gd.good w31 (by omega) h31 (by omega) (by decide) a b c d
    have outG : ∀ (H4 : Hp) l, H4 l = some (.lst (V.str (frT w1 h1) :: itsV g)) → PicOut H4 (.ref l) none := fun H4 l e => .inr ⟨l, w1, h1, g, rfl, e, good H4 g (fun x hx => gd.ok x hx H4) (by omega) rfl rfl, by
      have z := run_plain 1 [] gd.pl
      rw [List.append_nil] at z
      rw [z]
      rfl⟩
    refine ⟨fun σ H4 => Same H3 H4 ∧ σ = [some (.ref sc), some (.int (h1 : Int)), some (.ref l3), none, none, none, none, none, none, none], ?_, ?_⟩
    · refine ⟨_, rfl, l3, _, rfl, .inl (SqL.of g3), fun l4 hl4 => ?_⟩
      have s4 : Same H3 (upd H3 l4 (.lst (V.str (frT w1 h1) :: itsV g))) := same_upd (Same.refl _) hl4
      have g4 : upd H3 l4 (.lst (V.str (frT w1 h1) :: itsV g)) l4 = some (.lst (V.str (frT w1 h1) :: itsV g)) := upd_same
      revert s4 g4
      generalize upd H3 l4 (.lst (V.str (frT w1 h1) :: itsV g)) = H4
      intro s4 g4
      refine ⟨.ref l4, none, rfl, outG _ _ g4, fun H5 tv s5 tvv => ?_⟩
      rcases tvv with ⟨_, rfl⟩ | ⟨er, _, z, _⟩
      · exact ⟨rfl, _, rfl, ifN (by rfl) ⟨s4.trans s5, rfl⟩⟩
      · cases z
    rintro σ H4 ⟨s4, rfl⟩
    refine ⟨fun σ H5 => Same H3 H5 ∧ σ = [some (.ref sc), some (.int (h1 : Int)), some (.ref l3), none, none, none, none, none, none, none], ?_, ?_⟩
    · refine ⟨_, rfl, sc, ns, 4, rfl, Same.seqL (s03.trans s4) hs, by decide, by decide, fun c4 => ⟨c4, rfl, fun v H5 nv s5 => ?_⟩⟩
      refine ⟨v, _, rfl, .inl ⟨rfl, .inl nv⟩, fun H6 tv s6 tvv => ?_⟩
      rcases tvv with ⟨z, _⟩ | ⟨er, q6, z, rfl, h6⟩
      · cases z
      cases z
      refine ⟨(by show 3 ≤ sizeLine; decide), fun q7 hq7 => ?_⟩
      have s7 : Same H6 (upd H6 q7 (.tup [.str (Str.ofString "bad"), .int 0, .bl true])) := same_upd (Same.refl _) hq7
      have g7 : upd H6 q7 (.tup [.str (Str.ofString "bad"), .int 0, .bl true]) q7 = some (.tup [.str (Str.ofString "bad"), .int 0, .bl true]) := upd_same
      revert s7 g7
      generalize upd H6 q7 (.tup [.str (Str.ofString "bad"), .int 0, .bl true]) = H7
      intro s7 g7
      have d1 : Dv K H7 1 (.ref q6) (.tup ((Er.badLine (.int 0)).tl.map scD)) := .tup (SqT.of (s7 _ _ h6)) (by rw [List.length_map]) (scs_dv rfl)
      have d2 : Dv K H7 1 (.ref q7) (.tup ((Er.badLine (.int 0)).tl.map scD)) := .tup (SqT.of g7) rfl (scs_dv rfl)
      refine ⟨1, 1, _, _, d1, d2, by decide, by decide, _, rfl, ?_⟩
      rw [dEq_refl]
      exact ifN (by rfl) ⟨s4.trans (s5.trans (s6.trans s7)), rfl⟩
    rintro σ H5 ⟨s5, rfl⟩
    refine ⟨_, rfl, sc, _, rfl, .inl (Same.seqL (s03.trans s5) hs), _, _, rfl, _, _, rfl, _, _, rfl, ?_, ?_⟩
    · exact ⟨by decide, by decide, by split <;> split <;> omega, by split <;> split <;> omega⟩
    refine for_range (Pv := IL H3 sc l3 h1) ⟨_, _, _, _, _, _, _, rfl, s5⟩ ?_ ?_
    · clear s5 H5
      rintro i σ H5 hi ⟨v3, v4, v5, v6, v7, v8, v9, rfl, s5⟩
      have i63 : i < 100 := by
        revert hi
        split <;> split <;> omega
      refine ⟨_, rfl, _, rfl, sc, ns, 5 + (i : Int), rfl, Same.seqL (s03.trans s5) hs, by omega, by omega, fun c => ⟨_, rfl, c, 5 + (i : Int), rfl, by omega, fun m => ?_⟩⟩
      have g5 := s5 _ _ g3
      have el : (V.str (frT w1 h1) :: itsV g).length = g.length + 1 := by unfold itsV; rw [List.length_cons, List.length_map]
      refine ⟨_, rfl, _, _, rfl, rfl, ⟨by decide, by decide⟩, _, rfl, l3, _, rfl, .inl (SqL.of g5), _, _, rfl, rfl, (by show (0 : Int) < _; rw [el]; omega), _, _, rfl, rfl, ?_⟩
      obtain ⟨j, ej, jl⟩ := mod_nat (m / 8) (g.length + 1) (by omega)
      simp only [el, ej]
      have e1j : (1 : Int) + (j : Int) = ((1 + j : Nat) : Int) := by omega
      simp only [e1j]
      refine ⟨_, rfl, m, 1, rfl, by decide, fun m1 => ⟨m1, rfl, fun sb H6 okb s6 => ?_⟩⟩
      refine ⟨_, rfl, l3, _, rfl, .inl (SqL.of (s6 _ _ g5)), fun l6 hl6 => ?_⟩
      have f6 : H5 l6 = none := s6.free hl6
      have s7 : Same H6 (upd H6 l6 (.lst (V.str (frT w1 h1) :: itsV g))) := same_upd (Same.refl _) hl6
      have g7 : upd H6 l6 (.lst (V.str (frT w1 h1) :: itsV g)) l6 = some (.lst (V.str (frT w1 h1) :: itsV g)) := upd_same
      revert s7 g7
      generalize upd H6 l6 (.lst (V.str (frT w1 h1) :: itsV g)) = H7
      intro s7 g7
      refine ⟨_, rfl, (by show 3 ≤ sizeLine; decide), fun q7 hq7 => ?_⟩
      have s8 : Same H7 (upd H7 q7 (.tup [.str (Str.ofString "bad"), .int ((1 + j : Nat) : Int), .bl true])) := same_upd (Same.refl _) hq7
      have g8 : upd H7 q7 (.tup [.str (Str.ofString "bad"), .int ((1 + j : Nat) : Int), .bl true]) q7 = some (.tup [.str (Str.ofString "bad"), .int ((1 + j : Nat) : Int), .bl true]) := upd_same
      revert s8 g8
      generalize upd H7 q7 (.tup [.str (Str.ofString "bad"), .int ((1 + j : Nat) : Int), .bl true]) = H8
      intro s8 g8
      have s58 : Same H5 H8 := (s6.trans s7).trans s8
      have h86 := s8 _ _ g7
      refine ⟨P23 H5 sc l3 l6 w1 h1 (.int (5 + (i : Int))) (.int m) (.int ((1 + j : Nat) : Int)) v9, ?_, ?_⟩
      · refine ⟨_, rfl, _, _, rfl, rfl, (by show (0 : Int) < 8; decide), rfl, _, rfl, ite2 (fun y => ?_) (fun y => ?_)⟩
        · refine ⟨_, rfl, m, 1, rfl, by decide, fun m2 => ⟨m2, rfl, fun sf Ha okf sa => ?_⟩⟩
          have ha6 := sa _ _ h86
          refine ⟨_, rfl, l6, _, 0, 0, rfl, rfl, ha6, ix0 _ _, ?_⟩
          have sb5 : Same H5 (upd Ha l6 (.lst (.str sf :: itsV g))) := fun c u e => by rw [upd_ne (ne_of_none e f6)]; exact sa _ _ (s58 _ _ e)
          refine ⟨fun σ Hc => ∃ v0, σ = [some (.ref sc), some (.int (h1 : Int)), some (.ref l3), some (.int (5 + (i : Int))), some (.int m), some (.int ((1 + j : Nat) : Int)), some (.str sb), some (.ref l6), some (.ref q7), v9] ∧ Same H5 Hc ∧ Hc l6 = some (.lst (v0 :: itsV g)) ∧ LinOk Hc v0 ∧ frmL (wordsV v0) = none, ?_, ?_⟩
          · refine ⟨_, rfl, m, 4, rfl, by decide, fun m3 => ⟨_, _, rfl, rfl, (by show (0 : Int) < 4; decide), rfl, _, rfl, ite2 (fun y2 => ?_) (fun y2 => ?_)⟩⟩
            · refine ⟨_, rfl, m, 1, rfl, by decide, fun m4 => ⟨m4, rfl, fun vt Hd nt sd => ?_⟩⟩
              refine ⟨_, rfl, l6, _, 0, 0, rfl, rfl, sd _ _ upd_same, ix0 _ _, ?_⟩
              exact ⟨vt, rfl, fun c u e => by rw [upd_ne (ne_of_none e f6)]; exact sd _ _ (sb5 _ _ e), upd_same, .inr (noTxt_upd nt (sd _ _ upd_same)), by rw [noTxt_words nt]; rfl⟩
            · exact ⟨.str sf, rfl, sb5, upd_same, ascB_lin okf.1, okf.2⟩
          · rintro σ Hc ⟨v0, rfl, sc5, hc6, lin, fn⟩
            refine ⟨(by show 3 ≤ sizeLine; decide), fun q9 hq9 => ?_⟩
            have st := same_upd (o := HO.tup (Er.badLine (.int 0)).tl) (Same.refl Hc) hq9
            refine ⟨.str sb, q9, _, .badLine (.int 0), rfl, sc5.trans st, st _ _ hc6, upd_same, .inl ⟨rfl, ?_, v0, _, rfl, lin.same st, fn, fun z hz => ?_⟩⟩
            · unfold itsV
              rw [List.length_cons, List.length_map]
              omega
            · obtain ⟨x, hx, rfl⟩ := List.mem_map.mp hz
              exact it_fl (gd.ok x hx Hc)
        · refine ⟨fun σ Ha => ∃ vb, σ = [some (.ref sc), some (.int (h1 : Int)), some (.ref l3), some (.int (5 + (i : Int))), some (.int m), some (.int ((1 + j : Nat) : Int)), some vb, some (.ref l6), some (.ref q7), v9] ∧ Same H8 Ha ∧ I23.Ok Ha (.bad vb), ?_, ?_⟩
          · refine ⟨_, rfl, _, _, rfl, rfl, (by show (0 : Int) < 8; decide), (by show 2 ≤ sizeLine; decide), fun qa hqa => ⟨qa, _, rfl, .inr (SqT.of upd_same), rfl, rfl, _, rfl, ite2 (fun y2 => ?_) (fun y2 => ?_)⟩⟩
            · exact ⟨_, rfl, m, 1, rfl, by decide, fun m2 => ⟨m2, rfl, fun vt Hb nt sb2 => ⟨vt, rfl, (same_upd (Same.refl _) hqa).trans sb2, thing_it nt⟩⟩⟩
            · exact ⟨.str sb, rfl, same_upd (Same.refl _) hqa, badOk_it okb⟩
          rintro σ Ha ⟨vb, rfl, sa, okv⟩
          have ha6 := sa _ _ h86
          refine ⟨_, rfl, .inl ⟨rfl, _, SqL.of ha6⟩, _, rfl, _, rfl, l6, _, 1 + j, vb, rfl, rfl, ha6, (by rw [el]; omega), (by rw [el]; omega), ?_⟩
          rw [show vb = (I23.bad vb).v from rfl, ins_v]
          have okb1 : I23.Ok (upd Ha l6 (.lst (V.str (frT w1 h1) :: itsV (insI j (.bad vb) g)))) (.bad vb) := it_upd okv ha6
          have sb5 : Same H5 (upd Ha l6 (.lst (V.str (frT w1 h1) :: itsV (insI j (.bad vb) g)))) := fun c u e => by rw [upd_ne (ne_of_none e f6)]; exact sa _ _ (s58 _ _ e)
          have hb7 : upd Ha l6 (.lst (V.str (frT w1 h1) :: itsV (insI j (.bad vb) g))) q7 = some (.tup (Er.badLine (.int ((1 + j : Nat) : Int))).tl) := by rw [upd_ne (ne_of g8 h86 (fun z => nomatch z))]; exact sa _ _ g8
          have hb6 : upd Ha l6 (.lst (V.str (frT w1 h1) :: itsV (insI j (.bad vb) g))) l6 = some (.lst (V.str (frT w1 h1) :: itsV (insI j (.bad vb) g))) := upd_same
          revert okb1 sb5 hb7 hb6
          generalize upd Ha l6 (.lst (V.str (frT w1 h1) :: itsV (insI j (.bad vb) g))) = Hb
          intro okb1 sb5 hb7 hb6
          refine ⟨P23 H5 sc l3 l6 w1 h1 (.int (5 + (i : Int))) (.int m) (.int ((1 + j : Nat) : Int)) v9, ?_, fun _ _ z => z⟩
          refine ⟨_, rfl, _, _, rfl, rfl, (by show (0 : Int) < 8; decide), (by show 2 ≤ sizeLine; decide), fun qb hqb => ⟨qb, _, rfl, .inr (SqT.of upd_same), rfl, rfl, _, rfl, ite2 (fun y2 => ?_) (fun y2 => ?_)⟩⟩
          · skip
            have s10 : Same Hb (upd Hb qb (.tup [.int 2, .int 3])) := same_upd (Same.refl _) hqb
            have g10 : upd Hb qb (.tup [.int 2, .int 3]) qb = some (.tup [.int 2, .int 3]) := upd_same
            revert s10 g10
            generalize upd Hb qb (.tup [.int 2, .int 3]) = H10
            intro s10 g10
            have el2 : (V.str (frT w1 h1) :: itsV (insI j (.bad vb) g)).length = g.length + 2 := by unfold itsV; rw [List.length_cons, List.length_map, ins_len]
            refine ⟨_, rfl, .inl ⟨rfl, _, SqL.of (s10 _ _ hb6)⟩, _, rfl, m, 2, rfl, by decide, fun m5 => ?_⟩
            obtain ⟨k, ek, kl⟩ := mod_nat m5 (1 + j) (by omega)
            refine ⟨_, rfl, _, _, rfl, rfl, (by show (0 : Int) < ((1 + j : Nat) : Int); omega), _, _, rfl, rfl, l6, _, 1 + k, .str (Str.ofString "right 17"), rfl, (by show [V.int (1 + m5 % ((1 + j : Nat) : Int)), _] = _; rw [ek, show (1 : Int) + (k : Int) = ((1 + k : Nat) : Int) by omega]), s10 _ _ hb6, (by rw [el2]; omega), (by rw [el2]; omega), ?_⟩
            rw [show V.str (Str.ofString "right 17") = I23.r17.v from rfl, ins_v]
            refine ⟨(by show 2 ≤ sizeLine; decide), fun q9 hq9 => ?_⟩
            have st := same_upd (o := HO.tup (Er.noRow (.int 17)).tl) (Same.refl _) hq9
            have sd5 : Same H5 (upd H10 l6 (.lst (V.str (frT w1 h1) :: itsV (insI k .r17 (insI j (.bad vb) g))))) := fun c u e => by rw [upd_ne (ne_of_none e f6)]; exact s10 _ _ (sb5 _ _ e)
            refine ⟨vb, q9, _, .noRow (.int 17), rfl, sd5.trans st, st _ _ upd_same, upd_same, .inr ⟨_, rfl, (good _ _ (fun x hx => ?_) (by rw [ins_len, ins_len]; omega) (by rw [fm_ins rfl, fm_ins rfl]) (by rw [fm_ins rfl, fm_ins rfl])).same st, by rw [ins_len, ins_len]; omega, run_ins2 gd (by omega) (by omega) _⟩⟩
            refine it_upd ?_ (s10 _ _ hb6)
            rcases ins_mem hx with rfl | hx
            · exact trivial
            · rcases ins_mem hx with rfl | hx
              · exact okb1.same s10
              · exact gd.ok x hx _
          · have st := same_upd (o := HO.tup [.int 2, .int 3]) (Same.refl _) hqb
            refine ⟨vb, q7, _, .badLine (.int ((1 + j : Nat) : Int)), rfl, sb5.trans st, st _ _ hb6, st _ _ hb7, .inr ⟨_, rfl, (good _ _ (fun x hx => ?_) (by rw [ins_len]; omega) (by rw [fm_ins rfl]) (by rw [fm_ins rfl])).same st, by rw [ins_len]; omega, by rw [run_ins gd (by omega)]; rfl⟩⟩
            rcases ins_mem hx with rfl | hx
            · exact okb1
            · exact gd.ok x hx _
      rintro σ H9 ⟨vb, q9, L, er, rfl, s9, hL, hq9, lv⟩
      refine ⟨fun σ Ha => ∃ L2, σ = [some (.ref sc), some (.int (h1 : Int)), some (.ref l3), some (.int (5 + (i : Int))), some (.int m), some (.int ((1 + j : Nat) : Int)), some vb, some (.ref l6), some (.ref q9), v9] ∧ Same H5 Ha ∧ Ha l6 = some (.lst L2) ∧ Ha q9 = some (.tup er.tl) ∧ LV Ha w1 h1 13 L2 er, ?_, ?_⟩
      · refine ⟨_, rfl, _, _, rfl, rfl, ⟨by decide, by decide⟩, _, _, rfl, rfl, (by show (0 : Int) < 3; decide), rfl, _, rfl, ite2 (fun y => ?_) (fun y => ⟨L, rfl, s9, hL, hq9, lv.up⟩)⟩
        refine ⟨_, rfl, .inl ⟨rfl, _, SqL.of hL⟩, _, rfl, m, 3, rfl, by decide, fun m6 => ⟨m6, rfl, fun s2' Hb ok2 sb2 => ⟨l6, _, _, rfl, rfl, sb2 _ _ hL, ?_, ?_⟩⟩⟩
        · exact Nat.lt_of_le_of_lt (by have := lv.len; omega : _ ≤ 1000) (by decide)
        · exact ⟨L ++ [.str s2'], rfl, fun c u e => by rw [upd_ne (ne_of_none e f6)]; exact sb2 _ _ (s9 _ _ e), upd_same, by rw [upd_ne (ne_of hq9 hL (fun z => nomatch z))]; exact sb2 _ _ hq9, (lv.same sb2).snoc (by decide) ok2 (sb2 _ _ hL)⟩
      rintro σ Ha ⟨L2, rfl, sa, ha6, haq, lva⟩
      refine ⟨_, rfl, l6, _, rfl, .inl (SqL.of ha6), fun l9 hl9 => ?_⟩
      have s11 : Same Ha (upd Ha l9 (.lst L2)) := same_upd (Same.refl _) hl9
      have g11 : upd Ha l9 (.lst L2) l9 = some (.lst L2) := upd_same
      revert s11 g11
      generalize upd Ha l9 (.lst L2) = H11
      intro s11 g11
      refine ⟨IL H3 sc l3 h1 (i + 1), ?_, fun _ _ z => z⟩
      refine ⟨_, rfl, .ref l9, some er, rfl, (lva.same s11).out g11, fun Hc tv sc2 tvv => ?_⟩
      rcases tvv with ⟨z, _⟩ | ⟨er2, q10, z, rfl, h10⟩
      · cases z
      cases z
      refine ⟨_, rfl, q10, q9, er, rfl, h10, sc2 _ _ (s11 _ _ haq), po_er (lva.out ha6), ?_⟩
      refine ⟨true, rfl, ifN (by decide) ⟨_, rfl, _, rfl, l9, l6, L2, rfl, rfl, sc2 _ _ g11, sc2 _ _ (s11 _ _ ha6), lva.fl, _, rfl, ifN (by decide) ?_⟩⟩
      exact ⟨_, _, _, _, _, _, _, rfl, s5.trans ((sa.trans s11).trans sc2)⟩
    · rintro σ H6 ⟨v3, v4, v5, v6, v7, v8, v9, rfl, s6⟩
      refine ⟨_, rfl, l3, _, rfl, .inl (SqL.of (s6 _ _ g3)), fun l4 hl4 => ?_⟩
      have s7 : Same H6 (upd H6 l4 (.lst (V.str (frT w1 h1) :: itsV g))) := same_upd (Same.refl _) hl4
      have g7 : upd H6 l4 (.lst (V.str (frT w1 h1) :: itsV g)) l4 = some (.lst (V.str (frT w1 h1) :: itsV g)) := upd_same
      revert s7 g7
      generalize upd H6 l4 (.lst (V.str (frT w1 h1) :: itsV g)) = H7
      intro s7 g7
      refine ⟨.ref l4, none, rfl, outG _ _ g7, fun H8 tv s8 tvv => ?_⟩
      rcases tvv with ⟨_, rfl⟩ | ⟨er, _, z, _⟩
      · exact ⟨rfl, q _⟩
      · cases z
end
end S23
namespace PySem.W.Fast
def tw6606835211151845416:=0
def tw8471394997331757877:=0
def tw14845950155202922726:=0
def tw3594693036939468229:=0
def tw12729036695299392975:=0
def tw1676338064467262882:=0
def tw17048864499552191517:=0
def tw2489056376321839648:=0
def tw5472881628057242067:=0
def tw11526133890597141641:=0
def tw5177650489097009315:=0
def tw13741392826809758399:=0
def tw14797157953821247246:=0
def tw4524775324583098233:=0
def tw4495880071782061717:=0
def tw8273161172495178277:=0
def tw15181639760990655387:=0
def tw4291099420299032369:=0
def tw14269218720350266759:=0
def tw17616250411433239894:=0
def tw11461331075979669567:=0
def tw4801642785514688580:=0
def tw16547162238070729582:=0
def tw13645105347837004498:=0
def tw5902855334867149264:=0
def tw11705416401819520271:=0
def tw6911783669008263811:=0
def tw16322264555262609511:=0
def tw651756652937814884:=0
def tw1148235857328768160:=0
def tw6990719321645019213:=0
def tw4435092660087475837:=0
def tw18243010512061194510:=0
def tw8328170632759514866:=0
def tw1045242254527247180:=0
def tw9445535688104869152:=0
def tw5462687531879690864:=0
def tw12482321810368265748:=0
def tw185825351591553278:=0
def tw7083611660063071989:=0
def tw7920737414107369224:=0
def tw5580723990347306737:=0
def tw15468521287509862239:=0
def tw16043517582860329620:=0
def tw10999740679082872312:=0
def tw15036936376963582288:=0
def tw10925072828507871014:=0
def tw8257078413338635083:=0
def tw18134525833771203579:=0
def tw8658778259826101730:=0
def tw12517505223383478144:=0
def tw14645888726029460911:=0
def tw8856034480983365802:=0
def tw3584188981815272877:=0
def tw14445921608313795395:=0
def tw7843648809612054232:=0
def tw7257866367145075031:=0
def tw13764236025594926968:=0
def tw14109319545344374905:=0
def tw18110853120993313413:=0
def tw13046583622260173375:=0
def tw10116819828512986737:=0
def tw5949847814940617247:=0
def tw9454034296610118375:=0
def tw9523361317098521770:=0
def tw14396303538973717007:=0
def tw14257288814315227610:=0
def tw15423658522337554718:=0
def tw12476837475370742969:=0
def tw17861709488109148800:=0
def tw5445763958466171742:=0
def tw16694266470922883787:=0
def tw17669706298016480175:=0
def tw16974491342143005992:=0
def tw10708992274073421656:=0
def tw1624219456026757656:=0
def tw18390506963559784035:=0
def tw494256184798896672:=0
def tw16620347912362717949:=0
def tw4043023680412646494:=0
def tw1888001321570449959:=0
def tw14422270194111630074:=0
def tw10264890660189224729:=0
def tw3129323454977447778:=0
def tw13234120217640471611:=0
def tw2448913941050395074:=0
def tw7716650175072423645:=0
def tw7959258357736566233:=0
def tw16715607206839736570:=0
def tw1849902027748535980:=0
def tw17432347806289983588:=0
def tw2058219461310915074:=0
def tw17610441224272287237:=0
def tw4776618819334918205:=0
def tw18021823176284396081:=0
def tw7466744163462923071:=0
def tw5979123488073798445:=0
def tw5658839975167561964:=0
def tw4554194861761540419:=0
def tw2015986108966992406:=0
def tw2384435056392719133:=0
def tw12987616947658332098:=0
def tw13277646162790578544:=0
def tw3481251066934151532:=0
def tw14685207170094136565:=0
def tw5052835509944961706:=0
def tw13567877398238039218:=0
def tw11815382912390238756:=0
def tw4667646753876076965:=0
def tw18073094340225065787:=0
def tw7122304905955254761:=0
def tw17817229259399754301:=0
def tw12368045704038188403:=0
def tw11011576839046009204:=0
def tw2800969765897070439:=0
def tw6739587442604817264:=0
def tw9457758920017894145:=0
def tw680274423350753315:=0
def tw17512057442494747234:=0
def tw9933659201124841387:=0
def tw12949566913612942229:=0
def tw9836877800748995759:=0
def tw16478115270651488920:=0
def tw8723586749620845630:=0
def tw13463098520412264732:=0
def tw2239836474863845328:=0
def tw2238487216206638250:=0
def tw11094766114870427233:=0
def tw16435121806644450585:=0
def tw14194146836464961351:=0
def tw5924191933517904661:=0
def tw6645864306598479431:=0
def tw8161349902740756717:=0
def tw10587909080709023292:=0
def tw4968122404564459736:=0
def tw14435711254893212294:=0
def tw13532453601602884788:=0
def tw12135503584776859651:=0
def tw8925050603799839911:=0
def tw17210681889980477353:=0
def tw2216203124722162267:=0
def tw16402266898776010522:=0
def tw6499775849427667973:=0
def tw2810006950247477217:=0
def tw15325814427221576926:=0
def tw1551843568328032432:=0
def tw6083338012194648895:=0
def tw12094801851327709644:=0
def tw13392225486614968975:=0
def tw16237311518773597784:=0
def tw5926220223541248675:=0
def tw17073369618498807427:=0
def tw10842375020552065190:=0
def tw12640605456082048504:=0
def tw6718029992261199212:=0
def tw9467508336525895275:=0
def tw6784809989935193958:=0
def tw5531057303532656813:=0
def tw7307234019532404553:=0
def tw13084525576120717045:=0
def tw17197290683384905599:=0
def tw10061796970852535492:=0
def tw16115604426275624999:=0
def tw17852081955741171845:=0
def tw3809118180582182037:=0
def tw1082836184828645837:=0
def tw15759070821538333150:=0
def tw4514329588249334565:=0
def tw4494652058002357222:=0
def tw1421923054883348519:=0
def tw24391404078760154:=0
def tw5650582208259545572:=0
def tw13051058318110713956:=0
def tw14915824722121684015:=0
def tw6800793792828874484:=0
def tw9100238356107877189:=0
def tw9739060938299615316:=0
def tw7575666566698055058:=0
def tw14668779424718890765:=0
def tw4237266275399526129:=0
def tw10266176467291334080:=0
def tw4122148037639634045:=0
def tw17235357868195475311:=0
def tw14567528853160922117:=0
def tw13874955014316067465:=0
def tw8140469974265438192:=0
def tw16381781425300109107:=0
def tw9943037217083880924:=0
def tw5568145141265055621:=0
def tw11507129325675646891:=0
def tw9785300167151677696:=0
def tw17389981509448557137:=0
def tw8521179362401646354:=0
def tw9458756934571152764:=0
def tw8997766919709165925:=0
def tw2406354450298629622:=0
def tw9985338703677871042:=0
def tw909866550721941632:=0
def tw10604488966805294111:=0
def tw18419079891552889340:=0
def tw3254261783151712376:=0
def tw13300634728242561320:=0
def tw7654070045736791626:=0
def tw6288779160000102787:=0
def tw4803994796345046099:=0
def tw15066558856665806246:=0
def tw5757854476713907192:=0
def tw10712892535682613854:=0
def tw14183010645965124173:=0
def tw16362841512552747585:=0
def tw921030719234299796:=0
def tw427545343203120640:=0
def tw6729663540105701261:=0
def tw14588193826849472038:=0
def tw14646351310789861699:=0
def tw4106790786694080708:=0
def tw2358684863904509551:=0
def tw11073675871937872877:=0
def tw15344437299404890488:=0
def tw13885938438115537670:=0
def tw9676468232323295348:=0
def tw17402762233281294380:=0
def tw815876692399923782:=0
def tw15402337391169060829:=0
def tw18116564177127072258:=0
def tw13002128505078016268:=0
def tw15421856271978543283:=0
def tw16754789864465223012:=0
def tw4941032484250396333:=0
def tw10495200917703302470:=0
def tw2252849341306570820:=0
def tw7737814914310322432:=0
def tw12714013696181478244:=0
def tw12444624620431448340:=0
def tw12229904665452551664:=0
def tw5100830007650216702:=0
def tw15972691584491454184:=0
def tw8607570850474725878:=0
def tw1609618722454821285:=0
def tw15127291663049060352:=0
def tw12361199704825409061:=0
def tw6891009213609066720:=0
def tw1001052625788736861:=0
def tw14850312572057122361:=0
def tw16638342791827999003:=0
def tw9807978512252144741:=0
def tw16291200419172903883:=0
def tw17013751221051183820:=0
def tw5453944561860669360:=0
def tw8939704250617877752:=0
def tw15624829253634402792:=0
def tw9423861934217691379:=0
def tw8775486290188160149:=0
def tw13806676492731124606:=0
def tw15350929614929771139:=0
def tw4776417545836517852:=0
def tw17289983195954025179:=0
def tw17430878979474421338:=0
def tw4108350053718422072:=0
def tw8650320582169766368:=0
def tw2027770057054414282:=0
def tw13579628121842694729:=0
def tw2252158906703919877:=0
def tw9084359691525447284:=0
def tw15677850900307633413:=0
def tw12992441675444324907:=0
def tw2401522210817416755:=0
def tw2224544013747594278:=0
def tw6712319679292402782:=0
def tw10425825524463767882:=0
def tw2617716862134895618:=0
def tw1592915245056722547:=0
def tw5964221147358151660:=0
def tw11015727377956213002:=0
def tw6723985086341259977:=0
def tw136470634994665867:=0
def tw11402579553379071986:=0
def tw5118272764112095351:=0
def tw9502721378790676817:=0
def tw765801404752902649:=0
def tw13916339543530987948:=0
def tw18272953544951259365:=0
def tw12507659239875186570:=0
def tw1126095047926067902:=0
def tw666592664851422796:=0
def tw15511014890601740132:=0
def tw12723496735181005688:=0
def tw9155085042669174341:=0
def tw14691143744496276878:=0
def tw12080514234537425822:=0
def tw6193323595507722625:=0
def tw5658222129976401537:=0
def tw1212380330024279900:=0
def tw6126476042350736521:=0
def tw16269969733539645732:=0
def tw17362037616686532330:=0
def tw5871043314956719402:=0
def tw14381534197094988156:=0
def tw12216918149060882169:=0
def tw7562863409691651616:=0
def tw12555897019009559468:=0
def tw8957121376455823275:=0
def tw17755037104457153625:=0
def tw2881053182850356046:=0
def tw8642284181392765617:=0
def tw2337867162690378221:=0
def tw5927784312310852670:=0
def tw15991370528446342598:=0
def tw4949448223937418403:=0
def tw15575562246006944044:=0
def tw371390398660379303:=0
def tw792053868890998674:=0
def tw9426543464453636083:=0
def tw1291183790075095809:=0
def tw11527091184518975440:=0
def tw4983324413603767364:=0
def tw4654452944454707057:=0
def tw1702395466146891217:=0
def tw15802670616920917831:=0
def tw18270950915398150747:=0
def tw11318204134208711233:=0
def tw5461044637468535711:=0
def tw523636235824803699:=0
def tw5075545569171364865:=0
def tw2649623245558445578:=0
def tw17093430592390544274:=0
def tw14105376321053487556:=0
def tw1204372831352707833:=0
def tw17951618985746713648:=0
def tw9657906674969070452:=0
def tw7146292511794031484:=0
def tw4837125763356311608:=0
def tw6797796559003046891:=0
def tw15004846545098019812:=0
def tw259337887962037279:=0
def tw13510864228838732837:=0
def tw15320605974413383257:=0
def tw2248596676579493097:=0
def tw8403900855455669141:=0
def tw8406595102438534269:=0
def tw14122806746260523773:=0
def tw16708667440009165846:=0
def tw7073590127382516537:=0
def tw5462270292395060075:=0
def tw9909786866598682252:=0
def tw14572675902531220353:=0
def tw10966462062913214301:=0
def tw16623775519792875513:=0
def tw11327996782708594746:=0
def tw8388450049413168721:=0
def tw14233771576727956523:=0
def tw6296957976180686006:=0
def tw4045421452271319005:=0
def tw11240856079223585207:=0
def tw513776235785727729:=0
def tw878037787941514905:=0
def tw8253776961397084539:=0
def tw15342795674894427482:=0
def tw3102231672901381866:=0
def tw1166894485090251644:=0
def tw6599796313305790965:=0
def tw978707650360987236:=0
def tw16565220565579864333:=0
def tw13271537145012273347:=0
def tw16058399854237029642:=0
def tw12294090489210918574:=0
def tw11785980311894728176:=0
def tw2176655441344535541:=0
def tw3552183416254740066:=0
def tw14662076876547467619:=0
def tw14203712131758948573:=0
def tw7099407234746144384:=0
def tw2043114853502084331:=0
def tw1705917093528991215:=0
def tw12195548431062654556:=0
def tw16743975633919607938:=0
def tw9456448785948792123:=0
def tw1256765564691339982:=0
def tw17026229509903568947:=0
def tw4277392376950624710:=0
def tw9193472429517995582:=0
def tw3429314906277215979:=0
def tw2287098215910335063:=0
def tw18213115051918989747:=0
def tw13035740148869210405:=0
def tw14084601023599922761:=0
def tw3371959183767774805:=0
def tw15993233421163306717:=0
def tw5013176009905348225:=0
def tw13999914603917230051:=0
def tw5902209528084317870:=0
def tw6044061583376944065:=0
def tw3952115405418310450:=0
def tw16993828216830115471:=0
def tw9975039654221786060:=0
def tw6583148173813811729:=0
def tw15004783823125282432:=0
def tw3885537449685750252:=0
def tw3705897911592421591:=0
def tw6464702842759458606:=0
def tw14461226344109776063:=0
def tw16817050534271796789:=0
def tw1608741357887676368:=0
def tw13343258644138402416:=0
def tw9956922020170228636:=0
def tw1785718933889339803:=0
def tw1376908876926125705:=0
def tw2205670556705273243:=0
def tw10111505171516797145:=0
def tw18339419363232396140:=0
def tw10490984269711636875:=0
def tw9260797482732287683:=0
def tw12499315343543217703:=0
def tw10393177286801208721:=0
def tw7123816869582912588:=0
def tw8237127068203783998:=0
def tw11792591773141696899:=0
def tw8475487632068458458:=0
def tw9252309095489238478:=0
def tw4690080415646348397:=0
def tw4675367033653768987:=0
def tw454244682348133193:=0
def tw14613522221407076409:=0
def tw12972941665736894703:=0
def tw5263888942363421754:=0
def tw4137461088069362318:=0
def tw15408771228395820795:=0
def tw17852540113922904825:=0
def tw5360565619153750548:=0
def tw11317660833937607663:=0
def tw13115525517374459670:=0
def tw10950739069462119940:=0
def tw16213150542574448842:=0
def tw59867492586028771:=0
def tw7917085672079191501:=0
def tw2426808705807319269:=0
def tw16850901845959104071:=0
def tw15504194596875901605:=0
def tw10593348481504069425:=0
def tw13732775558118172626:=0
def tw1737967182421192335:=0
def tw3422090968902006098:=0
def tw7305206215401842030:=0
def tw13576239868341600077:=0
def tw11516569206601282530:=0
def tw4255836344010526939:=0
def tw5029445473923832152:=0
def tw2708570505112209552:=0
def tw9700626517220616958:=0
def tw9250421051307113424:=0
def tw14164054066131269708:=0
def tw13327261830735502043:=0
def tw14824749428501228159:=0
def tw7608636299555020523:=0
def tw13480690973474280518:=0
def tw4080930636011063705:=0
def tw12716336336242911279:=0
def tw15940480927654087403:=0
def tw6188269427135334408:=0
def tw10971944328253008202:=0
def tw15619076022293713924:=0
def tw17642225186024581774:=0
def tw11056576996298506474:=0
def tw819588586410571950:=0
def tw17790911289950369710:=0
def tw11741059142491486151:=0
def tw13894374962656507848:=0
def tw2959571711757748111:=0
def tw2066636644252846130:=0
def tw15506732069727005194:=0
def tw15756331945238453733:=0
def tw6427939178841937146:=0
def tw3794321512007841774:=0
def tw5002124009871408992:=0
def tw15921843610039974428:=0
def tw5316504076727907592:=0
def tw9646501174638535367:=0
def tw15709216903736972500:=0
def tw10379345256294285473:=0
def tw859902361480159504:=0
def tw14261524419711292302:=0
def tw10298572778247995058:=0
def tw15688934089864887518:=0
def tw13001855185014911107:=0
def tw16608354952613507134:=0
def tw7729083479641910436:=0
def tw16063091253784628363:=0
def tw1088294006864261156:=0
def tw5819352405478804088:=0
def tw2655497236491230813:=0
def tw5393158703763331728:=0
def tw5235945759924555630:=0
def tw7774634803472214131:=0
def tw5880201872988885657:=0
def tw15012348665682398178:=0
def tw4114789530436353994:=0
def tw15637072248249736217:=0
def tw16045247874353372504:=0
def tw6172484217573493656:=0
def tw16375560803095004004:=0
def tw12866373973109910637:=0
def tw3630155108122520329:=0
def tw16064081404300431506:=0
def tw9723507448264802288:=0
def tw6924087627983716367:=0
def tw6533303101212840691:=0
def tw15414328626976876122:=0
def tw5160088056810187371:=0
def tw1455617213483095901:=0
def tw11620808619801522797:=0
def tw15470317980405664978:=0
def tw10883437187893667380:=0
def tw9063625895797596161:=0
def tw6342119837113647042:=0
def tw2864482035494272158:=0
def tw7291847593070293019:=0
def tw10061083393735782827:=0
def tw6867563620453145543:=0
def tw16489611483474388113:=0
def tw7876968914730110328:=0
def tw16604921624459309191:=0
def tw17953814321758082935:=0
def tw8950224450673584191:=0
def tw11781746043314227332:=0
def tw12300077874432855719:=0
def tw4094593509763739886:=0
def tw1444996766841724320:=0
def tw3282344477875621384:=0
def tw16015437238076080135:=0
def tw6006900399108293041:=0
def tw6548220878077320119:=0
def tw3631139314343880680:=0
def tw12078520339621921542:=0
def tw5700130428488110482:=0
def tw4677879112419086181:=0
def tw1293175791212090035:=0
def tw15639604712808323496:=0
def tw12560975055322402828:=0
def tw2201088414648968307:=0
def tw7220958946938107592:=0
def tw11665384576841420926:=0
def tw17259216402867569997:=0
def tw14014378016680741945:=0
def tw12831468975432073430:=0
def tw6791732565739718644:=0
def tw15253222475070998406:=0
def tw2951961746188378539:=0
def tw17087589101733437555:=0
def tw1036744492892915538:=0
def tw738203803602629878:=0
def tw12696454291756378137:=0
def tw848459144666923713:=0
def tw12537662446848709116:=0
def tw17307898823672797222:=0
def tw14550529611608977324:=0
def tw4611182794542840739:=0
def tw9552295262731124521:=0
def tw4052212056427396343:=0
def tw12284595039593630412:=0
def tw2719795852464652912:=0
def tw7094414264222270621:=0
def tw12556386600274592345:=0
def tw13612543671350706610:=0
def tw7445710890956092481:=0
def tw15262424999398246976:=0
def tw6357870105844824091:=0
def tw15178953943997561369:=0
def tw7864602477921411074:=0
def tw15237556759587380835:=0
def tw15344674169668089408:=0
def tw18159397599948224699:=0
def tw6728506832752770106:=0
def tw15510633433047673354:=0
def tw10962694485323868268:=0
def tw14165797930107664389:=0
def tw9140157375400517377:=0
def tw16584614539705285266:=0
def tw11495669625342066119:=0
def tw597510222530873223:=0
def tw15341246549330204906:=0
def tw8076641704530558674:=0
def tw10137145699868012082:=0
def tw16379382264419782747:=0
def tw3960699781001374971:=0
def tw12970134062119189799:=0
def tw13158336577726996631:=0
def tw2264978755209302377:=0
def tw15466698663855766293:=0
def tw12938147571019723070:=0
def tw13126187987491298949:=0
def tw15040130904222591390:=0
def tw1202663247750075926:=0
def tw17338477794368246119:=0
def tw5912873780747798432:=0
def tw14127296932767862538:=0
def tw8575971633312107365:=0
def tw8406788175028117500:=0
def tw674945723833087126:=0
def tw12380228108273254161:=0
def tw1707607407006746296:=0
def tw18132436135350591058:=0
def tw15138132624519440662:=0
def tw16387860345545160310:=0
def tw14583184557652752855:=0
def tw9983901666925536679:=0
def tw8855433921037836080:=0
def tw15490490081473864113:=0
def tw16549945625452672080:=0
def tw7365626368069412634:=0
def tw8431645293140308834:=0
def tw6647000720471107803:=0
def tw15587794380340209166:=0
def tw8524899561791336021:=0
def tw7945528571441345450:=0
def tw166653634687179981:=0
def tw15077265818336177347:=0
def tw12485935358304166527:=0
def tw13618272212027947909:=0
def tw15401186133573131239:=0
def tw2608111079571023467:=0
def tw237131640619941117:=0
def tw7940335218218202104:=0
def tw15612419029589286340:=0
def tw1661995767006319846:=0
def tw1915461121057984215:=0
def tw14610900488764609669:=0
def tw3786094302356863326:=0
def tw13408800950206762524:=0
def tw11026502548425881171:=0
def tw726854789159995124:=0
def tw16781898534253747805:=0
def tw4819440695468711989:=0
def tw3078417829137952468:=0
def tw12372562160753928091:=0
def tw11634200465807810563:=0
def tw13181942879443242754:=0
def tw15685365234313968923:=0
def tw11481531175280312679:=0
def tw11308953250380815941:=0
def tw9312056787647514127:=0
def tw11763106438499434932:=0
def tw7988050277234726002:=0
def tw18169776998001521597:=0
def tw4288084292779818075:=0
def tw2353636638564440092:=0
def tw2915386609991386640:=0
def tw14471771830892630225:=0
def tw7536788842396764605:=0
def tw5203489408024200390:=0
def tw18307340309161537561:=0
def tw9434963895230982138:=0
def tw12508447223607291999:=0
def tw8874680965793508176:=0
def tw7327846801067993141:=0
def tw16011463246202697518:=0
def tw14031786401613696851:=0
def tw6661210128215660064:=0
def tw12072054079761016959:=0
def tw5934637118498199729:=0
def tw16384213987339433584:=0
def tw10571165877440061702:=0
def tw15928154421413194556:=0
def tw12248438242587264356:=0
def tw18296379477952909559:=0
def tw2682439710377316961:=0
def tw2701183650125808737:=0
def tw8169789583390546491:=0
def tw5489526684232254307:=0
def tw14967280612333278332:=0
def tw15631142744237497229:=0
def tw4699095476632878114:=0
def tw4869078149706119650:=0
def tw13741845114978877570:=0
def tw5509210157091293765:=0
def tw11238732021404718261:=0
def tw10509689640600037455:=0
def tw2741247612067176997:=0
def tw11861933829425697644:=0
def tw17864772976164263961:=0
def tw11345077108048192037:=0
def tw17996952253632779699:=0
def tw4453266898893844112:=0
def tw9072021392603148305:=0
def tw12759085316172580839:=0
def tw15498497278448010443:=0
def tw6413932137940248068:=0
def tw13047749976543847216:=0
def tw7377070637762499604:=0
def tw7955490842395819757:=0
def tw15046745596433591989:=0
def tw13386872983870401057:=0
def tw14050063785443858695:=0
def tw5451981815301934432:=0
def tw13865492143006107119:=0
def tw15306361901714295062:=0
def tw10459826353879568322:=0
def tw5606526395346639492:=0
def tw1168924364490218826:=0
def tw12212915313679263379:=0
def tw831286419463483380:=0
def tw17307237450562958987:=0
def tw10975659807100951424:=0
def tw5384540579669548879:=0
def tw11548439974296584246:=0
def tw14378639062791584938:=0
def tw3043971041508221106:=0
def tw12520202212007552485:=0
def tw18120609025022601241:=0
def tw6990089882550456713:=0
def tw4518135834057243607:=0
def tw2472665071410096557:=0
def tw13136217382598919112:=0
def tw12904535348789811537:=0
def tw4756587223215483525:=0
def tw680022963034617024:=0
def tw4348616224988714278:=0
def tw1779802823955981318:=0
def tw4756103066411409940:=0
def tw8734733328887021787:=0
def tw8440734804049341809:=0
def tw9394496203271995555:=0
def tw17781296527288737832:=0
def tw12491391232920053077:=0
def tw4004089300818992996:=0
def tw17665400557398913490:=0
def tw17672948403573700160:=0
def tw8549040442219836356:=0
def tw7337798317561645567:=0
def tw1121841304099761583:=0
def tw1983519246162769068:=0
def tw4619717724168612741:=0
def tw14200054691707305634:=0
def tw8152647636455016291:=0
def tw17979818451590766503:=0
def tw6240752576379752855:=0
def tw5903529168444790408:=0
def tw9870339978239287598:=0
def tw6916617185798248463:=0
def tw18155030531454134032:=0
def tw4727737670492591618:=0
def tw3993615396608103373:=0
def tw9824547732740747940:=0
def tw8940711714910092631:=0
def tw13963417730340335880:=0
def tw5809059623846167817:=0
def tw17594963913385557170:=0
def tw1789560458508884505:=0
def tw14286514161225083357:=0
def tw11148884292479606578:=0
def tw7736869987638461065:=0
def tw7528484336269410863:=0
def tw14540453531251585989:=0
def tw14080964168827906197:=0
end PySem.W.Fast
namespace S23
open PySem L2 XL
theorem walk {l : PySem.W.OpenLaw} {q : Program} {loose : List Str} {XP : (Str → Option Value) → Heap → Prop} {YP : World → Heap → Prop} {d : DefRec} {K : Params → PySem.W.Frag} (hn : l.most = some 63) (hdf : d.params.defaults = [])
    (hY : ∀ (w : World) (h : Heap), YP w h → (K w.params).In h)
    (F : ∀ (w : World) (mg : Str → Option Value) (fa : Addr) (h : Heap), (K w.params).In h → h.Ns mainGlobals mg → mg d.name = some (.ref fa) →
      ∃ fd : FuncData, (∀ (s : Shared) (u : Value), BindsTo s fd ⟨[u], []⟩ [("_law_script", u)]) ∧ ∀ base : Heap, (K w.params).In base → base.Ns mainGlobals mg → FnOk true l.prog w (K w.params) mg base (CXo l.prog w) 9 fa fd ["_law_script"] (spLaw (K w.params))) :
    PySem.W.WalkO q loose XP YP l.row.toRowW d [] (fun f vs => PySem.call f vs) :=
  L2.walk_of (q0 := true) (n := 63) (k := 9) (x := "_law_script") (CX := fun w => CXo l.prog w) (sp := fun w => spLaw (K w.params)) hn (by decide) hdf ⟨fun _ => rfl, by decide, by decide⟩ hY F (fun _ _ a ns hl _ hS => ⟨a, ns, rfl, hS, hl, fun _ => rfl⟩)
    fun w H s e s' z => by obtain ⟨_, _, _, _, _, _, _, _, _, _, _, _, _, _, q⟩ := z; exact q
theorem all_mk {l : PySem.W.OpenLaw} {w : World} {K : PySem.W.Frag} {h : Heap} {mg : Str → Option Value} {fa : Addr} (hfa : mg "law" = some (.ref fa)) (TT : ∃ t, Txt w K mg t) :
    ∃ fd : FuncData, (∀ (s : Shared) (v : Value), BindsTo s fd ⟨[v], []⟩ [("_law_script", v)]) ∧ ∀ base : Heap, K.In base → base.Ns mainGlobals mg → FnOk true l.prog w K mg base (CXo l.prog w) 9 fa fd ["_law_script"] (spLaw K) := by
  obtain ⟨t, T⟩ := TT
  have e := hfa.symm.trans T.g_law
  cases e
  refine ⟨t.d_law, fun s v => ?_, fun base _ _ => ok_law T⟩
  obtain ⟨oc, od, kV, doc, pm, an, cdv, ct, osl, e, lk, hcd⟩ := T.F_law.ex
  rw [e]
  exact .of_eq rfl
end S23
open PySem PySem.W PyProof.Rows
set_option maxRecDepth 100000 in
set_option maxHeartbeats 0 in
theorem PySem.Challenge.cw_rimnotes_k23_lines_refused_holds : PySem.Challenge.rw_rimnotes_k23_lines_refused.Holds := by
  w_on; o_law; k_head; (case hw => w_witness2)
  k_fill
  refine S23.walk (l := PySem.Challenge.rw_rimnotes_k23_lines_refused) rfl rfl (fun w h Y => PySem.W.kIn_of Y) ?F
  case F =>
    intro w mg fa h KX G hmg
    refine S23.all_mk (h := h) hmg ?TT
    refine' S23.txt_mk (w := w) KX G ?g_RimError ?g_NoSide ?g_NoRow ?g_OldSeat ?g_BadLine ?g_Side ?g_LeftSide ?g_RightSide ?g_Picture ?a_NoSide_init ?l_NoSide_init ?c_NoSide_init ?k_NoSide_init ?i_NoSide_init ?a_NoRow_init ?l_NoRow_init ?c_NoRow_init ?k_NoRow_init ?i_NoRow_init ?a_OldSeat_init ?l_OldSeat_init ?c_OldSeat_init ?k_OldSeat_init ?i_OldSeat_init ?a_BadLine_init ?l_BadLine_init ?c_BadLine_init ?k_BadLine_init ?i_BadLine_init ?a_Side_init ?l_Side_init ?c_Side_init ?k_Side_init ?i_Side_init ?a_side_of ?l_side_of ?c_side_of ?k_side_of ?i_side_of ?a_is_whole ?l_is_whole ?c_is_whole ?k_is_whole ?i_is_whole ?a_is_name ?l_is_name ?c_is_name ?k_is_name ?i_is_name ?a_Picture_init ?l_Picture_init ?c_Picture_init ?k_Picture_init ?i_Picture_init ?a_Picture_put ?l_Picture_put ?c_Picture_put ?k_Picture_put ?i_Picture_put ?t_Picture_put ?a_Picture_open_seat ?l_Picture_open_seat ?c_Picture_open_seat ?k_Picture_open_seat ?i_Picture_open_seat ?a_Picture_points ?l_Picture_points ?c_Picture_points ?k_Picture_points ?i_Picture_points ?a_Picture_check_cell ?l_Picture_check_cell ?c_Picture_check_cell ?k_Picture_check_cell ?i_Picture_check_cell ?a_Picture_check_lines ?l_Picture_check_lines ?c_Picture_check_lines ?k_Picture_check_lines ?i_Picture_check_lines ?a_Picture_check_seat ?l_Picture_check_seat ?c_Picture_check_seat ?k_Picture_check_seat ?i_Picture_check_seat ?a_picture_of ?l_picture_of ?c_picture_of ?k_picture_of ?i_picture_of ?a_do_line ?l_do_line ?c_do_line ?k_do_line ?i_do_line ?a_words_of ?l_words_of ?c_words_of ?k_words_of ?i_words_of ?a_frame_of ?l_frame_of ?c_frame_of ?k_frame_of ?i_frame_of ?a_rows_of ?l_rows_of ?c_rows_of ?k_rows_of ?i_rows_of ?a_span_of ?l_span_of ?c_span_of ?k_span_of ?i_span_of ?a_point_of ?l_point_of ?c_point_of ?k_point_of ?i_point_of ?a_numbers_of ?l_numbers_of ?c_numbers_of ?k_numbers_of ?i_numbers_of ?a_number_of ?l_number_of ?c_number_of ?k_number_of ?i_number_of ?a_law_cell ?l_law_cell ?c_law_cell ?k_law_cell ?i_law_cell ?a_law_mix ?l_law_mix ?c_law_mix ?k_law_mix ?i_law_mix ?a_law_digits ?l_law_digits ?c_law_digits ?k_law_digits ?i_law_digits ?a_law_whole ?l_law_whole ?c_law_whole ?k_law_whole ?i_law_whole ?a_law_bad_rims ?l_law_bad_rims ?c_law_bad_rims ?k_law_bad_rims ?i_law_bad_rims ?a_law_bad_dots ?l_law_bad_dots ?c_law_bad_dots ?k_law_bad_dots ?i_law_bad_dots ?a_law_bad ?l_law_bad ?c_law_bad ?k_law_bad ?i_law_bad ?a_law_bad_first ?l_law_bad_first ?c_law_bad_first ?k_law_bad_first ?i_law_bad_first ?a_law_thing ?l_law_thing ?c_law_thing ?k_law_thing ?i_law_thing ?a_law_no_list ?l_law_no_list ?c_law_no_list ?k_law_no_list ?i_law_no_list ?a_law_good ?l_law_good ?c_law_good ?k_law_good ?i_law_good ?a_law_read ?l_law_read ?c_law_read ?k_law_read ?i_law_read ?a_law_number ?l_law_number ?c_law_number ?k_law_number ?i_law_number ?a_law ?l_law ?c_law ?k_law ?i_law ?kc_RimError ?ov_RimError ?hd_RimError ?sa_RimError ?ga_RimError ?gh_RimError ?ca_RimError ?mk_RimError ?kc_NoSide ?ov_NoSide ?hd_NoSide ?sa_NoSide ?ga_NoSide ?gh_NoSide ?ca_NoSide ?mk_NoSide ?kc_NoRow ?ov_NoRow ?hd_NoRow ?sa_NoRow ?ga_NoRow ?gh_NoRow ?ca_NoRow ?mk_NoRow ?kc_OldSeat ?ov_OldSeat ?hd_OldSeat ?sa_OldSeat ?ga_OldSeat ?gh_OldSeat ?ca_OldSeat ?mk_OldSeat ?kc_BadLine ?ov_BadLine ?hd_BadLine ?sa_BadLine ?ga_BadLine ?gh_BadLine ?ca_BadLine ?mk_BadLine ?kc_Side ?pg_Side ?hd_Side ?po_Side ?sa_Side ?mk_Side ?ca_Side ?mo_Side ?kc_LeftSide ?pg_LeftSide ?hd_LeftSide ?po_LeftSide ?sa_LeftSide ?mk_LeftSide ?ca_LeftSide ?mo_LeftSide ?a_LeftSide_init ?kc_RightSide ?pg_RightSide ?hd_RightSide ?po_RightSide ?sa_RightSide ?mk_RightSide ?ca_RightSide ?mo_RightSide ?a_RightSide_init ?kc_Picture ?pg_Picture ?hd_Picture ?po_Picture ?sa_Picture ?mk_Picture ?ca_Picture ?mo_Picture ?cg ?ct ?n_Picture_height ?n_Picture_width ?n_Picture_placed ?n_Picture_opened ?n_BadLine_line ?n_BadLine_row ?n_NoRow_line ?n_NoRow_row ?n_NoSide_side ?n_OldSeat_side ?n_OldSeat_row ?n_Side_width ?n_LeftSide_width ?n_RightSide_width ?n_ValueError ?n_bool ?n_enumerate ?n_int ?n_isinstance ?n_len ?n_list ?n_max ?n_min ?n_range ?n_str ?mro_BadLine_BadLine ?mro_NoRow_BadLine ?mro_NoRow_NoRow ?kit_BadLine_RimError ?kitv_BadLine ?v_MOST_ROWS ?v_MOST_COLUMNS ?v_MOST_POINTS ?g_MIRRORED_SIDES ?l_MIRRORED_SIDES ?ns_MIRRORED_SIDES
    (case g_RimError => k_is)
    (case g_NoSide => k_is)
    (case g_NoRow => k_is)
    (case g_OldSeat => k_is)
    (case g_BadLine => k_is)
    (case g_Side => k_is)
    (case g_LeftSide => k_is)
    (case g_RightSide => k_is)
    (case g_Picture => k_is)
    (case a_NoSide_init => k_is)
    (case l_NoSide_init => k_is)
    (case c_NoSide_init => k_is)
    (case k_NoSide_init => k_is)
    (case i_NoSide_init => k_is)
    (case a_NoRow_init => k_is)
    (case l_NoRow_init => k_is)
    (case c_NoRow_init => k_is)
    (case k_NoRow_init => k_is)
    (case i_NoRow_init => k_is)
    (case a_OldSeat_init => k_is)
    (case l_OldSeat_init => k_is)
    (case c_OldSeat_init => k_is)
    (case k_OldSeat_init => k_is)
    (case i_OldSeat_init => k_is)
    (case a_BadLine_init => k_is)
    (case l_BadLine_init => k_is)
    (case c_BadLine_init => k_is)
    (case k_BadLine_init => k_is)
    (case i_BadLine_init => k_is)
    (case a_Side_init => k_is)
    (case l_Side_init => k_is)
    (case c_Side_init => k_is)
    (case k_Side_init => k_is)
    (case i_Side_init => k_is)
    (case a_side_of => k_is)
    (case l_side_of => k_is)
    (case c_side_of => k_is)
    (case k_side_of => k_is)
    (case i_side_of => k_is)
    (case a_is_whole => k_is)
    (case l_is_whole => k_is)
    (case c_is_whole => k_is)
    (case k_is_whole => k_is)
    (case i_is_whole => k_is)
    (case a_is_name => k_is)
    (case l_is_name => k_is)
    (case c_is_name => k_is)
    (case k_is_name => k_is)
    (case i_is_name => k_is)
    (case a_Picture_init => k_is)
    (case l_Picture_init => k_is)
    (case c_Picture_init => k_is)
    (case k_Picture_init => k_is)
    (case i_Picture_init => k_is)
    (case a_Picture_put => k_is)
    (case l_Picture_put => k_is)
    (case c_Picture_put => k_is)
    (case k_Picture_put => k_is)
    (case i_Picture_put => k_is)
    (case t_Picture_put => k_is)
    (case a_Picture_open_seat => k_is)
    (case l_Picture_open_seat => k_is)
    (case c_Picture_open_seat => k_is)
    (case k_Picture_open_seat => k_is)
    (case i_Picture_open_seat => k_is)
    (case a_Picture_points => k_is)
    (case l_Picture_points => k_is)
    (case c_Picture_points => k_is)
    (case k_Picture_points => k_is)
    (case i_Picture_points => k_is)
    (case a_Picture_check_cell => k_is)
    (case l_Picture_check_cell => k_is)
    (case c_Picture_check_cell => k_is)
    (case k_Picture_check_cell => k_is)
    (case i_Picture_check_cell => k_is)
    (case a_Picture_check_lines => k_is)
    (case l_Picture_check_lines => k_is)
    (case c_Picture_check_lines => k_is)
    (case k_Picture_check_lines => k_is)
    (case i_Picture_check_lines => k_is)
    (case a_Picture_check_seat => k_is)
    (case l_Picture_check_seat => k_is)
    (case c_Picture_check_seat => k_is)
    (case k_Picture_check_seat => k_is)
    (case i_Picture_check_seat => k_is)
    (case a_picture_of => k_is)
    (case l_picture_of => k_is)
    (case c_picture_of => k_is)
    (case k_picture_of => k_is)
    (case i_picture_of => k_is)
    (case a_do_line => k_is)
    (case l_do_line => k_is)
    (case c_do_line => k_is)
    (case k_do_line => k_is)
    (case i_do_line => k_is)
    (case a_words_of => k_is)
    (case l_words_of => k_is)
    (case c_words_of => k_is)
    (case k_words_of => k_is)
    (case i_words_of => k_is)
    (case a_frame_of => k_is)
    (case l_frame_of => k_is)
    (case c_frame_of => k_is)
    (case k_frame_of => k_is)
    (case i_frame_of => k_is)
    (case a_rows_of => k_is)
    (case l_rows_of => k_is)
    (case c_rows_of => k_is)
    (case k_rows_of => k_is)
    (case i_rows_of => k_is)
    (case a_span_of => k_is)
    (case l_span_of => k_is)
    (case c_span_of => k_is)
    (case k_span_of => k_is)
    (case i_span_of => k_is)
    (case a_point_of => k_is)
    (case l_point_of => k_is)
    (case c_point_of => k_is)
    (case k_point_of => k_is)
    (case i_point_of => k_is)
    (case a_numbers_of => k_is)
    (case l_numbers_of => k_is)
    (case c_numbers_of => k_is)
    (case k_numbers_of => k_is)
    (case i_numbers_of => k_is)
    (case a_number_of => k_is)
    (case l_number_of => k_is)
    (case c_number_of => k_is)
    (case k_number_of => k_is)
    (case i_number_of => k_is)
    (case a_law_cell => k_is)
    (case l_law_cell => k_is)
    (case c_law_cell => k_is)
    (case k_law_cell => k_is)
    (case i_law_cell => k_is)
    (case a_law_mix => k_is)
    (case l_law_mix => k_is)
    (case c_law_mix => k_is)
    (case k_law_mix => k_is)
    (case i_law_mix => k_is)
    (case a_law_digits => k_is)
    (case l_law_digits => k_is)
    (case c_law_digits => k_is)
    (case k_law_digits => k_is)
    (case i_law_digits => k_is)
    (case a_law_whole => k_is)
    (case l_law_whole => k_is)
    (case c_law_whole => k_is)
    (case k_law_whole => k_is)
    (case i_law_whole => k_is)
    (case a_law_bad_rims => k_is)
    (case l_law_bad_rims => k_is)
    (case c_law_bad_rims => k_is)
    (case k_law_bad_rims => k_is)
    (case i_law_bad_rims => k_is)
    (case a_law_bad_dots => k_is)
    (case l_law_bad_dots => k_is)
    (case c_law_bad_dots => k_is)
    (case k_law_bad_dots => k_is)
    (case i_law_bad_dots => k_is)
    (case a_law_bad => k_is)
    (case l_law_bad => k_is)
    (case c_law_bad => k_is)
    (case k_law_bad => k_is)
    (case i_law_bad => k_is)
    (case a_law_bad_first => k_is)
    (case l_law_bad_first => k_is)
    (case c_law_bad_first => k_is)
    (case k_law_bad_first => k_is)
    (case i_law_bad_first => k_is)
    (case a_law_thing => k_is)
    (case l_law_thing => k_is)
    (case c_law_thing => k_is)
    (case k_law_thing => k_is)
    (case i_law_thing => k_is)
    (case a_law_no_list => k_is)
    (case l_law_no_list => k_is)
    (case c_law_no_list => k_is)
    (case k_law_no_list => k_is)
    (case i_law_no_list => k_is)
    (case a_law_good => k_is)
    (case l_law_good => k_is)
    (case c_law_good => k_is)
    (case k_law_good => k_is)
    (case i_law_good => k_is)
    (case a_law_read => k_is)
    (case l_law_read => k_is)
    (case c_law_read => k_is)
    (case k_law_read => k_is)
    (case i_law_read => k_is)
    (case a_law_number => k_is)
    (case l_law_number => k_is)
    (case c_law_number => k_is)
    (case k_law_number => k_is)
    (case i_law_number => k_is)
    (case a_law => k_is)
    (case l_law => k_is)
    (case c_law => k_is)
    (case k_law => k_is)
    (case i_law => k_is)
    (case kc_RimError => k_is)
    (case ov_RimError => kernel_rfl)
    (case hd_RimError => k_is)
    (case sa_RimError => k_is)
    (case ga_RimError => k_is)
    (case gh_RimError => k_is)
    (case ca_RimError => k_is)
    (case mk_RimError => first | k_is | kernel_rfl)
    (case kc_NoSide => k_is)
    (case ov_NoSide => kernel_rfl)
    (case hd_NoSide => k_is)
    (case sa_NoSide => k_is)
    (case ga_NoSide => k_is)
    (case gh_NoSide => k_is)
    (case ca_NoSide => k_is)
    (case mk_NoSide => first | k_is | kernel_rfl)
    (case kc_NoRow => k_is)
    (case ov_NoRow => kernel_rfl)
    (case hd_NoRow => k_is)
    (case sa_NoRow => k_is)
    (case ga_NoRow => k_is)
    (case gh_NoRow => k_is)
    (case ca_NoRow => k_is)
    (case mk_NoRow => first | k_is | kernel_rfl)
    (case kc_OldSeat => k_is)
    (case ov_OldSeat => kernel_rfl)
    (case hd_OldSeat => k_is)
    (case sa_OldSeat => k_is)
    (case ga_OldSeat => k_is)
    (case gh_OldSeat => k_is)
    (case ca_OldSeat => k_is)
    (case mk_OldSeat => first | k_is | kernel_rfl)
    (case kc_BadLine => k_is)
    (case ov_BadLine => kernel_rfl)
    (case hd_BadLine => k_is)
    (case sa_BadLine => k_is)
    (case ga_BadLine => k_is)
    (case gh_BadLine => k_is)
    (case ca_BadLine => k_is)
    (case mk_BadLine => first | k_is | kernel_rfl)
    (case kc_Side => k_is)
    (case pg_Side => k_is)
    (case hd_Side => k_is)
    (case po_Side => k_is)
    (case sa_Side => k_is)
    (case mk_Side => first | k_is | kernel_rfl)
    (case ca_Side => k_is)
    (case mo_Side => k_is)
    (case kc_LeftSide => k_is)
    (case pg_LeftSide => k_is)
    (case hd_LeftSide => k_is)
    (case po_LeftSide => k_is)
    (case sa_LeftSide => k_is)
    (case mk_LeftSide => first | k_is | kernel_rfl)
    (case ca_LeftSide => k_is)
    (case mo_LeftSide => k_is)
    (case a_LeftSide_init => k_is)
    (case kc_RightSide => k_is)
    (case pg_RightSide => k_is)
    (case hd_RightSide => k_is)
    (case po_RightSide => k_is)
    (case sa_RightSide => k_is)
    (case mk_RightSide => first | k_is | kernel_rfl)
    (case ca_RightSide => k_is)
    (case mo_RightSide => k_is)
    (case a_RightSide_init => k_is)
    (case kc_Picture => k_is)
    (case pg_Picture => k_is)
    (case hd_Picture => k_is)
    (case po_Picture => k_is)
    (case sa_Picture => k_is)
    (case mk_Picture => first | k_is | kernel_rfl)
    (case ca_Picture => k_is)
    (case mo_Picture => k_is)
    (case cg => k_is)
    (case ct => k_is)
    (case n_Picture_height => k_is)
    (case n_Picture_width => k_is)
    (case n_Picture_placed => k_is)
    (case n_Picture_opened => k_is)
    (case n_BadLine_line => k_is)
    (case n_BadLine_row => k_is)
    (case n_NoRow_line => k_is)
    (case n_NoRow_row => k_is)
    (case n_NoSide_side => k_is)
    (case n_OldSeat_side => k_is)
    (case n_OldSeat_row => k_is)
    (case n_Side_width => k_is)
    (case n_LeftSide_width => k_is)
    (case n_RightSide_width => k_is)
    (case n_ValueError => k_is)
    (case n_bool => k_is)
    (case n_enumerate => k_is)
    (case n_int => k_is)
    (case n_isinstance => k_is)
    (case n_len => k_is)
    (case n_list => k_is)
    (case n_max => k_is)
    (case n_min => k_is)
    (case n_range => k_is)
    (case n_str => k_is)
    (case mro_BadLine_BadLine => k_is)
    (case mro_NoRow_BadLine => k_is)
    (case mro_NoRow_NoRow => k_is)
    (case kit_BadLine_RimError => kernel_rfl)
    (case kitv_BadLine => kernel_rfl)
    (case v_MOST_ROWS => k_is)
    (case v_MOST_COLUMNS => k_is)
    (case v_MOST_POINTS => k_is)
    (case g_MIRRORED_SIDES => k_is)
    (case l_MIRRORED_SIDES => first | k_is | kernel_rfl)
    (case ns_MIRRORED_SIDES => kernel_rfl)
